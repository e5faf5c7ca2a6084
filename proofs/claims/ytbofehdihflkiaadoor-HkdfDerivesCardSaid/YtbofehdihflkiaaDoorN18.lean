/-
  Turning by halves is turning at once (layer 6). Of no program. By an AI agent.
-/
import Derived.Test.YtbofehdihflkiaaDoorN6
namespace Go.Proofs.YtbofehdihflkiaaDoor
theorem half_add (a c : Nat) : (a + 2 * c) / 2 = a / 2 + c ∧ (a + 2 * c) % 2 = a % 2 := by omega
theorem rotN_is {b x : Nat} : ∀ n, n ≤ b → rotN b x n = x / 2 ^ n + x % 2 ^ n * 2 ^ (b - n)
  | 0, _ => by rw [rotN_zero]; simp [Nat.mod_one]
  | n + 1, h => by
    rw [rotN_hi, rotN_is n (by omega)]
    obtain ⟨c, hc⟩ : ∃ c, b - n = c + 1 := ⟨b - n - 1, by omega⟩
    have e1 : b - (n + 1) = c := by omega
    have e2 : b - 1 = n + c := by omega
    have hh : hi2 b = 2 ^ n * 2 ^ c := by unfold hi2; rw [e2, Nat.pow_add]
    rw [hh, hc, e1, Nat.pow_succ 2 c]
    have e3 : x % 2 ^ n * (2 ^ c * 2) = 2 * (x % 2 ^ n * 2 ^ c) := by rw [← Nat.mul_assoc, Nat.mul_comm]
    rw [e3, (half_add _ _).1, (half_add _ _).2, Nat.div_div_eq_div_mul, ← Nat.pow_succ, Nat.mod_pow_succ, Nat.add_mul, Nat.mul_comm (2 ^ n) (x / 2 ^ n % 2), Nat.mul_assoc, Nat.add_assoc]
/-- .. as the code's words have it: what goes out below comes in above. -/
theorem rotN_or {b x n : Nat} (hx : x < 2 ^ b) (hn : n ≤ b) : rotN b x n = (x / 2 ^ n) ||| (x * 2 ^ (b - n) % 2 ^ b) := by
  have h1 : x * 2 ^ (b - n) % 2 ^ b = x % 2 ^ n * 2 ^ (b - n) := by
    rw [show (2 : Nat) ^ b = 2 ^ n * 2 ^ (b - n) by rw [← Nat.pow_add]; congr 1; omega, Nat.mul_mod_mul_right]
  have h2 : x / 2 ^ n < 2 ^ (b - n) := by
    refine Nat.div_lt_of_lt_mul ?_
    rw [← Nat.pow_add, show n + (b - n) = b by omega]
    exact hx
  rw [rotN_is n hn, h1, Nat.mul_comm (x % 2 ^ n), Nat.add_comm, Nat.two_pow_add_eq_or_of_lt h2, Nat.or_comm]
end Go.Proofs.YtbofehdihflkiaaDoor
