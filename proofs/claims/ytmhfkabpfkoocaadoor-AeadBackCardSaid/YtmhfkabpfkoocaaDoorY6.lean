/-
  Layer 10's code: RotateLeft32, quarter, Quarter. By an AI agent.
-/
import Derived.Test.YtmhfkabpfkoocaaDoorY1
import Derived.Laws.ShiftsVar
import Derived.Laws.StructEq
namespace Go.Proofs.YtmhfkabpfkoocaaDoor
open Go Go.RowKit
set_option maxRecDepth 20000
theorem o32n (a b : Nat) (ha : a < 4294967296) (hb : b < 4294967296) : bits .or .u32 (a : Int) (b : Int) = ((a ||| b : Nat) : Int) := by rw [u32_or _ _ (by omega) (by omega) (by omega) (by omega)]; simp
section
attribute [local irreducible] lfN
theorem lfN_zero' (x : Nat) : lfN x 0 = x := by unfold lfN; rfl
theorem lfN_succ' (x n : Nat) : lfN x (n + 1) = lf1 (lfN x n) := by conv => lhs; unfold lfN
theorem lfN_is {x : Nat} (hx : x < 2 ^ 32) : ∀ n, n ≤ 32 → lfN x n = x * 2 ^ n % 2 ^ 32 + x / 2 ^ (32 - n)
  | 0, _ => by rw [lfN_zero', Nat.div_eq_of_lt hx, Nat.pow_zero, Nat.mul_one, Nat.mod_eq_of_lt hx, Nat.add_zero]
  | n + 1, h => by
    rw [lfN_succ', lfN_is hx n (by omega)]
    obtain ⟨c, hc⟩ : ∃ c, 32 - n = c + 1 := ⟨32 - n - 1, by omega⟩
    have e1 : 32 - (n + 1) = c := by omega
    have e3 : (2 : Nat) ^ 32 = 2 ^ n * (2 ^ c * 2) := by rw [← Nat.pow_succ, ← Nat.pow_add]; congr 1; omega
    rw [e1, hc]
    have e4 : x / 2 ^ (c + 1) < 2 ^ n := by
      refine Nat.div_lt_of_lt_mul ?_
      rw [← Nat.pow_add, show c + 1 + n = 32 by omega]; exact hx
    have e5 : x * 2 ^ n % 2 ^ 32 = 2 ^ n * (x % 2 ^ (c + 1)) := by
      rw [e3, ← Nat.pow_succ, Nat.mul_comm x, Nat.mul_mod_mul_left]
    have e6 : x * 2 ^ (n + 1) % 2 ^ 32 = 2 ^ n * 2 * (x % 2 ^ c) := by
      rw [show (2 : Nat) ^ 32 = 2 ^ n * 2 * 2 ^ c by rw [e3, Nat.mul_comm (2 ^ c), Nat.mul_assoc], Nat.pow_succ, Nat.mul_comm x, Nat.mul_mod_mul_left]
    have e7 : x / 2 ^ (c + 1) = x / 2 ^ c / 2 := by rw [Nat.pow_succ, Nat.div_div_eq_div_mul]
    have e8 : x % 2 ^ (c + 1) = x % 2 ^ c + 2 ^ c * (x / 2 ^ c % 2) := by rw [Nat.pow_succ, Nat.mod_mul]
    have e9 : x % 2 ^ c < 2 ^ c := Nat.mod_lt _ (Nat.pow_pos (by decide))
    rw [e7] at e4
    rw [e6, e5, e7, e8]
    have h2 : (2 : Nat) ^ n * 2 ^ c = 2147483648 := by rw [← Nat.pow_add, show n + c = 31 by omega]
    unfold lf1
    generalize x / 2 ^ c = q at *
    generalize x % 2 ^ c = r at *
    rw [Nat.mul_add, ← Nat.mul_assoc, h2]
    have h3 : 2 ^ n * r + q / 2 < 2147483648 := by
      have : 2 ^ n * (r + 1) ≤ 2 ^ n * 2 ^ c := Nat.mul_le_mul_left _ e9
      rw [Nat.mul_add, h2, Nat.mul_one] at this
      have hq : q / 2 < 2 ^ n := e4
      omega
    rw [Nat.mul_assoc (2 ^ n) 2 r, Nat.mul_left_comm]
    generalize 2 ^ n * r = s at *
    omega
theorem lfN_or {x n : Nat} (hx : x < 2 ^ 32) (hn : n ≤ 32) : lfN x n = (x * 2 ^ n % 2 ^ 32) ||| (x / 2 ^ (32 - n)) := by
  have h1 : x * 2 ^ n % 2 ^ 32 = 2 ^ n * (x % 2 ^ (32 - n)) := by
    rw [show (2 : Nat) ^ 32 = 2 ^ n * 2 ^ (32 - n) by rw [← Nat.pow_add]; congr 1; omega, Nat.mul_comm x, Nat.mul_mod_mul_left]
  have h2 : x / 2 ^ (32 - n) < 2 ^ n := by
    refine Nat.div_lt_of_lt_mul ?_
    rw [← Nat.pow_add, show 32 - n + n = 32 by omega]
    exact hx
  rw [lfN_is hx n hn, h1, Nat.two_pow_add_eq_or_of_lt h2]
theorem rot_nums {x n : Nat} (hx : x < 4294967296) (hn : n ≤ 32) : ∃ q r c z : Nat, z = lfN x n ∧ IntKind.u32.wrap ((x : Int) * 2 ^ min n 32) = (r : Int) ∧ IntKind.u64.wrap (32 - (n : Int)) = (c : Int) ∧ (x : Int) / 2 ^ min c 32 = (q : Int) ∧ bits .or .u32 (r : Int) (q : Int) = (z : Int) := by
  refine ⟨x / 2 ^ (32 - n), x * 2 ^ n % 2 ^ 32, 32 - n, lfN x n, rfl, ?_, ?_, ?_, ?_⟩
  · rw [Nat.min_eq_left hn, IntKind.wrap_u32]
    have : (x : Int) * 2 ^ n = ((x * 2 ^ n : Nat) : Int) := by simp
    rw [this, show (2 : Nat) ^ 32 = 4294967296 by decide]
    generalize x * 2 ^ n = y
    omega
  · rw [IntKind.wrap_u64]; omega
  · rw [Nat.min_eq_left (by omega)]; simp
  · rw [lfN_or hx hn]
    exact o32n _ _ (Nat.mod_lt _ (by decide)) (Nat.lt_of_le_of_lt (Nat.div_le_self _ _) hx)
theorem rot_any {x n : Nat} (hx : x < 4294967296) (hn : n ≤ 32) (hb : bits .and .u64 (n : Int) 31 = (n : Int)) (w : World) : Calls Tryd.prog 63 #[.int .u32 (x : Int), .int .i64 (n : Int)] w fun e w' => e = .returned (.int .u32 ((lfN x n : Nat) : Int)) ∧ w' = w := by
  obtain ⟨q, r, c, z, hz, h1, h2, h3, h4⟩ := rot_nums hx hn
  rw [← hz]
  have h0 : IntKind.u64.wrap (n : Int) = (n : Int) := by rw [IntKind.wrap_u64]; omega
  have hn0 : 0 ≤ (n : Int) := by omega
  have hc0 : 0 ≤ (c : Int) := by omega
  clear hz hx hn
  go_enter Tryd.func63, Tryd.ntmps63
  go_wp2_with fail
  go_ret
  exact ⟨rfl, rfl⟩
end
end Go.Proofs.YtmhfkabpfkoocaaDoor
