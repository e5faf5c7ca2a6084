/-
  Layer 17: a natural number's float has no sign and is finite. Of no program. By an AI agent.
-/
import Derived.Test.YtejfdheiopejeaaFx1
namespace Go.Proofs.Ytejfdheiopejeaa
open Ieee
set_option maxRecDepth 20000
set_option exponentiation.threshold 2000
theorem fz_small {n : Nat} (h : n < 9007199254740992) : fz (n : Int) < 9223372036854775808 := by
  have e : fz (n : Int) = double.nearest (decide ((n : Int) < 0)) (n : Int).natAbs 0 := rfl
  rw [e, decide_eq_false (by omega), Int.natAbs_natCast]
  rcases Nat.eq_zero_or_pos n with h0 | h0
  · subst h0
    decide
  have h53 : n.log2 < 53 := (Nat.log2_lt (by omega)).2 h
  have l1 := (Nat.log2_lt (k := n.log2 + 1) (by omega)).1 (Nat.lt_succ_self _)
  obtain ⟨K, eK⟩ : ∃ K, K = n * 2 ^ (52 - n.log2) := ⟨_, rfl⟩
  have k2 : K < 9007199254740992 := by
    rw [eK, show 9007199254740992 = 2 ^ (n.log2 + 1) * 2 ^ (52 - n.log2) by rw [← Nat.pow_add, show n.log2 + 1 + (52 - n.log2) = 53 by omega]]
    exact (Nat.mul_lt_mul_right (Nat.two_pow_pos _)).2 l1
  have hn : double.nearest false n 0 = double.word false ((n.log2 + 1022) * 4503599627370496 + K) := by
    unfold Format.nearest
    rw [if_neg (by omega)]
    have e2 : max ((0 : Int) + (n.log2 : Int) - (double.fractionBits : Int)) double.leastPlace = (n.log2 : Int) - 52 := by
      show max ((0 : Int) + (n.log2 : Int) - 52) (-1074) = _
      omega
    simp only [e2]
    have hc0 : Toward.even.cut false (n <<< ((0 : Int) - ((n.log2 : Int) - 52)).toNat) ((n.log2 : Int) - 52 - 0).toNat = K := by
      rw [Nat.shiftLeft_eq, show ((0 : Int) - ((n.log2 : Int) - 52)).toNat = 52 - n.log2 by omega, show ((n.log2 : Int) - 52 - 0).toNat = 0 by omega, ← eK]
      have := cut_exact false K 0
      rwa [Nat.pow_zero, Nat.mul_one] at this
    rw [hc0]
    have e3 : ((n.log2 : Int) - 52 - double.leastPlace).toNat = n.log2 + 1022 := by
      show ((n.log2 : Int) - 52 - (-1074)).toNat = _
      omega
    rw [e3]
    show double.word false (min ((n.log2 + 1022) * 4503599627370496 + K) 9218868437227405312) = _
    rw [Nat.min_eq_left (by omega)]
  rw [hn]
  show (n.log2 + 1022) * 4503599627370496 + K < _
  omega
theorem read_max : double.read 9218868437227405311 = .number false 9007199254740991 971 := by decide
theorem fz_finite {x : Int} (h1 : -9007199254740992 < x) (h2 : x < 9007199254740992) : (double.order (fz x) 9218868437227405311 == some .gt) = false := by
  obtain ⟨s, m, i, e, hi, hv, hz⟩ := stands_fz h1 h2
  unfold Format.order
  rw [e, read_max]
  have hm : min i 971 = i := by omega
  show (some (compare (signed s m (i - min i 971).toNat) (signed false 9007199254740991 (971 - min i 971).toNat)) == some .gt) = false
  rw [hm, show (i - i).toNat = 0 by omega, hv, signed_up, show signed false 9007199254740991 0 = 9007199254740991 by rfl, show (971 - i).toNat = 971 + (-i).toNat by omega, Int.pow_add]
  obtain ⟨q, eq⟩ : ∃ q : Int, q = 2 ^ (-i).toNat := ⟨_, rfl⟩
  have hq : (0 : Int) < q := by rw [eq]; exact_mod_cast Nat.two_pow_pos _
  obtain ⟨p, ep⟩ : ∃ p : Int, p = 2 ^ 971 := ⟨_, rfl⟩
  have hp : (1 : Int) ≤ p := by rw [ep]; exact_mod_cast Nat.two_pow_pos 971
  rw [← eq, ← ep]
  have h3 : x * q ≤ 9007199254740991 * q := Int.mul_le_mul_of_nonneg_right (by omega) (Int.le_of_lt hq)
  have h4 : 1 * q ≤ p * q := Int.mul_le_mul_of_nonneg_right hp (Int.le_of_lt hq)
  have h5 : x * q ≤ 9007199254740991 * (p * q) := by omega
  obtain ⟨a, ea⟩ : ∃ a, a = x * q := ⟨_, rfl⟩
  obtain ⟨b, eb⟩ : ∃ b, b = 9007199254740991 * (p * q) := ⟨_, rfl⟩
  rw [← ea, ← eb] at h5 ⊢
  simp only [compare, compareOfLessAndEq]
  by_cases q1 : a < b
  · simp [q1]
  · have : a = b := by omega
    simp [this]
end Go.Proofs.Ytejfdheiopejeaa
