import Derived.Test.YtifcjfeepgfmfaaDoorLaw3
namespace Go.Proofs.YtifcjfeepgfmfaaDoor
/-! What holds modulo the prime. -/
theorem P25_three : ∃ m, P25 = m + 3 := ⟨P25 - 3, by decide +kernel⟩
theorem dvd_iff {a : Nat} : P25 ∣ a ↔ a % P25 = 0 := ⟨Nat.mod_eq_zero_of_dvd, Nat.dvd_of_mod_eq_zero⟩
theorem inv_zero {a : Nat} (h : a % P25 = 0) : a ^ (P25 - 2) % P25 = 0 := by
  obtain ⟨m, hm⟩ := P25_three
  rw [Nat.pow_mod, h, show P25 - 2 = m + 1 by omega, Nat.pow_succ, Nat.mul_zero, Nat.zero_mod]
theorem ferm {a : Nat} (h : a % P25 ≠ 0) : a ^ (P25 - 1) % P25 = 1 := prP.fermat fun hd => h (dvd_iff.1 hd)
theorem inv_mul {a : Nat} (h : a % P25 ≠ 0) : a * (a ^ (P25 - 2) % P25) % P25 = 1 := by
  obtain ⟨m, hm⟩ := P25_three
  rw [Nat.mul_mod_mod, ← Nat.pow_succ', show (P25 - 2).succ = P25 - 1 by omega]
  exact ferm h
theorem inv_inv (a : Nat) : (a ^ (P25 - 2) % P25) ^ (P25 - 2) % P25 = a % P25 := by
  by_cases h : a % P25 = 0
  · rw [inv_zero h, h]
    exact inv_zero (Nat.zero_mod _)
  · obtain ⟨m, hm⟩ := P25_three
    have h1 := ferm h
    rw [← Nat.pow_mod, ← Nat.pow_mul]
    have e : (P25 - 2) * (P25 - 2) = (P25 - 1) * m + 1 := by
      rw [show P25 - 2 = m + 1 by omega, show P25 - 1 = m + 2 by omega, Nat.add_mul, Nat.mul_add, Nat.add_mul]; omega
    rw [e, Nat.pow_succ, Nat.pow_mul, Nat.mul_mod, Nat.pow_mod, h1, Nat.one_pow, ← Nat.mul_mod, Nat.one_mul]
theorem sub_back {a b : Nat} (hb : b < W4) : fsub ((a + b) % P25) b = a % P25 := by
  unfold fsub
  rw [W4_eq] at *
  rw [P25_lit]
  omega
theorem add_neg {a : Nat} (ha : a < W4) : (a + fsub 0 a) % P25 = 0 := by
  unfold fsub
  rw [W4_eq] at *
  rw [P25_lit]
  omega
end Go.Proofs.YtifcjfeepgfmfaaDoor
