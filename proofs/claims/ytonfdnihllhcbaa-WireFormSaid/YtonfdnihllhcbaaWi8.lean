/-
  Numbers as bytes: what is put is read; what is read was put (layer 13). By an AI agent.
-/
import Derived.Test.YtonfdnihllhcbaaWi5
namespace Go.Proofs.Ytonfdnihllhcbaa
open Go Go.RowKit
theorem digF_small (f : Nat) {y : Nat} (h : y < 128) : digF f y = [UInt8.ofNat y] := by
  cases f with
  | zero => rfl
  | succ f => unfold digF; rw [if_pos h]
theorem u8_of (x : UInt8) : UInt8.ofNat x.toNat = x := by simp
/-- What is read was put. -/
theorem fst_dig : ∀ (f k m : Nat) (b : List UInt8) (x k' : Nat), fstF f k m b = (x, k', 0) → ∃ y, x = m + y * 128 ^ k ∧ digF (f - 1) y = b.take (k' - k) ∧ (0 < k → 0 < y) ∧ k < k'
  | 0, k, m, b, x, k', h => by simp [fstF] at h
  | f + 1, k, m, [], x, k', h => by simp [fstF] at h
  | f + 1, k, m, x0 :: r, x, k', h => by
    have hx := x0.toNat_lt
    unfold fstF at h
    by_cases h1 : 128 ≤ x0.toNat
    · rw [if_pos h1] at h
      obtain ⟨y, hy, hd, hpos, hk⟩ := fst_dig f (k + 1) _ r x k' h
      have hy0 := hpos (by omega)
      obtain ⟨f', rfl⟩ : ∃ f', f = f' + 1 := by
        cases f with
        | zero => simp [fstF] at h
        | succ f' => exact ⟨f', rfl⟩
      refine ⟨x0.toNat % 128 + 128 * y, ?_, ?_, fun _ => by omega, by omega⟩
      · rw [hy, Nat.pow_succ, Nat.add_mul]
        rw [Nat.add_assoc, show y * (128 ^ k * 128) = 128 * y * 128 ^ k by rw [Nat.mul_comm (128 ^ k), ← Nat.mul_assoc, Nat.mul_comm y]]
      · simp only [Nat.add_sub_cancel] at hd ⊢
        unfold digF
        rw [if_neg (by omega), show (x0.toNat % 128 + 128 * y) / 128 = y by omega, hd, show k' - k = (k' - (k + 1)) + 1 by omega, List.take_succ_cons]
        congr 1
        rw [show 128 + (x0.toNat % 128 + 128 * y) % 128 = x0.toNat by omega]
        exact u8_of x0
    · rw [if_neg h1] at h
      by_cases h2 : 0 < k ∧ x0.toNat = 0
      · rw [if_pos h2] at h; simp at h
      · rw [if_neg h2] at h
        by_cases h3 : Far < m + x0.toNat % 128 * 128 ^ k
        · rw [if_pos h3] at h; simp at h
        · rw [if_neg h3] at h
          simp only [Prod.mk.injEq] at h
          obtain ⟨e1, e2, _⟩ := h
          have hm : x0.toNat % 128 = x0.toNat := Nat.mod_eq_of_lt (by omega)
          refine ⟨x0.toNat, by rw [← e1, hm], ?_, fun hk => by omega, by omega⟩
          rw [digF_small _ (by omega), show k' - k = 0 + 1 by omega, List.take_succ_cons, List.take_zero, u8_of]
theorem fstL_dig {b : List UInt8} (h : (fstL b).2.2 = 0) : digs ((fstL b).1 : Int) = b.take (fstL b).2.1 := by
  have ho := fstL_ok h
  obtain ⟨y, hy, hd, _, _⟩ := fst_dig 6 0 0 b (fstL b).1 (fstL b).2.1 (Prod.ext rfl (Prod.ext rfl h))
  rw [digs_nat ho.2.2.2]
  rw [Nat.pow_zero, Nat.mul_one, Nat.zero_add] at hy
  rw [hy]
  exact hd
/-- What is put is read. -/
theorem fst_put : ∀ (f k m y : Nat) (r : List UInt8), y < 128 ^ (f + 1) → (0 < k → 0 < y) → m + y * 128 ^ k ≤ Far → fstF (f + 1) k m (digF f y ++ r) = (m + y * 128 ^ k, k + (digF f y).length, 0)
  | 0, k, m, y, r, hy, hk, hf => by
    have hy' : y < 128 := by simpa using hy
    have e : (UInt8.ofNat y).toNat = y := by rw [UInt8.toNat_ofNat']; omega
    show fstF 1 k m (UInt8.ofNat y :: r) = _
    unfold fstF
    rw [e, if_neg (by omega), if_neg (by omega), Nat.mod_eq_of_lt hy', if_neg (by omega)]
    rfl
  | f + 1, k, m, y, r, hy, hk, hf => by
    by_cases hs : y < 128
    · have e : (UInt8.ofNat y).toNat = y := by rw [UInt8.toNat_ofNat']; omega
      rw [digF_small _ hs]
      show fstF (f + 2) k m (UInt8.ofNat y :: r) = _
      unfold fstF
      rw [e, if_neg (by omega), if_neg (by omega), Nat.mod_eq_of_lt hs, if_neg (by omega)]
      rfl
    · have hd : digF (f + 1) y = UInt8.ofNat (128 + y % 128) :: digF f (y / 128) := by rw [digF, if_neg hs]
      have e : (UInt8.ofNat (128 + y % 128)).toNat = 128 + y % 128 := by rw [UInt8.toNat_ofNat']; omega
      have hsum : m + (128 + y % 128) % 128 * 128 ^ k + y / 128 * 128 ^ (k + 1) = m + y * 128 ^ k := by
        rw [Nat.add_assoc, show (128 + y % 128) % 128 = y % 128 by omega, Nat.pow_succ, show y / 128 * (128 ^ k * 128) = 128 * (y / 128) * 128 ^ k by rw [Nat.mul_comm (128 ^ k), ← Nat.mul_assoc, Nat.mul_comm (y / 128)], ← Nat.add_mul, Nat.mod_add_div]
      have ih := fst_put f (k + 1) (m + (128 + y % 128) % 128 * 128 ^ k) (y / 128) r (by rw [Nat.pow_succ] at hy; omega) (fun _ => by omega) (by rw [hsum]; exact hf)
      rw [hd, List.cons_append]
      show fstF (f + 2) k m (UInt8.ofNat (128 + y % 128) :: (digF f (y / 128) ++ r)) = _
      rw [fstF, e, if_pos (by omega), ih, hsum, List.length_cons]
      congr 2
      omega
theorem fstL_put (n : Int) (r : List UInt8) : fstL (digs n ++ r) = (clampN n, (digs n).length, 0) := by
  have hc := clampN_le n
  have := fst_put 5 0 0 (clampN n) r (by unfold Far at hc; omega) (fun h => absurd h (by decide)) (by simpa using hc)
  rw [Nat.pow_zero, Nat.mul_one, Nat.zero_add, Nat.zero_add] at this
  exact this
/-- A beginning of it is too short. -/
theorem fst_cut : ∀ (f k m y j : Nat), y < 128 ^ (f + 1) → j < (digF f y).length → fstF (f + 1) k m ((digF f y).take j) = (0, 0, 3)
  | 0, k, m, y, j, hy, hj => by
    have : j = 0 := by simp [digF] at hj; exact hj
    subst this
    rw [List.take_zero]; rfl
  | f + 1, k, m, y, j, hy, hj => by
    by_cases hs : y < 128
    · rw [digF_small _ hs] at hj ⊢
      have : j = 0 := by simpa using hj
      subst this
      rw [List.take_zero]; rfl
    · have hd : digF (f + 1) y = UInt8.ofNat (128 + y % 128) :: digF f (y / 128) := by rw [digF, if_neg hs]
      have e : (UInt8.ofNat (128 + y % 128)).toNat = 128 + y % 128 := by rw [UInt8.toNat_ofNat']; omega
      rw [hd] at hj ⊢
      cases j with
      | zero => rw [List.take_zero]; rfl
      | succ j =>
        rw [List.take_succ_cons, fstF, e, if_pos (by omega)]
        rw [List.length_cons] at hj
        exact fst_cut f (k + 1) _ (y / 128) j (by rw [Nat.pow_succ] at hy; omega) (by omega)
theorem fstL_cut (n : Int) {j : Nat} (h : j < (digs n).length) : fstL ((digs n).take j) = (0, 0, 3) := by
  have hc := clampN_le n
  exact fst_cut 5 0 0 (clampN n) j (by unfold Far at hc; omega) h
end Go.Proofs.Ytonfdnihllhcbaa
