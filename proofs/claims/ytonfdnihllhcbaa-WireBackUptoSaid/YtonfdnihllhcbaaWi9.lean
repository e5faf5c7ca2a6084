/-
  What a reader tells, put again; what was put, read (layer 13). By an AI agent.
-/
import Derived.Test.YtonfdnihllhcbaaWi8
namespace Go.Proofs.Ytonfdnihllhcbaa
open Go Go.RowKit
theorem numR_zero {bs : List UInt8} {least most : Int} {rs : List UInt8} {x : Nat} (h : numR bs 0 least most = (rs, 0, x)) : (fstL bs).2.2 = 0 ∧ rs = bs.drop (fstL bs).2.1 ∧ x = (fstL bs).1 := by
  unfold numR at h
  rw [if_neg (by simp)] at h
  by_cases h1 : (fstL bs).2.2 ≠ 0
  · rw [if_pos h1] at h
    simp only [Prod.mk.injEq] at h
    have := h.2.1
    omega
  · rw [if_neg h1] at h
    by_cases h2 : ((fstL bs).1 : Int) < least ∨ most < ((fstL bs).1 : Int)
    · rw [if_pos h2] at h
      simp at h
    · rw [if_neg h2] at h
      simp only [Prod.mk.injEq] at h
      exact ⟨by omega, h.1.symm, h.2.2.symm⟩
theorem form_num {b rs : List UInt8} {x : Nat} (h : numR b 0 0 1099511627776 = (rs, 0, x)) : rs.length ≤ b.length ∧ numL [] (x : Int) = b.take (b.length - rs.length) ∧ (b.take (b.length - rs.length)).length = b.length - rs.length ∧ x ≤ Far := by
  obtain ⟨h1, h2, h3⟩ := numR_zero h
  have ho := fstL_ok h1
  have hd := fstL_dig h1
  have hl : rs.length = b.length - (fstL b).2.1 := by rw [h2, List.length_drop]
  refine ⟨by omega, ?_, by rw [List.length_take]; omega, by rw [h3]; exact ho.2.2.2⟩
  unfold numL
  rw [List.nil_append, h3, hd]
  congr 1
  omega
theorem textR_zero {bs rs s : List UInt8} {most : Int} (h : textR bs 0 most = (rs, 0, s)) : ∃ r1 x, numR bs 0 0 1099511627776 = (r1, 0, x) ∧ x ≤ r1.length ∧ s = r1.take x ∧ rs = r1.drop x := by
  unfold textR at h
  rw [show ((Far : Nat) : Int) = 1099511627776 from rfl] at h
  obtain ⟨N, hN⟩ : ∃ N, N = numR bs 0 0 1099511627776 := ⟨_, rfl⟩
  rw [← hN] at h
  obtain ⟨r1, e1, x⟩ := N
  simp only at h
  by_cases h1 : e1 = 0
  · subst h1
    rw [if_neg (by simp)] at h
    by_cases h2 : max most 0 < (x : Int)
    · rw [if_pos h2] at h; simp at h
    · rw [if_neg h2] at h
      by_cases h3 : r1.length < x
      · rw [if_pos h3] at h; simp at h
      · rw [if_neg h3] at h
        simp only [Prod.mk.injEq] at h
        exact ⟨r1, x, hN.symm, by omega, h.2.2.symm, h.1.symm⟩
  · rw [if_pos h1] at h
    simp only [Prod.mk.injEq] at h
    exact absurd h.2.1 h1
theorem form_text {b rs s : List UInt8} {most : Int} (h : textR b 0 most = (rs, 0, s)) : rs.length ≤ b.length ∧ textL [] s = b.take (b.length - rs.length) ∧ (b.take (b.length - rs.length)).length = b.length - rs.length ∧ s.length ≤ b.length := by
  obtain ⟨r1, x, h1, h2, h3, h4⟩ := textR_zero h
  obtain ⟨k1, k2, k3⟩ := numR_zero h1
  have ho := fstL_ok k1
  have hd := fstL_dig k1
  have hl1 : r1.length = b.length - (fstL b).2.1 := by rw [k2, List.length_drop]
  have hl : rs.length = r1.length - x := by rw [h4, List.length_drop]
  have hsl : s.length = x := by rw [h3, List.length_take]; omega
  refine ⟨by omega, ?_, by rw [List.length_take]; omega, by omega⟩
  unfold textL numL
  rw [List.nil_append, hsl, k3, hd, h3, k2, k3]
  rw [show b.length - rs.length = (fstL b).2.1 + (fstL b).1 by omega, List.take_add]
theorem textR_len {bs : List UInt8} (e most : Int) : (textR bs e most).2.2.length ≤ bs.length := by
  have hn : (numR bs e 0 Far).1.length ≤ bs.length := by
    unfold numR
    split
    · exact Nat.le_refl _
    · split
      · exact Nat.le_refl _
      · split
        · exact Nat.le_refl _
        · simp only [List.length_drop]; omega
  unfold textR
  split
  · simp
  · split
    · simp
    · split
      · simp
      · simp only [List.length_take]; omega
/-- What is put is read. -/
theorem numR_put (n : Int) (r : List UInt8) : numR (digs n ++ r) 0 0 1099511627776 = (r, 0, clampN n) := by
  have hc := clampN_le n
  unfold Far at hc
  unfold numR
  rw [if_neg (by simp), fstL_put, if_neg (by simp), if_neg (by simp only; omega)]
  simp only
  rw [List.drop_left]
theorem textR_put (s r : List UInt8) (hs : s.length ≤ Far) (most : Int) (hm : (s.length : Int) ≤ most) : textR (digs (s.length : Int) ++ (s ++ r)) 0 most = (r, 0, s) := by
  have h1 : numR (digs (s.length : Int) ++ (s ++ r)) 0 0 Far = (s ++ r, 0, s.length) := by
    rw [show ((Far : Nat) : Int) = 1099511627776 from rfl, numR_put, clamp_nat hs]
  unfold textR
  rw [h1]
  simp only
  rw [if_neg (by simp), if_neg (by omega), if_neg (by rw [List.length_append]; omega), List.drop_left, List.take_left]
theorem flagR_put (y : Bool) (r : List UInt8) : flagR (digs (if y then 1 else 0) ++ r) 0 = (r, 0, y) := by
  have h1 : numR (digs (if y then 1 else 0) ++ r) 0 0 1 = (r, 0, if y then 1 else 0) := by
    unfold numR
    rw [if_neg (by simp), fstL_put, if_neg (by simp)]
    cases y
    · rw [if_neg (by decide)]
      simp only [List.drop_left]
      rfl
    · rw [if_neg (by decide)]
      simp only [List.drop_left]
      rfl
  unfold flagR
  rw [h1]
  cases y <;> rfl
/-- A beginning is too short. -/
theorem numR_cut (n : Int) {j : Nat} (h : j < (digs n).length) : numR ((digs n).take j) 0 0 1099511627776 = ((digs n).take j, 3, 0) := by
  unfold numR
  rw [if_neg (by simp), fstL_cut n h, if_pos (by simp)]
  rfl
theorem textR_cut (s : List UInt8) {j : Nat} (h : j < (textL [] s).length) (hj : j < Far) (most : Int) (hm : (s.length : Int) ≤ most) : textR ((textL [] s).take j) 0 most = ((textL [] s).take j, 3, []) := by
  have hT : textL [] s = digs (s.length : Int) ++ s := rfl
  have hlen : (textL [] s).length = (digs (s.length : Int)).length + s.length := by rw [hT, List.length_append]
  have hcl : clampN (s.length : Int) = s.length ∨ (clampN (s.length : Int) = Far ∧ Far < s.length) := by
    by_cases h1 : s.length ≤ Far
    · exact .inl (clamp_nat h1)
    · refine .inr ⟨?_, by omega⟩
      unfold clampN
      rw [if_neg (by omega), if_pos (by omega)]
  by_cases hj : j < (digs (s.length : Int)).length
  · have h1 : (textL [] s).take j = (digs (s.length : Int)).take j := by rw [hT, List.take_append_of_le_length (by omega)]
    have h2 : numR ((digs (s.length : Int)).take j) 0 0 Far = ((digs (s.length : Int)).take j, 3, 0) := numR_cut _ hj
    unfold textR
    rw [h1, h2]
    simp only
    rw [if_pos (by simp)]
  · have h1 : (textL [] s).take j = digs (s.length : Int) ++ s.take (j - (digs (s.length : Int)).length) := by rw [hT, List.take_append, List.take_of_length_le (by omega)]
    have h2 : numR (digs (s.length : Int) ++ s.take (j - (digs (s.length : Int)).length)) 0 0 Far = (s.take (j - (digs (s.length : Int)).length), 0, clampN (s.length : Int)) := by
      rw [show ((Far : Nat) : Int) = 1099511627776 from rfl, numR_put]
    unfold textR
    rw [h1, h2]
    simp only
    rw [if_neg (by simp), if_neg (by omega), if_pos (by rw [List.length_take]; omega)]
end Go.Proofs.Ytonfdnihllhcbaa
