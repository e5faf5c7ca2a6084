/-
  Layer 17: the document's Box told as a whole; what awake asks; CaretWidths. By an AI agent.
-/
import Derived.Test.YtejfdheiopejeaaCx5
namespace Go.Proofs.Ytejfdheiopejeaa
open Go Go.RowKit
set_option maxRecDepth 20000
theorem rbox_any {s : ByteArray} (c i k : Int) (hs : s.size ≤ 1048576) (w : World) : Calls Try.prog 15 #[.string s, .int .i64 c, .int .i64 i, .int .i64 k] w fun e w' =>
    e = .returned (.tuple #[idV (boxR (spotsR c (runesFrom s 0) (0, 0)) c i k).1, idV (boxR (spotsR c (runesFrom s 0) (0, 0)) c i k).2.1, .int .i64 (boxR (spotsR c (runesFrom s 0) (0, 0)) c i k).2.2]) ∧ Below w.heap.size w w' := by
  by_cases h : (2 ≤ c ∧ c ≤ 200) ∧ 0 ≤ i ∧ i ≤ k ∧ k < ((spotsR c (runesFrom s 0) (0, 0)).length : Int)
  · unfold boxR
    rw [if_pos h]
    have := rbox_yes (s := s) (c := c) (k := k) (n := i.toNat) (m := k.toNat) hs h.1 (by omega) (by omega) (by omega) w
    rwa [show ((i.toNat : Nat) : Int) = i by omega] at this
  · unfold boxR
    rw [if_neg h]
    exact rbox_no hs h w
theorem cbox_any {s : ByteArray} (c i k : Int) (hs : s.size ≤ 1048576) (w : World) : Calls Try.prog 14 #[.string s, .int .i64 c, .int .i64 i, .int .i64 k] w fun e w' =>
    e = .returned (.tuple #[cpV (boxR (spotsR c (runesFrom s 0) (0, 0)) c i k).1, cpV (boxR (spotsR c (runesFrom s 0) (0, 0)) c i k).2.1, .int .i64 (boxR (spotsR c (runesFrom s 0) (0, 0)) c i k).2.2]) ∧ Below w.heap.size w w' := by
  by_cases h : (2 ≤ c ∧ c ≤ 200) ∧ 0 ≤ i ∧ i ≤ k
  · exact box_any (n := i.toNat) (m := k.toNat) h.1 hs (by omega) (by omega) (by omega) w
  · unfold boxR
    rw [if_neg (fun q => h ⟨q.1, q.2.1, q.2.2.1⟩)]
    exact box_bad h w
/-- The parts of a box are whole numbers that a float holds. -/
theorem boxR_fit {s : ByteArray} (c i k : Int) (hs : s.size ≤ 1048576) : (Fit (boxR (spotsR c (runesFrom s 0) (0, 0)) c i k).1.1 ∧ Fit (boxR (spotsR c (runesFrom s 0) (0, 0)) c i k).1.2) ∧ (Fit (boxR (spotsR c (runesFrom s 0) (0, 0)) c i k).2.1.1 ∧ Fit (boxR (spotsR c (runesFrom s 0) (0, 0)) c i k).2.1.2) := by
  unfold boxR
  split
  · rename_i h
    have hfit : ∀ j, Fit ((spotsR c (runesFrom s 0) (0, 0)).getD j (0, 0)).1 ∧ Fit ((spotsR c (runesFrom s 0) (0, 0)).getD j (0, 0)).2 := by
      intro j
      rcases Nat.lt_or_ge j (spotsR c (runesFrom s 0) (0, 0)).length with hj | hj
      · have h1 : (spotsR c (runesFrom s 0) (0, 0)).getD j (0, 0) ∈ spotsR c (runesFrom s 0) (0, 0) := by rw [List.getD_eq_getElem?_getD, List.getElem?_eq_getElem hj]; exact List.getElem_mem hj
        exact (spots_fit h.1 hs _ h1).2.2
      · rw [List.getD_eq_getElem?_getD, List.getElem?_eq_none hj]
        show Fit 0 ∧ Fit 0
        unfold Fit
        omega
    exact ⟨lowN_fit hfit _, highN_fit hfit _⟩
  · show (Fit 0 ∧ Fit 0) ∧ (Fit 0 ∧ Fit 0)
    unfold Fit
    omega
/-- A place of the code is the document's. -/
theorem isB_same {st : IDt} (h : Fit st.1 ∧ Fit st.2) : isB (fi st.1) (fi st.2) st = true := by
  unfold isB
  rw [show (ordF (fi st.1) (fi st.1) == some .eq) = decide (st.1 = st.1) from eq_fit h.1 h.1, show (ordF (fi st.2) (fi st.2) == some .eq) = decide (st.2 = st.2) from eq_fit h.2 h.2, decide_eq_true rfl, decide_eq_true rfl]
  rfl
theorem abc_runes : runesFrom "abc".toUTF8 0 = [97, 98, 99] := by decide +kernel
theorem abc_spots : spotsR 2 (runesFrom "abc".toUTF8 0) (0, 0) = [(0, 0), (1, 0), (0, 1), (1, 1)] := by rw [abc_runes]; decide +kernel
end Go.Proofs.Ytejfdheiopejeaa
