/-
  Buckets, padding: numbers, lists; the document's Bucket (layer 14). By an AI agent.
-/
import Derived.Test.YthamhpgjjbiplaaDoorInv
import Derived.Test.YthamhpgjjbiplaaDoorApN
import Derived.Test.YthamhpgjjbiplaaDoorSh
import Derived.Test.YthamhpgjjbiplaaDoorCv
namespace Go.Proofs.YthamhpgjjbiplaaDoor
open Go Go.RowKit
set_option maxRecDepth 20000
/-- The least bucket above a length. -/
def bkt (n : Nat) : Nat := if n < 64 then 64 else if n < 128 then 128 else if n < 256 then 256 else if n < 512 then 512 else if n < 1024 then 1024 else if n < 2048 then 2048 else 4096
def bktA (n : Int) : Nat := if n < 0 then 0 else if 4095 < n then 0 else bkt n.toNat
def bktE (n : Int) : Nat := if n < 0 then 1 else if 4095 < n then 2 else 0
theorem bkt_gt {n : Nat} (h : n ≤ 4095) : n < bkt n ∧ bkt n ≤ 4096 := by unfold bkt; repeat (first | omega | split)
def padL (b : List UInt8) : List UInt8 := b ++ (128 :: List.replicate (bkt b.length - (b.length + 1)) 0)
def padA (b : List UInt8) : List UInt8 := if b.length ≤ 4095 then padL b else []
def padE (b : List UInt8) : Nat := if b.length ≤ 4095 then 0 else 2
theorem padL_len {b : List UInt8} (h : b.length ≤ 4095) : (padL b).length = bkt b.length := by
  have := bkt_gt h
  unfold padL
  rw [List.length_append, List.length_cons, List.length_replicate]
  omega
theorem nth_app_right (b r : List UInt8) (k : Nat) : nth (b ++ r) (b.length + k) = nth r k := by
  unfold nth
  rw [List.getElem?_append_right (by omega), Nat.add_sub_cancel_left]
theorem padL_mark (b : List UInt8) : nth (padL b) b.length = 128 := by
  have := nth_app_right b (128 :: List.replicate (bkt b.length - (b.length + 1)) 0) 0
  unfold padL
  exact this
theorem padL_nought (b : List UInt8) {k : Nat} (h : b.length < k) : nth (padL b) k = 0 := by
  obtain ⟨j, rfl⟩ : ∃ j, k = b.length + (j + 1) := ⟨k - b.length - 1, by omega⟩
  unfold padL
  rw [nth_app_right]
  unfold nth
  rw [List.getElem?_cons_succ, List.getElem?_replicate]
  split <;> rfl
/-- What is padded tells what it was. -/
theorem padL_inj {a b : List UInt8} (h : padL a = padL b) : a = b := by
  have hl : a.length = b.length := by
    rcases Nat.lt_trichotomy a.length b.length with h1 | h1 | h1
    · have e1 := padL_nought a h1
      rw [h, padL_mark] at e1
      cases e1
    · exact h1
    · have e1 := padL_nought b h1
      rw [← h, padL_mark] at e1
      cases e1
  unfold padL at h
  rw [hl] at h
  exact List.append_cancel_right h
/-- Such bytes, padded, are these. -/
def UnOk (b u : List UInt8) : Prop := u.length ≤ 4095 ∧ padL u = b
theorem UnOk.take {b u : List UInt8} (h : UnOk b u) : b.take u.length = u ∧ u.length < b.length ∧ nth b u.length = 128 := by
  obtain ⟨h1, rfl⟩ := h
  refine ⟨?_, ?_, padL_mark u⟩
  · unfold padL
    rw [List.take_left]
  · rw [padL_len h1]
    exact (bkt_gt h1).1
open Classical in
noncomputable def unA (b : List UInt8) : List UInt8 := if h : ∃ u, UnOk b u then Classical.choose h else []
open Classical in
noncomputable def unE (b : List UInt8) : Nat := if ∃ u, UnOk b u then 0 else 11
theorem un_yes {b u : List UInt8} (h : UnOk b u) : unA b = u ∧ unE b = 0 := by
  have hx : ∃ u, UnOk b u := ⟨u, h⟩
  unfold unA unE
  rw [dif_pos hx, if_pos hx]
  have h2 := Classical.choose_spec hx
  exact ⟨padL_inj (h2.2.trans h.2.symm), rfl⟩
theorem un_no {b : List UInt8} (h : ∀ u, ¬ UnOk b u) : unA b = [] ∧ unE b = 11 := by
  have hx : ¬ ∃ u, UnOk b u := fun ⟨u, hu⟩ => h u hu
  unfold unA unE
  rw [dif_neg hx, if_neg hx]
  exact ⟨rfl, rfl⟩
theorem un_pad {u : List UInt8} (h : u.length ≤ 4095) : unA (padL u) = u ∧ unE (padL u) = 0 := un_yes ⟨h, rfl⟩
theorem un_zero {b : List UInt8} (h : unE b = 0) : (unA b).length ≤ 4095 ∧ padL (unA b) = b := by
  by_cases hx : ∃ u, UnOk b u
  · obtain ⟨u, hu⟩ := hx
    rw [(un_yes hu).1]
    exact hu
  · rw [(un_no fun u hu => hx ⟨u, hu⟩).2] at h
    cases h
theorem un_err {b : List UInt8} (h : unE b ≠ 0) : unA b = [] ∧ unE b = 11 := by
  by_cases hx : ∃ u, UnOk b u
  · obtain ⟨u, hu⟩ := hx
    exact absurd (un_yes hu).2 h
  · exact un_no fun u hu => hx ⟨u, hu⟩
theorem unA_le (b : List UInt8) : (unA b).length ≤ b.length := by
  by_cases hx : ∃ u, UnOk b u
  · obtain ⟨u, hu⟩ := hx
    rw [(un_yes hu).1]
    exact Nat.le_of_lt hu.take.2.1
  · rw [(un_no fun u hu => hx ⟨u, hu⟩).1]
    exact Nat.zero_le _
set_option maxHeartbeats 1600000 in
theorem rbkt_any (n : Int) (w : World) :
    Calls Tryd.prog 9 #[.int .i64 n] w fun e w' => e = .returned (.tuple #[.int .i64 (bktA n : Int), .int .i64 (bktE n : Int)]) ∧ Below w.heap.size w w' := by
  by_cases h1 : n < 0
  · have e1 : bktA n = 0 := by unfold bktA; rw [if_pos h1]
    have e2 : bktE n = 1 := by unfold bktE; rw [if_pos h1]
    rw [e1, e2]
    clear e1 e2
    go_enter Tryd.func9, Tryd.ntmps9
    go_wp2_with fail
    go_returns
    exact ⟨rfl, Below.refl _ _⟩
  · by_cases h2 : 4095 < n
    · have e1 : bktA n = 0 := by unfold bktA; rw [if_neg h1, if_pos h2]
      have e2 : bktE n = 2 := by unfold bktE; rw [if_neg h1, if_pos h2]
      rw [e1, e2]
      clear e1 e2
      go_enter Tryd.func9, Tryd.ntmps9
      go_wp2_with fail
      go_returns
      exact ⟨rfl, Below.refl _ _⟩
    · obtain ⟨m, rfl⟩ : ∃ m : Nat, n = (m : Int) := ⟨n.toNat, by omega⟩
      have e1 : bktA (m : Int) = bkt m := by unfold bktA; rw [if_neg h1, if_neg h2, Int.toNat_natCast]
      have e2 : bktE (m : Int) = 0 := by unfold bktE; rw [if_neg h1, if_neg h2]
      rw [e1, e2]
      have HM := Lib.hid (show m ≤ 4095 by omega)
      clear e1 e2
      go_enter Tryd.func9, Tryd.ntmps9
      go_wp2_with fail
      go_loopw [4] (fun i wr => ∃ s : Nat, i = .int .i64 (s : Int) ∧ (s = 64 ∨ (s = 128 ∧ 64 ≤ m) ∨ (s = 256 ∧ 128 ≤ m) ∨ (s = 512 ∧ 256 ≤ m) ∨ (s = 1024 ∧ 512 ≤ m) ∨ (s = 2048 ∧ 1024 ≤ m) ∨ (s = 4096 ∧ 2048 ≤ m)) ∧ Below w.heap.size w wr)
        (fun i _ => 8192 - (intOf i).toNat)
      case atStart => exact ⟨64, rfl, .inl rfl, Below.refl _ _⟩
      case round =>
        obtain ⟨s, rfl, hs, hc⟩ := hrel
        have hm := HM.out
        by_cases hle : s ≤ m
        · have g1 : (s : Int) ≤ (m : Int) := by omega
          have w1 : IntKind.i64.wrap ((s : Int) * 2) = ((s * 2 : Nat) : Int) := by rw [IntKind.wrap_i64]; omega
          have HS := Lib.hid (And.intro hs hle)
          clear hs hle hm
          go_wp2_with fail
          go_roundw
          case rel => exact ⟨s * 2, rfl, by have := HS.out; have := HM.out; omega, hc⟩
          case measure => have := HS.out; have := HM.out; simp [intOf]; omega
        · have g1 : ¬ (s : Int) ≤ (m : Int) := by omega
          have HR := Lib.hid (show bkt m = s by unfold bkt; repeat (first | omega | split))
          clear hs hle hm
          go_wp2_with fail
          go_returns
          rw [HR.out]
          exact ⟨rfl, hc⟩
end Go.Proofs.YthamhpgjjbiplaaDoor
