/-
  Layer 17: CaretBoxes. By an AI agent.
-/
import Derived.Test.YtejfdheiopejeaaCl2
namespace Go.Proofs.Ytejfdheiopejeaa
open Go Go.RowKit
set_option maxRecDepth 20000
set_option maxHeartbeats 3200000 in
theorem caretboxes_law {s : ByteArray} (c i k : Int) (hs : s.size ≤ 1048576) (w : World) : Calls Try.prog 5 #[.agg #[.string s, .int .i64 c, .int .i64 i, .int .i64 k]] w fun e w' => e = .returned (.bool true) ∧ Below w.heap.size w w' := by
  have hc := fun w => cbox_any (s := s) c i k hs w
  have hr := fun w => rbox_any (s := s) c i k hs w
  have hf := boxR_fit (s := s) c i k hs
  obtain ⟨⟨⟨x1, y1⟩, ⟨x2, y2⟩, e⟩, eR⟩ : ∃ R, R = boxR (spotsR c (runesFrom s 0) (0, 0)) c i k := ⟨_, rfl⟩
  rw [← eR] at hc hr hf
  dsimp only at hf
  have hi1 : ∀ w, Calls Try.prog 10 #[.complex .f64 (fi x1) (fi y1), .agg #[.int .i64 x1, .int .i64 y1]] w fun e w' => e = .returned (.bool true) ∧ Below w.heap.size w w' := by
    intro w
    have h := ris_any (fi x1) (fi y1) (x1, y1) w
    rwa [isB_same (st := (x1, y1)) hf.1] at h
  have hi2 : ∀ w, Calls Try.prog 10 #[.complex .f64 (fi x2) (fi y2), .agg #[.int .i64 x2, .int .i64 y2]] w fun e w' => e = .returned (.bool true) ∧ Below w.heap.size w w' := by
    intro w
    have h := ris_any (fi x2) (fi y2) (x2, y2) w
    rwa [isB_same (st := (x2, y2)) hf.2] at h
  unfold cpV at hc
  dsimp only at hc hr
  obtain ⟨fa, ea⟩ : ∃ q, q = fi x1 := ⟨_, rfl⟩
  obtain ⟨fb, eb⟩ : ∃ q, q = fi y1 := ⟨_, rfl⟩
  obtain ⟨fc, ec⟩ : ∃ q, q = fi x2 := ⟨_, rfl⟩
  obtain ⟨fd, ed⟩ : ∃ q, q = fi y2 := ⟨_, rfl⟩
  rw [← ea, ← eb, ← ec, ← ed] at hc
  rw [← ea, ← eb] at hi1
  rw [← ec, ← ed] at hi2
  obtain ⟨v1, ev⟩ : ∃ v, v = w.alloc (.cells #[.string s, .int .i64 c, .int .i64 i, .int .i64 k] 38) := ⟨_, rfl⟩
  obtain ⟨g, eg⟩ : ∃ g, g = w.heap.size := ⟨_, rfl⟩
  have hb : Below w.heap.size w v1 := by rw [ev]; exact (Below.refl _ _).alloc (Nat.le_refl _) _
  have hgs : g < v1.heap.size := by rw [ev, eg]; simp
  have q : v1.cell? ⟨g, 0, none⟩ = some (.string s) ∧ v1.cell? ⟨g, 1, none⟩ = some (.int .i64 c) ∧ v1.cell? ⟨g, 2, none⟩ = some (.int .i64 i) ∧ v1.cell? ⟨g, 3, none⟩ = some (.int .i64 k) := by rw [ev, eg]; simp
  have H := Lib.hid (And.intro hc (And.intro hr (And.intro hi1 hi2)))
  have HV := Lib.hid (And.intro ev (And.intro eg (And.intro hb (And.intro hgs q))))
  obtain ⟨q0, q1, q2, q3⟩ := q
  clear hc hr hf hi1 hi2 eR ea eb ec ed ev eg hb hgs
  go_enter Try.func5, Try.ntmps5
  go_upto_region 1 with fail
  rw [← HV.out.1, ← HV.out.2.1]
  go_upto_region 2 with (go_at_call 14; refine (H.out.1 v1).mono ?_; rintro z w1 ⟨rfl, hb1⟩; have H1 := Lib.hid hb1; clear hb1)
  clear q0 q1 q2 q3
  have q0 := (H1.out.cell (p := ⟨g, 0, none⟩) HV.out.2.2.2.1).trans HV.out.2.2.2.2.1
  have q1 := (H1.out.cell (p := ⟨g, 1, none⟩) HV.out.2.2.2.1).trans HV.out.2.2.2.2.2.1
  have q2 := (H1.out.cell (p := ⟨g, 2, none⟩) HV.out.2.2.2.1).trans HV.out.2.2.2.2.2.2.1
  have q3 := (H1.out.cell (p := ⟨g, 3, none⟩) HV.out.2.2.2.1).trans HV.out.2.2.2.2.2.2.2
  go_upto_region 3 with (go_at_call 15; refine (H.out.2.1 w1).mono ?_; rintro z w2 ⟨rfl, hb2⟩; have H2 := Lib.hid hb2; clear hb2)
  clear q0 q1 q2 q3
  have hn := heap_new2 w2 (.cells #[.int .i64 x1, .int .i64 y1] 32) (.cells #[.int .i64 x2, .int .i64 y2] 32)
  obtain ⟨w3, e3⟩ : ∃ v, v = (w2.alloc (.cells #[.int .i64 x1, .int .i64 y1] 32)).alloc (.cells #[.int .i64 x2, .int .i64 y2] 32) := ⟨_, rfl⟩
  have hs3 : w3.heap.size = w2.heap.size + 2 := by rw [e3]; simp
  have hb3 : Below w2.heap.size w2 w3 := by rw [e3]; exact ((Below.refl _ _).alloc (Nat.le_refl _) _).alloc (by simp) _
  rw [← e3] at hn ⊢
  obtain ⟨G, eG⟩ : ∃ G, G = w2.heap.size := ⟨_, rfl⟩
  rw [← eG] at hn ⊢
  have r0 : w3.cell? ⟨G, 0, none⟩ = some (.int .i64 x1) := by simp [World.cell?, hn.1]
  have r1 : w3.cell? ⟨G, 1, none⟩ = some (.int .i64 y1) := by simp [World.cell?, hn.1]
  have hst : ∀ wz, Below w3.heap.size w3 wz → wz.cell? ⟨G + 1, 0, none⟩ = some (.int .i64 x2) ∧ wz.cell? ⟨G + 1, 1, none⟩ = some (.int .i64 y2) := fun wz hz =>
    ⟨(hz.cell (p := ⟨G + 1, 0, none⟩) (by show G + 1 < _; omega)).trans (by simp [World.cell?, hn.2]), (hz.cell (p := ⟨G + 1, 1, none⟩) (by show G + 1 < _; omega)).trans (by simp [World.cell?, hn.2])⟩
  have HST := Lib.hid hst
  have HB3 := Lib.hid (show Below w.heap.size w w3 from ((HV.out.2.2.1.trans (H1.out.mono HV.out.2.2.1.size)).trans (H2.out.mono (Nat.le_trans HV.out.2.2.1.size H1.out.size))).trans (hb3.mono (Nat.le_trans HV.out.2.2.1.size (Nat.le_trans H1.out.size H2.out.size))))
  clear hn e3 hs3 hb3 eG hst
  go_wp2_with (first | (go_at_call 10; with_reducible refine (H.out.2.2.1 _).mono ?_; rintro z w4 ⟨rfl, hb4⟩; obtain ⟨r2, r3⟩ := HST.out w4 hb4; have H4 := Lib.hid hb4; clear hb4) | (go_at_call 10; with_reducible refine (H.out.2.2.2 _).mono ?_; rintro z w5 ⟨rfl, hb5⟩; have H5 := Lib.hid hb5; clear hb5) | (go_at_call 11; with_reducible refine (awake17 _).mono ?_; rintro z w6 ⟨rfl, hb6⟩; have H6 := Lib.hid hb6; clear hb6))
  go_ret
  have hA := HB3.out.trans (H4.out.mono HB3.out.size)
  have hB := hA.trans (H5.out.mono hA.size)
  exact ⟨by first | rfl | simp, hB.trans (H6.out.mono hB.size)⟩
end Go.Proofs.Ytejfdheiopejeaa
