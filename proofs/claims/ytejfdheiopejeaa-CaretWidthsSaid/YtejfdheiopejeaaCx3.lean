/-
  Layer 17: the document's Is, finite. By an AI agent.
-/
import Derived.Test.YtejfdheiopejeaaCx2
import Derived.Laws.Cover3
namespace Go.Proofs.Ytejfdheiopejeaa
open Go Go.RowKit
set_option maxRecDepth 20000
abbrev fi (z : Int) : Nat := floatOfInt .f64 z
abbrev ordF (x y : Nat) : Option Ordering := FloatKind.f64.format.order x y
theorem ordF_fi {x y : Int} (h1 : -9007199254740992 < x) (h2 : x < 9007199254740992) (h3 : -9007199254740992 < y) (h4 : y < 9007199254740992) : ordF (fi x) (fi y) = some (compare x y) := forder h1 h2 h3 h4
/-- Is a point of the plane just a column and a line? -/
def isB (re im : Nat) (st : IDt) : Bool := (ordF re (fi st.1) == some .eq) && (ordF im (fi st.2) == some .eq)
set_option maxHeartbeats 1600000 in
theorem ris_any (re im : Nat) (st : IDt) (w : World) : Calls Try.prog 10 #[.complex .f64 re im, idV st] w fun e w' => e = .returned (.bool (isB re im st)) ∧ Below w.heap.size w w' := by
  obtain ⟨v1, ev⟩ : ∃ v, v = w.alloc (.cells #[.int .i64 st.1, .int .i64 st.2] 32) := ⟨_, rfl⟩
  obtain ⟨g, eg⟩ : ∃ g, g = w.heap.size := ⟨_, rfl⟩
  have hb : Below w.heap.size w v1 := by rw [ev]; exact (Below.refl _ _).alloc (Nat.le_refl _) _
  have hq : v1.cell? ⟨g, 0, none⟩ = some (.int .i64 st.1) ∧ v1.cell? ⟨g, 1, none⟩ = some (.int .i64 st.2) := by rw [ev, eg]; simp
  have HV := Lib.hid (And.intro ev (And.intro eg hb))
  obtain ⟨b1, e1⟩ : ∃ b, (FloatKind.f64.format.order re (floatOfInt .f64 st.1) == some .eq) = b := ⟨_, rfl⟩
  obtain ⟨b2, e2⟩ : ∃ b, (FloatKind.f64.format.order im (floatOfInt .f64 st.2) == some .eq) = b := ⟨_, rfl⟩
  have HE := Lib.hid (show isB re im st = (b1 && b2) by unfold isB; rw [← e1, ← e2])
  obtain ⟨q0, q1⟩ := hq
  clear ev eg hb
  go_enter Try.func10, Try.ntmps10
  go_upto_region 1 with fail
  rw [← HV.out.1, ← HV.out.2.1]
  cases b1 with
  | true =>
    go_wp2_with fail
    go_ret
    exact ⟨by rw [HE.out]; first | rfl | simp [e2], HV.out.2.2⟩
  | false =>
    go_wp2_with fail
    go_ret
    exact ⟨by rw [HE.out]; first | rfl | simp, HV.out.2.2⟩
/-- Is a float a number that is not infinite? -/
def finB (x : Nat) : Bool := (ordF x 18442240474082181119 == some .gt || ordF x 18442240474082181119 == some .eq) && (ordF x 9218868437227405311 == some .lt || ordF x 9218868437227405311 == some .eq)
end Go.Proofs.Ytejfdheiopejeaa
