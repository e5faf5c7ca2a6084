import Derived.Test.YtebhefgfebghkaaDoorProg
import Derived.Test.YtebhefgfebghkaaDoorBase
namespace Go.Proofs.YtebhefgfebghkaaDoor
open Go Go.RowKit
theorem infoByte : (Tryd.prog.info? 5).map (fun i => (i.zero, i.size, i.bytes)) = some (some (.int .u8 0), 1, 1) := by kernel_rfl

/-- Are two lists of bytes the same? -/
def sameB (xs ys : List UInt8) : Bool := decide (xs = ys)
theorem sameB_iff {xs ys : List UInt8} : sameB xs ys = true ↔ xs = ys := by simp [sameB]
set_option maxHeartbeats 400000 in
theorem same_any {A1 A2 : Option Addr} {c1 c2 B1 B2: Nat} {xs ys : List UInt8} (w : World) (h1 : Rd w B1 A1 c1 xs) (h2 : Rd w B2 A2 c2 ys) :
    Calls Tryd.prog 14 #[.slice A1 xs.length c1, .slice A2 ys.length c2] w fun e w' => e = .returned (.bool (sameB xs ys)) ∧ w = w' := by
  have k1 := run_str (P := Tryd.prog) w 22 5 Tryd.underlying22 Tryd.underlying5 Tryd.underlying9 h1
  have k2 := run_str (P := Tryd.prog) w 22 5 Tryd.underlying22 Tryd.underlying5 Tryd.underlying9 h2
  go_enter Tryd.func14, Tryd.ntmps14
  go_wp2
  go_ret
  exact ⟨congrArg (fun b => Ending.returned (.bool b)) (by rw [sameB, Bool.eq_iff_iff]; simp), rfl⟩
set_option maxHeartbeats 400000 in
theorem own_any {A : Option Addr} {c B : Nat} {xs : List UInt8} (w : World) (h1 : Rd w B A c xs) (hB : B ≤ w.heap.size) (hl : xs.length ≤ 140737488355328) :
    Calls Tryd.prog 13 #[.slice A xs.length c] w fun e w' => ∃ A' c', e = .returned (.slice A' xs.length c') ∧ Own w' w.heap.size 5 A' c' xs ∧ Below w.heap.size w w' := by
  obtain ⟨i0, hi, hz0, hz1, hz2⟩ := info_parts infoByte
  have h2 : Rd (w.alloc (.cells #[] 5)) B A c xs := h1.keep ((Below.refl B w).alloc hB _)
  have h3 : Own (w.alloc (.cells #[] 5)) w.heap.size 5 (some ⟨w.heap.size, 0, none⟩) 0 [] := World.ownsRow_made w #[] 0 (Nat.le_refl _) (by decide) (by decide)
  have h4 : Below w.heap.size w (w.alloc (.cells #[] 5)) := (Below.refl _ w).alloc (Nat.le_refl _) _
  go_enter Tryd.func13, Tryd.ntmps13
  go_wp2_with (at_builtin; refine wpList_app _ rfl (.tmp 3) (.tmp 4) _ rfl w.heap.size 5 i0 _ Tryd.underlying22 hi hz0 hz1 hz2 rfl (xs := []) rfl h3 rfl h2 (by simpa using hl) (by simp) ?_; intro A' c' w' ho hb)
  go_ret
  exact ⟨A', c', rfl, ho, h4.trans hb⟩
end Go.Proofs.YtebhefgfebghkaaDoor
