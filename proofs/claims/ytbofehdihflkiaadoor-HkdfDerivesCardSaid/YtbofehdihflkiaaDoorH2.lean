/-
  The document's Join, mac, Mac, Extract (layer 7). By an AI agent.
-/
import Derived.Test.YtbofehdihflkiaaDoorH1
namespace Go.Proofs.YtbofehdihflkiaaDoor
open Go Go.RowKit
set_option maxRecDepth 20000
theorem join_any {A A' : Option Addr} {B c c' : Nat} {xs ys : List UInt8} (hl : xs.length + ys.length ≤ 140737488355328) (w : World) (hr : Rd w B A c xs) (hs : Rd w B A' c' ys) (hB : B ≤ w.heap.size) :
    Calls Tryd.prog 24 #[.slice A xs.length c, .slice A' ys.length c'] w fun e w' => ∃ A2 c2, e = .returned (.slice A2 (xs ++ ys).length c2) ∧ Own w' w.heap.size 5 A2 c2 (xs ++ ys) ∧ Below w.heap.size w w' := by
  obtain ⟨i0, hi, hz0, hz1, hz2⟩ := info_parts infoB6
  have h2 : Rd (w.alloc (.cells #[] 5)) B A c xs := hr.keep ((Below.refl B w).alloc hB _)
  have h3 : Own (w.alloc (.cells #[] 5)) w.heap.size 5 (some ⟨w.heap.size, 0, none⟩) 0 [] := World.ownsRow_made w #[] 0 (Nat.le_refl _) (by decide) (by decide)
  have h4 : Below w.heap.size w (w.alloc (.cells #[] 5)) := (Below.refl _ w).alloc (Nat.le_refl _) _
  go_enter Tryd.func24, Tryd.ntmps24
  go_wp2_with (first | (at_builtin; refine wpList_app _ rfl (.tmp 5) (.tmp 6) _ rfl w.heap.size 5 i0 _ Tryd.underlying22 hi hz0 hz1 hz2 rfl (xs := []) rfl h3 rfl h2 (by simp; omega) (by simp) ?_; intro A1 c1 v1 ho1 hb1; have hs1 := hs.keep ((h4.trans hb1).mono hB); have hb2 := h4.trans hb1) | (at_builtin; refine wpList_app _ rfl (.tmp 7) (.tmp 8) _ rfl w.heap.size 5 i0 _ Tryd.underlying22 hi hz0 hz1 hz2 rfl (xs := xs) rfl ho1 rfl hs1 hl hb2.size ?_; intro A3 c3 v3 ho3 hb3))
  go_ret
  exact ⟨A3, c3, by simp, ho3, hb2.trans hb3⟩
end Go.Proofs.YtbofehdihflkiaaDoor
