/-
  The landed code of layer 13: room, put, Number, Text, Flag. By an AI agent.
-/
import Derived.Test.YtonfdnihllhcbaaWc1
import Derived.Test.YtonfdnihllhcbaaMk
import Derived.ScopeJumps
import Derived.WalkMore
namespace Go.Proofs.Ytonfdnihllhcbaa
open Go Go.RowKit
set_option maxRecDepth 20000
/-- A scope in which the run jumps back to one label: what holds there is walked from once. -/
theorem wp_scope_back {P : Program} {a : Act} {w : World} {Q : Exit → Act → World → Prop} {c rest : Code} (l : Nat) (J : Act → World → Prop) (μ : Act → World → Nat) (hf : findLabel c l = some (Code.skip.seq rest))
    (pass : ∀ a w, J a w → rest.wp P (Exit.jump l (fun a' w' => J a' w' ∧ μ a' w' < μ a w) Q) a w)
    (first : (∀ a w, J a w → rest.wp P (Exit.jump l J Q) a w) → c.wp P (Exit.jump l J Q) a w) : (Code.scope c).wp P Q a w :=
  wp_scope_jumps l J μ hf (first fun a w h => wp_mono (pass a w h) fun e a' w' h' => by
    cases e <;> first | exact h' | exact ⟨h'.1, h'.2.1⟩) fun a w h => wp_seq (wp_skip (pass a w h))
theorem room_any {A : Option Addr} {B c n m : Nat} {bs : List UInt8} (hn : bs.length = n) (w : World) (hr : Rd w B A c bs) (hB : B ≤ w.heap.size) (hl : n + m ≤ 140737488355328) :
    Calls Try.prog 30 #[.slice A n c, .int .i64 (m : Int)] w fun e w' => ∃ A' c', e = .returned (.slice A' n c') ∧ Own w' w.heap.size 5 A' c' bs ∧ Below w.heap.size w w' := by
  subst hn
  obtain ⟨i0, hi, hz0, hz1, hz2⟩ := info_parts infoU8
  have hmk := run_mk0 (P := Try.prog) 22 5 i0 Try.underlying22 hi hz0 hz1 hz2 (n := bs.length + m) (by omega)
  rw [Int.natCast_add] at hmk
  have hm : Own (w.alloc (.cells (madeCells #[.int .u8 0] (bs.length + m)) 5)) w.heap.size 5 (some ⟨w.heap.size, 0, none⟩) (bs.length + m) [] := Own.made0 5 (Nat.le_refl _) (by unfold maxLen; omega)
  have hb0 : Below w.heap.size w (w.alloc (.cells (madeCells #[.int .u8 0] (bs.length + m)) 5)) := (Below.refl _ w).alloc (Nat.le_refl _) _
  have h2 := hr.keep (hb0.mono hB)
  go_enter Try.func30, Try.ntmps30
  go_wp2_with (at_builtin; refine wpList_app _ rfl (.tmp 9) (.tmp 10) _ rfl w.heap.size 5 i0 _ Try.underlying22 hi hz0 hz1 hz2 rfl (xs := []) rfl hm rfl h2 (by simp; omega) (by simp) ?_; intro A1 c1 v1 ho hb)
  replace ho : Own v1 w.heap.size 5 A1 c1 bs := ho
  go_ret
  exact ⟨A1, c1, by simp, ho, hb0.trans hb⟩
end Go.Proofs.Ytonfdnihllhcbaa
