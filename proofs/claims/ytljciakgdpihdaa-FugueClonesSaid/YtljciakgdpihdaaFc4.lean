/-
  Layer 15: both texts behind some steps, over what is asked of the landed tree. By an AI agent.
-/
import Derived.Test.YtljciakgdpihdaaFc3
namespace Go.Proofs.Ytljciakgdpihdaa
open Go Go.RowKit
set_option maxRecDepth 20000
theorem fold_okT : ∀ (l : List Dot) (t : Txt), Ok t.L → t.L.length + l.length ≤ 4096 → Ok (l.foldl stepT t).L ∧ (l.foldl stepT t).L.length ≤ t.L.length + l.length ∧ (l.foldl stepT t).G.length ≤ t.G.length + l.length
  | [], t, h, _ => ⟨h, Nat.le_refl _, Nat.le_refl _⟩
  | x :: r, t, h, hl => by
    rw [List.length_cons] at hl
    obtain ⟨h1, h2, h3, h4⟩ := stepT_ok (k := x) h (by omega)
    obtain ⟨g1, g2, g3⟩ := fold_okT r (stepT t x) h1 (by omega)
    rw [List.foldl_cons, List.length_cons]
    exact ⟨g1, by omega, by omega⟩
/-- Behind the first so many steps. -/
def txtK (l : List Dot) (k : Nat) : Txt := (l.take k).foldl stepT ⟨[], []⟩
theorem txtK_zero (l : List Dot) : txtK l 0 = ⟨[], []⟩ := rfl
theorem txtK_succ {l : List Dot} {k : Nat} {x : Dot} (h : l[k]? = some x) : txtK l (k + 1) = stepT (txtK l k) x := by
  unfold txtK
  rw [take_snoc h, List.foldl_append]
  rfl
theorem txtK_ok {l : List Dot} {k : Nat} (hl : l.length ≤ 4096) : Ok (txtK l k).L ∧ (txtK l k).L.length ≤ l.length ∧ (txtK l k).G.length ≤ l.length := by
  have hk : (l.take k).length ≤ l.length := by rw [List.length_take]; exact Nat.min_le_right _ _
  obtain ⟨h1, h2, h3⟩ := fold_okT (l.take k) ⟨[], []⟩ .nil (by simp only [List.length_nil]; omega)
  simp only [List.length_nil] at h2 h3
  exact ⟨h1, by unfold txtK; omega, by unfold txtK; omega⟩
/-- The landed tree at p and the document's value stand for one text; neither holds the box at gr. -/
def PlayB (R : TreeP) (w0 : World) (gr : Nat) (p u1 u2 : Value) (t : Txt) (w : World) : Prop :=
  ∃ F : Nat → Prop, R w F p t.L t.G ∧ RdT w w.heap.size (.agg #[u1, u2]) t.L t.G ∧ (∀ b, inV (.agg #[u1, u2]) b → b < w.heap.size ∧ ¬ F b ∧ b ≠ gr) ∧ (∀ b, F b → w0.heap.size ≤ b ∧ b ≠ gr) ∧ Below w0.heap.size w0 w
/-- .. and the box at gr holds the document's. -/
def Play (R : TreeP) (w0 : World) (gr : Nat) (p : Value) (t : Txt) (w : World) : Prop := ∃ u1 u2, PlayB R w0 gr p u1 u2 t w ∧ O2 w w0.heap.size 29 gr u1 u2
section
variable {R : TreeP} (K : FugC R) {w0 w w' : World} {gr : Nat} {p u1 u2 : Value} {t : Txt}
include K
theorem PlayB.keep (h : PlayB R w0 gr p u1 u2 t w) (hb : Below w.heap.size w w') : PlayB R w0 gr p u1 u2 t w' := by
  obtain ⟨F, h1, h2, h3, h4, h5⟩ := h
  exact ⟨F, K.next h1 hb, (h2.keep hb).mono hb.size, fun b hb' => ⟨Nat.lt_of_lt_of_le (h3 b hb').1 hb.size, (h3 b hb').2⟩, h4, h5.trans (hb.mono h5.size)⟩
theorem Play.keep (h : Play R w0 gr p t w) (hb : Below w.heap.size w w') : Play R w0 gr p t w' := by
  obtain ⟨u1, u2, h1, h2⟩ := h
  exact ⟨u1, u2, PlayB.keep K h1 hb, OwnF.keep h2 hb⟩
theorem PlayB.store (h : PlayB R w0 gr p u1 u2 t w) {x y : Value} (o : O2 w w0.heap.size 29 gr x y) : Play R w0 gr p t (set2 w gr u1 u2) := by
  obtain ⟨F, h1, h2, h3, h4, h5⟩ := h
  have hs := set2_out o u1 u2
  exact ⟨u1, u2, ⟨F, K.keep h1 (fun b hb => set2_only w gr u1 u2 b (h4 b hb).2) hs.size, RdT.outf h2 hs (fun b hb => (h3 b hb).2.2), fun b hb => ⟨Nat.lt_of_lt_of_le (h3 b hb).1 hs.size, (h3 b hb).2⟩, h4, h5.trans (o.below u1 u2)⟩, o.set_ u1 u2⟩
theorem play_both (h : PlayB R w0 gr p u1 u2 t w) (o : O2 w w0.heap.size 29 gr u1 u2) (hok : Ok t.L) (hl : t.L.length ≤ 4096) (hg : t.G.length ≤ 1000000) (x : Dot) :
    Calls Try.prog 13 #[p, .agg #[u1, u2], doV x] w fun e w' => ∃ z1 z2, e = .returned (.tuple #[.agg #[z1, z2], .bool true]) ∧ PlayB R w0 gr p z1 z2 (stepT t x) w' ∧ O2 w' w0.heap.size 29 gr u1 u2 := by
  obtain ⟨F, h1, h2, h3, h4, h5⟩ := h
  have hlt := OwnF.lt o
  refine (both_any K x w h1 hok hl hg h2 (fun b hb => ⟨(h3 b hb).1, (h3 b hb).2.1⟩)).mono ?_
  rintro e w' ⟨v', F', rfl, r, ht, hin, hF, hnew, ho⟩
  have hgr : ¬ F gr := fun hf => (h4 gr hf).2 rfl
  have ho2 : O2 w' w0.heap.size 29 gr u1 u2 := OwnF.same_ o (ho.block gr hlt hgr)
  have hb2 : Below w0.heap.size w0 w' := h5.trans (OutF.below ho (fun b hb => (h4 b hb).1) h5.size)
  obtain ⟨A, c, A2, c2, rfl, t1, t2⟩ := ht
  exact ⟨_, _, rfl, ⟨F', r, ⟨A, c, A2, c2, rfl, t1, t2⟩, fun b hb => ⟨(hin b hb).1, (hin b hb).2, by rcases hnew b hb with h9 | h9; exact (h3 b h9).2.2; omega⟩, fun b hb => by
    rcases hF b hb with h9 | h9
    · exact h4 b h9
    · exact ⟨Nat.le_trans h5.size h9, by omega⟩, hb2⟩, ho2⟩
/-- A new tree, and the document's empty text in a box that is laid next. -/
theorem play_new (w0 : World) : Calls Try.prog 12 #[] w0 fun e w1 => ∃ p, e = .returned p ∧ Play R w0 w1.heap.size p ⟨[], []⟩ (w1.alloc (.cells #[.slice none 0 0, .slice none 0 0] 29)) := by
  refine (K.new w0).mono ?_
  rintro e w1 ⟨p, F, rfl, r, hF, hb⟩
  have hb1 : Below w1.heap.size w1 (w1.alloc (.cells #[.slice none 0 0, .slice none 0 0] 29)) := (Below.refl _ _).alloc (Nat.le_refl _) _
  refine ⟨p, rfl, _, _, ⟨F, K.next r hb1, ⟨none, 0, none, 0, rfl, RdR.nothing insE _ _, RdR.nothing idE _ _⟩, ?_, fun b hb' => ⟨hF b hb', ?_⟩, hb.trans (hb1.mono hb.size)⟩, O2.newz hb.size _ _ _⟩
  · rintro b ⟨A, n, c, A2, n2, c2, e, h⟩
    simp only [Value.agg.injEq, Array.mk.injEq, List.cons.injEq, Value.slice.injEq, and_true] at e
    obtain ⟨⟨rfl, _, _⟩, rfl, _, _⟩ := e
    rcases h with ⟨ad, h, _⟩ | ⟨ad, h, _⟩ <;> cases h
  · have := K.le r b hb'
    omega
end
end Go.Proofs.Ytljciakgdpihdaa
