/-
  An argument that is a question (three ints), or a list of questions: opened. Of no program. By an AI agent.
-/
import Derived.Test.YtonfdnihllhcbaaClose
import Derived.Lib.SmallJoins
import Derived.Laws.IdiomArrays
import Derived.Deep.Slices
import Derived.Test.YtonfdnihllhcbaaWc7
namespace Go.Proofs.Ytonfdnihllhcbaa
open Go Go.RowKit Go.ChangeShapes Go.WideShapes Go.ChangeAt Go.Deep Go.Joins
section
variable {H : Type} {enc : TypeId × Value → H} {P : Program}
theorem int_cell13 {t : TypeId} (ht : P.underlying t = some (.int .i64)) {W : World} {v : Value} {n : Nat} {y : DataW H × List MemPlace} (hf : DataW.trod enc P W 0 (fun _ => true) true n t [v] = some y) : ∃ x : Int, v = .int .i64 x := by
  obtain ⟨x, e, _, _⟩ := DataW.trod_int ht hf
  simp at e
  exact ⟨x, e⟩
theorem open_ask {t te : TypeId} {f0 f1 f2 : Field} (hs : P.underlying t = some (.struct #[f0, f1, f2])) (k0 : f0.type = te) (k1 : f1.type = te) (k2 : f2.type = te) (hone : oneCellFields P #[f0, f1, f2] = true) (hC : P.cellsOf t = 3)
    (ht : P.underlying te = some (.int .i64)) {W : World} {r : Reach} {b0 : Nat} {v : Value} {d : DataW H} {ps : List MemPlace}
    (hval : Value.okWide P W r b0 t v) (h : DataW.Trod enc P W 0 (fun _ => true) true t v d ps) : ∃ k a b : Int, v = .agg #[.int .i64 k, .int .i64 a, .int .i64 b] := by
  obtain ⟨v0, v1, v2, y0, y1, y2, n, rfl, _, _, h0, h1, h2⟩ := open_agg3 hs hone hC hval h
  rw [k0] at h0
  rw [k1] at h1
  rw [k2] at h2
  obtain ⟨x0, rfl⟩ := int_cell13 ht h0
  obtain ⟨x1, rfl⟩ := int_cell13 ht h1
  obtain ⟨x2, rfl⟩ := int_cell13 ht h2
  exact ⟨x0, x1, x2, rfl⟩
theorem cells_three {w : World} {base : Nat} {a : Addr} {cs : List Value} (h : w.cells? base a 3 = some cs) : ∃ c0 c1 c2, cs = [c0, c1, c2] ∧ w.cell? (a.add 0) = some c0 ∧ w.cell? (a.add 1) = some c1 ∧ w.cell? (a.add 2) = some c2 := by
  unfold World.cells? at h
  split at h
  · have r3 : List.range 3 = [0, 1, 2] := rfl
    rw [r3] at h
    simp only [List.mapM_cons, List.mapM_nil] at h
    cases h0 : w.cell? (a.add 0) with
    | none => simp [h0] at h
    | some c0 =>
      cases h1 : w.cell? (a.add 1) with
      | none => simp [h0, h1] at h
      | some c1 =>
        cases h2 : w.cell? (a.add 2) with
        | none => simp [h0, h1, h2] at h
        | some c2 =>
          simp [h0, h1, h2] at h
          exact ⟨c0, c1, c2, h.symm, rfl, rfl, rfl⟩
  · cases h
theorem open_asks {t e te : TypeId} {f0 f1 f2 : Field} (ht : P.underlying t = some (.slice e)) (hs : P.underlying e = some (.struct #[f0, f1, f2])) (k0 : f0.type = te) (k1 : f1.type = te) (k2 : f2.type = te) (hone : oneCellFields P #[f0, f1, f2] = true) (hce : P.cellsOf e = 3)
    (hti : P.underlying te = some (.int .i64)) {W : World} {r : Reach} {b0 : Nat} {v : Value} {d : DataW H} {ps : List MemPlace}
    (hval : Value.okWide P W r b0 t v) (h : DataW.Trod enc P W 0 (fun _ => true) true t v d ps) :
    ∃ A c n f, v = .slice A n c ∧ RdK W W.heap.size A n f := by
  obtain ⟨a0, len, cap, rfl⟩ := okWide_slice ht hval
  obtain ⟨fuel, hf⟩ := h
  rcases open_slice ht hf with ⟨hcs, hx⟩ | ⟨a, len', cap', m, n, D, Pl, hcs, _, hl, hm, hmm, hx, hcell⟩
  · simp [Value.cells] at hcs
    obtain ⟨rfl, rfl, rfl⟩ := hcs
    exact ⟨none, 0, 0, fun _ => (0, 0, 0), rfl, ⟨fun h => absurd h (by omega)⟩⟩
  · simp [Value.cells] at hcs
    obtain ⟨rfl, rfl, rfl⟩ := hcs
    simp only [if_true] at hmm
    subst hmm
    have key : ∀ i, i < len → ∃ x : Int × Int × Int, W.cell? ((a.add (i * 3)).add 0) = some (.int .i64 x.1) ∧ W.cell? ((a.add (i * 3)).add 1) = some (.int .i64 x.2.1) ∧ W.cell? ((a.add (i * 3)).add 2) = some (.int .i64 x.2.2) := fun i hi => by
      obtain ⟨cs', h1, h2⟩ := hcell i (by omega)
      rw [hce] at h1
      obtain ⟨c0, c1, c2, rfl, g0, g1, g2⟩ := cells_three h1
      obtain ⟨y0, y1, y2, n, _, _, q0, q1, q2⟩ := trod_struct3 hs h2
      obtain ⟨o0, l0⟩ := hone_of hone 0 f0 rfl
      obtain ⟨o1, l1⟩ := hone_of hone 1 f1 rfl
      obtain ⟨o2, l2⟩ := hone_of hone 2 f2 rfl
      rw [l0, o0] at q0
      rw [l1, o1] at q1
      rw [l2, o2] at q2
      rw [k0] at q0
      rw [k1] at q1
      rw [k2] at q2
      obtain ⟨x0, e0⟩ := int_cell13 (v := c0) hti (by simpa using q0)
      obtain ⟨x1, e1⟩ := int_cell13 (v := c1) hti (by simpa using q1)
      obtain ⟨x2, e2⟩ := int_cell13 (v := c2) hti (by simpa using q2)
      subst e0 e1 e2
      exact ⟨(x0, x1, x2), g0, g1, g2⟩
    obtain ⟨f, hff⟩ := choose_lt key
    refine ⟨some a, _, len, f, rfl, ⟨fun h0 => ?_⟩⟩
    have c0 := (hff 0 h0).1
    have hsp : a.spot = none := by
      have : (a.add (0 * 3)).add 0 = a := by simp [Addr.add]
      rw [this] at c0
      unfold World.cell? at c0
      cases hs : a.spot with
      | none => rfl
      | some s => rw [hs] at c0; revert c0; split <;> simp
    obtain ⟨b, o, sp⟩ := a
    simp only at hsp
    subst hsp
    refine ⟨b, o, rfl, World.block_lt_of_cell? W _ c0, fun k hk => ?_⟩
    obtain ⟨p0, p1, p2⟩ := hff k hk
    rw [Addr.add_lit, Addr.add_lit] at p0 p1 p2
    exact ⟨p0, p1, p2⟩
end
end Go.Proofs.Ytonfdnihllhcbaa
