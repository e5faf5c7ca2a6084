/-
  An argument that is a slice of arrays of four words, opened; a bool. Of no program. By an AI agent.
-/
import Derived.Test.YtecphnhdcphgbaaNums
import Derived.Test.YtecphnhdcphgbaaS4
import Derived.Deep.Slices
namespace Go.Proofs.Ytecphnhdcphgbaa
open Go Go.RowKit Go.ChangeShapes Go.WideShapes Go.ChangeAt Go.Deep
section
variable {H : Type} {enc : TypeId × Value → H} {P : Program}
theorem num_cells {w : World} {base : Nat} {spare : Nat → Bool} {held : Bool} {t e : TypeId} {fuel : Nat} {c0 c1 c2 c3 : Value} {y : DataW H × List MemPlace} (ht : P.underlying t = some (.array 4 e)) (he : P.underlying e = some (.int .u64)) (hc : P.cellsOf e = 1)
    (hf : DataW.trod enc P w base spare held fuel t [c0, c1, c2, c3] = some y) : ∃ x, x < W4 ∧ c0 = .int .u64 (wd x 0 : Int) ∧ c1 = .int .u64 (wd x 1 : Int) ∧ c2 = .int .u64 (wd x 2 : Int) ∧ c3 = .int .u64 (wd x 3 : Int) := by
  obtain ⟨y0, y1, y2, y3, m, hx, hy0, hy1, hy2, hy3⟩ := trod_array4 ht hc hf
  obtain ⟨x0, e0, rfl, w0⟩ := DataW.trod_int he hy0
  obtain ⟨x1, e1, rfl, w1⟩ := DataW.trod_int he hy1
  obtain ⟨x2, e2, rfl, w2⟩ := DataW.trod_int he hy2
  obtain ⟨x3, e3, rfl, w3⟩ := DataW.trod_int he hy3
  simp at e0 e1 e2 e3
  subst e0 e1 e2 e3
  obtain ⟨z0, rfl, l0⟩ := word_of w0
  obtain ⟨z1, rfl, l1⟩ := word_of w1
  obtain ⟨z2, rfl, l2⟩ := word_of w2
  obtain ⟨z3, rfl, l3⟩ := word_of w3
  refine ⟨(z0 + 18446744073709551616 * (z1 + 18446744073709551616 * (z2 + 18446744073709551616 * (z3 + 18446744073709551616 * 0)))), ?_, ?_, ?_, ?_, ?_⟩
  · rw [W4_eq]; omega
  · rw [wd_cons0 l0]
  · rw [wd_cons l0, wd_cons0 l1]
  · rw [wd_cons l0, wd_cons l1, wd_cons0 l2]
  · rw [wd_cons l0, wd_cons l1, wd_cons l2, wd_cons0 l3]
theorem cells_four {w : World} {base : Nat} {a : Addr} {cs : List Value} (h : w.cells? base a 4 = some cs) : ∃ c0 c1 c2 c3, cs = [c0, c1, c2, c3] ∧ w.cell? (a.add 0) = some c0 ∧ w.cell? (a.add 1) = some c1 ∧ w.cell? (a.add 2) = some c2 ∧ w.cell? (a.add 3) = some c3 := by
  unfold World.cells? at h
  split at h
  · have r4 : List.range 4 = [0, 1, 2, 3] := rfl
    rw [r4] at h
    simp only [List.mapM_cons, List.mapM_nil] at h
    cases h0 : w.cell? (a.add 0) with
    | none => simp [h0] at h
    | some c0 =>
      cases h1 : w.cell? (a.add 1) with
      | none => simp [h0, h1] at h
      | some c1 =>
        cases h2 : w.cell? (a.add 2) with
        | none => simp [h0, h1, h2] at h
        | some c2 =>
          cases h3 : w.cell? (a.add 3) with
          | none => simp [h0, h1, h2, h3] at h
          | some c3 =>
            simp [h0, h1, h2, h3] at h
            exact ⟨c0, c1, c2, c3, h.symm, rfl, rfl, rfl, rfl⟩
  · cases h
theorem open_scalars {t e q : TypeId} (ht : P.underlying t = some (.slice e)) (he : P.underlying e = some (.array 4 q)) (hq : P.underlying q = some (.int .u64)) (hc : P.cellsOf q = 1) (hce : P.cellsOf e = 4) {W : World} {r : Reach} {b0 : Nat} {v : Value} {d : DataW H} {ps : List MemPlace}
    (hval : Value.okWide P W r b0 t v) (h : DataW.Trod enc P W 0 (fun _ => true) true t v d ps) :
    ∃ A c n f, v = .slice A n c ∧ RdS W W.heap.size A n f ∧ ∀ k, k < n → f k < W4 := by
  obtain ⟨a0, len, cap, rfl⟩ := okWide_slice ht hval
  obtain ⟨fuel, hf⟩ := h
  rcases open_slice ht hf with ⟨hcs, hx⟩ | ⟨a, len', cap', m, n, D, Pl, hcs, _, hl, hm, hmm, hx, hcell⟩
  · simp [Value.cells] at hcs
    obtain ⟨rfl, rfl, rfl⟩ := hcs
    exact ⟨none, 0, 0, fun _ => 0, rfl, ⟨fun _ => rfl, fun h => absurd h (by omega)⟩, fun k hk => absurd hk (by omega)⟩
  · simp [Value.cells] at hcs
    obtain ⟨rfl, rfl, rfl⟩ := hcs
    simp only [if_true] at hmm
    subst hmm
    have key : ∀ i, i < len → ∃ x, x < W4 ∧ ∀ j, j < 4 → W.cell? ((a.add (i * 4)).add j) = some (.int .u64 (wd x j : Int)) := fun i hi => by
      obtain ⟨cs', h1, h2⟩ := hcell i (by omega)
      rw [hce] at h1
      obtain ⟨c0, c1, c2, c3, rfl, g0, g1, g2, g3⟩ := cells_four h1
      obtain ⟨x, hx, rfl, rfl, rfl, rfl⟩ := num_cells he hq hc h2
      refine ⟨x, hx, fun j hj => ?_⟩
      have : j = 0 ∨ j = 1 ∨ j = 2 ∨ j = 3 := by omega
      rcases this with rfl | rfl | rfl | rfl
      · exact g0
      · exact g1
      · exact g2
      · exact g3
    obtain ⟨f, hff⟩ := choose_lt key
    refine ⟨some a, _, len, f, rfl, ⟨fun h => (nomatch h), fun h0 => ?_⟩, fun k hk => (hff k hk).1⟩
    have c0 := (hff 0 h0).2 0 (by decide)
    have hsp : a.spot = none := by
      have : (a.add (0 * 4)).add 0 = a := by simp [Addr.add]
      rw [this] at c0
      unfold World.cell? at c0
      cases hs : a.spot with
      | none => rfl
      | some s => rw [hs] at c0; revert c0; split <;> simp
    obtain ⟨b, o, sp⟩ := a
    simp only at hsp
    subst hsp
    refine ⟨b, o, rfl, World.block_lt_of_cell? W _ c0, fun k hk j hj => ?_⟩
    have := (hff k hk).2 j hj
    rwa [Addr.add_lit, Addr.add_lit] at this
end
end Go.Proofs.Ytecphnhdcphgbaa
