/-
  An argument that is a struct of a string and three ints, opened. Of no program. By an AI agent.
-/
import Derived.Test.YtejfdheiopejeaaClose
import Derived.Lib.SmallJoins
namespace Go.Proofs.Ytejfdheiopejeaa
open Go Go.RowKit Go.ChangeShapes Go.WideShapes Go.ChangeAt Go.Deep Go.Joins
section
variable {H : Type} {enc : TypeId × Value → H} {P : Program}
theorem open_range17 {t ts ti : TypeId} {f0 f1 f2 f3 : Field} (hs : P.underlying t = some (.struct #[f0, f1, f2, f3])) (k0 : f0.type = ts) (k1 : f1.type = ti) (k2 : f2.type = ti) (k3 : f3.type = ti) (hone : oneCellFields P #[f0, f1, f2, f3] = true) (hC : P.cellsOf t = 4)
    (hts : P.underlying ts = some .string) (hti : P.underlying ti = some (.int .i64)) {W : World} {r : Reach} {b0 : Nat} {v : Value} {d : DataW H} {ps : List MemPlace}
    (hval : Value.okWide P W r b0 t v) (h : DataW.Trod enc P W 0 (fun _ => true) true t v d ps) :
    ∃ (s : ByteArray) (c i k : Int) (y1 y2 y3 : DataW H), v = .agg #[.string s, .int .i64 c, .int .i64 i, .int .i64 k] ∧ d = .agg [.lit (.string s.data.toList), y1, y2, y3] := by
  obtain ⟨v0, v1, v2, v3, y0, y1, y2, y3, n, rfl, rfl, _, h0, h1, h2, h3⟩ := open_agg4 hs hone hC hval h
  rw [k0] at h0
  rw [k1] at h1
  rw [k2] at h2
  rw [k3] at h3
  obtain ⟨s, e0, x0, _⟩ := DataW.trod_string hts h0
  obtain ⟨c, e1, _, _⟩ := DataW.trod_int hti h1
  obtain ⟨i, e2, _, _⟩ := DataW.trod_int hti h2
  obtain ⟨k, e3, _, _⟩ := DataW.trod_int hti h3
  simp at e0 e1 e2 e3
  subst e0 e1 e2 e3
  exact ⟨s, c, i, k, y1.1, y2.1, y3.1, rfl, by rw [x0]⟩
end
end Go.Proofs.Ytejfdheiopejeaa
