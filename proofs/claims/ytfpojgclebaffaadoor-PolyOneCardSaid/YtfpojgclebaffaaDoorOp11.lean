/-
  An argument that is an array of bytes: opened. Of no program. By an AI agent.
-/
import Derived.Test.YtfpojgclebaffaaDoorClose
import Derived.Test.YtfpojgclebaffaaDoorMA
import Derived.OpenShut
namespace Go.Proofs.YtfpojgclebaffaaDoor
open Go Go.RowKit Go.ChangeShapes Go.WideShapes Go.ChangeAt
section
variable {H : Type} {enc : TypeId × Value → H} {P : Program}
theorem open_ba {t e : TypeId} {n : Nat} (ht : P.underlying t = some (.array n e)) (he : P.underlying e = some (.int .u8)) (hc : P.cellsOf e = 1) (hct : P.cellsOf t = n) {W : World} {r : Reach} {b0 : Nat} {v : Value} {d : DataW H} {ps : List MemPlace}
    (hval : Value.okWide P W r b0 t v) (h : DataW.Trod enc P W 0 (fun _ => true) true t v d ps) : ∃ bs : List UInt8, bs.length = n ∧ v = .agg (bs.map bv).toArray := by
  obtain ⟨cs, rfl, hsz, _⟩ : ∃ cs, v = .agg cs ∧ cs.size = P.cellsOf t ∧ Row.okWide P W r b0 t cs := by
    simpa [Value.okWide, ht] using hval
  rw [hct] at hsz
  obtain ⟨l⟩ := cs
  obtain ⟨fuel, hf⟩ := h
  obtain ⟨xs, m, _, _, _, hl, hel⟩ := DataW.trod_array ht hf
  have hb : ∀ (i : Nat) (hi : i < l.length), ∃ b : UInt8, l[i] = bv b := fun i hi => by
    have hi' : i < n := by rw [← hsz]; exact hi
    have h1 := hel i hi'
    rw [hc, Nat.mul_one] at h1
    have h2 : xs[i]? = some (xs[i]'(by omega)) := List.getElem?_eq_getElem (by omega)
    have h3 : (l.drop i).take 1 = [l[i]] := by
      rw [List.drop_eq_getElem_cons hi]
      rfl
    change DataW.trod enc P W 0 (fun _ => true) true m e ((l.drop i).take 1) = xs[i]? at h1
    rw [h2, h3] at h1
    obtain ⟨x, e0, _, w0⟩ := DataW.trod_int he h1
    have e1 : l[i] = .int .u8 x := by simpa using e0
    have hx : 0 ≤ x ∧ x ≤ 255 := by simpa [Lit.wf, IntKind.min, IntKind.max, IntKind.signed, IntKind.bits] using w0
    refine ⟨UInt8.ofNat x.toNat, ?_⟩
    rw [e1]
    unfold bv
    congr 1
    simp
    omega
  have hs : l.length = n := hsz
  refine ⟨l.map fun v => match v with | .int _ z => UInt8.ofNat z.toNat | _ => 0, by rw [List.length_map, hs], ?_⟩
  congr 1
  congr 1
  refine List.ext_getElem (by simp) fun i h1 h2 => ?_
  obtain ⟨b, e⟩ := hb i h1
  simp [e, bv]
end
end Go.Proofs.YtfpojgclebaffaaDoor
