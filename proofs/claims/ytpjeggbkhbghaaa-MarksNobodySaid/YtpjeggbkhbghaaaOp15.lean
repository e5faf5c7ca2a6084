/-
  Arguments of layer 15: a name, an element, lists of steps, lists of ints; opened. Of no program but for its types. By an AI agent.
-/
import Derived.Test.YtpjeggbkhbghaaaClose
import Derived.Lib.SmallJoins
import Derived.Deep.Slices
import Derived.Test.YtpjeggbkhbghaaaTF
namespace Go.Proofs.Ytpjeggbkhbghaaa
open Go Go.RowKit Go.ChangeShapes Go.WideShapes Go.ChangeAt Go.Deep Go.Joins
section
variable {H : Type} {enc : TypeId × Value → H} {P : Program}
/-- A slice whose elements lie as E says. -/
theorem open_row_of {α : Type} (E : Enc α) {t e : TypeId} (ht : P.underlying t = some (.slice e)) (hc : P.cellsOf e = E.size) {W : World}
    (hE : ∀ (n : Nat) (cs : List Value) (y : DataW H × List MemPlace), cs.length = E.size → DataW.trod enc P W 0 (fun _ => true) true n e cs = some y → ∃ x, cs = E.enc x)
    {r : Reach} {b0 : Nat} {v : Value} {d : DataW H} {ps : List MemPlace} (hval : Value.okWide P W r b0 t v) (h : DataW.Trod enc P W 0 (fun _ => true) true t v d ps) :
    ∃ A c L, v = .slice A L.length c ∧ RdR E W W.heap.size A c L := by
  obtain ⟨a0, len, cap, rfl⟩ := okWide_slice ht hval
  obtain ⟨fuel, hf⟩ := h
  rcases open_slice ht hf with ⟨hcs, hx⟩ | ⟨a, len', cap', m, n, D, Pl, hcs, _, hl, hm, hmm, hx, hcell⟩
  · simp [Value.cells] at hcs
    obtain ⟨rfl, rfl, rfl⟩ := hcs
    exact ⟨none, 0, [], rfl, RdR.nothing E _ _⟩
  · simp [Value.cells] at hcs
    obtain ⟨rfl, rfl, rfl⟩ := hcs
    simp only [if_true] at hmm
    subst hmm
    have key : ∀ i, i < len → ∃ x : α, ∀ j v, (E.enc x)[j]? = some v → W.cell? ((a.add (i * E.size)).add j) = some v := fun i hi => by
      obtain ⟨cs', h1, h2⟩ := hcell i (by omega)
      rw [hc] at h1
      obtain ⟨_, h3, h4⟩ := World.cells?_some h1
      obtain ⟨x, rfl⟩ := hE n cs' _ h3 h2
      refine ⟨x, fun j v hj => ?_⟩
      rw [h4 j (by rw [← E.len x]; exact (List.getElem?_eq_some_iff.1 hj).1), hj]
    obtain ⟨L, hL, hk⟩ : ∃ L : List α, L.length = len ∧ ∀ i x, L[i]? = some x → ∀ j v, (E.enc x)[j]? = some v → W.cell? ((a.add (i * E.size)).add j) = some v := by
      obtain ⟨f, hf⟩ : ∃ f : (i : Nat) → i < len → α, ∀ i hi j v, (E.enc (f i hi))[j]? = some v → W.cell? ((a.add (i * E.size)).add j) = some v := ⟨fun i hi => Classical.choose (key i hi), fun i hi => Classical.choose_spec (key i hi)⟩
      refine ⟨List.ofFn fun i : Fin len => f i.1 i.2, List.length_ofFn, fun i x hx => ?_⟩
      obtain ⟨hi, e⟩ := List.getElem?_eq_some_iff.1 hx
      rw [List.length_ofFn] at hi
      rw [List.getElem_ofFn] at e
      subst e
      exact hf i hi
    have hall : ∀ k v, (E.all L)[k]? = some v → W.cell? (a.add k) = some v := fun k v hv => by
      have hlt : k < L.length * E.size := by rw [← E.all_len]; exact (List.getElem?_eq_some_iff.1 hv).1
      have hp := E.pos
      have hq : k / E.size < L.length := (Nat.div_lt_iff_lt_mul hp).2 hlt
      obtain ⟨x, hx⟩ : ∃ x, L[k / E.size]? = some x := ⟨L[k / E.size], by rw [List.getElem?_eq_getElem hq]⟩
      have hr := Nat.mod_lt k hp
      have e1 : k = k / E.size * E.size + k % E.size := by rw [Nat.mul_comm]; exact (Nat.div_add_mod k E.size).symm
      rw [e1, E.all_get hx hr] at hv
      have h5 := hk _ x hx _ v hv
      have e2 : (a.add (k / E.size * E.size)).add (k % E.size) = a.add k := by
        rw [Addr.add_add, ← e1]
      rw [e2] at h5
      exact h5
    subst hL
    refine ⟨some a, _, L, rfl, ⟨hl, (fun h => nomatch h), fun hne => ?_⟩⟩
    obtain ⟨x, r9, rfl⟩ : ∃ x r9, L = x :: r9 := by cases L with | nil => exact absurd rfl hne | cons x r9 => exact ⟨x, r9, rfl⟩
    obtain ⟨v0, hv0⟩ : ∃ v0, (E.all (x :: r9))[0]? = some v0 := by
      have hlt : 0 < (E.all (x :: r9)).length := by rw [E.all_len, List.length_cons, Nat.succ_mul]; have := E.pos; omega
      exact ⟨(E.all (x :: r9))[0], by rw [List.getElem?_eq_getElem hlt]⟩
    have c0 := hall 0 v0 hv0
    have hsp : a.spot = none := by
      have : a.add 0 = a := by simp [Addr.add]
      rw [this] at c0
      unfold World.cell? at c0
      cases hs : a.spot with
      | none => rfl
      | some s => rw [hs] at c0; revert c0; split <;> simp
    obtain ⟨b, o, sp⟩ := a
    simp only at hsp
    subst hsp
    refine ⟨b, o, rfl, World.block_lt_of_cell? W _ c0, fun k v hk => ?_⟩
    have h9 := hall k v hk
    rw [Addr.add_lit] at h9
    exact h9
/-- The types of a step. -/
structure DoTy (P : Program) (ti tb tr tid tin td : TypeId) : Prop where
  int : P.underlying ti = some (.int .i64)
  bool : P.underlying tb = some .bool
  rune : P.underlying tr = some (.int .i32)
  id : ∃ f0 f1, P.underlying tid = some (.struct #[f0, f1]) ∧ (f0.type = ti ∧ f0.offset = 0) ∧ f1.type = ti ∧ f1.offset = 1
  ins : ∃ f0 f1 f2 f3, P.underlying tin = some (.struct #[f0, f1, f2, f3]) ∧ (f0.type = tid ∧ f0.offset = 0) ∧ (f1.type = tid ∧ f1.offset = 2) ∧ (f2.type = tb ∧ f2.offset = 4) ∧ f3.type = tr ∧ f3.offset = 5
  step : ∃ f0 f1 f2, P.underlying td = some (.struct #[f0, f1, f2]) ∧ (f0.type = ti ∧ f0.offset = 0) ∧ (f1.type = tin ∧ f1.offset = 1) ∧ f2.type = tid ∧ f2.offset = 7
  ci : P.cellsOf ti = 1
  cb : P.cellsOf tb = 1
  cr : P.cellsOf tr = 1
  cid : P.cellsOf tid = 2
  cin : P.cellsOf tin = 6
  cd : P.cellsOf td = 9
variable {ti tb tr tid tin td : TypeId} (T : DoTy P ti tb tr tid tin td) {W : World} {n : Nat} {y : DataW H × List MemPlace}
theorem int_cell15 {t : TypeId} {K : IntKind} (ht : P.underlying t = some (.int K)) {v : Value} (hf : DataW.trod enc P W 0 (fun _ => true) true n t [v] = some y) : ∃ x : Int, v = .int K x := by
  obtain ⟨x, e, _, _⟩ := DataW.trod_int ht hf
  simp at e
  exact ⟨x, e⟩
theorem bool_cell15 {t : TypeId} (ht : P.underlying t = some .bool) {v : Value} (hf : DataW.trod enc P W 0 (fun _ => true) true n t [v] = some y) : ∃ x : Bool, v = .bool x := by
  obtain ⟨x, e, _⟩ := DataW.trod_bool ht hf
  simp at e
  exact ⟨x, e⟩
include T
theorem id_cells {c0 c1 : Value} (hf : DataW.trod enc P W 0 (fun _ => true) true n tid [c0, c1] = some y) : ∃ x : IDt, c0 = .int .i64 x.1 ∧ c1 = .int .i64 x.2 := by
  obtain ⟨f0, f1, hs, ⟨k0, o0⟩, k1, o1⟩ := T.id
  obtain ⟨y0, y1, m, _, _, h0, h1⟩ := trod_struct2 hs hf
  rw [k0, o0, T.ci] at h0
  rw [k1, o1, T.ci] at h1
  obtain ⟨x0, e0⟩ := int_cell15 T.int h0
  obtain ⟨x1, e1⟩ := int_cell15 T.int h1
  exact ⟨(x0, x1), e0, e1⟩
theorem ins_cells {c0 c1 c2 c3 c4 c5 : Value} (hf : DataW.trod enc P W 0 (fun _ => true) true n tin [c0, c1, c2, c3, c4, c5] = some y) : ∃ x : Ins, [c0, c1, c2, c3, c4, c5] = insE.enc x := by
  obtain ⟨f0, f1, f2, f3, hs, ⟨k0, o0⟩, ⟨k1, o1⟩, ⟨k2, o2⟩, k3, o3⟩ := T.ins
  obtain ⟨y0, y1, y2, y3, m, _, _, h0, h1, h2, h3⟩ := trod_struct4 hs hf
  rw [k0, o0, T.cid] at h0
  rw [k1, o1, T.cid] at h1
  rw [k2, o2, T.cb] at h2
  rw [k3, o3, T.cr] at h3
  obtain ⟨i, rfl, rfl⟩ := id_cells T h0
  obtain ⟨p, rfl, rfl⟩ := id_cells T h1
  obtain ⟨s, rfl⟩ := bool_cell15 T.bool h2
  obtain ⟨c, rfl⟩ := int_cell15 T.rune h3
  exact ⟨⟨i, p, s, c⟩, rfl⟩
theorem do_cells {c0 c1 c2 c3 c4 c5 c6 c7 c8 : Value} (hf : DataW.trod enc P W 0 (fun _ => true) true n td [c0, c1, c2, c3, c4, c5, c6, c7, c8] = some y) : ∃ x : Dot, [c0, c1, c2, c3, c4, c5, c6, c7, c8] = doE.enc x := by
  obtain ⟨f0, f1, f2, hs, ⟨k0, o0⟩, ⟨k1, o1⟩, k2, o2⟩ := T.step
  obtain ⟨y0, y1, y2, m, _, _, h0, h1, h2⟩ := trod_struct3 hs hf
  rw [k0, o0, T.ci] at h0
  rw [k1, o1, T.cin] at h1
  rw [k2, o2, T.cid] at h2
  obtain ⟨k, rfl⟩ := int_cell15 T.int h0
  obtain ⟨x, e⟩ := ins_cells T h1
  obtain ⟨i, rfl, rfl⟩ := id_cells T h2
  simp only [insE, List.cons.injEq, and_true] at e
  obtain ⟨rfl, rfl, rfl, rfl, rfl, rfl⟩ := e
  exact ⟨⟨k, x, i⟩, rfl⟩
variable {r : Reach} {b0 : Nat} {v : Value} {d : DataW H} {ps : List MemPlace}
theorem open_id (hval : Value.okWide P W r b0 tid v) (h : DataW.Trod enc P W 0 (fun _ => true) true tid v d ps) : ∃ x : IDt, v = idV x := by
  obtain ⟨f0, f1, hs, _⟩ := T.id
  obtain ⟨cs, rfl, hsz⟩ := okWide_struct hs hval
  rw [T.cid] at hsz
  obtain ⟨l⟩ := cs
  obtain ⟨fuel, hf⟩ := h
  match l, hsz with
  | [c0, c1], _ =>
    obtain ⟨x, rfl, rfl⟩ := id_cells T hf
    exact ⟨x, rfl⟩
theorem open_ins (hval : Value.okWide P W r b0 tin v) (h : DataW.Trod enc P W 0 (fun _ => true) true tin v d ps) : ∃ x : Ins, v = insV x := by
  obtain ⟨f0, f1, f2, f3, hs, _⟩ := T.ins
  obtain ⟨cs, rfl, hsz⟩ := okWide_struct hs hval
  rw [T.cin] at hsz
  obtain ⟨l⟩ := cs
  obtain ⟨fuel, hf⟩ := h
  match l, hsz with
  | [c0, c1, c2, c3, c4, c5], _ =>
    obtain ⟨x, e⟩ := ins_cells T hf
    exact ⟨x, congrArg (fun l => Value.agg ⟨l⟩) e⟩
theorem open_dos {t : TypeId} (ht : P.underlying t = some (.slice td)) (hval : Value.okWide P W r b0 t v) (h : DataW.Trod enc P W 0 (fun _ => true) true t v d ps) : ∃ A c L, v = .slice A (L : List Dot).length c ∧ RdR doE W W.heap.size A c L := by
  refine open_row_of doE ht T.cd (fun n cs y hl hf => ?_) hval h
  match cs, hl with
  | [c0, c1, c2, c3, c4, c5, c6, c7, c8], _ => exact do_cells T hf
end
/-- An int of a list. -/
def intE : Enc Int := ⟨fun x => [.int .i64 x], 1, fun _ => rfl, fun x v h => by simp at h; rw [h]; rfl, by decide⟩
theorem open_introw {H : Type} {enc : TypeId × Value → H} {P : Program} {t e : TypeId} (ht : P.underlying t = some (.slice e)) (he : P.underlying e = some (.int .i64)) (hc : P.cellsOf e = 1) {W : World} {r : Reach} {b0 : Nat} {v : Value} {d : DataW H} {ps : List MemPlace}
    (hval : Value.okWide P W r b0 t v) (h : DataW.Trod enc P W 0 (fun _ => true) true t v d ps) : ∃ A c L, v = .slice A (L : List Int).length c ∧ RdR intE W W.heap.size A c L := by
  refine open_row_of intE ht hc (fun n cs y hl hf => ?_) hval h
  match cs, hl with
  | [c0], _ =>
    obtain ⟨x, e⟩ := int_cell15 he hf
    exact ⟨x, by rw [e]; rfl⟩
end Go.Proofs.Ytpjeggbkhbghaaa
