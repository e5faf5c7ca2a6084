/-
  Arguments of layer 16: a page (three rows), a mark, rows of marks; opened. Of no program but for its types. By an AI agent.
-/
import Derived.Test.YtpjeggbkhbghaaaOp15
import Derived.Test.YtpjeggbkhbghaaaMq1
namespace Go.Proofs.Ytpjeggbkhbghaaa
open Go Go.RowKit Go.ChangeShapes Go.WideShapes Go.ChangeAt Go.Deep Go.Joins
section
variable {H : Type} {enc : TypeId × Value → H} {P : Program}
/-- A cell that is a slice whose elements lie as E says. -/
theorem row_cell_of {α : Type} (E : Enc α) {t e : TypeId} (ht : P.underlying t = some (.slice e)) (hc : P.cellsOf e = E.size) {W : World}
    (hE : ∀ (n : Nat) (cs : List Value) (y : DataW H × List MemPlace), cs.length = E.size → DataW.trod enc P W 0 (fun _ => true) true n e cs = some y → ∃ x, cs = E.enc x)
    {v : Value} {n : Nat} {y : DataW H × List MemPlace} (hf : DataW.trod enc P W 0 (fun _ => true) true n t [v] = some y) :
    ∃ A c L, v = .slice A L.length c ∧ RdR E W W.heap.size A c L := by
  rcases open_slice ht hf with ⟨hcs, hx⟩ | ⟨a, len, cap, m, n, D, Pl, hcs, _, hl, hm, hmm, hx, hcell⟩
  · simp at hcs
    subst hcs
    exact ⟨none, 0, [], rfl, RdR.nothing E _ _⟩
  · simp at hcs
    subst hcs
    simp only [if_true] at hmm
    subst hmm
    have key : ∀ i, i < len → ∃ x : α, ∀ j v, (E.enc x)[j]? = some v → W.cell? ((a.add (i * E.size)).add j) = some v := fun i hi => by
      obtain ⟨cs', h1, h2⟩ := hcell i (by omega)
      rw [hc] at h1
      obtain ⟨_, h3, h4⟩ := World.cells?_some h1
      obtain ⟨x, rfl⟩ := hE n cs' _ h3 h2
      refine ⟨x, fun j v hj => ?_⟩
      rw [h4 j (by rw [← E.len x]; exact (List.getElem?_eq_some_iff.1 hj).1), hj]
    obtain ⟨L, hL, hk⟩ : ∃ L : List α, L.length = len ∧ ∀ i x, L[i]? = some x → ∀ j v, (E.enc x)[j]? = some v → W.cell? ((a.add (i * E.size)).add j) = some v := by
      obtain ⟨f, hf⟩ : ∃ f : (i : Nat) → i < len → α, ∀ i hi j v, (E.enc (f i hi))[j]? = some v → W.cell? ((a.add (i * E.size)).add j) = some v := ⟨fun i hi => Classical.choose (key i hi), fun i hi => Classical.choose_spec (key i hi)⟩
      refine ⟨List.ofFn fun i : Fin len => f i.1 i.2, List.length_ofFn, fun i x hx => ?_⟩
      obtain ⟨hi, e⟩ := List.getElem?_eq_some_iff.1 hx
      rw [List.length_ofFn] at hi
      rw [List.getElem_ofFn] at e
      subst e
      exact hf i hi
    have hall : ∀ k v, (E.all L)[k]? = some v → W.cell? (a.add k) = some v := fun k v hv => by
      have hlt : k < L.length * E.size := by rw [← E.all_len]; exact (List.getElem?_eq_some_iff.1 hv).1
      have hp := E.pos
      have hq : k / E.size < L.length := (Nat.div_lt_iff_lt_mul hp).2 hlt
      obtain ⟨x, hx⟩ : ∃ x, L[k / E.size]? = some x := ⟨L[k / E.size], by rw [List.getElem?_eq_getElem hq]⟩
      have hr := Nat.mod_lt k hp
      have e1 : k = k / E.size * E.size + k % E.size := by rw [Nat.mul_comm]; exact (Nat.div_add_mod k E.size).symm
      rw [e1, E.all_get hx hr] at hv
      have h5 := hk _ x hx _ v hv
      have e2 : (a.add (k / E.size * E.size)).add (k % E.size) = a.add k := by
        rw [Addr.add_add, ← e1]
      rw [e2] at h5
      exact h5
    subst hL
    refine ⟨some a, _, L, rfl, ⟨hl, (fun h => nomatch h), fun hne => ?_⟩⟩
    obtain ⟨x, r9, rfl⟩ : ∃ x r9, L = x :: r9 := by cases L with | nil => exact absurd rfl hne | cons x r9 => exact ⟨x, r9, rfl⟩
    obtain ⟨v0, hv0⟩ : ∃ v0, (E.all (x :: r9))[0]? = some v0 := by
      have hlt : 0 < (E.all (x :: r9)).length := by rw [E.all_len, List.length_cons, Nat.succ_mul]; have := E.pos; omega
      exact ⟨(E.all (x :: r9))[0], by rw [List.getElem?_eq_getElem hlt]⟩
    have c0 := hall 0 v0 hv0
    have hsp : a.spot = none := by
      have : a.add 0 = a := by simp [Addr.add]
      rw [this] at c0
      unfold World.cell? at c0
      cases hs : a.spot with
      | none => rfl
      | some s => rw [hs] at c0; revert c0; split <;> simp
    obtain ⟨b, o, sp⟩ := a
    simp only at hsp
    subst hsp
    refine ⟨b, o, rfl, World.block_lt_of_cell? W _ c0, fun k v hk => ?_⟩
    have h9 := hall k v hk
    rw [Addr.add_lit] at h9
    exact h9
/-- The types of a page. -/
structure MkTy (P : Program) (ti tb tr tid tin tan tm : TypeId) : Prop where
  int : P.underlying ti = some (.int .i64)
  bool : P.underlying tb = some .bool
  rune : P.underlying tr = some (.int .i32)
  id : ∃ f0 f1, P.underlying tid = some (.struct #[f0, f1]) ∧ (f0.type = ti ∧ f0.offset = 0) ∧ f1.type = ti ∧ f1.offset = 1
  ins : ∃ f0 f1 f2 f3, P.underlying tin = some (.struct #[f0, f1, f2, f3]) ∧ (f0.type = tid ∧ f0.offset = 0) ∧ (f1.type = tid ∧ f1.offset = 2) ∧ (f2.type = tb ∧ f2.offset = 4) ∧ f3.type = tr ∧ f3.offset = 5
  anc : ∃ f0 f1, P.underlying tan = some (.struct #[f0, f1]) ∧ (f0.type = tid ∧ f0.offset = 0) ∧ f1.type = tb ∧ f1.offset = 2
  mrk : ∃ f0 f1 f2 f3 f4 f5, P.underlying tm = some (.struct #[f0, f1, f2, f3, f4, f5]) ∧ (f0.type = ti ∧ f0.offset = 0) ∧ (f1.type = ti ∧ f1.offset = 1) ∧ (f2.type = tan ∧ f2.offset = 2) ∧ (f3.type = tan ∧ f3.offset = 5) ∧ (f4.type = ti ∧ f4.offset = 8) ∧ f5.type = ti ∧ f5.offset = 9
  ci : P.cellsOf ti = 1
  cb : P.cellsOf tb = 1
  cr : P.cellsOf tr = 1
  cid : P.cellsOf tid = 2
  cin : P.cellsOf tin = 6
  can : P.cellsOf tan = 3
  cm : P.cellsOf tm = 10
variable {W : World} {n : Nat} {y : DataW H × List MemPlace}
theorem trod_struct6 {t : TypeId} {f0 f1 f2 f3 f4 f5 : Field} {fuel : Nat} {cs : List Value} {x : DataW H × List MemPlace} (ht : P.underlying t = some (.struct #[f0, f1, f2, f3, f4, f5])) (h : DataW.trod enc P W 0 (fun _ => true) true fuel t cs = some x) :
    ∃ y0 y1 y2 y3 y4 y5 n, DataW.trod enc P W 0 (fun _ => true) true n f0.type ((cs.drop f0.offset).take (P.cellsOf f0.type)) = some y0 ∧
      DataW.trod enc P W 0 (fun _ => true) true n f1.type ((cs.drop f1.offset).take (P.cellsOf f1.type)) = some y1 ∧ DataW.trod enc P W 0 (fun _ => true) true n f2.type ((cs.drop f2.offset).take (P.cellsOf f2.type)) = some y2 ∧
      DataW.trod enc P W 0 (fun _ => true) true n f3.type ((cs.drop f3.offset).take (P.cellsOf f3.type)) = some y3 ∧ DataW.trod enc P W 0 (fun _ => true) true n f4.type ((cs.drop f4.offset).take (P.cellsOf f4.type)) = some y4 ∧
      DataW.trod enc P W 0 (fun _ => true) true n f5.type ((cs.drop f5.offset).take (P.cellsOf f5.type)) = some y5 := by
  obtain ⟨xs, n, _, rfl, hl, hlen, hf⟩ := DataW.trod_struct ht h
  match xs, hlen with
  | [y0, y1, y2, y3, y4, y5], _ => exact ⟨y0, y1, y2, y3, y4, y5, n, by simpa using hf 0 f0 rfl, by simpa using hf 1 f1 rfl, by simpa using hf 2 f2 rfl, by simpa using hf 3 f3 rfl, by simpa using hf 4 f4 rfl, by simpa using hf 5 f5 rfl⟩
variable {ti tb tr tid tin tan tm : TypeId} (T : MkTy P ti tb tr tid tin tan tm)
include T
theorem id_cells16 {c0 c1 : Value} (hf : DataW.trod enc P W 0 (fun _ => true) true n tid [c0, c1] = some y) : ∃ x : IDt, c0 = .int .i64 x.1 ∧ c1 = .int .i64 x.2 := by
  obtain ⟨f0, f1, hs, ⟨k0, o0⟩, k1, o1⟩ := T.id
  obtain ⟨y0, y1, m, _, _, h0, h1⟩ := trod_struct2 hs hf
  rw [k0, o0, T.ci] at h0
  rw [k1, o1, T.ci] at h1
  obtain ⟨x0, e0⟩ := int_cell15 T.int h0
  obtain ⟨x1, e1⟩ := int_cell15 T.int h1
  exact ⟨(x0, x1), e0, e1⟩
theorem ins_cells16 {c0 c1 c2 c3 c4 c5 : Value} (hf : DataW.trod enc P W 0 (fun _ => true) true n tin [c0, c1, c2, c3, c4, c5] = some y) : ∃ x : Ins, [c0, c1, c2, c3, c4, c5] = insE.enc x := by
  obtain ⟨f0, f1, f2, f3, hs, ⟨k0, o0⟩, ⟨k1, o1⟩, ⟨k2, o2⟩, k3, o3⟩ := T.ins
  obtain ⟨y0, y1, y2, y3, m, _, _, h0, h1, h2, h3⟩ := trod_struct4 hs hf
  rw [k0, o0, T.cid] at h0
  rw [k1, o1, T.cid] at h1
  rw [k2, o2, T.cb] at h2
  rw [k3, o3, T.cr] at h3
  obtain ⟨i, rfl, rfl⟩ := id_cells16 T h0
  obtain ⟨p, rfl, rfl⟩ := id_cells16 T h1
  obtain ⟨s, rfl⟩ := bool_cell15 T.bool h2
  obtain ⟨c, rfl⟩ := int_cell15 T.rune h3
  exact ⟨⟨i, p, s, c⟩, rfl⟩
theorem anc_cells16 {c0 c1 c2 : Value} (hf : DataW.trod enc P W 0 (fun _ => true) true n tan [c0, c1, c2] = some y) : ∃ x : Anc, c0 = .int .i64 x.id.1 ∧ c1 = .int .i64 x.id.2 ∧ c2 = .bool x.behind := by
  obtain ⟨f0, f1, hs, ⟨k0, o0⟩, k1, o1⟩ := T.anc
  obtain ⟨y0, y1, m, _, _, h0, h1⟩ := trod_struct2 hs hf
  rw [k0, o0, T.cid] at h0
  rw [k1, o1, T.cb] at h1
  obtain ⟨i, rfl, rfl⟩ := id_cells16 T h0
  obtain ⟨s, rfl⟩ := bool_cell15 T.bool h1
  exact ⟨⟨i, s⟩, rfl, rfl, rfl⟩
theorem mrk_cells16 {c0 c1 c2 c3 c4 c5 c6 c7 c8 c9 : Value} (hf : DataW.trod enc P W 0 (fun _ => true) true n tm [c0, c1, c2, c3, c4, c5, c6, c7, c8, c9] = some y) : ∃ x : Mrk, [c0, c1, c2, c3, c4, c5, c6, c7, c8, c9] = mrkE.enc x := by
  obtain ⟨f0, f1, f2, f3, f4, f5, hs, ⟨k0, o0⟩, ⟨k1, o1⟩, ⟨k2, o2⟩, ⟨k3, o3⟩, ⟨k4, o4⟩, k5, o5⟩ := T.mrk
  obtain ⟨y0, y1, y2, y3, y4, y5, m, h0, h1, h2, h3, h4, h5⟩ := trod_struct6 hs hf
  rw [k0, o0, T.ci] at h0
  rw [k1, o1, T.ci] at h1
  rw [k2, o2, T.can] at h2
  rw [k3, o3, T.can] at h3
  rw [k4, o4, T.ci] at h4
  rw [k5, o5, T.ci] at h5
  obtain ⟨x0, rfl⟩ := int_cell15 T.int h0
  obtain ⟨x1, rfl⟩ := int_cell15 T.int h1
  obtain ⟨a, rfl, rfl, rfl⟩ := anc_cells16 T h2
  obtain ⟨b, rfl, rfl, rfl⟩ := anc_cells16 T h3
  obtain ⟨x4, rfl⟩ := int_cell15 T.int h4
  obtain ⟨x5, rfl⟩ := int_cell15 T.int h5
  exact ⟨⟨x0, x1, a, b, x4, x5⟩, rfl⟩
variable {r : Reach} {b0 : Nat} {v : Value} {d : DataW H} {ps : List MemPlace}
theorem open_id16 (hval : Value.okWide P W r b0 tid v) (h : DataW.Trod enc P W 0 (fun _ => true) true tid v d ps) : ∃ x : IDt, v = idV x := by
  obtain ⟨f0, f1, hs, _⟩ := T.id
  obtain ⟨cs, rfl, hsz⟩ := okWide_struct hs hval
  rw [T.cid] at hsz
  obtain ⟨l⟩ := cs
  obtain ⟨fuel, hf⟩ := h
  match l, hsz with
  | [c0, c1], _ =>
    obtain ⟨x, rfl, rfl⟩ := id_cells16 T hf
    exact ⟨x, rfl⟩
theorem open_mrk16 (hval : Value.okWide P W r b0 tm v) (h : DataW.Trod enc P W 0 (fun _ => true) true tm v d ps) : ∃ x : Mrk, v = mrkV x := by
  obtain ⟨f0, f1, f2, f3, f4, f5, hs, _⟩ := T.mrk
  obtain ⟨cs, rfl, hsz⟩ := okWide_struct hs hval
  rw [T.cm] at hsz
  obtain ⟨l⟩ := cs
  obtain ⟨fuel, hf⟩ := h
  match l, hsz with
  | [c0, c1, c2, c3, c4, c5, c6, c7, c8, c9], _ =>
    obtain ⟨x, e⟩ := mrk_cells16 T hf
    exact ⟨x, congrArg (fun l => Value.agg ⟨l⟩) e⟩
theorem open_marks16 {t : TypeId} (ht : P.underlying t = some (.slice tm)) (hval : Value.okWide P W r b0 t v) (h : DataW.Trod enc P W 0 (fun _ => true) true t v d ps) : ∃ A c L, v = .slice A (L : List Mrk).length c ∧ RdR mrkE W W.heap.size A c L := by
  refine open_row_of mrkE ht T.cm (fun n cs y hl hf => ?_) hval h
  match cs, hl with
  | [c0, c1, c2, c3, c4, c5, c6, c7, c8, c9], _ => exact mrk_cells16 T hf
theorem open_page16 {t t0 t1 t2 : TypeId} {f0 f1 f2 : Field} (hs : P.underlying t = some (.struct #[f0, f1, f2])) (k0 : f0.type = t0) (k1 : f1.type = t1) (k2 : f2.type = t2) (hone : oneCellFields P #[f0, f1, f2] = true) (hC : P.cellsOf t = 3)
    (h0 : P.underlying t0 = some (.slice tin)) (h1 : P.underlying t1 = some (.slice tid)) (h2 : P.underlying t2 = some (.slice tm)) (hval : Value.okWide P W r b0 t v) (h : DataW.Trod enc P W 0 (fun _ => true) true t v d ps) :
    ∃ A1 c1 es A2 c2 ds A3 c3 ms, v = pageV A1 (es : List Ins).length c1 A2 (ds : List IDt).length c2 A3 (ms : List Mrk).length c3 ∧ PgR W A1 es.length c1 A2 ds.length c2 A3 ms.length c3 es ds ms := by
  obtain ⟨v0, v1, v2, y0, y1, y2, n, rfl, _, _, g0, g1, g2⟩ := open_agg3 hs hone hC hval h
  rw [k0] at g0
  rw [k1] at g1
  rw [k2] at g2
  obtain ⟨A1, c1, es, rfl, r1⟩ := row_cell_of insE h0 T.cin (fun n cs y hl hf => by
    match cs, hl with
    | [c0, c1, c2, c3, c4, c5], _ => exact ins_cells16 T hf) g0
  obtain ⟨A2, c2, ds, rfl, r2⟩ := row_cell_of idE h1 T.cid (fun n cs y hl hf => by
    match cs, hl with
    | [c0, c1], _ =>
      obtain ⟨x, rfl, rfl⟩ := id_cells16 T hf
      exact ⟨x, rfl⟩) g1
  obtain ⟨A3, c3, ms, rfl, r3⟩ := row_cell_of mrkE h2 T.cm (fun n cs y hl hf => by
    match cs, hl with
    | [c0, c1, c2, c3, c4, c5, c6, c7, c8, c9], _ => exact mrk_cells16 T hf) g2
  exact ⟨A1, c1, es, A2, c2, ds, A3, c3, ms, rfl, ⟨r1, r2, r3, rfl, rfl, rfl⟩⟩
end
theorem mkTy : MkTy Try.prog 3 4 21 27 74 29 31 where
  int := Try.underlying3
  bool := Try.underlying4
  rune := Try.underlying21
  id := ⟨_, _, Try.underlying27, ⟨rfl, rfl⟩, rfl, rfl⟩
  ins := ⟨_, _, _, _, Try.underlying74, ⟨rfl, rfl⟩, ⟨rfl, rfl⟩, ⟨rfl, rfl⟩, rfl, rfl⟩
  anc := ⟨_, _, Try.underlying29, ⟨rfl, rfl⟩, rfl, rfl⟩
  mrk := ⟨_, _, _, _, _, _, Try.underlying31, ⟨rfl, rfl⟩, ⟨rfl, rfl⟩, ⟨rfl, rfl⟩, ⟨rfl, rfl⟩, ⟨rfl, rfl⟩, rfl, rfl⟩
  ci := by kernel_rfl
  cb := by kernel_rfl
  cr := by kernel_rfl
  cid := by kernel_rfl
  cin := by kernel_rfl
  can := by kernel_rfl
  cm := by kernel_rfl
end Go.Proofs.Ytpjeggbkhbghaaa
