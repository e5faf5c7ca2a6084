/-
  Arguments of layer 19: a question (a struct with nested structs of an int and a slice of bytes); a struct of three slices of bytes and an int: opened, with their lengths. Of no program but for its types. By an AI agent.
-/
import Derived.Test.YtdddcgkgellbgabOp10
namespace Go.Proofs.Ytdddcgkgellbgab
open Go Go.RowKit Go.ChangeShapes Go.WideShapes Go.ChangeAt Go.Deep Go.Joins
section
variable {H : Type} {enc : TypeId × Value → H} {P : Program}
theorem int64_of19 {x : Int} (w : (Lit.int .i64 x).wf = true) : -9223372036854775808 ≤ x ∧ x ≤ 9223372036854775807 := by
  simpa [Lit.wf, IntKind.min, IntKind.max, IntKind.signed, IntKind.bits] using w
/-- The types of a question. -/
structure AskTy19 (P : Program) (ti tb te tp ta : TypeId) : Prop where
  int : P.underlying ti = some (.int .i64)
  row : P.underlying tb = some (.slice te)
  byte : P.underlying te = some (.int .u8)
  part : ∃ f0 f1, P.underlying tp = some (.struct #[f0, f1]) ∧ (f0.type = ti ∧ f0.offset = 0) ∧ f1.type = tb ∧ f1.offset = 1
  ask : ∃ f0 f1 f2 f3 f4, P.underlying ta = some (.struct #[f0, f1, f2, f3, f4]) ∧ (f0.type = ti ∧ f0.offset = 0) ∧ (f1.type = ti ∧ f1.offset = 1) ∧ (f2.type = tp ∧ f2.offset = 2) ∧ (f3.type = tp ∧ f3.offset = 4) ∧ f4.type = tp ∧ f4.offset = 6
  ci : P.cellsOf ti = 1
  cb : P.cellsOf tb = 1
  ce : P.cellsOf te = 1
  by_ : P.bytesOf te = 1
  cp : P.cellsOf tp = 2
  ca : P.cellsOf ta = 8
variable {ti tb te tp ta : TypeId} (T : AskTy19 P ti tb te tp ta) {W : World} {n : Nat} {y : DataW H × List MemPlace}
include T
theorem part_cells19 {c0 c1 : Value} (hf : DataW.trod enc P W 0 (fun _ => true) true n tp [c0, c1] = some y) :
    ∃ (f : Int) (A : Option Addr) (c : Nat) (bs : List UInt8), c0 = .int .i64 f ∧ c1 = .slice A bs.length c ∧ Rd W W.heap.size A c bs ∧ ((DataW.weights P tp y.1).all (· ≤ reachBytes) = true → bs.length ≤ 140737488351232) := by
  obtain ⟨f0, f1, hs, ⟨k0, o0⟩, k1, o1⟩ := T.part
  obtain ⟨y0, y1, m, rfl, _, h0, h1⟩ := trod_struct2 hs hf
  rw [k0, o0, T.ci] at h0
  rw [k1, o1, T.cb] at h1
  obtain ⟨f, e0, _, _⟩ := DataW.trod_int T.int h0
  obtain ⟨A, c, bs, e1, r, s⟩ := open_bytes_cell2 T.row T.byte T.ce (v := c1) h1
  simp at e0
  refine ⟨f, A, c, bs, e0, e1, r, fun hw => ?_⟩
  have hw2 : (DataW.weightsEach P [ti, tb] [y0.1, y1.1]).all (· ≤ reachBytes) = true := by
    unfold DataW.weights at hw
    rw [hs] at hw
    simpa [k0, k1] using hw
  exact bytes_reach hw2 (j := 1) rfl T.row T.by_ rfl s
theorem open_ask19 {r : Reach} {b0 : Nat} {v : Value} {d : DataW H} {ps : List MemPlace} (hval : Value.okWide P W r b0 ta v) (h : DataW.Trod enc P W 0 (fun _ => true) true ta v d ps)
    {ts : List TypeId} {ds : List (DataW H)} {j : Nat} (hsz : (DataW.weightsEach P ts ds).all (· ≤ reachBytes) = true) (htj : ts[j]? = some ta) (hdj : ds[j]? = some d) :
    ∃ (k n f1 : Int) (A1 : Option Addr) (c1 : Nat) (x1 : List UInt8) (f2 : Int) (A2 : Option Addr) (c2 : Nat) (x2 : List UInt8) (f3 : Int) (A3 : Option Addr) (c3 : Nat) (x3 : List UInt8),
      v = .agg #[.int .i64 k, .int .i64 n, .int .i64 f1, .slice A1 x1.length c1, .int .i64 f2, .slice A2 x2.length c2, .int .i64 f3, .slice A3 x3.length c3] ∧ n ≤ 9223372036854775807 ∧ Rd W W.heap.size A1 c1 x1 ∧ Rd W W.heap.size A2 c2 x2 ∧ Rd W W.heap.size A3 c3 x3 ∧
      x1.length ≤ 140737488351232 ∧ x2.length ≤ 140737488351232 ∧ x3.length ≤ 140737488351232 := by
  obtain ⟨f0, f1, f2, f3, f4, hs, ⟨k0, o0⟩, ⟨k1, o1⟩, ⟨k2, o2⟩, ⟨k3, o3⟩, k4, o4⟩ := T.ask
  obtain ⟨cs, rfl, hszc⟩ := okWide_struct hs hval
  rw [T.ca] at hszc
  obtain ⟨l⟩ := cs
  obtain ⟨fuel, hf⟩ := h
  match l, hszc with
  | [a0, a1, a2, a3, a4, a5, a6, a7], _ =>
    obtain ⟨xs, m, _, hx, hl, hlen, hq⟩ := DataW.trod_struct hs hf
    match xs, hlen with
    | [y0, y1, y2, y3, y4], _ =>
      have h0 := hq 0 f0 rfl
      have h1 := hq 1 f1 rfl
      have h2 := hq 2 f2 rfl
      have h3 := hq 3 f3 rfl
      have h4 := hq 4 f4 rfl
      rw [k0, o0, T.ci] at h0
      rw [k1, o1, T.ci] at h1
      rw [k2, o2, T.cp] at h2
      rw [k3, o3, T.cp] at h3
      rw [k4, o4, T.cp] at h4
      obtain ⟨z0, e0, _, _⟩ := DataW.trod_int T.int (show DataW.trod enc P W 0 (fun _ => true) true m ti [a0] = some y0 from h0)
      obtain ⟨z1, e1, _, w1⟩ := DataW.trod_int T.int (show DataW.trod enc P W 0 (fun _ => true) true m ti [a1] = some y1 from h1)
      simp only [List.cons.injEq, and_true] at e0 e1
      subst e0 e1
      obtain ⟨g2, A2, c2, x2, rfl, rfl, r2, s2⟩ := part_cells19 T (c0 := a2) (c1 := a3) h2
      obtain ⟨g3, A3, c3, x3, rfl, rfl, r3, s3⟩ := part_cells19 T (c0 := a4) (c1 := a5) h3
      obtain ⟨g4, Ad, c4, x4, rfl, rfl, r4, s4⟩ := part_cells19 T (c0 := a6) (c1 := a7) h4
      have hd : d = .agg [y0.1, y1.1, y2.1, y3.1, y4.1] := by have := congrArg Prod.fst hx; simpa using this
      subst hd
      have hw : ∀ (i : Nat) (t : TypeId) (z : DataW H), [ti, ti, tp, tp, tp][i]? = some t → [y0.1, y1.1, y2.1, y3.1, y4.1][i]? = some z → (DataW.weights P t z).all (· ≤ reachBytes) = true := by
        intro i t z hi hz
        refine List.all_eq_true.2 fun q hq' => List.all_eq_true.1 hsz q (DataW.weights_mem_each htj hdj q ?_)
        unfold DataW.weights
        rw [hs]
        simp only [List.map_cons, List.map_nil, k0, k1, k2, k3, k4]
        exact DataW.weights_mem_each hi hz q hq'
      exact ⟨z0, z1, g2, A2, c2, x2, g3, A3, c3, x3, g4, Ad, c4, x4, rfl, (int64_of19 w1).2, r2, r3, r4, s2 (hw 2 tp _ rfl rfl), s3 (hw 3 tp _ rfl rfl), s4 (hw 4 tp _ rfl rfl)⟩
end
section
variable {H : Type} {enc : TypeId × Value → H} {P : Program}
theorem open_both19 {t tb te ti : TypeId} {f0 f1 f2 f3 : Field} (hs : P.underlying t = some (.struct #[f0, f1, f2, f3])) (k0 : f0.type = tb) (k1 : f1.type = tb) (k2 : f2.type = tb) (k3 : f3.type = ti) (hone : oneCellFields P #[f0, f1, f2, f3] = true) (hC : P.cellsOf t = 4)
    (ht : P.underlying tb = some (.slice te)) (he : P.underlying te = some (.int .u8)) (hti : P.underlying ti = some (.int .i64)) (hc : P.cellsOf te = 1) {W : World} {r : Reach} {b0 : Nat} {v : Value} {d : DataW H} {ps : List MemPlace}
    (hval : Value.okWide P W r b0 t v) (h : DataW.Trod enc P W 0 (fun _ => true) true t v d ps) :
    ∃ (A0 : Option Addr) (c0 : Nat) (x0 : List UInt8) (A1 : Option Addr) (c1 : Nat) (x1 : List UInt8) (A2 : Option Addr) (c2 : Nat) (x2 : List UInt8) (i : Int), v = .agg #[.slice A0 x0.length c0, .slice A1 x1.length c1, .slice A2 x2.length c2, .int .i64 i] ∧ Rd W W.heap.size A0 c0 x0 ∧ Rd W W.heap.size A1 c1 x1 ∧ Rd W W.heap.size A2 c2 x2 ∧ -9223372036854775808 ≤ i ∧ i ≤ 9223372036854775807 := by
  obtain ⟨v0, v1, v2, v3, y0, y1, y2, y3, n, rfl, _, _, h0, h1, h2, h3⟩ := open_agg4 hs hone hC hval h
  rw [k0] at h0
  rw [k1] at h1
  rw [k2] at h2
  rw [k3] at h3
  obtain ⟨A0, c0, x0, rfl, r0, _⟩ := open_bytes_cell2 ht he hc h0
  obtain ⟨A1, c1, x1, rfl, r1, _⟩ := open_bytes_cell2 ht he hc h1
  obtain ⟨A2, c2, x2, rfl, r2, _⟩ := open_bytes_cell2 ht he hc h2
  obtain ⟨i, e, _, w⟩ := DataW.trod_int hti h3
  simp at e
  subst e
  exact ⟨A0, c0, x0, A1, c1, x1, A2, c2, x2, i, rfl, r0, r1, r2, int64_of19 w⟩
end
theorem askTy19 : AskTy19 Try.prog 3 31 5 33 35 where
  int := Try.underlying3
  row := Try.underlying31
  byte := Try.underlying5
  part := ⟨_, _, Try.underlying33, ⟨rfl, rfl⟩, rfl, rfl⟩
  ask := ⟨_, _, _, _, _, Try.underlying35, ⟨rfl, rfl⟩, ⟨rfl, rfl⟩, ⟨rfl, rfl⟩, ⟨rfl, rfl⟩, rfl, rfl⟩
  ci := by kernel_rfl
  cb := by kernel_rfl
  ce := by kernel_rfl
  by_ := by kernel_rfl
  cp := by kernel_rfl
  ca := by kernel_rfl
end Go.Proofs.Ytdddcgkgellbgab
