/-
  An argument that is a struct of two slices of bytes, a word, and a slice of bytes; four words in an array: opened. Of no program. By an AI agent.
-/
import Derived.Test.YtdddcgkgellbgabClose
import Derived.Lib.SmallJoins
import Derived.Laws.IdiomArrays
namespace Go.Proofs.Ytdddcgkgellbgab
open Go Go.RowKit Go.ChangeShapes Go.WideShapes Go.ChangeAt Go.Deep Go.Joins
section
variable {H : Type} {enc : TypeId × Value → H} {P : Program}
/-- A cell of type []byte: the bytes that it reads as. -/
theorem open_bytes_cell2 {t e : TypeId} (ht : P.underlying t = some (.slice e)) (he : P.underlying e = some (.int .u8)) (hc : P.cellsOf e = 1) {W : World} {v : Value} {n : Nat} {y : DataW H × List MemPlace}
    (hf : DataW.trod enc P W 0 (fun _ => true) true n t [v] = some y) : ∃ A c bs, v = .slice A bs.length c ∧ Rd W W.heap.size A c bs ∧ ((y.1 = .nil ∧ bs = []) ∨ ∃ sp, y.1 = .slice (bs.map fun b => .lit (.int .u8 (b.toNat : Int))) sp) := by
  rcases open_ints ht he hc hf with ⟨hcs, hx⟩ | ⟨a, len, cap, zs, hcs, _, hl, hm, hz, hx, hcell, hwz⟩
  · simp at hcs
    subst hcs
    exact ⟨none, 0, [], rfl, ⟨by simp, fun _ => ⟨rfl, rfl⟩, fun h => absurd rfl h⟩, .inl ⟨by rw [hx], rfl⟩⟩
  · simp at hcs
    subst hcs
    subst hx
    simp only [if_true] at hz
    have hb : ∀ z ∈ zs, 0 ≤ z ∧ z ≤ 255 := fun z hzm => by simpa [Lit.wf, IntKind.min, IntKind.max, IntKind.signed, IntKind.bits] using hwz z hzm
    have hlen : ((zs.take len).map fun z => UInt8.ofNat z.toNat).length = len := by simp; omega
    have hnth : ∀ k, k < len → (nth ((zs.take len).map fun z => UInt8.ofNat z.toNat) k : Int) = zs.getD k 0 := fun k hk => by
      rw [nth_get (by omega)]
      have hk' : k < zs.length := by omega
      have := hb zs[k] (List.getElem_mem hk')
      simp [List.getD, hk']
      omega
    refine ⟨some a, cap, (zs.take len).map fun z => UInt8.ofNat z.toNat, by rw [hlen], ⟨by omega, (fun h => nomatch h), fun hne => ?_⟩, .inr ⟨_, congrArg (fun l => DataW.slice l _) ?_⟩⟩
    rotate_left
    · have hw : ∀ z ∈ zs.take len, 0 ≤ z ∧ z ≤ 255 := fun z hzm => hb z (List.mem_of_mem_take hzm)
      simp only [lits, List.map_map]
      refine List.map_congr_left fun z hzm => ?_
      have := hw z hzm
      simp
      omega
    have h0 : 0 < len := by
      rcases Nat.eq_zero_or_pos len with h | h
      · subst h; simp at hne
      · exact h
    have c0 := hcell 0 (by omega)
    have hsp : a.spot = none := by
      have : a.add 0 = a := by simp [Addr.add]
      rw [this] at c0
      unfold World.cell? at c0
      cases hs : a.spot with
      | none => rfl
      | some s => rw [hs] at c0; revert c0; split <;> simp
    obtain ⟨b, o, sp⟩ := a
    simp only at hsp
    subst hsp
    refine ⟨b, o, rfl, World.block_lt_of_cell? W _ c0, fun k hk => ?_⟩
    rw [hnth k (by omega), ← hcell k (by omega), Addr.add_lit]
theorem open_seal {t tb te ti : TypeId} {f0 f1 f2 f3 : Field} (hs : P.underlying t = some (.struct #[f0, f1, f2, f3])) (k0 : f0.type = tb) (k1 : f1.type = tb) (k2 : f2.type = ti) (k3 : f3.type = tb) (hone : oneCellFields P #[f0, f1, f2, f3] = true) (hC : P.cellsOf t = 4)
    (ht : P.underlying tb = some (.slice te)) (he : P.underlying te = some (.int .u8)) (hti : P.underlying ti = some (.int .u32)) (hc : P.cellsOf te = 1) (hby : P.bytesOf te = 1) {W : World} {r : Reach} {b0 : Nat} {v : Value} {d : DataW H} {ps : List MemPlace}
    (hval : Value.okWide P W r b0 t v) (h : DataW.Trod enc P W 0 (fun _ => true) true t v d ps) {ts : List TypeId} {ds : List (DataW H)} {j : Nat} (hsz : (DataW.weightsEach P ts ds).all (· ≤ reachBytes) = true) (htj : ts[j]? = some t) (hdj : ds[j]? = some d) :
    ∃ A0 c0 x0 A1 c1 x1 i A2 c2 x2, v = .agg #[.slice A0 (x0 : List UInt8).length c0, .slice A1 (x1 : List UInt8).length c1, .int .u32 i, .slice A2 (x2 : List UInt8).length c2] ∧ Rd W W.heap.size A0 c0 x0 ∧ Rd W W.heap.size A1 c1 x1 ∧ Rd W W.heap.size A2 c2 x2 ∧
      (Lit.int .u32 i).wf = true ∧ x0.length ≤ 140737488351232 ∧ x1.length ≤ 140737488351232 := by
  obtain ⟨v0, v1, v2, v3, y0, y1, y2, y3, n, rfl, rfl, _, h0, h1, h2, h3⟩ := open_agg4 hs hone hC hval h
  rw [k0] at h0
  rw [k1] at h1
  rw [k2] at h2
  rw [k3] at h3
  obtain ⟨A0, c0, x0, rfl, r0, s0⟩ := open_bytes_cell2 ht he hc h0
  obtain ⟨A1, c1, x1, rfl, r1, s1⟩ := open_bytes_cell2 ht he hc h1
  obtain ⟨A2, c2, x2, rfl, r2, _⟩ := open_bytes_cell2 ht he hc h3
  obtain ⟨i, e, _, wf⟩ := DataW.trod_int hti h2
  simp at e
  subst e
  have hsz2 : (DataW.weightsEach P [tb, tb, ti, tb] [y0.1, y1.1, y2.1, y3.1]).all (· ≤ reachBytes) = true := by
    refine List.all_eq_true.2 fun m hm => List.all_eq_true.1 hsz m (DataW.weights_mem_each htj hdj m ?_)
    unfold DataW.weights
    rw [hs]
    simp only [List.map_cons, List.map_nil, k0, k1, k2, k3]
    exact hm
  exact ⟨A0, c0, x0, A1, c1, x1, i, A2, c2, x2, rfl, r0, r1, r2, wf, bytes_reach hsz2 (j := 0) rfl ht hby rfl s0, bytes_reach hsz2 (j := 1) rfl ht hby rfl s1⟩
theorem list4w {α : Type} (l : List α) (h : l.length = 4) : ∃ c0 c1 c2 c3, l = [c0, c1, c2, c3] := by
  match l, h with
  | [c0, c1, c2, c3], _ => exact ⟨c0, c1, c2, c3, rfl⟩
theorem word32_of {x : Int} (w : (Lit.int .u32 x).wf = true) : ∃ z : Nat, x = (z : Int) ∧ z < 4294967296 := by
  have h : 0 ≤ x ∧ x ≤ 4294967295 := by simpa [Lit.wf, IntKind.min, IntKind.max, IntKind.signed, IntKind.bits] using w
  exact ⟨x.toNat, by omega, by omega⟩
theorem open_q4 {t e : TypeId} (ht : P.underlying t = some (.array 4 e)) (he : P.underlying e = some (.int .u32)) (hc : P.cellsOf e = 1) (hct : P.cellsOf t = 4) {W : World} {r : Reach} {b0 : Nat} {v : Value} {d : DataW H} {ps : List MemPlace}
    (hval : Value.okWide P W r b0 t v) (h : DataW.Trod enc P W 0 (fun _ => true) true t v d ps) : ∃ a b c d : Nat, (a < 4294967296 ∧ b < 4294967296 ∧ c < 4294967296 ∧ d < 4294967296) ∧ v = .agg #[.int .u32 (a : Int), .int .u32 (b : Int), .int .u32 (c : Int), .int .u32 (d : Int)] := by
  obtain ⟨cs, rfl, hsz, _⟩ : ∃ cs, v = .agg cs ∧ cs.size = P.cellsOf t ∧ Row.okWide P W r b0 t cs := by
    simpa [Value.okWide, ht] using hval
  rw [hct] at hsz
  obtain ⟨l⟩ := cs
  obtain ⟨c0, c1, c2, c3, rfl⟩ := list4w l hsz
  obtain ⟨fuel, hf⟩ := h
  obtain ⟨y0, y1, y2, y3, m, hx, hy0, hy1, hy2, hy3⟩ := trod_array4 ht hc hf
  obtain ⟨x0, e0, rfl, w0⟩ := DataW.trod_int he hy0
  obtain ⟨x1, e1, rfl, w1⟩ := DataW.trod_int he hy1
  obtain ⟨x2, e2, rfl, w2⟩ := DataW.trod_int he hy2
  obtain ⟨x3, e3, rfl, w3⟩ := DataW.trod_int he hy3
  simp at e0 e1 e2 e3
  subst e0 e1 e2 e3
  obtain ⟨z0, rfl, l0⟩ := word32_of w0
  obtain ⟨z1, rfl, l1⟩ := word32_of w1
  obtain ⟨z2, rfl, l2⟩ := word32_of w2
  obtain ⟨z3, rfl, l3⟩ := word32_of w3
  exact ⟨z0, z1, z2, z3, ⟨l0, l1, l2, l3⟩, rfl⟩
end
end Go.Proofs.Ytdddcgkgellbgab
