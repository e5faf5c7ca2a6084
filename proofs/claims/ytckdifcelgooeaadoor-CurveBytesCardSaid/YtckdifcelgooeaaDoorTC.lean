/-
  The law's struct of two numbers and two points, in a box. By an AI agent. From what a law's arguments read as to what its walk asks, and from the walk to the row: of no program. By an AI agent.  A point as an argument, opened; two numbers and two points; a number of one word. Of no program but for its types. By an AI agent.
-/
import Derived.Test.YtckdifcelgooeaaDoorTA
import Derived.Test.YtckdifcelgooeaaDoorMA
import Derived.ProofKit
import Derived.OpenShut
import Derived.SizedLaws
import Derived.Carry
import Derived.Deep.DeepHandedRow
import Derived.Lib.LaidTab
import Derived.Laws.IdiomArrays
import Derived.Lib.SmallJoins
namespace Go.Proofs.YtckdifcelgooeaaDoor
open Go Go.RowKit
def rw24 (i j x y m n k : Nat) : Value := if k < 4 then wv i k else if k < 8 then wv j (k - 4) else if k < 12 then wv x (k - 8) else if k < 16 then wv y (k - 12) else if k < 20 then wv m (k - 16) else wv n (k - 20)
abbrev A24 (i j x y m n : Nat) : Obj := .cells #[.int .u64 (wd i 0 : Int), .int .u64 (wd i 1 : Int), .int .u64 (wd i 2 : Int), .int .u64 (wd i 3 : Int), .int .u64 (wd j 0 : Int), .int .u64 (wd j 1 : Int), .int .u64 (wd j 2 : Int), .int .u64 (wd j 3 : Int), .int .u64 (wd x 0 : Int), .int .u64 (wd x 1 : Int), .int .u64 (wd x 2 : Int), .int .u64 (wd x 3 : Int), .int .u64 (wd y 0 : Int), .int .u64 (wd y 1 : Int), .int .u64 (wd y 2 : Int), .int .u64 (wd y 3 : Int), .int .u64 (wd m 0 : Int), .int .u64 (wd m 1 : Int), .int .u64 (wd m 2 : Int), .int .u64 (wd m 3 : Int), .int .u64 (wd n 0 : Int), .int .u64 (wd n 1 : Int), .int .u64 (wd n 2 : Int), .int .u64 (wd n 3 : Int)] 51
abbrev rv24 (i j x y m n : Nat) : Value := .agg #[.int .u64 (wd i 0 : Int), .int .u64 (wd i 1 : Int), .int .u64 (wd i 2 : Int), .int .u64 (wd i 3 : Int), .int .u64 (wd j 0 : Int), .int .u64 (wd j 1 : Int), .int .u64 (wd j 2 : Int), .int .u64 (wd j 3 : Int), .int .u64 (wd x 0 : Int), .int .u64 (wd x 1 : Int), .int .u64 (wd x 2 : Int), .int .u64 (wd x 3 : Int), .int .u64 (wd y 0 : Int), .int .u64 (wd y 1 : Int), .int .u64 (wd y 2 : Int), .int .u64 (wd y 3 : Int), .int .u64 (wd m 0 : Int), .int .u64 (wd m 1 : Int), .int .u64 (wd m 2 : Int), .int .u64 (wd m 3 : Int), .int .u64 (wd n 0 : Int), .int .u64 (wd n 1 : Int), .int .u64 (wd n 2 : Int), .int .u64 (wd n 3 : Int)]
def O24 (w : World) (B g i j x y m n : Nat) : Prop := OwnF w B 51 (some ⟨g, 0, none⟩) 24 24 (rw24 i j x y m n)
section
variable {w w' : World} {B g i j x y m n : Nat}
theorem O24.keep (h : O24 w B g i j x y m n) (hb : Below w.heap.size w w') : O24 w' B g i j x y m n := OwnF.keep h hb
theorem O24.new (hB : B ≤ w.heap.size) (i j x y m n : Nat) : O24 (w.alloc (A24 i j x y m n)) B w.heap.size i j x y m n := OwnF.lit _ hB _ 24 _ (by decide) rfl
theorem O24.mono {B' : Nat} (h : O24 w B g i j x y m n) (hb : B' ≤ B) : O24 w B' g i j x y m n := OwnF.mono h hb
attribute [local irreducible] wd
variable {o : Oper} {a : Act}
theorem run_r0load {s : Operand} (ho : o.op = .load 24 s) (h1 : a.eval s = .pointer (some ⟨g, 0, none⟩)) (h : O24 w B g i j x y m n) : (execOp a.eval o).run Tryd.prog w = .ok (.value (nv i)) w := by
  have c0 : w.cell? ⟨g, 0, none⟩ = some (.int .u64 (wd i 0 : Int)) := OwnF.cell h (k := 0) (by decide)
  have c1 : w.cell? ⟨g, 1, none⟩ = some (.int .u64 (wd i 1 : Int)) := OwnF.cell h (k := 1) (by decide)
  have c2 : w.cell? ⟨g, 2, none⟩ = some (.int .u64 (wd i 2 : Int)) := OwnF.cell h (k := 2) (by decide)
  have c3 : w.cell? ⟨g, 3, none⟩ = some (.int .u64 (wd i 3 : Int)) := OwnF.cell h (k := 3) (by decide)
  unfold execOp
  simp only [ho, h1]
  go_simp
theorem run_r1load {s : Operand} (ho : o.op = .load 24 s) (h1 : a.eval s = .pointer (some ⟨g, 4, none⟩)) (h : O24 w B g i j x y m n) : (execOp a.eval o).run Tryd.prog w = .ok (.value (nv j)) w := by
  have c4 : w.cell? ⟨g, 4, none⟩ = some (.int .u64 (wd j 0 : Int)) := OwnF.cell h (k := 4) (by decide)
  have c5 : w.cell? ⟨g, 5, none⟩ = some (.int .u64 (wd j 1 : Int)) := OwnF.cell h (k := 5) (by decide)
  have c6 : w.cell? ⟨g, 6, none⟩ = some (.int .u64 (wd j 2 : Int)) := OwnF.cell h (k := 6) (by decide)
  have c7 : w.cell? ⟨g, 7, none⟩ = some (.int .u64 (wd j 3 : Int)) := OwnF.cell h (k := 7) (by decide)
  unfold execOp
  simp only [ho, h1]
  go_simp
theorem run_r2load {s : Operand} (ho : o.op = .load 26 s) (h1 : a.eval s = .pointer (some ⟨g, 8, none⟩)) (h : O24 w B g i j x y m n) : (execOp a.eval o).run Tryd.prog w = .ok (.value (prv x y)) w := by
  have c8 : w.cell? ⟨g, 8, none⟩ = some (.int .u64 (wd x 0 : Int)) := OwnF.cell h (k := 8) (by decide)
  have c9 : w.cell? ⟨g, 9, none⟩ = some (.int .u64 (wd x 1 : Int)) := OwnF.cell h (k := 9) (by decide)
  have c10 : w.cell? ⟨g, 10, none⟩ = some (.int .u64 (wd x 2 : Int)) := OwnF.cell h (k := 10) (by decide)
  have c11 : w.cell? ⟨g, 11, none⟩ = some (.int .u64 (wd x 3 : Int)) := OwnF.cell h (k := 11) (by decide)
  have c12 : w.cell? ⟨g, 12, none⟩ = some (.int .u64 (wd y 0 : Int)) := OwnF.cell h (k := 12) (by decide)
  have c13 : w.cell? ⟨g, 13, none⟩ = some (.int .u64 (wd y 1 : Int)) := OwnF.cell h (k := 13) (by decide)
  have c14 : w.cell? ⟨g, 14, none⟩ = some (.int .u64 (wd y 2 : Int)) := OwnF.cell h (k := 14) (by decide)
  have c15 : w.cell? ⟨g, 15, none⟩ = some (.int .u64 (wd y 3 : Int)) := OwnF.cell h (k := 15) (by decide)
  unfold execOp
  simp only [ho, h1]
  go_simp
theorem run_r3load {s : Operand} (ho : o.op = .load 26 s) (h1 : a.eval s = .pointer (some ⟨g, 16, none⟩)) (h : O24 w B g i j x y m n) : (execOp a.eval o).run Tryd.prog w = .ok (.value (prv m n)) w := by
  have c16 : w.cell? ⟨g, 16, none⟩ = some (.int .u64 (wd m 0 : Int)) := OwnF.cell h (k := 16) (by decide)
  have c17 : w.cell? ⟨g, 17, none⟩ = some (.int .u64 (wd m 1 : Int)) := OwnF.cell h (k := 17) (by decide)
  have c18 : w.cell? ⟨g, 18, none⟩ = some (.int .u64 (wd m 2 : Int)) := OwnF.cell h (k := 18) (by decide)
  have c19 : w.cell? ⟨g, 19, none⟩ = some (.int .u64 (wd m 3 : Int)) := OwnF.cell h (k := 19) (by decide)
  have c20 : w.cell? ⟨g, 20, none⟩ = some (.int .u64 (wd n 0 : Int)) := OwnF.cell h (k := 20) (by decide)
  have c21 : w.cell? ⟨g, 21, none⟩ = some (.int .u64 (wd n 1 : Int)) := OwnF.cell h (k := 21) (by decide)
  have c22 : w.cell? ⟨g, 22, none⟩ = some (.int .u64 (wd n 2 : Int)) := OwnF.cell h (k := 22) (by decide)
  have c23 : w.cell? ⟨g, 23, none⟩ = some (.int .u64 (wd n 3 : Int)) := OwnF.cell h (k := 23) (by decide)
  unfold execOp
  simp only [ho, h1]
  go_simp
theorem run_rfield0 {s : Operand} (ho : o.op = .fieldAddr 51 s 0) (h1 : a.eval s = .pointer (some ⟨g, 0, none⟩)) : (execOp a.eval o).run Tryd.prog w = .ok (.value (.pointer (some ⟨g, 0, none⟩))) w := by
  unfold execOp
  simp only [ho, h1]
  go_simp
theorem run_rfield1 {s : Operand} (ho : o.op = .fieldAddr 51 s 1) (h1 : a.eval s = .pointer (some ⟨g, 0, none⟩)) : (execOp a.eval o).run Tryd.prog w = .ok (.value (.pointer (some ⟨g, 4, none⟩))) w := by
  unfold execOp
  simp only [ho, h1]
  go_simp
theorem run_rfield2 {s : Operand} (ho : o.op = .fieldAddr 51 s 2) (h1 : a.eval s = .pointer (some ⟨g, 0, none⟩)) : (execOp a.eval o).run Tryd.prog w = .ok (.value (.pointer (some ⟨g, 8, none⟩))) w := by
  unfold execOp
  simp only [ho, h1]
  go_simp
theorem run_rfield3 {s : Operand} (ho : o.op = .fieldAddr 51 s 3) (h1 : a.eval s = .pointer (some ⟨g, 0, none⟩)) : (execOp a.eval o).run Tryd.prog w = .ok (.value (.pointer (some ⟨g, 16, none⟩))) w := by
  unfold execOp
  simp only [ho, h1]
  go_simp
end
end Go.Proofs.YtckdifcelgooeaaDoor
namespace Go.Proofs.YtckdifcelgooeaaDoor
open Go Go.RowKit Go.ChangeShapes Go.WideShapes Go.ChangeAt
section
variable {H : Type} {enc : TypeId × Value → H} {P : Program}

/-- All arguments read behind the call as before it. -/
theorem carry_all (hl : laidOutB P = true) {W W' : World} (hb : Below W.heap.size W W') : ∀ (ts : List TypeId) (vs : List Value) (ds : List (DataW H)) (ps : List MemPlace), (∀ t ∈ ts, P.readableRec t = true ∧ t < P.types.size) →
    DataW.TrodAll enc P W 0 (fun _ => true) true ts vs ds ps → (∀ x ∈ ps, x.block < W.heap.size) → DataW.TrodAll enc P W' 0 (fun b => decide (b < W.heap.size)) true ts vs ds ps
  | [], vs, ds, ps, _, h, _ => by
    obtain ⟨rfl, rfl, rfl⟩ := trodAll_nil h
    rfl
  | t :: ts, vs, ds, ps, hr, h, hlt => by
    obtain ⟨v, vs', d, ds', p, q, rfl, rfl, rfl, h0, h1⟩ := trodAll_cons h
    exact ⟨p, q, Below.trod hl (hr t (by simp)).1 (hr t (by simp)).2 h0 hb (fun x hx => hlt x (by simp [hx])), carry_all hl hb ts vs' ds' q (fun t ht => hr t (by simp [ht])) h1 (fun x hx => hlt x (by simp [hx])), rfl⟩

/-- What a law leaves: true, and its arguments as they were. -/
theorem post_law {f : Func} {s : ChangeSpec} {W W' : World} {args : Array Value} {ds gs : List (DataW H)} {before : List MemPlace} {tb : TypeId}
    (hW : DataW.Whole enc P f.params.toList s.vars false W args.toList ds gs before) (hv : s.vars = []) (hfn : s.fn H (ds ++ gs) = { results := [.lit (.bool true)], args := ds })
    (hrt : f.resultTypes = #[tb]) (htb : P.underlying tb = some .bool) (hl : laidOutB P = true) (hr : ∀ t ∈ f.params.toList, P.readableRec t = true ∧ t < P.types.size) (hb : Below W.heap.size W W') :
    s.post enc P f false true false false W args (.bool true) W' := by
  have hW' := hW
  obtain ⟨p, q, hA, hV, rfl, hfz, _⟩ := hW
  have hlt : ∀ x ∈ p ++ q, x.block < W.heap.size := fun x hx => by simpa using hW'.lt x hx
  have hV' : gs = [] ∧ q = [] := by
    rw [hv] at hV
    cases gs <;> simp [DataW.TrodVars] at hV
    exact ⟨rfl, hV⟩
  obtain ⟨rfl, rfl⟩ := hV'
  refine ⟨ds, [], p ++ [], [], p, [], hW', ?_, ?_, ?_, hb.frame _, fun h => nomatch h⟩
  · rw [hfn, hrt]
    exact trodAll_cons_mk (shut_bool htb _) trodAll_mk0
  · rw [hfn]
    exact carry_all hl hb _ _ _ _ hr hA (fun x hx => hlt x (by simp [hx]))
  · rw [hv, hfn]
    rfl

/-- An argument of type []byte: the bytes that it reads as, and how its reading is spelled. -/
theorem open_bytes {t e : TypeId} (ht : P.underlying t = some (.slice e)) (he : P.underlying e = some (.int .u8)) (hc : P.cellsOf e = 1) {W : World} {r : Reach} {b0 : Nat} {v : Value} {d : DataW H} {ps : List MemPlace}
    (hval : Value.okWide P W r b0 t v) (h : DataW.Trod enc P W 0 (fun _ => true) true t v d ps) :
    ∃ A c bs, v = .slice A bs.length c ∧ Rd W W.heap.size A c bs ∧ ((d = .nil ∧ bs = []) ∨ ∃ sp, d = .slice (bs.map fun b => .lit (.int .u8 (b.toNat : Int))) sp) := by
  obtain ⟨a0, len, cap, rfl⟩ := okWide_slice ht hval
  obtain ⟨fuel, hf⟩ := h
  rcases open_ints ht he hc hf with ⟨hcs, hx⟩ | ⟨a, len', cap', zs, hcs, _, hl, hm, hz, hx, hcell, hwz⟩
  · simp [Value.cells] at hcs
    obtain ⟨rfl, rfl, rfl⟩ := hcs
    simp only [Prod.mk.injEq] at hx
    obtain ⟨rfl, rfl⟩ := hx
    exact ⟨none, 0, [], rfl, ⟨by simp, fun _ => ⟨rfl, rfl⟩, fun h => absurd rfl h⟩, .inl ⟨rfl, rfl⟩⟩
  · simp [Value.cells] at hcs
    obtain ⟨rfl, rfl, rfl⟩ := hcs
    simp only [Prod.mk.injEq] at hx
    obtain ⟨rfl, rfl⟩ := hx
    simp only [if_true] at hz
    have hb : ∀ z ∈ zs, 0 ≤ z ∧ z ≤ 255 := fun z hzm => by simpa [Lit.wf, IntKind.min, IntKind.max, IntKind.signed, IntKind.bits] using hwz z hzm
    have hlen : ((zs.take len).map fun z => UInt8.ofNat z.toNat).length = len := by simp; omega
    have hnth : ∀ k, k < len → (nth ((zs.take len).map fun z => UInt8.ofNat z.toNat) k : Int) = zs.getD k 0 := fun k hk => by
      rw [nth_get (by omega)]
      have hk' : k < zs.length := by omega
      have := hb zs[k] (List.getElem_mem hk')
      simp [List.getD, hk']
      omega
    refine ⟨some a, cap, (zs.take len).map fun z => UInt8.ofNat z.toNat, by rw [hlen], ⟨by omega, (fun h => nomatch h), fun hne => ?_⟩, .inr ⟨_, congrArg (fun l => DataW.slice l _) ?_⟩⟩
    · have h0 : 0 < len := by
        rcases Nat.eq_zero_or_pos len with h | h
        · subst h; simp at hne
        · exact h
      have c0 := hcell 0 (by omega)
      have hsp : a.spot = none := by
        have : a.add 0 = a := by simp [Addr.add]
        rw [this] at c0
        unfold World.cell? at c0
        cases hs : a.spot with
        | none => rfl
        | some s => rw [hs] at c0; revert c0; split <;> simp
      obtain ⟨b, o, sp⟩ := a
      simp only at hsp
      subst hsp
      refine ⟨b, o, rfl, World.block_lt_of_cell? W _ c0, fun k hk => ?_⟩
      rw [hnth k (by omega), ← hcell k (by omega), Addr.add_lit]
    · have hw : ∀ z ∈ zs.take len, 0 ≤ z ∧ z ≤ 255 := fun z hzm => hb z (List.mem_of_mem_take hzm)
      simp only [lits, List.map_map]
      refine List.map_congr_left fun z hzm => ?_
      have := hw z hzm
      simp
      omega

/-- So long a slice of bytes can be. -/
theorem bytes_reach {ts : List TypeId} {ds : List (DataW H)} (h : (DataW.weightsEach P ts ds).all (· ≤ reachBytes) = true) {j : Nat} {t e : TypeId} (ht : ts[j]? = some t) (hu : P.underlying t = some (.slice e)) (hby : P.bytesOf e = 1) {d : DataW H} (hd : ds[j]? = some d) {bs : List UInt8}
    (hx : (d = .nil ∧ bs = []) ∨ ∃ sp, d = .slice (bs.map fun b => .lit (.int .u8 (b.toNat : Int))) sp) : bs.length ≤ 140737488351232 := by
  rcases hx with ⟨_, rfl⟩ | ⟨sp, rfl⟩
  · simp
  · have := sized_slice h ht hd hu
    rw [hby] at this
    simp only [List.length_map, reachBytes] at this
    omega
theorem string_reach {ts : List TypeId} {ds : List (DataW H)} (h : (DataW.weightsEach P ts ds).all (· ≤ reachBytes) = true) {j : Nat} {t : TypeId} (ht : ts[j]? = some t) {s : ByteArray} (hd : ds[j]? = some (.lit (.string s.data.toList))) : s.size ≤ 140737488351232 := by
  have := sized_string h ht hd
  have e : s.data.toList.length = s.size := by rw [Array.length_toList]; rfl
  simp only [reachBytes] at this
  omega
end
end Go.Proofs.YtckdifcelgooeaaDoor
namespace Go.Proofs.YtckdifcelgooeaaDoor
open Go Go.RowKit Go.ChangeShapes Go.WideShapes Go.ChangeAt
theorem wd_cons0 {d z : Nat} (hd : d < 18446744073709551616) : wd (d + 18446744073709551616 * z) 0 = d := by unfold wd dgt; simp; omega
theorem wd_cons {d z : Nat} (hd : d < 18446744073709551616) (k : Nat) : wd (d + 18446744073709551616 * z) (k + 1) = wd z k := by
  unfold wd dgt
  rw [Nat.pow_succ, Nat.mul_comm (18446744073709551616 ^ k), ← Nat.div_div_eq_div_mul, show (d + 18446744073709551616 * z) / 18446744073709551616 = z by omega]
section
variable {H : Type} {enc : TypeId × Value → H} {P : Program}
theorem trod_words8 {w : World} {base : Nat} {spare : Nat → Bool} {held : Bool} {t e : TypeId} {fuel : Nat} {c0 c1 c2 c3 c4 c5 c6 c7 : Value} {x : DataW H × List MemPlace} (ht : P.underlying t = some (.array 8 e)) (hce : P.cellsOf e = 1)
    (h : DataW.trod enc P w base spare held fuel t [c0, c1, c2, c3, c4, c5, c6, c7] = some x) :
    ∃ y0 y1 y2 y3 y4 y5 y6 y7 n, x = (.agg [y0.1, y1.1, y2.1, y3.1, y4.1, y5.1, y6.1, y7.1], y0.2 ++ (y1.2 ++ (y2.2 ++ (y3.2 ++ (y4.2 ++ (y5.2 ++ (y6.2 ++ y7.2))))))) ∧
      DataW.trod enc P w base spare held n e [c0] = some y0 ∧ DataW.trod enc P w base spare held n e [c1] = some y1 ∧ DataW.trod enc P w base spare held n e [c2] = some y2 ∧ DataW.trod enc P w base spare held n e [c3] = some y3 ∧ DataW.trod enc P w base spare held n e [c4] = some y4 ∧ DataW.trod enc P w base spare held n e [c5] = some y5 ∧ DataW.trod enc P w base spare held n e [c6] = some y6 ∧ DataW.trod enc P w base spare held n e [c7] = some y7 := by
  cases fuel with
  | zero => simp [DataW.trod] at h
  | succ n =>
    unfold DataW.trod at h
    rw [ht] at h
    have r8 : List.range 8 = [0, 1, 2, 3, 4, 5, 6, 7] := rfl
    simp [r8, hce] at h
    obtain ⟨_, h⟩ := h
    cases h0 : DataW.trod enc P w base spare held n e [c0] with
    | none => simp [h0] at h
    | some y0 =>
      cases h1 : DataW.trod enc P w base spare held n e [c1] with
      | none => simp [h0, h1] at h
      | some y1 =>
        cases h2 : DataW.trod enc P w base spare held n e [c2] with
        | none => simp [h0, h1, h2] at h
        | some y2 =>
          cases h3 : DataW.trod enc P w base spare held n e [c3] with
          | none => simp [h0, h1, h2, h3] at h
          | some y3 =>
            cases h4 : DataW.trod enc P w base spare held n e [c4] with
            | none => simp [h0, h1, h2, h3, h4] at h
            | some y4 =>
              cases h5 : DataW.trod enc P w base spare held n e [c5] with
              | none => simp [h0, h1, h2, h3, h4, h5] at h
              | some y5 =>
                cases h6 : DataW.trod enc P w base spare held n e [c6] with
                | none => simp [h0, h1, h2, h3, h4, h5, h6] at h
                | some y6 =>
                  cases h7 : DataW.trod enc P w base spare held n e [c7] with
                  | none => simp [h0, h1, h2, h3, h4, h5, h6, h7] at h
                  | some y7 =>
                    simp [h0, h1, h2, h3, h4, h5, h6, h7] at h
                    exact ⟨y0, y1, y2, y3, y4, y5, y6, y7, n, h.symm, h0, h1, h2, h3, h4, h5, h6, h7⟩
theorem word_of {x : Int} (w : (Lit.int .u64 x).wf = true) : ∃ z : Nat, x = (z : Int) ∧ z < 18446744073709551616 := by
  have h : 0 ≤ x ∧ x ≤ 18446744073709551615 := by simpa [Lit.wf, IntKind.min, IntKind.max, IntKind.signed, IntKind.bits] using w
  exact ⟨x.toNat, by omega, by omega⟩
theorem cons_lt {d z n : Nat} (hd : d < 18446744073709551616) (hz : z < 18446744073709551616 ^ n) : d + 18446744073709551616 * z < 18446744073709551616 ^ (n + 1) := by
  rw [Nat.pow_succ]
  omega
theorem list4_ {α : Type} (l : List α) (h : l.length = 4) : ∃ c0 c1 c2 c3, l = [c0, c1, c2, c3] := by
  match l, h with
  | [c0, c1, c2, c3], _ => exact ⟨c0, c1, c2, c3, rfl⟩
theorem open_num {t e : TypeId} (ht : P.underlying t = some (.array 4 e)) (he : P.underlying e = some (.int .u64)) (hc : P.cellsOf e = 1) (hct : P.cellsOf t = 4) {W : World} {r : Reach} {b0 : Nat} {v : Value} {d : DataW H} {ps : List MemPlace}
    (hval : Value.okWide P W r b0 t v) (h : DataW.Trod enc P W 0 (fun _ => true) true t v d ps) : ∃ x, x < W4 ∧ v = nv x := by
  obtain ⟨cs, rfl, hsz, _⟩ : ∃ cs, v = .agg cs ∧ cs.size = P.cellsOf t ∧ Row.okWide P W r b0 t cs := by
    simpa [Value.okWide, ht] using hval
  rw [hct] at hsz
  obtain ⟨l⟩ := cs
  obtain ⟨c0, c1, c2, c3, rfl⟩ := list4_ l hsz
  obtain ⟨fuel, hf⟩ := h
  obtain ⟨y0, y1, y2, y3, m, hx, hy0, hy1, hy2, hy3⟩ := trod_array4 ht hc hf
  obtain ⟨x0, e0, rfl, w0⟩ := DataW.trod_int he hy0
  obtain ⟨x1, e1, rfl, w1⟩ := DataW.trod_int he hy1
  obtain ⟨x2, e2, rfl, w2⟩ := DataW.trod_int he hy2
  obtain ⟨x3, e3, rfl, w3⟩ := DataW.trod_int he hy3
  simp at e0 e1 e2 e3
  subst e0 e1 e2 e3
  obtain ⟨z0, rfl, l0⟩ := word_of w0
  obtain ⟨z1, rfl, l1⟩ := word_of w1
  obtain ⟨z2, rfl, l2⟩ := word_of w2
  obtain ⟨z3, rfl, l3⟩ := word_of w3
  refine ⟨(z0 + 18446744073709551616 * (z1 + 18446744073709551616 * (z2 + 18446744073709551616 * (z3 + 18446744073709551616 * 0)))), ?_, ?_⟩
  · rw [W4_eq]; omega
  · unfold nv
    rw [wd_cons0 l0]
    rw [wd_cons l0, wd_cons0 l1]
    rw [wd_cons l0, wd_cons l1, wd_cons0 l2]
    rw [wd_cons l0, wd_cons l1, wd_cons l2, wd_cons0 l3]
theorem list8_ {α : Type} (l : List α) (h : l.length = 8) : ∃ c0 c1 c2 c3 c4 c5 c6 c7, l = [c0, c1, c2, c3, c4, c5, c6, c7] := by
  match l, h with
  | [c0, c1, c2, c3, c4, c5, c6, c7], _ => exact ⟨c0, c1, c2, c3, c4, c5, c6, c7, rfl⟩
set_option maxHeartbeats 1000000 in
theorem open_dbl {t e : TypeId} (ht : P.underlying t = some (.array 8 e)) (he : P.underlying e = some (.int .u64)) (hc : P.cellsOf e = 1) (hct : P.cellsOf t = 8) {W : World} {r : Reach} {b0 : Nat} {v : Value} {d : DataW H} {ps : List MemPlace}
    (hval : Value.okWide P W r b0 t v) (h : DataW.Trod enc P W 0 (fun _ => true) true t v d ps) : ∃ x, x < W8 ∧ v = dv x := by
  obtain ⟨cs, rfl, hsz, _⟩ : ∃ cs, v = .agg cs ∧ cs.size = P.cellsOf t ∧ Row.okWide P W r b0 t cs := by
    simpa [Value.okWide, ht] using hval
  rw [hct] at hsz
  obtain ⟨l⟩ := cs
  obtain ⟨c0, c1, c2, c3, c4, c5, c6, c7, rfl⟩ := list8_ l hsz
  obtain ⟨fuel, hf⟩ := h
  obtain ⟨y0, y1, y2, y3, y4, y5, y6, y7, m, hx, hy0, hy1, hy2, hy3, hy4, hy5, hy6, hy7⟩ := trod_words8 ht hc hf
  obtain ⟨x0, e0, rfl, w0⟩ := DataW.trod_int he hy0
  obtain ⟨x1, e1, rfl, w1⟩ := DataW.trod_int he hy1
  obtain ⟨x2, e2, rfl, w2⟩ := DataW.trod_int he hy2
  obtain ⟨x3, e3, rfl, w3⟩ := DataW.trod_int he hy3
  obtain ⟨x4, e4, rfl, w4⟩ := DataW.trod_int he hy4
  obtain ⟨x5, e5, rfl, w5⟩ := DataW.trod_int he hy5
  obtain ⟨x6, e6, rfl, w6⟩ := DataW.trod_int he hy6
  obtain ⟨x7, e7, rfl, w7⟩ := DataW.trod_int he hy7
  simp at e0 e1 e2 e3 e4 e5 e6 e7
  subst e0 e1 e2 e3 e4 e5 e6 e7
  obtain ⟨z0, rfl, l0⟩ := word_of w0
  obtain ⟨z1, rfl, l1⟩ := word_of w1
  obtain ⟨z2, rfl, l2⟩ := word_of w2
  obtain ⟨z3, rfl, l3⟩ := word_of w3
  obtain ⟨z4, rfl, l4⟩ := word_of w4
  obtain ⟨z5, rfl, l5⟩ := word_of w5
  obtain ⟨z6, rfl, l6⟩ := word_of w6
  obtain ⟨z7, rfl, l7⟩ := word_of w7
  refine ⟨(z0 + 18446744073709551616 * (z1 + 18446744073709551616 * (z2 + 18446744073709551616 * (z3 + 18446744073709551616 * (z4 + 18446744073709551616 * (z5 + 18446744073709551616 * (z6 + 18446744073709551616 * (z7 + 18446744073709551616 * 0)))))))), ?_, ?_⟩
  · exact (cons_lt l0 (cons_lt l1 (cons_lt l2 (cons_lt l3 (cons_lt l4 (cons_lt l5 (cons_lt l6 (cons_lt l7 (n := 0) (by decide)))))))))
  · unfold dv
    rw [wd_cons0 l0]
    rw [wd_cons l0, wd_cons0 l1]
    rw [wd_cons l0, wd_cons l1, wd_cons0 l2]
    rw [wd_cons l0, wd_cons l1, wd_cons l2, wd_cons0 l3]
    rw [wd_cons l0, wd_cons l1, wd_cons l2, wd_cons l3, wd_cons0 l4]
    rw [wd_cons l0, wd_cons l1, wd_cons l2, wd_cons l3, wd_cons l4, wd_cons0 l5]
    rw [wd_cons l0, wd_cons l1, wd_cons l2, wd_cons l3, wd_cons l4, wd_cons l5, wd_cons0 l6]
    rw [wd_cons l0, wd_cons l1, wd_cons l2, wd_cons l3, wd_cons l4, wd_cons l5, wd_cons l6, wd_cons0 l7]
end
end Go.Proofs.YtckdifcelgooeaaDoor
namespace Go.Proofs.YtckdifcelgooeaaDoor
open Go Go.RowKit Go.ChangeShapes Go.WideShapes Go.ChangeAt Go.Deep Go.Joins
section
variable {H : Type} {enc : TypeId × Value → H} {P : Program}
theorem num_cells {t e : TypeId} (ht : P.underlying t = some (.array 4 e)) (he : P.underlying e = some (.int .u64)) (hc : P.cellsOf e = 1) {W : World} {c0 c1 c2 c3 : Value} {n : Nat} {y : DataW H × List MemPlace}
    (hf : DataW.trod enc P W 0 (fun _ => true) true n t [c0, c1, c2, c3] = some y) : ∃ x, x < W4 ∧ c0 = .int .u64 (wd x 0 : Int) ∧ c1 = .int .u64 (wd x 1 : Int) ∧ c2 = .int .u64 (wd x 2 : Int) ∧ c3 = .int .u64 (wd x 3 : Int) := by
  obtain ⟨y0, y1, y2, y3, m, hx, hy0, hy1, hy2, hy3⟩ := trod_array4 ht hc hf
  obtain ⟨x0, e0, rfl, w0⟩ := DataW.trod_int he hy0
  obtain ⟨x1, e1, rfl, w1⟩ := DataW.trod_int he hy1
  obtain ⟨x2, e2, rfl, w2⟩ := DataW.trod_int he hy2
  obtain ⟨x3, e3, rfl, w3⟩ := DataW.trod_int he hy3
  simp at e0 e1 e2 e3
  subst e0 e1 e2 e3
  obtain ⟨z0, rfl, l0⟩ := word_of w0
  obtain ⟨z1, rfl, l1⟩ := word_of w1
  obtain ⟨z2, rfl, l2⟩ := word_of w2
  obtain ⟨z3, rfl, l3⟩ := word_of w3
  refine ⟨(z0 + 18446744073709551616 * (z1 + 18446744073709551616 * (z2 + 18446744073709551616 * (z3 + 18446744073709551616 * 0)))), ?_, ?_, ?_, ?_, ?_⟩
  · rw [W4_eq]; omega
  · rw [wd_cons0 l0]
  · rw [wd_cons l0, wd_cons0 l1]
  · rw [wd_cons l0, wd_cons l1, wd_cons0 l2]
  · rw [wd_cons l0, wd_cons l1, wd_cons l2, wd_cons0 l3]
theorem pt_cells {t tn e : TypeId} {f0 f1 : Field} (hs : P.underlying t = some (.struct #[f0, f1])) (k0 : f0.type = tn) (k1 : f1.type = tn) (o0 : f0.offset = 0) (o1 : f1.offset = 4) (ht : P.underlying tn = some (.array 4 e)) (he : P.underlying e = some (.int .u64)) (hc : P.cellsOf e = 1) (hcn : P.cellsOf tn = 4)
    {W : World} {c0 c1 c2 c3 c4 c5 c6 c7 : Value} {n : Nat} {y : DataW H × List MemPlace} (hf : DataW.trod enc P W 0 (fun _ => true) true n t [c0, c1, c2, c3, c4, c5, c6, c7] = some y) :
    ∃ x z, x < W4 ∧ z < W4 ∧ (c0 = .int .u64 (wd x 0 : Int) ∧ c1 = .int .u64 (wd x 1 : Int) ∧ c2 = .int .u64 (wd x 2 : Int) ∧ c3 = .int .u64 (wd x 3 : Int)) ∧ (c4 = .int .u64 (wd z 0 : Int) ∧ c5 = .int .u64 (wd z 1 : Int) ∧ c6 = .int .u64 (wd z 2 : Int) ∧ c7 = .int .u64 (wd z 3 : Int)) := by
  obtain ⟨y0, y1, m, _, _, h0, h1⟩ := trod_struct2 hs hf
  rw [k0, o0, hcn] at h0
  rw [k1, o1, hcn] at h1
  obtain ⟨x, hx, e0⟩ := num_cells ht he hc h0
  obtain ⟨z, hz, e1⟩ := num_cells ht he hc h1
  exact ⟨x, z, hx, hz, e0, e1⟩
theorem open_point {t tn e : TypeId} {f0 f1 : Field} (hs : P.underlying t = some (.struct #[f0, f1])) (k0 : f0.type = tn) (k1 : f1.type = tn) (o0 : f0.offset = 0) (o1 : f1.offset = 4) (ht : P.underlying tn = some (.array 4 e)) (he : P.underlying e = some (.int .u64)) (hc : P.cellsOf e = 1) (hcn : P.cellsOf tn = 4) (hct : P.cellsOf t = 8)
    {W : World} {r : Reach} {b0 : Nat} {v : Value} {d : DataW H} {ps : List MemPlace} (hval : Value.okWide P W r b0 t v) (h : DataW.Trod enc P W 0 (fun _ => true) true t v d ps) : ∃ x z, x < W4 ∧ z < W4 ∧ v = prv x z := by
  obtain ⟨cs, rfl, hsz⟩ := okWide_struct hs hval
  rw [hct] at hsz
  obtain ⟨l⟩ := cs
  obtain ⟨c0, c1, c2, c3, c4, c5, c6, c7, rfl⟩ := list8_ l hsz
  obtain ⟨fuel, hf⟩ := h
  obtain ⟨x, z, hx, hz, ⟨rfl, rfl, rfl, rfl⟩, rfl, rfl, rfl, rfl⟩ := pt_cells hs k0 k1 o0 o1 ht he hc hcn hf
  exact ⟨x, z, hx, hz, rfl⟩
theorem list24_ {α : Type} (l : List α) (h : l.length = 24) : ∃ c0 c1 c2 c3 c4 c5 c6 c7 c8 c9 c10 c11 c12 c13 c14 c15 c16 c17 c18 c19 c20 c21 c22 c23, l = [c0, c1, c2, c3, c4, c5, c6, c7, c8, c9, c10, c11, c12, c13, c14, c15, c16, c17, c18, c19, c20, c21, c22, c23] := by
  match l, h with
  | [c0, c1, c2, c3, c4, c5, c6, c7, c8, c9, c10, c11, c12, c13, c14, c15, c16, c17, c18, c19, c20, c21, c22, c23], _ => exact ⟨c0, c1, c2, c3, c4, c5, c6, c7, c8, c9, c10, c11, c12, c13, c14, c15, c16, c17, c18, c19, c20, c21, c22, c23, rfl⟩
set_option maxHeartbeats 1000000 in
theorem open_pair {tr t tn e : TypeId} {f0 f1 g0 g1 g2 g3 : Field} (hr : P.underlying tr = some (.struct #[g0, g1, g2, g3])) (j0 : g0.type = tn) (j1 : g1.type = tn) (j2 : g2.type = t) (j3 : g3.type = t) (q0 : g0.offset = 0) (q1 : g1.offset = 4) (q2 : g2.offset = 8) (q3 : g3.offset = 16) (hcr : P.cellsOf tr = 24)
    (hs : P.underlying t = some (.struct #[f0, f1])) (k0 : f0.type = tn) (k1 : f1.type = tn) (o0 : f0.offset = 0) (o1 : f1.offset = 4) (ht : P.underlying tn = some (.array 4 e)) (he : P.underlying e = some (.int .u64)) (hc : P.cellsOf e = 1) (hcn : P.cellsOf tn = 4) (hct : P.cellsOf t = 8)
    {W : World} {r : Reach} {b0 : Nat} {v : Value} {d : DataW H} {ps : List MemPlace} (hval : Value.okWide P W r b0 tr v) (h : DataW.Trod enc P W 0 (fun _ => true) true tr v d ps) : ∃ i j x y m n, (i < W4 ∧ j < W4) ∧ (x < W4 ∧ y < W4) ∧ (m < W4 ∧ n < W4) ∧ v = rv24 i j x y m n := by
  obtain ⟨cs, rfl, hsz⟩ := okWide_struct hr hval
  rw [hcr] at hsz
  obtain ⟨l⟩ := cs
  obtain ⟨c0, c1, c2, c3, c4, c5, c6, c7, c8, c9, c10, c11, c12, c13, c14, c15, c16, c17, c18, c19, c20, c21, c22, c23, rfl⟩ := list24_ l hsz
  obtain ⟨fuel, hf⟩ := h
  obtain ⟨y0, y1, y2, y3, a, _, _, h0, h1, h2, h3⟩ := trod_struct4 hr hf
  rw [j0, q0, hcn] at h0
  rw [j1, q1, hcn] at h1
  rw [j2, q2, hct] at h2
  rw [j3, q3, hct] at h3
  obtain ⟨i, hi, rfl, rfl, rfl, rfl⟩ := num_cells ht he hc h0
  obtain ⟨j, hj, rfl, rfl, rfl, rfl⟩ := num_cells ht he hc h1
  obtain ⟨x, y, hx, hy, ⟨rfl, rfl, rfl, rfl⟩, rfl, rfl, rfl, rfl⟩ := pt_cells hs k0 k1 o0 o1 ht he hc hcn h2
  obtain ⟨m, n, hm, hn, ⟨rfl, rfl, rfl, rfl⟩, rfl, rfl, rfl, rfl⟩ := pt_cells hs k0 k1 o0 o1 ht he hc hcn h3
  exact ⟨i, j, x, y, m, n, ⟨hi, hj⟩, ⟨hx, hy⟩, ⟨hm, hn⟩, rfl⟩
end
end Go.Proofs.YtckdifcelgooeaaDoor
