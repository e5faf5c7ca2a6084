/-
  From what the row says of the listed variables (nought, twice the curve's number, the root of -1) to what the walks ask. By an AI agent.
-/
import Derived.Test.YtckdifcelgooeaaDoorU13
import Derived.Lib.LaidTab
import Derived.ChangeSame
namespace Go.Proofs.YtckdifcelgooeaaDoor
open Go Go.RowKit Go.ChangeShapes
theorem tab_nxt {P : Program} {W : World} {name : String} {k : IntKind} {zs : List Int} {rest : List (String × DataW Unit)} {g : Nat} {t e : TypeId} {n : Nat} {ps : List MemPlace}
    (hg : P.globalNamed name = some g) (hty : (P.globals[g]?).map (·.type) = some t) (ht : P.underlying t = some (.array n e)) (he : P.underlying e = some (.int k)) (hce : P.cellsOf e = 1) (hct : P.cellsOf t = n)
    (h : DataW.LaidVars P W ((name, Lib.tabData k zs) :: rest) ps) : Lib.TabIs P W name k zs ∧ ∃ q, DataW.LaidVars P W rest q := by
  obtain ⟨g', t', cs, fuel, p, q, hg', ht', hvar, hd, hr, _⟩ := h
  obtain rfl := Option.some.inj (hg.symm.trans hg')
  obtain rfl := Option.some.inj (hty.symm.trans ht')
  refine ⟨?_, q, hr⟩
  unfold Lib.TabIs
  rw [hvar, ← Lib.cells_of_tab ht he hce hct hd]
theorem pt_nxt {P : Program} {W : World} {name : String} {zs zs' : List Int} {rest : List (String × DataW Unit)} {g : Nat} {t tn e : TypeId} {f0 f1 : Field} {ps : List MemPlace}
    (hg : P.globalNamed name = some g) (hty : (P.globals[g]?).map (·.type) = some t) (hs : P.underlying t = some (.struct #[f0, f1])) (k0 : f0.type = tn) (k1 : f1.type = tn) (o0 : f0.offset = 0) (o1 : f1.offset = 4) (ht : P.underlying tn = some (.array 4 e)) (he : P.underlying e = some (.int .u64)) (hc : P.cellsOf e = 1) (hcn : P.cellsOf tn = 4) (hct : P.cellsOf t = 8)
    (h : DataW.LaidVars P W ((name, .agg [Lib.tabData .u64 zs, Lib.tabData .u64 zs']) :: rest) ps) : Lib.TabIs P W name .u64 (zs ++ zs') ∧ ∃ q, DataW.LaidVars P W rest q := by
  obtain ⟨g', t', cs, fuel, p, q, hg', ht', hvar, hd, hr, _⟩ := h
  obtain rfl := Option.some.inj (hg.symm.trans hg')
  obtain rfl := Option.some.inj (hty.symm.trans ht')
  refine ⟨?_, q, hr⟩
  obtain ⟨⟨d0, p0⟩, ⟨d1, p1⟩, m, hx, hl, h0, h1⟩ := trod_struct2 hs hd
  rw [hct] at hl
  rw [k0, o0, hcn] at h0
  rw [k1, o1, hcn] at h1
  simp only [Prod.mk.injEq, DataW.agg.injEq, List.cons.injEq, and_true] at hx
  obtain ⟨⟨rfl, rfl⟩, _⟩ := hx
  have e0 := Lib.cells_of_tab ht he hc hcn h0
  have e1 := Lib.cells_of_tab ht he hc hcn h1
  have e2 : cs.toList = (zs ++ zs').map fun z => Value.int .u64 z := by
    rw [List.map_append, ← e0, ← e1, List.drop_zero, List.take_of_length_le (l := cs.toList.drop 4) (by simp at hl ⊢; omega), List.take_append_drop]
  unfold Lib.TabIs
  rw [hvar, ← e2]
theorem gN8 : Tryd.prog.globalNamed "sealwax/curve.nought" = some 0 := by kernel_rfl
theorem gD8 : Tryd.prog.globalNamed "sealwax/curve.twiceD" = some 1 := by kernel_rfl
theorem gM8 : Tryd.prog.globalNamed "sealwax/field.minusOneRoot" = some 2 := by kernel_rfl
theorem c64_8 : Tryd.prog.cellsOf 22 = 1 := by kernel_rfl
theorem c4_8 : Tryd.prog.cellsOf 24 = 4 := by kernel_rfl
theorem c8_8 : Tryd.prog.cellsOf 26 = 8 := by kernel_rfl
theorem g8_of {W : World} {ps : List MemPlace} (h : DataW.LaidVars Tryd.prog W [("sealwax/curve.nought", .agg [Lib.tabData .u64 [0, 0, 0, 0], Lib.tabData .u64 [1, 0, 0, 0]]), ("sealwax/curve.twiceD", Lib.tabData .u64 [16993941304535871833, 63073048630374742, 1841551078520508720, 2596001775599221991])] ps) : G8 W := by
  obtain ⟨hn, q, h⟩ := pt_nxt gN8 (t := 26) (by kernel_rfl) Tryd.underlying26 rfl rfl rfl rfl Tryd.underlying24 Tryd.underlying22 c64_8 c4_8 c8_8 h
  obtain ⟨hd, _⟩ := tab_nxt gD8 (t := 24) (by kernel_rfl) Tryd.underlying24 Tryd.underlying22 c64_8 c4_8 h
  have e0 : wd ed2 0 = 16993941304535871833 := by decide +kernel
  have e1 : wd ed2 1 = 63073048630374742 := by decide +kernel
  have e2 : wd ed2 2 = 1841551078520508720 := by decide +kernel
  have e3 : wd ed2 3 = 2596001775599221991 := by decide +kernel
  have z0 : wd 0 0 = 0 := by decide +kernel
  have z1 : wd 0 1 = 0 := by decide +kernel
  have z2 : wd 0 2 = 0 := by decide +kernel
  have z3 : wd 0 3 = 0 := by decide +kernel
  have i0 : wd 1 0 = 1 := by decide +kernel
  have i1 : wd 1 1 = 0 := by decide +kernel
  have i2 : wd 1 2 = 0 := by decide +kernel
  have i3 : wd 1 3 = 0 := by decide +kernel
  unfold G8 C8p
  rw [e0, e1, e2, e3, z0, z1, z2, z3, i0, i1, i2, i3]
  exact ⟨⟨hd.cell gD8 0 (by decide), hd.cell gD8 1 (by decide), hd.cell gD8 2 (by decide), hd.cell gD8 3 (by decide)⟩,
    hn.cell gN8 0 (by decide), hn.cell gN8 1 (by decide), hn.cell gN8 2 (by decide), hn.cell gN8 3 (by decide), hn.cell gN8 4 (by decide), hn.cell gN8 5 (by decide), hn.cell gN8 6 (by decide), hn.cell gN8 7 (by decide)⟩
theorem gb8_of {W : World} {ps : List MemPlace} (h : DataW.LaidVars Tryd.prog W [("sealwax/field.minusOneRoot", Lib.tabData .u64 [14190309331451158704, 3405592160176694392, 3120150775007532967, 3135389899092516619]), ("sealwax/curve.nought", .agg [Lib.tabData .u64 [0, 0, 0, 0], Lib.tabData .u64 [1, 0, 0, 0]]), ("sealwax/curve.twiceD", Lib.tabData .u64 [16993941304535871833, 63073048630374742, 1841551078520508720, 2596001775599221991])] ps) : GB8 W := by
  obtain ⟨ht, q, h⟩ := tab_nxt gM8 (t := 24) (by kernel_rfl) Tryd.underlying24 Tryd.underlying22 c64_8 c4_8 h
  have e0 : wd IM 0 = 14190309331451158704 := by decide +kernel
  have e1 : wd IM 1 = 3405592160176694392 := by decide +kernel
  have e2 : wd IM 2 = 3120150775007532967 := by decide +kernel
  have e3 : wd IM 3 = 3135389899092516619 := by decide +kernel
  refine ⟨g8_of h, ?_⟩
  unfold Glb
  rw [e0, e1, e2, e3]
  exact ⟨ht.cell gM8 0 (by decide), ht.cell gM8 1 (by decide), ht.cell gM8 2 (by decide), ht.cell gM8 3 (by decide)⟩
end Go.Proofs.YtckdifcelgooeaaDoor
