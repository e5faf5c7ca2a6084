/-
  From what the row says of the table of bits to what the walks ask. By an AI agent.
-/
import Derived.Test.YtmhfkabpfkoocaaDoorPo4
import Derived.Lib.LaidTab
namespace Go.Proofs.YtmhfkabpfkoocaaDoor
open Go Go.RowKit
theorem p_tab_next {P : Program} {W : World} {name : String} {k : IntKind} {zs : List Int} {rest : List (String × DataW Unit)} {g : Nat} {t e : TypeId} {n : Nat} {ps : List MemPlace}
    (hg : P.globalNamed name = some g) (hty : (P.globals[g]?).map (·.type) = some t) (ht : P.underlying t = some (.array n e)) (he : P.underlying e = some (.int k)) (hce : P.cellsOf e = 1) (hct : P.cellsOf t = n)
    (h : DataW.LaidVars P W ((name, Lib.tabData k zs) :: rest) ps) : Lib.TabIs P W name k zs ∧ ∃ q, DataW.LaidVars P W rest q := by
  obtain ⟨g', t', cs, fuel, p, q, hg', ht', hvar, hd, hr, _⟩ := h
  obtain rfl := Option.some.inj (hg.symm.trans hg')
  obtain rfl := Option.some.inj (hty.symm.trans ht')
  refine ⟨?_, q, hr⟩
  unfold Lib.TabIs
  rw [hvar, ← Lib.cells_of_tab ht he hce hct hd]
def z_cuts : List Int := [0, 0, 0, 240, 3, 0, 0, 240, 3, 0, 0, 240, 3, 0, 0, 240]
theorem z_cuts_at : ∀ k, k < 16 → z_cuts.getD k 0 = ((ctab.getD k 0 : Nat) : Int) := by decide +kernel
theorem g11_of {W : World} {ps : List MemPlace} (h : DataW.LaidVars Tryd.prog W [("sealwax/poly.cuts", Lib.tabData .u8 z_cuts)] ps) : GlbP W := by
  have g : Tryd.prog.globalNamed "sealwax/poly.cuts" = some 0 := by kernel_rfl
  have c8 : Tryd.prog.cellsOf 5 = 1 := by kernel_rfl
  obtain ⟨h1, p1, _⟩ := p_tab_next (n := 16) g (t := 80) (by kernel_rfl) Tryd.underlying80 Tryd.underlying5 c8 (by kernel_rfl) h
  exact ⟨fun k hk => by rw [h1.cell g k (by exact hk), z_cuts_at k hk]⟩
end Go.Proofs.YtmhfkabpfkoocaaDoor
