/-
  From what the row says of the table of buckets to what the walks ask. By an AI agent.
-/
import Derived.Test.YthamhpgjjbiplaaDoorPc3
import Derived.Lib.LaidTab
namespace Go.Proofs.YthamhpgjjbiplaaDoor
open Go Go.RowKit
theorem b_tab_next {P : Program} {W : World} {name : String} {k : IntKind} {zs : List Int} {rest : List (String × DataW Unit)} {g : Nat} {t e : TypeId} {n : Nat} {ps : List MemPlace}
    (hg : P.globalNamed name = some g) (hty : (P.globals[g]?).map (·.type) = some t) (ht : P.underlying t = some (.array n e)) (he : P.underlying e = some (.int k)) (hce : P.cellsOf e = 1) (hct : P.cellsOf t = n)
    (h : DataW.LaidVars P W ((name, Lib.tabData k zs) :: rest) ps) : Lib.TabIs P W name k zs ∧ ∃ q, DataW.LaidVars P W rest q := by
  obtain ⟨g', t', cs, fuel, p, q, hg', ht', hvar, hd, hr, _⟩ := h
  obtain rfl := Option.some.inj (hg.symm.trans hg')
  obtain rfl := Option.some.inj (hty.symm.trans ht')
  refine ⟨?_, q, hr⟩
  unfold Lib.TabIs
  rw [hvar, ← Lib.cells_of_tab ht he hce hct hd]
def z_buckets : List Int := [64, 128, 256, 512, 1024, 2048, 4096]
theorem g14_of {W : World} {ps : List MemPlace} (h : DataW.LaidVars Tryd.prog W [("sealwax/pad.buckets", Lib.tabData .i64 z_buckets)] ps) : GlbB W := by
  have g : Tryd.prog.globalNamed "sealwax/pad.buckets" = some 0 := by kernel_rfl
  have c8 : Tryd.prog.cellsOf 3 = 1 := by kernel_rfl
  obtain ⟨h1, p1, _⟩ := b_tab_next (n := 7) g (t := 33) (by kernel_rfl) Tryd.underlying33 Tryd.underlying3 c8 (by kernel_rfl) h
  have k (j : Nat) (hj : j < 7) := h1.cell g j (by exact hj)
  exact ⟨k 0 (by decide), k 1 (by decide), k 2 (by decide), k 3 (by decide), k 4 (by decide), k 5 (by decide), k 6 (by decide)⟩
end Go.Proofs.YthamhpgjjbiplaaDoor
