import Derived.Test.YtkbkalhcdbklkaaGreatDoorJ01
import Derived.Test.YtkbkalhcdbklkaaGreatDoorMB
import Derived.Test.YtkbkalhcdbklkaaGreatDoorMD
namespace Go.Proofs.YtkbkalhcdbklkaaGreatDoor
open Go Go.RowKit
section
variable {w : World} {B g x : Nat}
theorem T4.zc (h : T4 w B g 0) : w.cell? ⟨g, 0, none⟩ = some (.int .u64 0) ∧ w.cell? ⟨g, 1, none⟩ = some (.int .u64 0) ∧ w.cell? ⟨g, 2, none⟩ = some (.int .u64 0) ∧ w.cell? ⟨g, 3, none⟩ = some (.int .u64 0) := by
  have := h.c4
  simpa [wd, dgt] using this
end
attribute [local irreducible] wd by8
set_option maxRecDepth 20000
end Go.Proofs.YtkbkalhcdbklkaaGreatDoor
