/-
  WireForm, at the landed code. By an AI agent.
-/
import Derived.Test.YtonfdnihllhcbaaWc2
import Derived.Test.YtonfdnihllhcbaaWk
namespace Go.Proofs.Ytonfdnihllhcbaa
open Go Go.RowKit
theorem wireform_w (w : World) {A0 : Option Addr} {c0 : Nat} {b : List UInt8} (r0 : Rd w w.heap.size A0 c0 b) (l0 : b.length ≤ 140737488351232) :
    Calls Try.prog 6 #[.slice A0 b.length c0] w fun e w' => e = .returned (.bool true) ∧ Below w.heap.size w w' := wireform_law landed l0 w r0
end Go.Proofs.Ytonfdnihllhcbaa
