/-
  WireBack, at the landed code. By an AI agent.
-/
import Derived.Test.YtonfdnihllhcbaaWc5
import Derived.Test.YtonfdnihllhcbaaWk
namespace Go.Proofs.Ytonfdnihllhcbaa
open Go Go.RowKit
theorem wireback_w (w : World) {A1 A2 : Option Addr} {c1 c2 : Nat} {n : Int} {s behind : List UInt8} {y : Bool} (_ : (Lit.int .i64 n).wf = true) (r1 : Rd w w.heap.size A1 c1 s) (l1 : s.length ≤ 1048576) (r2 : Rd w w.heap.size A2 c2 behind) (l2 : behind.length ≤ 1048576) :
    Calls Try.prog 5 #[.int .i64 n, .slice A1 s.length c1, .slice A2 behind.length c2, .bool y] w fun e w' => e = .returned (.bool true) ∧ Below w.heap.size w w' := wireback_law landed ⟨l1, l2⟩ w r1 r2
end Go.Proofs.Ytonfdnihllhcbaa
