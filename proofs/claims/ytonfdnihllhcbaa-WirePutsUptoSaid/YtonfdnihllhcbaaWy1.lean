/-
  WirePuts, at the landed code. By an AI agent.
-/
import Derived.Test.YtonfdnihllhcbaaWc4
import Derived.Test.YtonfdnihllhcbaaWk
namespace Go.Proofs.Ytonfdnihllhcbaa
open Go Go.RowKit
theorem wireputs_w (w : World) {A0 A1 : Option Addr} {c0 c1 : Nat} {b s : List UInt8} {n : Int} (r0 : Rd w w.heap.size A0 c0 b) (l0 : b.length ≤ 1048576) (r1 : Rd w w.heap.size A1 c1 s) (l1 : s.length ≤ 1048576) (_ : (Lit.int .i64 n).wf = true) :
    Calls Try.prog 3 #[.slice A0 b.length c0, .slice A1 s.length c1, .int .i64 n] w fun e w' => e = .returned (.bool true) ∧ Below w.heap.size w w' := wireputs_law landed (by omega) w r0 r1
end Go.Proofs.Ytonfdnihllhcbaa
