/-
  SuiteNobody at the landed suite. By an AI agent.
-/
import Derived.Test.YtdddcgkgellbgabSw1
import Derived.Test.YtdddcgkgellbgabSm2
namespace Go.Proofs.Ytdddcgkgellbgab
open Go Go.RowKit
theorem nobody_walk {k n f1 f2 f3 : Int} {A1 A2 A3 : Option Addr} {c1 c2 c3 : Nat} {b1 b2 b3 : List UInt8} (hnn : n ≤ 9223372036854775807)
    (w : World) (r1 : Rd w w.heap.size A1 c1 b1) (r2 : Rd w w.heap.size A2 c2 b2) (r3 : Rd w w.heap.size A3 c3 b3) (l1 : b1.length ≤ 140737488351232) (l2 : b2.length ≤ 140737488351232) (l3 : b3.length ≤ 140737488351232) (pl : Bool) :
    Calls Try.prog 6 #[.agg #[.int .i64 k, .int .i64 n, .int .i64 f1, .slice A1 b1.length c1, .int .i64 f2, .slice A2 b2.length c2, .int .i64 f3, .slice A3 b3.length c3], .bool pl] w fun e w' => e = .returned (.bool true) ∧ Below w.heap.size w w' :=
  nobody_at awakeI (by omega) w rfl rfl rfl r1 r2 r3 (by omega) (by omega) (by omega) pl
end Go.Proofs.Ytdddcgkgellbgab
