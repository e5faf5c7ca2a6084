/-
  WireNobody, at the landed code. By an AI agent.
-/
import Derived.Test.YtonfdnihllhcbaaWn
namespace Go.Proofs.Ytonfdnihllhcbaa
open Go Go.RowKit
theorem wirenobody_w (w : World) {k a b : Int} {y : Bool} :
    Calls Try.prog 8 #[.agg #[.int .i64 k, .int .i64 a, .int .i64 b], .bool y] w fun e w' => e = .returned (.bool true) ∧ Below w.heap.size w w' := wirenobody_law w k a b y
end Go.Proofs.Ytonfdnihllhcbaa
