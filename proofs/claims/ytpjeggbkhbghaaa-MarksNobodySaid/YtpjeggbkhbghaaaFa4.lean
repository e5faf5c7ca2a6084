/-
  Layer 15, the document's At; Same. By an AI agent.
-/
import Derived.Test.YtpjeggbkhbghaaaTD
import Derived.Test.YtpjeggbkhbghaaaFa1
namespace Go.Proofs.Ytpjeggbkhbghaaa
open Go Go.RowKit
set_option maxRecDepth 20000
/-- The i-th that is not dropped. -/
def atR (L : List Ins) (G : List IDt) (i : Int) : IDt × Int := if i < 0 ∨ ((liveL G (nodesL L)).length : Int) ≤ i then ((0, 0), 6) else ((((liveL G (nodesL L))[i.toNat]?).map Ins.id).getD (0, 0), 0)
end Go.Proofs.Ytpjeggbkhbghaaa
