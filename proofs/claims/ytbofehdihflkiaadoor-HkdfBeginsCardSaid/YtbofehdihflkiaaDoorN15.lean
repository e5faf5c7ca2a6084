/-
  Layer 6: what awake asks. By an AI agent.
-/
import Derived.Test.YtbofehdihflkiaaDoorN14
namespace Go.Proofs.YtbofehdihflkiaaDoor
set_option maxRecDepth 100000
theorem abc_small : (sumN smallS [97, 98, 99]).take 2 = [0xba, 0x78] := by decide +kernel
end Go.Proofs.YtbofehdihflkiaaDoor
