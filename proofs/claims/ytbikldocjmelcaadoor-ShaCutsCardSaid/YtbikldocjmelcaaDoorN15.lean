/-
  Layer 6: what awake asks. By an AI agent.
-/
import Derived.Test.YtbikldocjmelcaaDoorN14
namespace Go.Proofs.YtbikldocjmelcaaDoor
set_option maxRecDepth 100000
theorem abc_small : (sumN smallS [97, 98, 99]).take 2 = [0xba, 0x78] := by decide +kernel
end Go.Proofs.YtbikldocjmelcaaDoor
