/-
  Layer 8's CurveMults. By an AI agent.
-/
import Derived.Test.YtckdifcelgooeaaDoorTU
import Derived.Test.YtckdifcelgooeaaDoorE19
namespace Go.Proofs.YtckdifcelgooeaaDoor
open Go Go.RowKit
section
attribute [local irreducible] wd by8 d16 set16w fl rl setA sf taf set8p set4w t3f ivN mlN adN sbN uN rtr rtq vk vb
theorem mults_law {z x y : Nat} (hz : z < W4) (hx : x < W4) (hy : y < W4) (w : World) (hG : G8 w) : Calls Tryd.prog 6 #[nv z, prv x y] w fun e w' => e = .returned (.bool true) ∧ Below w.heap.size w w' := by
  by_cases h : okN x y = true
  · obtain ⟨p, rfl, rfl⟩ := ok_pt h
    exact mults8_b g8n (xW (p.mul z)) (yW (p.mul z)) (fun A c k w hd hk => refTimes_any (can_k hk hz) w hd (trp_ok p) (trp_of p)) (fun r hr ho w => refPoint_pt hr ho w) (fun w => refDigits_any hz w) (fun w hG => cMult_pt hz p w hG) (fun w => refOn_pt p w) (fun w => refOf_pt p w) awakeG w hG
  · have h0 := Bool.eq_false_iff.2 h
    exact mults8_a g8n (fun w hG => cMult_no hx hy h0 w hG) (fun w => refOn_no hx hy h0 w) awakeG w hG
end
end Go.Proofs.YtckdifcelgooeaaDoor
