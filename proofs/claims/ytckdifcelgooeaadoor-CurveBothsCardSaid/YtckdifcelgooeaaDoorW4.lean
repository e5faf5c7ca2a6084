/-
  Layer 8's CurveBoths. By an AI agent.
-/
import Derived.Test.YtckdifcelgooeaaDoorTU
import Derived.Test.YtckdifcelgooeaaDoorE22
namespace Go.Proofs.YtckdifcelgooeaaDoor
open Go Go.RowKit
section
attribute [local irreducible] wd by8 d16 set16w fl rl setA sf taf set8p set4w t3f ivN mlN adN sbN uN rtr rtq vk vb
theorem boths_law {i j x y m n : Nat} (hi : i < W4) (hj : j < W4) (hx : x < W4) (hy : y < W4) (hm : m < W4) (hn : n < W4) (w : World) (hG : G8 w) : Calls Tryd.prog 7 #[rv24 i j x y m n] w fun e w' => e = .returned (.bool true) ∧ Below w.heap.size w w' := by
  by_cases h : okN x y = true
  · by_cases h2 : okN m n = true
    · obtain ⟨p, rfl, rfl⟩ := ok_pt h
      obtain ⟨q, rfl, rfl⟩ := ok_pt h2
      exact boths_c g8n (q1 := p.mul i) (q2 := q.mul j) (q3 := (p.mul i).add (q.mul j)) (xW _) (yW _) (fun A c k w hd hk => refTimes_any (can_k hk hi) w hd (trp_ok p) (trp_of p)) (fun A c k w hd hk => refTimes_any (can_k hk hj) w hd (trp_ok q) (trp_of q))
        (fun r hr ho w => refPoint_pt hr ho w) (fun r s hr hs h1 h2 w => (refPlus_any hr hs w).mono fun e w' ⟨he, hb⟩ => ⟨_, he, plus_ok _ _ _, Tr.plus_of (C := E25) rfl h1 h2, hb⟩)
        (fun w => refDigits_any hi w) (fun w => refDigits_any hj w) (fun w hG => cBoth_pt hi hj p q w hG) (fun w => refOn_pt p w) (fun w => refOn_pt q w) (fun w => refOf_pt p w) (fun w => refOf_pt q w) awakeG w hG
    · have h0 := Bool.eq_false_iff.2 h2
      exact boths_b g8n (fun w _ => cBoth_no hx hy hm hn (by rw [h0, Bool.and_false]) w) (fun w => by have r := refOn_any hx hy w; rwa [h] at r) (fun w => refOn_no hm hn h0 w) awakeG w hG
  · have h0 := Bool.eq_false_iff.2 h
    exact boths_a g8n (fun w _ => cBoth_no hx hy hm hn (by rw [h0, Bool.false_and]) w) (fun w => refOn_no hx hy h0 w) awakeG w hG
end
end Go.Proofs.YtckdifcelgooeaaDoor
