/-
  Layer 8's CurveAdds. By an AI agent.
-/
import Derived.Test.YtckdifcelgooeaaDoorTU
import Derived.Test.YtckdifcelgooeaaDoorE18
namespace Go.Proofs.YtckdifcelgooeaaDoor
open Go Go.RowKit
section
attribute [local irreducible] wd by8 d16 set16w fl rl setA sf taf set8p set4w t3f ivN mlN adN sbN uN rtr rtq vk vb
theorem neg_sum (p : Pt E25) (w : World) (hG : G8 w) : Calls Tryd.prog 24 #[prv p.x.val p.y.val, prv p.neg.x.val p.y.val] w fun e w' => e = .returned (.tuple #[prv 0 1, .int .i64 0]) ∧ Below w.heap.size w w' := by
  have h := cAdd_pt p p.neg w hG
  rwa [Pt.add_neg, nought_xy.1, nought_xy.2] at h
theorem adds_law {x y m n : Nat} (hx : x < W4) (hy : y < W4) (hm : m < W4) (hn : n < W4) (w : World) (hG : G8 w) : Calls Tryd.prog 5 #[prv x y, prv m n] w fun e w' => e = .returned (.bool true) ∧ Below w.heap.size w w' := by
  by_cases h : okN x y = true
  · obtain ⟨p, rfl, rfl⟩ := ok_pt h
    by_cases h2 : okN m n = true
    · obtain ⟨q, rfl, rfl⟩ := ok_pt h2
      exact adds_c g8n (yW p) (xW (p.add q)) (yW (p.add q)) (fun w hG => cAdd_pt p q w hG) (fun w _ => cNeg_pt p w) (fun w => refOn_pt p w) (fun w hG => neg_sum p w hG) (fun w => refOn_pt p.neg w) nought8 (fun w => refOn_pt q w) awakeG
        (fun w => refOf_pt p w) (fun w => refOf_pt q w) (fun w => refPlus_any (trp_ok p) (trp_ok q) w) (fun w => refPoint_pt (plus_ok _ _ _) (Tr.plus_of (C := E25) rfl (trp_of p) (trp_of q)) w) w hG
    · have h0 := Bool.eq_false_iff.2 h2
      exact adds_b g8n (yW p) (fun w _ => cAdd_no hx hy hm hn (by rw [h0, Bool.and_false]) w) (fun w _ => cNeg_pt p w) (fun w => refOn_pt p w) (fun w hG => neg_sum p w hG) (fun w => refOn_pt p.neg w) nought8 (fun w => refOn_no hm hn h0 w) awakeG w hG
  · have h0 := Bool.eq_false_iff.2 h
    exact adds_a g8n (fun w _ => cAdd_no hx hy hm hn (by rw [h0, Bool.false_and]) w) (fun w _ => cNeg_no hx hy h0 w) (fun w => refOn_no hx hy h0 w) awakeG w hG
end
end Go.Proofs.YtckdifcelgooeaaDoor
