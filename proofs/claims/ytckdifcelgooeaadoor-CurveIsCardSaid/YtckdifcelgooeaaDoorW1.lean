/-
  Layer 8's CurveIs, CurveSmalls. By an AI agent.
-/
import Derived.Test.YtckdifcelgooeaaDoorTU
import Derived.Test.YtckdifcelgooeaaDoorE17
namespace Go.Proofs.YtckdifcelgooeaaDoor
open Go Go.RowKit
section
attribute [local irreducible] wd by8 d16 set16w fl rl setA sf taf set8p set4w t3f ivN mlN adN sbN uN rtr rtq vk vb
theorem is_law {x y : Nat} (hx : x < W4) (hy : y < W4) (w : World) (hG : G8 w) : Calls Tryd.prog 3 #[prv x y] w fun e w' => e = .returned (.bool true) ∧ Below w.heap.size w w' := by
  have kp := fun w => refPoint_any (t := ⟨bx, by_, 1⟩) ⟨bx_lt, by_lt, P25_one⟩ w
  have e1 : mlN (⟨bx, by_, 1⟩ : Tr).x (ivN (⟨bx, by_, 1⟩ : Tr).z) = bx := ml_one bx_lt
  have e2 : mlN (⟨bx, by_, 1⟩ : Tr).y (ivN (⟨bx, by_, 1⟩ : Tr).z) = by_ := ml_one by_lt
  rw [e1, e2] at kp
  exact is_gen g8n (lt_W ed_lt) (lt_W bx_lt) (lt_W by_lt) (d_self _) (by rw [d_self, d_self]; rfl) (fun w _ => cOn_any hx hy w) (fun w => refOn_any hx hy w) (fun w _ => cD_any w) refD_any (fun w => rnum_any (lt_W ed_lt) w) (fun w _ => cBase_any w) refBase_any kp awakeG w hG
theorem smalls_law {x y : Nat} (hx : x < W4) (hy : y < W4) (w : World) (hG : G8 w) : Calls Tryd.prog 4 #[prv x y] w fun e w' => e = .returned (.bool true) ∧ Below w.heap.size w w' := by
  by_cases h : okN x y = true
  · obtain ⟨p, rfl, rfl⟩ := ok_pt h
    exact smalls_b g8n (fun w hG => cSmall_pt p w hG) (fun w => refOn_pt p w) awakeG (fun w => refOf_pt p w) (fun w => refSmall_any (trp_ok p) (trp_of p) w) w hG
  · have h0 := Bool.eq_false_iff.2 h
    exact smalls_a g8n (fun w _ => cSmall_no hx hy h0 w) (fun w => refOn_no hx hy h0 w) awakeG w hG
end
end Go.Proofs.YtckdifcelgooeaaDoor
