/-
  Layer 8's CurveOrder. By an AI agent.
-/
import Derived.Test.YtckdifcelgooeaaDoorTU
import Derived.Test.YtckdifcelgooeaaDoorE20
namespace Go.Proofs.YtckdifcelgooeaaDoor
open Go Go.RowKit
section
attribute [local irreducible] wd by8 d16 set16w fl rl setA sf taf set8p set4w t3f ivN mlN adN sbN uN rtr rtq vk vb
theorem order_law {x y m n i j : Nat} (hx : x < W4) (hy : y < W4) (hm : m < W4) (hn : n < W4) (hi : i < W4) (hj : j < W4) (w : World) (hG : G8 w) : Calls Tryd.prog 9 #[prv x y, prv m n, prv i j] w fun e w' => e = .returned (.bool true) ∧ Below w.heap.size w w' := by
  have ky : ∀ {a b : Nat}, a < W4 → b < W4 → okN a b = true → ∀ w, G8 w → Calls Tryd.prog 12 #[prv a b] w fun e w' => e = .returned (.bool true) ∧ Below w.heap.size w w' := fun ha hb h w _ => by have r := cOn_any ha hb w; rwa [h] at r
  by_cases h : okN x y = true
  · by_cases h2 : okN m n = true
    · by_cases h3 : okN i j = true
      · obtain ⟨p, rfl, rfl⟩ := ok_pt h
        obtain ⟨q, rfl, rfl⟩ := ok_pt h2
        obtain ⟨r, rfl, rfl⟩ := ok_pt h3
        refine order_d g8n (xW (p.add q)) (yW (p.add q)) (xW ((p.add q).add r)) (yW ((p.add q).add r)) hx hy (fun w _ => cOn_pt p w) (fun w _ => cOn_pt q w) (fun w _ => cOn_pt r w) (fun w hG => cAdd_pt p q w hG) (fun w hG => ?_) (fun w hG => cAdd_pt q r w hG)
          (fun w hG => cAdd_pt (p.add q) r w hG) (fun w hG => ?_) awakeG nought8 (fun w hG => ?_) (fun w _ => cOn_pt (p.add q) w) w hG
        · rw [Pt.comm p q]; exact cAdd_pt q p w hG
        · rw [Pt.assoc]; exact cAdd_pt p (q.add r) w hG
        · have k := cAdd_pt p (Pt.nought E25) w hG
          rwa [Pt.add_nought, nought_xy.1, nought_xy.2] at k
      · exact order_c g8n (ky hx hy h) (ky hm hn h2) (fun w _ => cOn_no hi hj (Bool.eq_false_iff.2 h3) w) awakeG w hG
    · exact order_b g8n (ky hx hy h) (fun w _ => cOn_no hm hn (Bool.eq_false_iff.2 h2) w) awakeG w hG
  · exact order_a g8n (fun w _ => cOn_no hx hy (Bool.eq_false_iff.2 h) w) awakeG w hG
end
end Go.Proofs.YtckdifcelgooeaaDoor
