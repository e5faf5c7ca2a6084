/-
  Layer 8's CurveMultiples. By an AI agent.
-/
import Derived.Test.YtckdifcelgooeaaDoorTU
import Derived.Test.YtckdifcelgooeaaDoorE21
namespace Go.Proofs.YtckdifcelgooeaaDoor
open Go Go.RowKit
theorem rord8 (w : World) : Calls Tryd.prog 37 #[] w fun e w' => ∃ A c, e = .returned (.slice A 32 c) ∧ DOwn w' w.heap.size A c 32 LB ∧ Below w.heap.size w w' := by
  have o1 := OwnF.lit (w := w) (B := w.heap.size) 3 (Nat.le_refl _) #[.int .i64 237, .int .i64 211, .int .i64 245, .int .i64 92, .int .i64 26, .int .i64 99, .int .i64 18, .int .i64 88, .int .i64 214, .int .i64 156, .int .i64 247, .int .i64 162, .int .i64 222, .int .i64 249, .int .i64 222, .int .i64 20, .int .i64 0, .int .i64 0, .int .i64 0, .int .i64 0, .int .i64 0, .int .i64 0, .int .i64 0, .int .i64 0, .int .i64 0, .int .i64 0, .int .i64 0, .int .i64 0, .int .i64 0, .int .i64 0, .int .i64 0, .int .i64 16] 32 (dg8 LB) (by decide) (by kernel_rfl)
  have hl : LB < 256 ^ 32 := by decide +kernel
  have hcan : Can 32 LB := can_of (n := 31) (by unfold by8; decide +kernel)
  have D : DOwn _ w.heap.size (some ⟨w.heap.size, 0, none⟩) 32 32 LB := ⟨o1, hl, hcan⟩
  have hc := (Below.refl w.heap.size w).alloc (Nat.le_refl _) (.cells #[.int .i64 237, .int .i64 211, .int .i64 245, .int .i64 92, .int .i64 26, .int .i64 99, .int .i64 18, .int .i64 88, .int .i64 214, .int .i64 156, .int .i64 247, .int .i64 162, .int .i64 222, .int .i64 249, .int .i64 222, .int .i64 20, .int .i64 0, .int .i64 0, .int .i64 0, .int .i64 0, .int .i64 0, .int .i64 0, .int .i64 0, .int .i64 0, .int .i64 0, .int .i64 0, .int .i64 0, .int .i64 0, .int .i64 0, .int .i64 0, .int .i64 0, .int .i64 16] 3)
  clear o1 hl hcan
  go_enter Tryd.func37, Tryd.ntmps37
  go_wp2_with fail
  go_ret
  exact ⟨_, _, rfl, D, hc⟩
theorem LB_W4 : LB < W4 := by decide +kernel
theorem W4_big : 18446744073709551616 * 2 < W4 := by decide +kernel
section
attribute [local irreducible] wd by8 d16 set16w fl rl setA sf taf set8p set4w t3f ivN mlN adN sbN uN rtr rtq vk vb
theorem multiples_law {m n x y : Nat} (hm : m < 18446744073709551616) (hn : n < 18446744073709551616) (hx : x < W4) (hy : y < W4) (w : World) (hG : G8 w) : Calls Tryd.prog 10 #[.int .u64 (m : Int), .int .u64 (n : Int), prv x y] w fun e w' => e = .returned (.bool true) ∧ Below w.heap.size w w' := by
  by_cases h : okN x y = true
  · obtain ⟨p, rfl, rfl⟩ := ok_pt h
    have hW := W4_big
    have k4 := fun w hG => cAdd_pt (p.mul m) (p.mul n) w hG
    have k5 := fun w hG => cMult_pt (i := m + n) (by omega) p w hG
    rw [← Pt.mul_add] at k4
    have k7 := fun w hG => cMult_pt LB_W4 B25 w hG
    rw [base_order, base_xy.1, base_xy.2, nought_xy.1, nought_xy.2] at k7
    have kf : ∀ (A : Option Addr) (c n : Nat) (w : World), Dig w w.heap.size A c n LB → Can n LB → Calls Tryd.prog 36 #[.slice A n c] w fun e w' => e = .returned (nv LB) ∧ Below w.heap.size w w' := fun A c n w hd _ => of_any w hd (Nat.le_refl _)
    by_cases hc : m + n < 18446744073709551616
    · exact multiples_b g8n hm hn hc (xW (p.mul (m + n))) (yW (p.mul (m + n))) (by omega) (by rw [IntKind.wrap_u64]; omega) (by omega) rord8 kf (fun w _ => cOn_pt p w) (fun w hG => cMult_pt (by omega) p w hG) (fun w hG => cMult_pt (by omega) p w hG)
        k4 k5 (fun w _ => cBase_any w) k7 nought8 awakeG w hG
    · exact multiples_c g8n (j := m + n - 18446744073709551616) hm hn (by omega) (xW (p.mul (m + n))) (yW (p.mul (m + n))) (by omega) (by rw [IntKind.wrap_u64]; omega) (by omega) rord8 kf (fun w _ => cOn_pt p w) (fun w hG => cMult_pt (by omega) p w hG) (fun w hG => cMult_pt (by omega) p w hG)
        k4 k5 (fun w _ => cBase_any w) k7 nought8 awakeG w hG
  · exact multiples_a g8n (fun w _ => cOn_no hx hy (Bool.eq_false_iff.2 h) w) awakeG w hG
end
end Go.Proofs.YtckdifcelgooeaaDoor
