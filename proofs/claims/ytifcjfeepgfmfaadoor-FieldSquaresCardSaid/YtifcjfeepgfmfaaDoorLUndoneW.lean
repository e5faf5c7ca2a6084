import Derived.Test.YtifcjfeepgfmfaaDoorLUndone
import Derived.Test.YtifcjfeepgfmfaaDoorFerm
namespace Go.Proofs.YtifcjfeepgfmfaaDoor
open Go Go.RowKit
theorem undone_walk {a b : Nat} (ha : a < W4) (hb : b < W4) (w : World) (hG : Glb w) :
    Calls Tryd.prog 10 #[nv a, nv b] w fun e w' => e = .returned (.bool true) ∧ Below w.heap.size w w' :=
  undone_gen (x := a % P25) (i := a ^ (P25 - 2) % P25) (s := (a + b) % P25) (n := fsub 0 a) (z := decide (a % P25 = 0)) (red_W4 _) (red_W4 _) rfl
    (fun h => decide_eq_true (inv_zero (of_decide_eq_true h)))
    (fun w => reduce_any ha w) (fun w => finvert_any ha w) (fun w => fadd_any ha hb w)
    (fun w => to_eq (sub_back hb) (fsub_any (red_W4 _) hb w)) (fun w => fneg_any ha w)
    (fun w => to_eq (add_neg ha) (fadd_any ha (by unfold fsub; exact red_W4 _) w))
    (fun w => to_eq (inv_inv a) (finvert_any (red_W4 _) w))
    (fun h w => by
      have h1 := to_eq (inv_mul (of_decide_eq_false h)) (fmul_any ha (red_W4 (a ^ (P25 - 2))) w)
      rw [nv_1] at h1
      exact h1)
    (fun w => by
      have h1 := right_any (red_W4 (a ^ (P25 - 2))) w
      rw [decide_eq_true (Nat.mod_lt _ P25_pos)] at h1
      exact h1) w hG
end Go.Proofs.YtifcjfeepgfmfaaDoor
