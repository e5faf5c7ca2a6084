import Derived.Test.YtifcjfeepgfmfaaDoorLOrder
namespace Go.Proofs.YtifcjfeepgfmfaaDoor
open Go Go.RowKit
theorem to_eq {F : FuncId} {args : Array Value} {x y : Nat} (e : x = y) {w : World} (h : Calls Tryd.prog F args w fun e w' => e = .returned (nv x) ∧ Below w.heap.size w w') : Calls Tryd.prog F args w fun e w' => e = .returned (nv y) ∧ Below w.heap.size w w' := e ▸ h
theorem order_walk {a b c : Nat} (ha : a < W4) (hb : b < W4) (hc : c < W4) (w : World) (hG : Glb w) :
    Calls Tryd.prog 9 #[nv a, nv b, nv c] w fun e w' => e = .returned (.bool true) ∧ Below w.heap.size w w' :=
  order_gen (red_W4 _) (red_W4 _) (red_W4 _) (red_W4 _) (red_W4 _)
    (fun w => fadd_any hb hc w) (fun w => fadd_any ha (red_W4 _) w) (fun w => fadd_any ha hb w)
    (fun w => to_eq (by rw [Nat.mod_add_mod, Nat.add_mod_mod, Nat.add_assoc]) (fadd_any (red_W4 _) hc w))
    (fun w => to_eq (by rw [Nat.add_comm]) (fadd_any hb ha w))
    (fun w => fmul_any hb hc w) (fun w => fmul_any ha (red_W4 _) w) (fun w => fmul_any ha hb w)
    (fun w => to_eq (by rw [Nat.mod_mul_mod, Nat.mul_mod_mod, Nat.mul_assoc]) (fmul_any (red_W4 _) hc w))
    (fun w => to_eq (by rw [Nat.mul_comm]) (fmul_any hb ha w))
    (fun w => fmul_any ha (red_W4 _) w) (fun w => fmul_any ha hc w)
    (fun w => to_eq (by rw [← Nat.add_mod, Nat.mul_mod_mod, Nat.mul_add]) (fadd_any (red_W4 _) (red_W4 _) w)) w hG
end Go.Proofs.YtifcjfeepgfmfaaDoor
