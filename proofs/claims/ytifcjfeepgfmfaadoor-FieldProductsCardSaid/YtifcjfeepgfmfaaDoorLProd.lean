import Derived.Test.YtifcjfeepgfmfaaDoorR9
import Derived.Test.YtifcjfeepgfmfaaDoorLOrderW
namespace Go.Proofs.YtifcjfeepgfmfaaDoor
open Go Go.RowKit
attribute [local irreducible] wd by8 d16 set16w fl
set_option maxRecDepth 20000
set_option maxHeartbeats 1600000 in
theorem products_gen {a b r x y : Nat} (hbr : r < W4)
    (k1 : ∀ w, Calls Tryd.prog 26 #[nv a, nv b] w fun e w' => e = .returned (nv r) ∧ Below w.heap.size w w')
    (k2 : ∀ w, Calls Tryd.prog 13 #[nv a] w fun e w' => e = .returned (fv x) ∧ Below w.heap.size w w')
    (k3 : ∀ w, Calls Tryd.prog 13 #[nv b] w fun e w' => e = .returned (fv y) ∧ Below w.heap.size w w')
    (k4 : ∀ w, Calls Tryd.prog 27 #[fv x, fv y] w fun e w' => e = .returned (fv r) ∧ Below w.heap.size w w')
    (k5 : ∀ w, Calls Tryd.prog 17 #[fv r] w fun e w' => e = .returned (nv r) ∧ Below w.heap.size w w')
    (w : World) (hG : Glb w) :
    Calls Tryd.prog 4 #[nv a, nv b] w fun e w' => e = .returned (.bool true) ∧ Below w.heap.size w w' := by
  obtain ⟨v2, e2, oa, ob, hc⟩ := two a b w
  have hG2 := hG.keep hc hG.pos
  have HGG := Lib.hid (fun wz (hz : Below v2.heap.size v2 wz) => hG2.next hz)
  clear hG hG2
  have K1 := Lib.hid k1
  have K2 := Lib.hid k2
  have K3 := Lib.hid k3
  have K4 := Lib.hid k4
  have K5 := Lib.hid k5
  clear k1 k2 k3 k4 k5
  unfold nv
  go_enter Tryd.func4, Tryd.ntmps4
  go_upto_region 1 with fail
  rw [← e2]
  clear e2
  have HS := Lib.hid (keep44 oa ob)
  have hs := hc.size
  refine wp_region_seq 13 (fun wz => Below v2.heap.size v2 wz) (by kernel_rfl) (by kernel_rfl) (Below.refl _ v2).drew ?_
  simp only [List.take_succ_cons, List.take_zero, List.drop_succ_cons, List.drop_zero]
  refine Seq.run (nv a) rfl (fun wz hz => by obtain ⟨s0, s1, s2, s3, -⟩ := HS.out wz hz; go_simp) ?_
  go_simp
  refine Seq.run (nv b) rfl (fun wz hz => by obtain ⟨-, -, -, -, s0, s1, s2, s3⟩ := HS.out wz hz; go_simp) ?_
  go_simp
  refine Seq.call (nv r) 26 #[nv a, nv b] rfl (fun wz hz => by go_simp) (fun wz hz => (K1.out wz).mono fun e w' ⟨he, h1⟩ => ⟨he, hz.trans (h1.mono hz.size)⟩) ?_
  go_simp
  refine Seq.run (nv a) rfl (fun wz hz => by obtain ⟨s0, s1, s2, s3, -⟩ := HS.out wz hz; go_simp) ?_
  go_simp
  refine Seq.call (fv x) 13 #[nv a] rfl (fun wz hz => by go_simp) (fun wz hz => (K2.out wz).mono fun e w' ⟨he, h1⟩ => ⟨he, hz.trans (h1.mono hz.size)⟩) ?_
  go_simp
  refine Seq.run (nv b) rfl (fun wz hz => by obtain ⟨-, -, -, -, s0, s1, s2, s3⟩ := HS.out wz hz; go_simp) ?_
  go_simp
  refine Seq.call (fv y) 13 #[nv b] rfl (fun wz hz => by go_simp) (fun wz hz => (K3.out wz).mono fun e w' ⟨he, h1⟩ => ⟨he, hz.trans (h1.mono hz.size)⟩) ?_
  go_simp
  refine Seq.call (fv r) 27 #[fv x, fv y] rfl (fun wz hz => by go_simp) (fun wz hz => (K4.out wz).mono fun e w' ⟨he, h1⟩ => ⟨he, hz.trans (h1.mono hz.size)⟩) ?_
  go_simp
  refine Seq.call (nv r) 17 #[fv r] rfl (fun wz hz => by go_simp) (fun wz hz => (K5.out wz).mono fun e w' ⟨he, h1⟩ => ⟨he, hz.trans (h1.mono hz.size)⟩) ?_
  go_simp
  refine Seq.run (.bool true) rfl (fun wz hz => run_eq4 rfl rfl rfl hbr hbr (decide_eq_true rfl) wz) ?_
  go_simp
  refine Seq.run (.bool true) rfl (fun wz hz => by go_simp) ?_
  go_simp
  refine Seq.callG (.bool true) 25 #[] (by rfl) (fun wz hz => by go_simp) (fun wz hz => (awake_any wz (HGG.out wz hz)).mono fun e w' ⟨he, h1⟩ => ⟨he, hz.trans (h1.mono hz.size)⟩) ?_
  go_simp
  refine Seq.run (.bool true) rfl (fun wz hz => by go_simp) ?_
  go_simp
  refine Seq.nil fun v3 hd => ?_
  go_wp2_with fail
  go_ret
  exact ⟨rfl, hc.trans (hd.mono hs)⟩
theorem products_law {a b : Nat} (ha : a < W4) (hb : b < W4) (w : World) (hG : Glb w) :
    Calls Tryd.prog 4 #[nv a, nv b] w fun e w' => e = .returned (.bool true) ∧ Below w.heap.size w w' :=
  products_gen (r := a * b % P25) (x := a % P25) (y := b % P25) (red_W4 _) (fun w => fmul_any ha hb w) (fun w => rof_any ha w) (fun w => rof_any hb w)
    (fun w => by
      have h := rmul_any (red_W4 a) (red_W4 b) w
      rw [← Nat.mul_mod] at h
      exact h) (fun w => rnum_any (red_W4 _) w) w hG
end Go.Proofs.YtifcjfeepgfmfaaDoor
