import Derived.Test.YtifcjfeepgfmfaaDoorLaw3
namespace Go.Proofs.YtifcjfeepgfmfaaDoor
open Go Go.RowKit
attribute [local irreducible] wd by8
set_option maxRecDepth 20000
set_option maxHeartbeats 3200000 in
theorem order_gen {a b c p q r s t u x y : Nat} (hbq : q < W4) (hbr : r < W4) (hbt : t < W4) (hbu : u < W4) (hbx : x < W4)
    (k1 : ∀ w, Calls Tryd.prog 19 #[nv b, nv c] w fun e w' => e = .returned (nv p) ∧ Below w.heap.size w w') (k2 : ∀ w, Calls Tryd.prog 19 #[nv a, nv p] w fun e w' => e = .returned (nv q) ∧ Below w.heap.size w w') (k3 : ∀ w, Calls Tryd.prog 19 #[nv a, nv b] w fun e w' => e = .returned (nv r) ∧ Below w.heap.size w w') (k4 : ∀ w, Calls Tryd.prog 19 #[nv r, nv c] w fun e w' => e = .returned (nv q) ∧ Below w.heap.size w w') (k5 : ∀ w, Calls Tryd.prog 19 #[nv b, nv a] w fun e w' => e = .returned (nv r) ∧ Below w.heap.size w w') (k6 : ∀ w, Calls Tryd.prog 26 #[nv b, nv c] w fun e w' => e = .returned (nv s) ∧ Below w.heap.size w w') (k7 : ∀ w, Calls Tryd.prog 26 #[nv a, nv s] w fun e w' => e = .returned (nv t) ∧ Below w.heap.size w w') (k8 : ∀ w, Calls Tryd.prog 26 #[nv a, nv b] w fun e w' => e = .returned (nv u) ∧ Below w.heap.size w w') (k9 : ∀ w, Calls Tryd.prog 26 #[nv u, nv c] w fun e w' => e = .returned (nv t) ∧ Below w.heap.size w w') (k10 : ∀ w, Calls Tryd.prog 26 #[nv b, nv a] w fun e w' => e = .returned (nv u) ∧ Below w.heap.size w w') (k11 : ∀ w, Calls Tryd.prog 26 #[nv a, nv p] w fun e w' => e = .returned (nv x) ∧ Below w.heap.size w w') (k12 : ∀ w, Calls Tryd.prog 26 #[nv a, nv c] w fun e w' => e = .returned (nv y) ∧ Below w.heap.size w w') (k13 : ∀ w, Calls Tryd.prog 19 #[nv u, nv y] w fun e w' => e = .returned (nv x) ∧ Below w.heap.size w w')
    (w : World) (hG : Glb w) :
    Calls Tryd.prog 9 #[nv a, nv b, nv c] w fun e w' => e = .returned (.bool true) ∧ Below w.heap.size w w' := by
  obtain ⟨v2, e2, oa, ob, oc, hc⟩ := three a b c w
  have hG2 := hG.keep hc hG.pos
  have HGG := Lib.hid (fun wz (hz : Below v2.heap.size v2 wz) => hG2.next hz)
  clear hG hG2
  have K1 := Lib.hid k1
  have K2 := Lib.hid k2
  have K3 := Lib.hid k3
  have K4 := Lib.hid k4
  have K5 := Lib.hid k5
  have K6 := Lib.hid k6
  have K7 := Lib.hid k7
  have K8 := Lib.hid k8
  have K9 := Lib.hid k9
  have K10 := Lib.hid k10
  have K11 := Lib.hid k11
  have K12 := Lib.hid k12
  have K13 := Lib.hid k13
  clear k1 k2 k3 k4 k5 k6 k7 k8 k9 k10 k11 k12 k13
  unfold nv
  go_enter Tryd.func9, Tryd.ntmps9
  go_upto_region 1 with fail
  rw [← e2]
  clear e2
  have HS := Lib.hid (keep444 oa ob oc)
  have hs := hc.size
  refine wp_region_seq 20 (fun wz => Below v2.heap.size v2 wz) (by kernel_rfl) (by kernel_rfl) (Below.refl _ v2).drew ?_
  simp only [List.take_succ_cons, List.take_zero, List.drop_succ_cons, List.drop_zero]
  refine Seq.run (nv a) rfl (fun wz hz => by obtain ⟨s0, s1, s2, s3, -⟩ := HS.out wz hz; go_simp) ?_
  go_simp
  refine Seq.run (nv b) rfl (fun wz hz => by obtain ⟨-, -, -, -, s0, s1, s2, s3, -⟩ := HS.out wz hz; go_simp) ?_
  go_simp
  refine Seq.run (nv c) rfl (fun wz hz => by obtain ⟨-, -, -, -, -, -, -, -, s0, s1, s2, s3⟩ := HS.out wz hz; go_simp) ?_
  go_simp
  refine Seq.call (nv p) 19 #[nv b, nv c] rfl (fun wz hz => by go_simp) (fun wz hz => (K1.out wz).mono fun e w' ⟨he, h1⟩ => ⟨he, hz.trans (h1.mono hz.size)⟩) ?_
  go_simp
  refine Seq.call (nv q) 19 #[nv a, nv p] rfl (fun wz hz => by go_simp) (fun wz hz => (K2.out wz).mono fun e w' ⟨he, h1⟩ => ⟨he, hz.trans (h1.mono hz.size)⟩) ?_
  go_simp
  refine Seq.run (nv a) rfl (fun wz hz => by obtain ⟨s0, s1, s2, s3, -⟩ := HS.out wz hz; go_simp) ?_
  go_simp
  refine Seq.run (nv b) rfl (fun wz hz => by obtain ⟨-, -, -, -, s0, s1, s2, s3, -⟩ := HS.out wz hz; go_simp) ?_
  go_simp
  refine Seq.call (nv r) 19 #[nv a, nv b] rfl (fun wz hz => by go_simp) (fun wz hz => (K3.out wz).mono fun e w' ⟨he, h1⟩ => ⟨he, hz.trans (h1.mono hz.size)⟩) ?_
  go_simp
  refine Seq.run (nv c) rfl (fun wz hz => by obtain ⟨-, -, -, -, -, -, -, -, s0, s1, s2, s3⟩ := HS.out wz hz; go_simp) ?_
  go_simp
  refine Seq.call (nv q) 19 #[nv r, nv c] rfl (fun wz hz => by go_simp) (fun wz hz => (K4.out wz).mono fun e w' ⟨he, h1⟩ => ⟨he, hz.trans (h1.mono hz.size)⟩) ?_
  go_simp
  refine Seq.run (.bool true) rfl (fun wz hz => run_eq4 rfl rfl rfl hbq hbq (decide_eq_true rfl) wz) ?_
  go_simp
  refine Seq.run (.bool true) rfl (fun wz hz => by go_simp) ?_
  go_simp
  refine Seq.runG (nv a) (by rfl) (fun wz hz => by obtain ⟨s0, s1, s2, s3, -⟩ := HS.out wz hz; go_simp) ?_
  go_simp
  refine Seq.runG (nv b) (by rfl) (fun wz hz => by obtain ⟨-, -, -, -, s0, s1, s2, s3, -⟩ := HS.out wz hz; go_simp) ?_
  go_simp
  refine Seq.callG (nv r) 19 #[nv a, nv b] (by rfl) (fun wz hz => by go_simp) (fun wz hz => (K3.out wz).mono fun e w' ⟨he, h1⟩ => ⟨he, hz.trans (h1.mono hz.size)⟩) ?_
  go_simp
  refine Seq.runG (nv b) (by rfl) (fun wz hz => by obtain ⟨-, -, -, -, s0, s1, s2, s3, -⟩ := HS.out wz hz; go_simp) ?_
  go_simp
  refine Seq.runG (nv a) (by rfl) (fun wz hz => by obtain ⟨s0, s1, s2, s3, -⟩ := HS.out wz hz; go_simp) ?_
  go_simp
  refine Seq.callG (nv r) 19 #[nv b, nv a] (by rfl) (fun wz hz => by go_simp) (fun wz hz => (K5.out wz).mono fun e w' ⟨he, h1⟩ => ⟨he, hz.trans (h1.mono hz.size)⟩) ?_
  go_simp
  refine Seq.runG (.bool true) (by rfl) (fun wz hz => run_eq4 rfl rfl rfl hbr hbr (decide_eq_true rfl) wz) ?_
  go_simp
  refine Seq.run (.bool true) rfl (fun wz hz => by go_simp) ?_
  go_simp
  refine Seq.nil fun v3 hd => ?_
  go_upto_region 2 with fail
  refine wp_region_seq 20 (fun wz => Below v2.heap.size v2 wz) (by kernel_rfl) (by kernel_rfl) hd.drew ?_
  clear hd
  simp only [List.take_succ_cons, List.take_zero, List.drop_succ_cons, List.drop_zero]
  refine Seq.run (nv a) rfl (fun wz hz => by obtain ⟨s0, s1, s2, s3, -⟩ := HS.out wz hz; go_simp) ?_
  go_simp
  refine Seq.run (nv b) rfl (fun wz hz => by obtain ⟨-, -, -, -, s0, s1, s2, s3, -⟩ := HS.out wz hz; go_simp) ?_
  go_simp
  refine Seq.run (nv c) rfl (fun wz hz => by obtain ⟨-, -, -, -, -, -, -, -, s0, s1, s2, s3⟩ := HS.out wz hz; go_simp) ?_
  go_simp
  refine Seq.call (nv s) 26 #[nv b, nv c] rfl (fun wz hz => by go_simp) (fun wz hz => (K6.out wz).mono fun e w' ⟨he, h1⟩ => ⟨he, hz.trans (h1.mono hz.size)⟩) ?_
  go_simp
  refine Seq.call (nv t) 26 #[nv a, nv s] rfl (fun wz hz => by go_simp) (fun wz hz => (K7.out wz).mono fun e w' ⟨he, h1⟩ => ⟨he, hz.trans (h1.mono hz.size)⟩) ?_
  go_simp
  refine Seq.run (nv a) rfl (fun wz hz => by obtain ⟨s0, s1, s2, s3, -⟩ := HS.out wz hz; go_simp) ?_
  go_simp
  refine Seq.run (nv b) rfl (fun wz hz => by obtain ⟨-, -, -, -, s0, s1, s2, s3, -⟩ := HS.out wz hz; go_simp) ?_
  go_simp
  refine Seq.call (nv u) 26 #[nv a, nv b] rfl (fun wz hz => by go_simp) (fun wz hz => (K8.out wz).mono fun e w' ⟨he, h1⟩ => ⟨he, hz.trans (h1.mono hz.size)⟩) ?_
  go_simp
  refine Seq.run (nv c) rfl (fun wz hz => by obtain ⟨-, -, -, -, -, -, -, -, s0, s1, s2, s3⟩ := HS.out wz hz; go_simp) ?_
  go_simp
  refine Seq.call (nv t) 26 #[nv u, nv c] rfl (fun wz hz => by go_simp) (fun wz hz => (K9.out wz).mono fun e w' ⟨he, h1⟩ => ⟨he, hz.trans (h1.mono hz.size)⟩) ?_
  go_simp
  refine Seq.run (.bool true) rfl (fun wz hz => run_eq4 rfl rfl rfl hbt hbt (decide_eq_true rfl) wz) ?_
  go_simp
  refine Seq.run (.bool true) rfl (fun wz hz => by go_simp) ?_
  go_simp
  refine Seq.runG (nv a) (by rfl) (fun wz hz => by obtain ⟨s0, s1, s2, s3, -⟩ := HS.out wz hz; go_simp) ?_
  go_simp
  refine Seq.runG (nv b) (by rfl) (fun wz hz => by obtain ⟨-, -, -, -, s0, s1, s2, s3, -⟩ := HS.out wz hz; go_simp) ?_
  go_simp
  refine Seq.callG (nv u) 26 #[nv a, nv b] (by rfl) (fun wz hz => by go_simp) (fun wz hz => (K8.out wz).mono fun e w' ⟨he, h1⟩ => ⟨he, hz.trans (h1.mono hz.size)⟩) ?_
  go_simp
  refine Seq.runG (nv b) (by rfl) (fun wz hz => by obtain ⟨-, -, -, -, s0, s1, s2, s3, -⟩ := HS.out wz hz; go_simp) ?_
  go_simp
  refine Seq.runG (nv a) (by rfl) (fun wz hz => by obtain ⟨s0, s1, s2, s3, -⟩ := HS.out wz hz; go_simp) ?_
  go_simp
  refine Seq.callG (nv u) 26 #[nv b, nv a] (by rfl) (fun wz hz => by go_simp) (fun wz hz => (K10.out wz).mono fun e w' ⟨he, h1⟩ => ⟨he, hz.trans (h1.mono hz.size)⟩) ?_
  go_simp
  refine Seq.runG (.bool true) (by rfl) (fun wz hz => run_eq4 rfl rfl rfl hbu hbu (decide_eq_true rfl) wz) ?_
  go_simp
  refine Seq.run (.bool true) rfl (fun wz hz => by go_simp) ?_
  go_simp
  refine Seq.nil fun v4 hd => ?_
  go_upto_region 3 with fail
  refine wp_region_seq 22 (fun wz => Below v2.heap.size v2 wz) (by kernel_rfl) (by kernel_rfl) hd.drew ?_
  clear hd
  simp only [List.take_succ_cons, List.take_zero, List.drop_succ_cons, List.drop_zero]
  refine Seq.run (.bool true) rfl (fun wz hz => by go_simp) ?_
  go_simp
  refine Seq.run (.bool true) rfl (fun wz hz => by go_simp) ?_
  go_simp
  refine Seq.runG (.bool true) (by rfl) (fun wz hz => by go_simp) ?_
  go_simp
  refine Seq.run (.bool true) rfl (fun wz hz => by go_simp) ?_
  go_simp
  refine Seq.run (.bool true) rfl (fun wz hz => by go_simp) ?_
  go_simp
  refine Seq.runG (nv a) (by rfl) (fun wz hz => by obtain ⟨s0, s1, s2, s3, -⟩ := HS.out wz hz; go_simp) ?_
  go_simp
  refine Seq.runG (nv b) (by rfl) (fun wz hz => by obtain ⟨-, -, -, -, s0, s1, s2, s3, -⟩ := HS.out wz hz; go_simp) ?_
  go_simp
  refine Seq.runG (nv c) (by rfl) (fun wz hz => by obtain ⟨-, -, -, -, -, -, -, -, s0, s1, s2, s3⟩ := HS.out wz hz; go_simp) ?_
  go_simp
  refine Seq.callG (nv p) 19 #[nv b, nv c] (by rfl) (fun wz hz => by go_simp) (fun wz hz => (K1.out wz).mono fun e w' ⟨he, h1⟩ => ⟨he, hz.trans (h1.mono hz.size)⟩) ?_
  go_simp
  refine Seq.callG (nv x) 26 #[nv a, nv p] (by rfl) (fun wz hz => by go_simp) (fun wz hz => (K11.out wz).mono fun e w' ⟨he, h1⟩ => ⟨he, hz.trans (h1.mono hz.size)⟩) ?_
  go_simp
  refine Seq.runG (nv a) (by rfl) (fun wz hz => by obtain ⟨s0, s1, s2, s3, -⟩ := HS.out wz hz; go_simp) ?_
  go_simp
  refine Seq.runG (nv b) (by rfl) (fun wz hz => by obtain ⟨-, -, -, -, s0, s1, s2, s3, -⟩ := HS.out wz hz; go_simp) ?_
  go_simp
  refine Seq.callG (nv u) 26 #[nv a, nv b] (by rfl) (fun wz hz => by go_simp) (fun wz hz => (K8.out wz).mono fun e w' ⟨he, h1⟩ => ⟨he, hz.trans (h1.mono hz.size)⟩) ?_
  go_simp
  refine Seq.runG (nv a) (by rfl) (fun wz hz => by obtain ⟨s0, s1, s2, s3, -⟩ := HS.out wz hz; go_simp) ?_
  go_simp
  refine Seq.runG (nv c) (by rfl) (fun wz hz => by obtain ⟨-, -, -, -, -, -, -, -, s0, s1, s2, s3⟩ := HS.out wz hz; go_simp) ?_
  go_simp
  refine Seq.callG (nv y) 26 #[nv a, nv c] (by rfl) (fun wz hz => by go_simp) (fun wz hz => (K12.out wz).mono fun e w' ⟨he, h1⟩ => ⟨he, hz.trans (h1.mono hz.size)⟩) ?_
  go_simp
  refine Seq.callG (nv x) 19 #[nv u, nv y] (by rfl) (fun wz hz => by go_simp) (fun wz hz => (K13.out wz).mono fun e w' ⟨he, h1⟩ => ⟨he, hz.trans (h1.mono hz.size)⟩) ?_
  go_simp
  refine Seq.runG (.bool true) (by rfl) (fun wz hz => run_eq4 rfl rfl rfl hbx hbx (decide_eq_true rfl) wz) ?_
  go_simp
  refine Seq.run (.bool true) rfl (fun wz hz => by go_simp) ?_
  go_simp
  refine Seq.run (.bool true) rfl (fun wz hz => by go_simp) ?_
  go_simp
  refine Seq.callG (.bool true) 25 #[] (by rfl) (fun wz hz => by go_simp) (fun wz hz => (awake_any wz (HGG.out wz hz)).mono fun e w' ⟨he, h1⟩ => ⟨he, hz.trans (h1.mono hz.size)⟩) ?_
  go_simp
  refine Seq.run (.bool true) rfl (fun wz hz => by go_simp) ?_
  go_simp
  refine Seq.nil fun v5 hd => ?_
  go_wp2_with fail
  go_ret
  exact ⟨rfl, hc.trans (hd.mono hs)⟩
end Go.Proofs.YtifcjfeepgfmfaaDoor
