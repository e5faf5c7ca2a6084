import Derived.Test.YtifcjfeepgfmfaaDoorLaw3
import Derived.Test.YtifcjfeepgfmfaaDoorLOrderW
namespace Go.Proofs.YtifcjfeepgfmfaaDoor
open Go Go.RowKit
theorem keepx4 {w : World} {B g x g' x' g'' x'' h y : Nat} (h1 : O4 w B g x) (h2 : O4 w B g' x') (h3 : O4 w B g'' x'') (h4 : O4 w B h y) : ∀ wz, Below w.heap.size w wz → wz.cell? ⟨g, 0, none⟩ = some (.int .u64 (wd x 0 : Int)) ∧ wz.cell? ⟨g, 1, none⟩ = some (.int .u64 (wd x 1 : Int)) ∧ wz.cell? ⟨g, 2, none⟩ = some (.int .u64 (wd x 2 : Int)) ∧ wz.cell? ⟨g, 3, none⟩ = some (.int .u64 (wd x 3 : Int)) ∧ wz.cell? ⟨g', 0, none⟩ = some (.int .u64 (wd x' 0 : Int)) ∧ wz.cell? ⟨g', 1, none⟩ = some (.int .u64 (wd x' 1 : Int)) ∧ wz.cell? ⟨g', 2, none⟩ = some (.int .u64 (wd x' 2 : Int)) ∧ wz.cell? ⟨g', 3, none⟩ = some (.int .u64 (wd x' 3 : Int)) ∧ wz.cell? ⟨g'', 0, none⟩ = some (.int .u64 (wd x'' 0 : Int)) ∧ wz.cell? ⟨g'', 1, none⟩ = some (.int .u64 (wd x'' 1 : Int)) ∧ wz.cell? ⟨g'', 2, none⟩ = some (.int .u64 (wd x'' 2 : Int)) ∧ wz.cell? ⟨g'', 3, none⟩ = some (.int .u64 (wd x'' 3 : Int)) ∧ wz.cell? ⟨h, 0, none⟩ = some (.int .u64 (wd y 0 : Int)) ∧ wz.cell? ⟨h, 1, none⟩ = some (.int .u64 (wd y 1 : Int)) ∧ wz.cell? ⟨h, 2, none⟩ = some (.int .u64 (wd y 2 : Int)) ∧ wz.cell? ⟨h, 3, none⟩ = some (.int .u64 (wd y 3 : Int)) := fun wz hz => by
  obtain ⟨a0, a1, a2, a3⟩ := (h1.keep hz).c4
  obtain ⟨b0, b1, b2, b3⟩ := (h2.keep hz).c4
  obtain ⟨c0, c1, c2, c3⟩ := (h3.keep hz).c4
  obtain ⟨d0, d1, d2, d3⟩ := (h4.keep hz).c4
  exact ⟨a0, a1, a2, a3, b0, b1, b2, b3, c0, c1, c2, c3, d0, d1, d2, d3⟩
theorem eq4lit0 {x : Nat} (hx : x < W4) (w : World) : (Op.equalIn 10000 24 (nv x) (lit4 0 0 0 0)).run Tryd.prog w = .ok (decide (x = 0)) w := by
  have h := eq4 x 0 hx W4_pos w
  rw [nv_z] at h
  exact h
theorem nv_1 : nv 1 = lit4 1 0 0 0 := nv_small (by decide)
theorem eq1 (w : World) : (Op.equalIn 10000 24 (lit4 1 0 0 0) (lit4 1 0 0 0)).run Tryd.prog w = .ok true w := by
  have h := eq4_self 1 w
  rw [nv_1] at h
  exact h
attribute [local irreducible] wd by8
set_option maxRecDepth 20000
set_option maxHeartbeats 1600000 in
theorem undone_gen {a b x i s n : Nat} {z : Bool} (hbx : x < W4) (hbi : i < W4) (hz : decide (x = 0) = z) (hi : z = true → decide (i = 0) = true)
    (k1 : ∀ w, Calls Tryd.prog 16 #[nv a] w fun e w' => e = .returned (nv x) ∧ Below w.heap.size w w')
    (k2 : ∀ w, Calls Tryd.prog 31 #[nv a] w fun e w' => e = .returned (nv i) ∧ Below w.heap.size w w')
    (k3 : ∀ w, Calls Tryd.prog 19 #[nv a, nv b] w fun e w' => e = .returned (nv s) ∧ Below w.heap.size w w')
    (k4 : ∀ w, Calls Tryd.prog 21 #[nv s, nv b] w fun e w' => e = .returned (nv x) ∧ Below w.heap.size w w')
    (k5 : ∀ w, Calls Tryd.prog 23 #[nv a] w fun e w' => e = .returned (nv n) ∧ Below w.heap.size w w')
    (k6 : ∀ w, Calls Tryd.prog 19 #[nv a, nv n] w fun e w' => e = .returned (nv 0) ∧ Below w.heap.size w w')
    (k7 : ∀ w, Calls Tryd.prog 31 #[nv i] w fun e w' => e = .returned (nv x) ∧ Below w.heap.size w w')
    (k8 : z = false → ∀ w, Calls Tryd.prog 26 #[nv a, nv i] w fun e w' => e = .returned (lit4 1 0 0 0) ∧ Below w.heap.size w w')
    (k9 : ∀ w, Calls Tryd.prog 18 #[nv i] w fun e w' => e = .returned (.bool true) ∧ Below w.heap.size w w')
    (w : World) (hG : Glb w) :
    Calls Tryd.prog 10 #[nv a, nv b] w fun e w' => e = .returned (.bool true) ∧ Below w.heap.size w w' := by
  obtain ⟨v0, e0, oa, ob, hc⟩ := two a b w
  have K1 := Lib.hid k1
  have K2 := Lib.hid k2
  have K3 := Lib.hid k3
  have K4 := Lib.hid k4
  have K5 := Lib.hid k5
  have K6 := Lib.hid k6
  have K7 := Lib.hid k7
  have K8 := Lib.hid k8
  have K9 := Lib.hid k9
  clear k1 k2 k3 k4 k5 k6 k7 k8 k9
  have QX := Lib.hid (fun w => (eq4lit0 hbx w).trans (by rw [hz]))
  have QI := Lib.hid (fun (h : z = true) w => (eq4lit0 hbi w).trans (by rw [hi h]))
  have HG := Lib.hid hG
  clear hz hi hG
  unfold nv at QX QI
  unfold nv
  go_enter Tryd.func10, Tryd.ntmps10
  go_wp2_with fail
  rw [← e0]
  clear e0
  go_at_call 16
  refine (K1.out _).mono ?_
  rintro e v1 ⟨rfl, h0⟩
  replace oa := oa.keep h0
  replace ob := ob.keep h0
  replace hc := hc.trans (h0.mono hc.size)
  clear h0
  have ox := O4.new (w := v1) hc.size x
  replace oa := oa.alloc (A4 x)
  replace ob := ob.alloc (A4 x)
  replace hc := hc.alloc hc.size (A4 x)
  obtain ⟨s0, s1, s2, s3⟩ := oa.c4
  go_wp2_with fail
  clear s0 s1 s2 s3
  go_at_call 31
  refine (K2.out _).mono ?_
  rintro e v2 ⟨rfl, h0⟩
  replace oa := oa.keep h0
  replace ob := ob.keep h0
  replace ox := ox.keep h0
  replace hc := hc.trans (h0.mono hc.size)
  clear h0
  have oi := O4.new (w := v2) hc.size i
  replace oa := oa.alloc (A4 i)
  replace ob := ob.alloc (A4 i)
  replace ox := ox.alloc (A4 i)
  replace hc := hc.alloc hc.size (A4 i)
  go_upto_region 3 with fail
  obtain ⟨v3, e3⟩ : ∃ v, v = v2.alloc (A4 i) := ⟨_, rfl⟩
  rw [← e3] at oa ob ox oi hc ⊢
  clear e3
  have HS := Lib.hid (keepx4 oa ob ox oi)
  have hs := hc.size
  refine wp_region_seq 20 (fun wz => Below v3.heap.size v3 wz) (by kernel_rfl) (by kernel_rfl) (Below.refl _ v3).drew ?_
  simp only [List.take_succ_cons, List.take_zero, List.drop_succ_cons, List.drop_zero]
  refine Seq.run (nv a) rfl (fun wz hz => by obtain ⟨s0, s1, s2, s3, -⟩ := HS.out wz hz; go_simp) ?_
  go_simp
  refine Seq.run (nv b) rfl (fun wz hz => by obtain ⟨-, -, -, -, s0, s1, s2, s3, -⟩ := HS.out wz hz; go_simp) ?_
  go_simp
  refine Seq.call (nv s) 19 #[nv a, nv b] rfl (fun wz hz => by go_simp) (fun wz hz => (K3.out wz).mono fun e w' ⟨he, h1⟩ => ⟨he, hz.trans (h1.mono hz.size)⟩) ?_
  go_simp
  refine Seq.run (nv b) rfl (fun wz hz => by obtain ⟨-, -, -, -, s0, s1, s2, s3, -⟩ := HS.out wz hz; go_simp) ?_
  go_simp
  refine Seq.call (nv x) 21 #[nv s, nv b] rfl (fun wz hz => by go_simp) (fun wz hz => (K4.out wz).mono fun e w' ⟨he, h1⟩ => ⟨he, hz.trans (h1.mono hz.size)⟩) ?_
  go_simp
  refine Seq.run (nv x) rfl (fun wz hz => by obtain ⟨-, -, -, -, -, -, -, -, s0, s1, s2, s3, -⟩ := HS.out wz hz; go_simp) ?_
  go_simp
  refine Seq.run (.bool false) rfl (fun wz hz => run_ne4 rfl rfl rfl hbx hbx (by simp) wz) ?_
  go_simp
  refine Seq.run (.bool false) rfl (fun wz hz => by go_simp) ?_
  go_simp
  refine Seq.runG (nv a) (by rfl) (fun wz hz => by obtain ⟨s0, s1, s2, s3, -⟩ := HS.out wz hz; go_simp) ?_
  go_simp
  refine Seq.runG (nv a) (by rfl) (fun wz hz => by obtain ⟨s0, s1, s2, s3, -⟩ := HS.out wz hz; go_simp) ?_
  go_simp
  refine Seq.callG (nv n) 23 #[nv a] (by rfl) (fun wz hz => by go_simp) (fun wz hz => (K5.out wz).mono fun e w' ⟨he, h1⟩ => ⟨he, hz.trans (h1.mono hz.size)⟩) ?_
  go_simp
  refine Seq.callG (nv 0) 19 #[nv a, nv n] (by rfl) (fun wz hz => by go_simp) (fun wz hz => (K6.out wz).mono fun e w' ⟨he, h1⟩ => ⟨he, hz.trans (h1.mono hz.size)⟩) ?_
  go_simp
  refine Seq.runG (lit4 0 0 0 0) (by rfl) (fun wz hz => by go_simp) ?_
  go_simp
  refine Seq.runG (.bool false) (by rfl) (fun wz hz => run_ne4 rfl rfl (by exact nv_z.symm) (x := 0) (y := 0) W4_pos W4_pos (by decide) wz) ?_
  go_simp
  refine Seq.run (.bool false) rfl (fun wz hz => by go_simp) ?_
  go_simp
  refine Seq.run (.bool false) rfl (fun wz hz => by go_simp) ?_
  go_simp
  refine Seq.runG (nv i) (by rfl) (fun wz hz => by obtain ⟨-, -, -, -, -, -, -, -, -, -, -, -, s0, s1, s2, s3⟩ := HS.out wz hz; go_simp) ?_
  go_simp
  refine Seq.callG (nv x) 31 #[nv i] (by rfl) (fun wz hz => by go_simp) (fun wz hz => (K7.out wz).mono fun e w' ⟨he, h1⟩ => ⟨he, hz.trans (h1.mono hz.size)⟩) ?_
  go_simp
  refine Seq.runG (nv x) (by rfl) (fun wz hz => by obtain ⟨-, -, -, -, -, -, -, -, s0, s1, s2, s3, -⟩ := HS.out wz hz; go_simp) ?_
  go_simp
  refine Seq.runG (.bool false) (by rfl) (fun wz hz => run_ne4 rfl rfl rfl hbx hbx (by simp) wz) ?_
  go_simp
  refine Seq.nil fun v4 hd => ?_
  replace hc := hc.trans (hd.mono hs)
  replace oa := oa.keep hd
  replace ox := ox.keep hd
  replace oi := oi.keep hd
  clear hd HS hs ob
  obtain ⟨a0, a1, a2, a3⟩ := oa.c4
  obtain ⟨x0, x1, x2, x3⟩ := ox.c4
  obtain ⟨i0, i1, i2, i3⟩ := oi.c4
  cases z
  · have KM := Lib.hid (K8.out rfl)
    clear K8 QI
    go_wp2_with (first | ((with_reducible refine gate_list .eql 24 ?_); refine wpList_eqlA 24 _ _ _ rfl rfl rfl rfl (guard4 _ _ _ _ _) (by first | with_reducible exact QX.out _) ?_) | ((with_reducible refine gate_listG .eql 24 ?_); refine wpList_eqlG 24 _ _ _ rfl rfl rfl rfl (guard4 _ _ _ _ _) (by first | with_reducible exact QX.out _) ?_) | ((with_reducible refine gate_wp .eql 24 ?_); refine wp_eqlA 24 _ _ _ rfl rfl rfl (guard4 _ _ _ _ _) (by first | with_reducible exact QX.out _) ?_))
    clear a0 a1 a2 a3 x0 x1 x2 x3 i0 i1 i2 i3
    go_at_call 26
    refine (KM.out _).mono ?_
    rintro e v5 ⟨rfl, h0⟩
    replace oi := oi.keep h0
    replace hc := hc.trans (h0.mono hc.size)
    clear h0 oa ox
    obtain ⟨i0, i1, i2, i3⟩ := oi.c4
    go_wp2_with (first | ((with_reducible refine gate_list .eql 24 ?_); refine wpList_eqlA 24 _ _ _ rfl rfl rfl rfl (guard4 _ _ _ _ _) (by first | with_reducible exact eq1 _) ?_) | ((with_reducible refine gate_listG .eql 24 ?_); refine wpList_eqlG 24 _ _ _ rfl rfl rfl rfl (guard4 _ _ _ _ _) (by first | with_reducible exact eq1 _) ?_) | ((with_reducible refine gate_wp .eql 24 ?_); refine wp_eqlA 24 _ _ _ rfl rfl rfl (guard4 _ _ _ _ _) (by first | with_reducible exact eq1 _) ?_))
    clear i0 i1 i2 i3
    go_at_call 18
    refine (K9.out _).mono ?_
    rintro e v6 ⟨rfl, h0⟩
    replace hc := hc.trans (h0.mono hc.size)
    clear h0 oi
    go_wp2_with fail
    go_at_call 25
    refine (awake_any _ (HG.out.keep hc HG.out.pos)).mono ?_
    rintro e v7 ⟨rfl, h0⟩
    go_wp2_with fail
    go_ret
    exact ⟨rfl, hc.trans (h0.mono hc.size)⟩
  · have QI' := Lib.hid (QI.out rfl)
    clear K8 QI
    go_wp2_with (first | ((with_reducible refine gate_list .eql 24 ?_); refine wpList_eqlA 24 _ _ _ rfl rfl rfl rfl (guard4 _ _ _ _ _) (by first | with_reducible exact QX.out _ | with_reducible exact QI'.out _) ?_) | ((with_reducible refine gate_listG .eql 24 ?_); refine wpList_eqlG 24 _ _ _ rfl rfl rfl rfl (guard4 _ _ _ _ _) (by first | with_reducible exact QX.out _ | with_reducible exact QI'.out _) ?_) | ((with_reducible refine gate_wp .eql 24 ?_); refine wp_eqlA 24 _ _ _ rfl rfl rfl (guard4 _ _ _ _ _) (by first | with_reducible exact QX.out _ | with_reducible exact QI'.out _) ?_))
    clear a0 a1 a2 a3 x0 x1 x2 x3 i0 i1 i2 i3
    go_at_call 25
    refine (awake_any _ (HG.out.keep hc HG.out.pos)).mono ?_
    rintro e v7 ⟨rfl, h0⟩
    go_wp2_with fail
    go_ret
    exact ⟨rfl, hc.trans (h0.mono hc.size)⟩
end Go.Proofs.YtifcjfeepgfmfaaDoor
