import Derived.Test.YtifcjfeepgfmfaaDoorLUndone
namespace Go.Proofs.YtifcjfeepgfmfaaDoor
open Go Go.RowKit
theorem wd_par (r : Nat) : wd r 0 % 2 = r % 2 := by
  unfold wd dgt; rw [Nat.pow_zero, Nat.div_one]; omega
attribute [local irreducible] wd by8
set_option maxRecDepth 20000
set_option maxHeartbeats 3200000 in
theorem squares_same {a b m r x n ab r1 r2 r3 r4 : Nat} {p s t : Bool} (hbr : r < W4) (hbx : x < W4) (hev : wd r 0 % 2 = 0) (hpst : (!p || !s || t) = true)
    (k1 : ∀ w, Calls Tryd.prog 26 #[nv a, nv a] w fun e w' => e = .returned (nv m) ∧ Below w.heap.size w w')
    (k2 : ∀ w, Glb w → Calls Tryd.prog 33 #[nv m] w fun e w' => e = .returned (.tuple #[nv r, .bool true]) ∧ Below w.heap.size w w')
    (k3 : ∀ w, Calls Tryd.prog 16 #[nv a] w fun e w' => e = .returned (nv x) ∧ Below w.heap.size w w')
    (k4 : ∀ w, Calls Tryd.prog 23 #[nv a] w fun e w' => e = .returned (nv n) ∧ Below w.heap.size w w')
    (k5 : ∀ w, Glb w → Calls Tryd.prog 33 #[nv a] w fun e w' => e = .returned (.tuple #[nv r1, .bool p]) ∧ Below w.heap.size w w')
    (k6 : ∀ w, Glb w → Calls Tryd.prog 33 #[nv n] w fun e w' => e = .returned (.tuple #[nv r2, .bool p]) ∧ Below w.heap.size w w')
    (k7 : ∀ w, Glb w → Calls Tryd.prog 33 #[nv b] w fun e w' => e = .returned (.tuple #[nv r3, .bool s]) ∧ Below w.heap.size w w')
    (k8 : ∀ w, Calls Tryd.prog 26 #[nv a, nv b] w fun e w' => e = .returned (nv ab) ∧ Below w.heap.size w w')
    (k9 : ∀ w, Glb w → Calls Tryd.prog 33 #[nv ab] w fun e w' => e = .returned (.tuple #[nv r4, .bool t]) ∧ Below w.heap.size w w')
    (hrx : r = x) (w : World) (hG : Glb w) :
    Calls Tryd.prog 11 #[nv a, nv b] w fun e w' => e = .returned (.bool true) ∧ Below w.heap.size w w' := by
  subst hrx
  obtain ⟨v0, e0, oa, ob, hc⟩ := two a b w
  have K1 := Lib.hid k1
  have K2 := Lib.hid k2
  have K3 := Lib.hid k3
  have K4 := Lib.hid k4
  have K5 := Lib.hid k5
  have K6 := Lib.hid k6
  have K7 := Lib.hid k7
  have K8 := Lib.hid k8
  have K9 := Lib.hid k9
  clear k1 k2 k3 k4 k5 k6 k7 k8 k9
  have HG := Lib.hid hG
  have HV := Lib.hid hev
  have HP := Lib.hid hpst
  clear hG hev hpst
  unfold nv
  go_enter Tryd.func11, Tryd.ntmps11
  go_wp2_with fail
  rw [← e0]
  clear e0
  go_at_call 26
  refine (K1.out _).mono ?_
  rintro e v1 ⟨rfl, h0⟩
  replace oa := oa.keep h0
  replace ob := ob.keep h0
  replace hc := hc.trans (h0.mono hc.size)
  clear h0
  go_wp2_with fail
  go_at_call 33
  refine (K2.out _ (HG.out.keep hc HG.out.pos)).mono ?_
  rintro e v2 ⟨rfl, h0⟩
  replace oa := (oa.keep h0).alloc (A4 r)
  replace ob := (ob.keep h0).alloc (A4 r)
  replace hc := hc.trans (h0.mono hc.size)
  have or := O4.new (w := v2) hc.size r
  replace hc := hc.alloc hc.size (A4 r)
  clear h0
  obtain ⟨s0, s1, s2, s3⟩ := oa.c4
  go_wp2_with fail
  clear s0 s1 s2 s3
  go_at_call 16
  refine (K3.out _).mono ?_
  rintro e v3 ⟨rfl, h0⟩
  replace oa := oa.keep h0
  replace ob := ob.keep h0
  replace or := or.keep h0
  replace hc := hc.trans (h0.mono hc.size)
  clear h0
  go_upto_region 3 with fail
  have ox := O4.new (w := v3) hc.size r
  replace oa := oa.alloc (A4 r)
  replace ob := ob.alloc (A4 r)
  replace or := or.alloc (A4 r)
  replace hc := hc.alloc hc.size (A4 r)
  obtain ⟨v4, e4⟩ : ∃ v, v = v3.alloc (A4 r) := ⟨_, rfl⟩
  rw [← e4] at oa ob or ox hc ⊢
  clear e4
  have HS := Lib.hid (keepx4 oa ob or ox)
  have hs := hc.size
  have hev1 : ((wd r 0 : Nat) : Int).tmod 2 = 0 := by rw [Int.tmod_eq_emod_of_nonneg (by omega)]; have := HV.out; omega
  have hev2 : ((wd r 0 : Nat) : Int) % 2 = 0 := by have := HV.out; omega
  refine wp_region_seq 18 (fun wz => Below v4.heap.size v4 wz) (by kernel_rfl) (by kernel_rfl) (Below.refl _ v4).drew ?_
  simp only [List.take_succ_cons, List.take_zero, List.drop_succ_cons, List.drop_zero]
  refine Seq.run (.bool true) rfl (fun wz hz => by go_simp) ?_
  go_simp
  refine Seq.run (.bool false) rfl (fun wz hz => by go_simp) ?_
  go_simp
  refine Seq.run (.bool false) rfl (fun wz hz => by go_simp) ?_
  go_simp
  refine Seq.runG (nv r) (by rfl) (fun wz hz => by obtain ⟨-, -, -, -, -, -, -, -, s0, s1, s2, s3, -⟩ := HS.out wz hz; go_simp) ?_
  go_simp
  refine Seq.runG (nv r) (by rfl) (fun wz hz => by obtain ⟨-, -, -, -, -, -, -, -, -, -, -, -, s0, s1, s2, s3⟩ := HS.out wz hz; go_simp) ?_
  go_simp
  refine Seq.runG (.bool false) (by rfl) (fun wz hz => run_ne4 rfl rfl rfl hbr hbr (by simp) wz) ?_
  go_simp
  refine Seq.runG (.bool false) (by rfl) (fun wz hz => by go_simp) ?_
  go_simp
  refine Seq.skip (by rfl) ?_
  go_simp
  refine Seq.skip (by rfl) ?_
  go_simp
  refine Seq.skip (by rfl) ?_
  go_simp
  refine Seq.skip (by rfl) ?_
  go_simp
  refine Seq.runG (.bool false) (by rfl) (fun wz hz => by go_simp) ?_
  go_simp
  refine Seq.run (.bool false) rfl (fun wz hz => by go_simp) ?_
  go_simp
  refine Seq.run (.bool false) rfl (fun wz hz => by go_simp) ?_
  go_simp
  refine Seq.runG (.pointer (some ⟨v2.heap.size, 0, none⟩)) (by rfl) (fun wz hz => by go_simp) ?_
  go_simp
  refine Seq.runG (.int .u64 (wd r 0 : Int)) (by rfl) (fun wz hz => by obtain ⟨-, -, -, -, -, -, -, -, s0, s1, s2, s3, -⟩ := HS.out wz hz; go_simp) ?_
  go_simp
  refine Seq.runG (.int .u64 0) (by rfl) (fun wz hz => by go_simp) ?_
  go_simp
  refine Seq.runG (.bool false) (by rfl) (fun wz hz => by go_simp) ?_
  go_simp
  refine Seq.nil fun v5 hd => ?_
  replace hc := hc.trans (hd.mono hs)
  replace oa := oa.keep hd
  replace ob := ob.keep hd
  clear hd HS hs or ox hev1 hev2
  obtain ⟨s0, s1, s2, s3⟩ := oa.c4
  go_wp2_with fail
  clear s0 s1 s2 s3
  go_at_call 33
  refine (K5.out _ (HG.out.keep hc HG.out.pos)).mono ?_
  rintro e u0_ ⟨rfl, h0⟩
  replace oa := (oa.keep h0).alloc (A4 r1)
  replace ob := (ob.keep h0).alloc (A4 r1)
  replace hc := hc.trans (h0.mono hc.size)
  replace hc := hc.alloc hc.size (A4 r1)
  clear h0
  obtain ⟨s0, s1, s2, s3⟩ := oa.c4
  go_wp2_with fail
  clear s0 s1 s2 s3
  go_at_call 23
  refine (K4.out _).mono ?_
  rintro e w0_ ⟨rfl, h0⟩
  replace oa := oa.keep h0
  replace ob := ob.keep h0
  replace hc := hc.trans (h0.mono hc.size)
  clear h0
  go_wp2_with fail
  go_at_call 33
  refine (K6.out _ (HG.out.keep hc HG.out.pos)).mono ?_
  rintro e u1_ ⟨rfl, h0⟩
  replace oa := (oa.keep h0).alloc (A4 r2)
  replace ob := (ob.keep h0).alloc (A4 r2)
  replace hc := hc.trans (h0.mono hc.size)
  replace hc := hc.alloc hc.size (A4 r2)
  clear h0
  obtain ⟨s0, s1, s2, s3⟩ := ob.c4
  go_wp2_with fail
  clear s0 s1 s2 s3
  go_at_call 33
  refine (K7.out _ (HG.out.keep hc HG.out.pos)).mono ?_
  rintro e u2_ ⟨rfl, h0⟩
  replace oa := (oa.keep h0).alloc (A4 r3)
  replace ob := (ob.keep h0).alloc (A4 r3)
  replace hc := hc.trans (h0.mono hc.size)
  replace hc := hc.alloc hc.size (A4 r3)
  clear h0
  obtain ⟨s0, s1, s2, s3⟩ := oa.c4
  obtain ⟨t0, t1, t2, t3⟩ := ob.c4
  go_wp2_with fail
  clear s0 s1 s2 s3 t0 t1 t2 t3
  go_at_call 26
  refine (K8.out _).mono ?_
  rintro e w1_ ⟨rfl, h0⟩
  replace oa := oa.keep h0
  replace ob := ob.keep h0
  replace hc := hc.trans (h0.mono hc.size)
  clear h0
  go_wp2_with fail
  go_at_call 33
  refine (K9.out _ (HG.out.keep hc HG.out.pos)).mono ?_
  rintro e u3_ ⟨rfl, h0⟩
  replace oa := (oa.keep h0).alloc (A4 r4)
  replace ob := (ob.keep h0).alloc (A4 r4)
  replace hc := hc.trans (h0.mono hc.size)
  replace hc := hc.alloc hc.size (A4 r4)
  clear h0
  have hp := HP.out
  clear HP
  cases p <;> cases s <;> cases t <;> first | (exact absurd hp (by decide)) | skip
  all_goals
    clear hp
    go_wp2_with fail
    go_at_call 25
    refine (awake_any _ (HG.out.keep hc HG.out.pos)).mono ?_
    rintro e w2_ ⟨rfl, h0⟩
    go_wp2_with fail
    go_ret
    exact ⟨rfl, hc.trans (h0.mono hc.size)⟩
set_option maxHeartbeats 3200000 in
theorem squares_other {a b m r x n ab r1 r2 r3 r4 : Nat} {p s t : Bool} (hbr : r < W4) (hrx : decide (r = x) = false) (hbx : x < W4) (hev : wd r 0 % 2 = 0) (hpst : (!p || !s || t) = true)
    (k1 : ∀ w, Calls Tryd.prog 26 #[nv a, nv a] w fun e w' => e = .returned (nv m) ∧ Below w.heap.size w w')
    (k2 : ∀ w, Glb w → Calls Tryd.prog 33 #[nv m] w fun e w' => e = .returned (.tuple #[nv r, .bool true]) ∧ Below w.heap.size w w')
    (k3 : ∀ w, Calls Tryd.prog 16 #[nv a] w fun e w' => e = .returned (nv x) ∧ Below w.heap.size w w')
    (k4 : ∀ w, Calls Tryd.prog 23 #[nv a] w fun e w' => e = .returned (nv n) ∧ Below w.heap.size w w')
    (k5 : ∀ w, Glb w → Calls Tryd.prog 33 #[nv a] w fun e w' => e = .returned (.tuple #[nv r1, .bool p]) ∧ Below w.heap.size w w')
    (k6 : ∀ w, Glb w → Calls Tryd.prog 33 #[nv n] w fun e w' => e = .returned (.tuple #[nv r2, .bool p]) ∧ Below w.heap.size w w')
    (k7 : ∀ w, Glb w → Calls Tryd.prog 33 #[nv b] w fun e w' => e = .returned (.tuple #[nv r3, .bool s]) ∧ Below w.heap.size w w')
    (k8 : ∀ w, Calls Tryd.prog 26 #[nv a, nv b] w fun e w' => e = .returned (nv ab) ∧ Below w.heap.size w w')
    (k9 : ∀ w, Glb w → Calls Tryd.prog 33 #[nv ab] w fun e w' => e = .returned (.tuple #[nv r4, .bool t]) ∧ Below w.heap.size w w')
    (hrn : r = n) (w : World) (hG : Glb w) :
    Calls Tryd.prog 11 #[nv a, nv b] w fun e w' => e = .returned (.bool true) ∧ Below w.heap.size w w' := by
  subst hrn
  obtain ⟨v0, e0, oa, ob, hc⟩ := two a b w
  have K1 := Lib.hid k1
  have K2 := Lib.hid k2
  have K3 := Lib.hid k3
  have K4 := Lib.hid k4
  have K5 := Lib.hid k5
  have K6 := Lib.hid k6
  have K7 := Lib.hid k7
  have K8 := Lib.hid k8
  have K9 := Lib.hid k9
  clear k1 k2 k3 k4 k5 k6 k7 k8 k9
  have HG := Lib.hid hG
  have HV := Lib.hid hev
  have HP := Lib.hid hpst
  clear hG hev hpst
  unfold nv
  go_enter Tryd.func11, Tryd.ntmps11
  go_wp2_with fail
  rw [← e0]
  clear e0
  go_at_call 26
  refine (K1.out _).mono ?_
  rintro e v1 ⟨rfl, h0⟩
  replace oa := oa.keep h0
  replace ob := ob.keep h0
  replace hc := hc.trans (h0.mono hc.size)
  clear h0
  go_wp2_with fail
  go_at_call 33
  refine (K2.out _ (HG.out.keep hc HG.out.pos)).mono ?_
  rintro e v2 ⟨rfl, h0⟩
  replace oa := (oa.keep h0).alloc (A4 r)
  replace ob := (ob.keep h0).alloc (A4 r)
  replace hc := hc.trans (h0.mono hc.size)
  have or := O4.new (w := v2) hc.size r
  replace hc := hc.alloc hc.size (A4 r)
  clear h0
  obtain ⟨s0, s1, s2, s3⟩ := oa.c4
  go_wp2_with fail
  clear s0 s1 s2 s3
  go_at_call 16
  refine (K3.out _).mono ?_
  rintro e v3 ⟨rfl, h0⟩
  replace oa := oa.keep h0
  replace ob := ob.keep h0
  replace or := or.keep h0
  replace hc := hc.trans (h0.mono hc.size)
  clear h0
  go_upto_region 3 with fail
  have ox := O4.new (w := v3) hc.size x
  replace oa := oa.alloc (A4 x)
  replace ob := ob.alloc (A4 x)
  replace or := or.alloc (A4 x)
  replace hc := hc.alloc hc.size (A4 x)
  obtain ⟨v4, e4⟩ : ∃ v, v = v3.alloc (A4 x) := ⟨_, rfl⟩
  rw [← e4] at oa ob or ox hc ⊢
  clear e4
  have HS := Lib.hid (keepx4 oa ob or ox)
  have hs := hc.size
  have hev1 : ((wd r 0 : Nat) : Int).tmod 2 = 0 := by rw [Int.tmod_eq_emod_of_nonneg (by omega)]; have := HV.out; omega
  have hev2 : ((wd r 0 : Nat) : Int) % 2 = 0 := by have := HV.out; omega
  refine wp_region_seq 18 (fun wz => Below v4.heap.size v4 wz) (by kernel_rfl) (by kernel_rfl) (Below.refl _ v4).drew ?_
  simp only [List.take_succ_cons, List.take_zero, List.drop_succ_cons, List.drop_zero]
  refine Seq.run (.bool true) rfl (fun wz hz => by go_simp) ?_
  go_simp
  refine Seq.run (.bool false) rfl (fun wz hz => by go_simp) ?_
  go_simp
  refine Seq.run (.bool false) rfl (fun wz hz => by go_simp) ?_
  go_simp
  refine Seq.runG (nv r) (by rfl) (fun wz hz => by obtain ⟨-, -, -, -, -, -, -, -, s0, s1, s2, s3, -⟩ := HS.out wz hz; go_simp) ?_
  go_simp
  refine Seq.runG (nv x) (by rfl) (fun wz hz => by obtain ⟨-, -, -, -, -, -, -, -, -, -, -, -, s0, s1, s2, s3⟩ := HS.out wz hz; go_simp) ?_
  go_simp
  refine Seq.runG (.bool true) (by rfl) (fun wz hz => run_ne4 rfl rfl rfl hbr hbx (by rw [hrx]; rfl) wz) ?_
  go_simp
  refine Seq.runG (.bool true) (by rfl) (fun wz hz => by go_simp) ?_
  go_simp
  refine Seq.runG (nv r) (by rfl) (fun wz hz => by obtain ⟨-, -, -, -, -, -, -, -, s0, s1, s2, s3, -⟩ := HS.out wz hz; go_simp) ?_
  go_simp
  refine Seq.runG (nv a) (by rfl) (fun wz hz => by obtain ⟨s0, s1, s2, s3, -⟩ := HS.out wz hz; go_simp) ?_
  go_simp
  refine Seq.callG (nv r) 23 #[nv a] (by rfl) (fun wz hz => by go_simp) (fun wz hz => (K4.out wz).mono fun e w' ⟨he, h1⟩ => ⟨he, hz.trans (h1.mono hz.size)⟩) ?_
  go_simp
  refine Seq.runG (.bool false) (by rfl) (fun wz hz => run_ne4 rfl rfl rfl hbr hbr (by simp) wz) ?_
  go_simp
  refine Seq.runG (.bool false) (by rfl) (fun wz hz => by go_simp) ?_
  go_simp
  refine Seq.run (.bool false) rfl (fun wz hz => by go_simp) ?_
  go_simp
  refine Seq.run (.bool false) rfl (fun wz hz => by go_simp) ?_
  go_simp
  refine Seq.runG (.pointer (some ⟨v2.heap.size, 0, none⟩)) (by rfl) (fun wz hz => by go_simp) ?_
  go_simp
  refine Seq.runG (.int .u64 (wd r 0 : Int)) (by rfl) (fun wz hz => by obtain ⟨-, -, -, -, -, -, -, -, s0, s1, s2, s3, -⟩ := HS.out wz hz; go_simp) ?_
  go_simp
  refine Seq.runG (.int .u64 0) (by rfl) (fun wz hz => by go_simp) ?_
  go_simp
  refine Seq.runG (.bool false) (by rfl) (fun wz hz => by go_simp) ?_
  go_simp
  refine Seq.nil fun v5 hd => ?_
  replace hc := hc.trans (hd.mono hs)
  replace oa := oa.keep hd
  replace ob := ob.keep hd
  clear hd HS hs or ox hev1 hev2
  obtain ⟨s0, s1, s2, s3⟩ := oa.c4
  go_wp2_with fail
  clear s0 s1 s2 s3
  go_at_call 33
  refine (K5.out _ (HG.out.keep hc HG.out.pos)).mono ?_
  rintro e u0_ ⟨rfl, h0⟩
  replace oa := (oa.keep h0).alloc (A4 r1)
  replace ob := (ob.keep h0).alloc (A4 r1)
  replace hc := hc.trans (h0.mono hc.size)
  replace hc := hc.alloc hc.size (A4 r1)
  clear h0
  obtain ⟨s0, s1, s2, s3⟩ := oa.c4
  go_wp2_with fail
  clear s0 s1 s2 s3
  go_at_call 23
  refine (K4.out _).mono ?_
  rintro e w0_ ⟨rfl, h0⟩
  replace oa := oa.keep h0
  replace ob := ob.keep h0
  replace hc := hc.trans (h0.mono hc.size)
  clear h0
  go_wp2_with fail
  go_at_call 33
  refine (K6.out _ (HG.out.keep hc HG.out.pos)).mono ?_
  rintro e u1_ ⟨rfl, h0⟩
  replace oa := (oa.keep h0).alloc (A4 r2)
  replace ob := (ob.keep h0).alloc (A4 r2)
  replace hc := hc.trans (h0.mono hc.size)
  replace hc := hc.alloc hc.size (A4 r2)
  clear h0
  obtain ⟨s0, s1, s2, s3⟩ := ob.c4
  go_wp2_with fail
  clear s0 s1 s2 s3
  go_at_call 33
  refine (K7.out _ (HG.out.keep hc HG.out.pos)).mono ?_
  rintro e u2_ ⟨rfl, h0⟩
  replace oa := (oa.keep h0).alloc (A4 r3)
  replace ob := (ob.keep h0).alloc (A4 r3)
  replace hc := hc.trans (h0.mono hc.size)
  replace hc := hc.alloc hc.size (A4 r3)
  clear h0
  obtain ⟨s0, s1, s2, s3⟩ := oa.c4
  obtain ⟨t0, t1, t2, t3⟩ := ob.c4
  go_wp2_with fail
  clear s0 s1 s2 s3 t0 t1 t2 t3
  go_at_call 26
  refine (K8.out _).mono ?_
  rintro e w1_ ⟨rfl, h0⟩
  replace oa := oa.keep h0
  replace ob := ob.keep h0
  replace hc := hc.trans (h0.mono hc.size)
  clear h0
  go_wp2_with fail
  go_at_call 33
  refine (K9.out _ (HG.out.keep hc HG.out.pos)).mono ?_
  rintro e u3_ ⟨rfl, h0⟩
  replace oa := (oa.keep h0).alloc (A4 r4)
  replace ob := (ob.keep h0).alloc (A4 r4)
  replace hc := hc.trans (h0.mono hc.size)
  replace hc := hc.alloc hc.size (A4 r4)
  clear h0
  have hp := HP.out
  clear HP
  cases p <;> cases s <;> cases t <;> first | (exact absurd hp (by decide)) | skip
  all_goals
    clear hp
    go_wp2_with fail
    go_at_call 25
    refine (awake_any _ (HG.out.keep hc HG.out.pos)).mono ?_
    rintro e w2_ ⟨rfl, h0⟩
    go_wp2_with fail
    go_ret
    exact ⟨rfl, hc.trans (h0.mono hc.size)⟩
end Go.Proofs.YtifcjfeepgfmfaaDoor
