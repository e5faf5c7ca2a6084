import Derived.Test.YtifcjfeepgfmfaaDoorFRoot
namespace Go.Proofs.YtifcjfeepgfmfaaDoor
open Go Go.RowKit
/-- The root of -1 that the package keeps; where it lies. -/
def IM : Nat := 19681161376707505956807079304988542015446066515923890162744021073123829784752
def Glb (w : World) : Prop := w.cell? ⟨0, 0, none⟩ = some (.int .u64 (wd IM 0 : Int)) ∧ w.cell? ⟨0, 1, none⟩ = some (.int .u64 (wd IM 1 : Int)) ∧ w.cell? ⟨0, 2, none⟩ = some (.int .u64 (wd IM 2 : Int)) ∧ w.cell? ⟨0, 3, none⟩ = some (.int .u64 (wd IM 3 : Int))
theorem Glb.keep {w w' : World} (h : Glb w) {B : Nat} (hb : Below B w w') (hB : 0 < B) : Glb w' := by
  obtain ⟨h0, h1, h2, h3⟩ := h
  exact ⟨(hb.cell (p := ⟨0, 0, none⟩) hB).trans h0, (hb.cell (p := ⟨0, 1, none⟩) hB).trans h1, (hb.cell (p := ⟨0, 2, none⟩) hB).trans h2, (hb.cell (p := ⟨0, 3, none⟩) hB).trans h3⟩
theorem Glb.pos {w : World} (h : Glb w) : 0 < w.heap.size := World.block_lt_of_cell? w ⟨0, 0, none⟩ h.1
theorem Glb.next {w w' : World} (h : Glb w) (hb : Below w.heap.size w w') : Glb w' := h.keep hb h.pos
theorem IM_W4 : IM < W4 := by decide +kernel
def RE : Nat := 7237005577332262213973186563042994240829374041602535252466099000494570602494
theorem l_re : nv RE = lit4 18446744073709551614 18446744073709551615 18446744073709551615 1152921504606846975 := by kernel_rfl
theorem RE_W4 : RE < W4 := by decide +kernel
/-- What Root goes through. -/
def rt0 (a : Nat) : Nat := a ^ RE % P25
def rt1 (a : Nat) : Nat := if rt0 a * rt0 a % P25 = a then rt0 a else rt0 a * IM % P25
def rt2 (a : Nat) : Nat := if bt (rt1 a) 0 = 0 then rt1 a else fsub 0 (rt1 a)
def rtq (a : Nat) : Nat := if rt2 a * rt2 a % P25 = a then 1 else 0
def rtr (a : Nat) : Nat := if rt2 a * rt2 a % P25 = a then rt2 a else 0
theorem keepG {w : World} {B g x g' x' : Nat} (h : O4 w B g x) (h' : O4 w B g' x') (hG : Glb w) : ∀ wz, Below w.heap.size w wz → wz.cell? ⟨g, 0, none⟩ = some (.int .u64 (wd x 0 : Int)) ∧ wz.cell? ⟨g, 1, none⟩ = some (.int .u64 (wd x 1 : Int)) ∧ wz.cell? ⟨g, 2, none⟩ = some (.int .u64 (wd x 2 : Int)) ∧ wz.cell? ⟨g, 3, none⟩ = some (.int .u64 (wd x 3 : Int)) ∧ wz.cell? ⟨g', 0, none⟩ = some (.int .u64 (wd x' 0 : Int)) ∧ wz.cell? ⟨g', 1, none⟩ = some (.int .u64 (wd x' 1 : Int)) ∧ wz.cell? ⟨g', 2, none⟩ = some (.int .u64 (wd x' 2 : Int)) ∧ wz.cell? ⟨g', 3, none⟩ = some (.int .u64 (wd x' 3 : Int)) ∧ wz.cell? ⟨0, 0, none⟩ = some (.int .u64 (wd IM 0 : Int)) ∧ wz.cell? ⟨0, 1, none⟩ = some (.int .u64 (wd IM 1 : Int)) ∧ wz.cell? ⟨0, 2, none⟩ = some (.int .u64 (wd IM 2 : Int)) ∧ wz.cell? ⟨0, 3, none⟩ = some (.int .u64 (wd IM 3 : Int)) := fun wz hz => by
  obtain ⟨a0, a1, a2, a3⟩ := (h.keep hz).c4
  obtain ⟨b0, b1, b2, b3⟩ := (h'.keep hz).c4
  obtain ⟨c0, c1, c2, c3⟩ := hG.next hz
  exact ⟨a0, a1, a2, a3, b0, b1, b2, b3, c0, c1, c2, c3⟩
attribute [local irreducible] wd by8
set_option maxRecDepth 20000
set_option maxHeartbeats 1600000 in
theorem froot_walk {a a1 x0 q1 y x1 b n x2 q2 r I : Nat} {t : Bool} (hI : I = IM) (k1 : ∀ w, Calls Tryd.prog 16 #[nv a] w fun e w' => e = .returned (nv a1) ∧ Below w.heap.size w w')
    (k2 : ∀ w, Calls Tryd.prog 28 #[nv a1, lit4 18446744073709551614 18446744073709551615 18446744073709551615 1152921504606846975] w fun e w' => e = .returned (nv x0) ∧ Below w.heap.size w w')
    (k3 : ∀ w, Calls Tryd.prog 60 #[nv x0, nv a1] w fun e w' => e = .returned (.int .u64 (q1 : Int)) ∧ Below w.heap.size w w')
    (k4 : ∀ w, Calls Tryd.prog 26 #[nv x0, nv I] w fun e w' => e = .returned (nv y) ∧ Below w.heap.size w w')
    (k5 : ∀ w, Calls Tryd.prog 55 #[.int .u64 (q1 : Int), nv y, nv x0] w fun e w' => e = .returned (nv x1) ∧ Below w.heap.size w w')
    (k6 : ∀ w, Calls Tryd.prog 56 #[nv x1, .int .i64 0] w fun e w' => e = .returned (.int .u64 (b : Int)) ∧ Below w.heap.size w w')
    (k7 : ∀ w, Calls Tryd.prog 23 #[nv x1] w fun e w' => e = .returned (nv n) ∧ Below w.heap.size w w')
    (k8 : ∀ w, Calls Tryd.prog 55 #[.int .u64 (b : Int), nv x1, nv n] w fun e w' => e = .returned (nv x2) ∧ Below w.heap.size w w')
    (k9 : ∀ w, Calls Tryd.prog 60 #[nv x2, nv a1] w fun e w' => e = .returned (.int .u64 (q2 : Int)) ∧ Below w.heap.size w w')
    (k10 : ∀ w, Calls Tryd.prog 55 #[.int .u64 (q2 : Int), lit4 0 0 0 0, nv x2] w fun e w' => e = .returned (nv r) ∧ Below w.heap.size w w')
    (hq : ((q2 : Int) == 1) = t) (w : World) (hG : Glb w) :
    Calls Tryd.prog 33 #[nv a] w fun e w' => e = .returned (.tuple #[nv r, .bool t]) ∧ Below w.heap.size w w' := by
  have K1 := Lib.hid k1
  have K2 := Lib.hid k2
  have K3 := Lib.hid k3
  have K4 := Lib.hid k4
  have K5 := Lib.hid k5
  have K6 := Lib.hid k6
  have K7 := Lib.hid k7
  have K8 := Lib.hid k8
  have K9 := Lib.hid k9
  have K10 := Lib.hid k10
  have HQ := Lib.hid hq
  have HI := Lib.hid hI
  have HG := Lib.hid hG
  clear k1 k2 k3 k4 k5 k6 k7 k8 k9 k10 hq hI hG
  unfold nv
  go_enter Tryd.func33, Tryd.ntmps33
  go_wp2_with fail
  go_at_call 16
  refine (K1.out _).mono ?_
  rintro e v1 ⟨rfl, h0⟩
  obtain ⟨oz, hc⟩ := zres2 h0
  have oa := box1 h0
  clear h0
  obtain ⟨a0_, a1_, a2_, a3_⟩ := oa.c4
  obtain ⟨f0, f1, f2, f3⟩ := oa.f4
  go_wp2_with fail
  clear a0_ a1_ a2_ a3_ f0 f1 f2 f3
  have hb := oa.below a1
  replace oz := oz.other (g' := w.heap.size) (by omega) a1
  replace oa := oa.put a1
  replace hc := hc.trans hb
  clear hb
  go_at_call 28
  refine (K2.out _).mono ?_
  rintro e v2 ⟨rfl, h0⟩
  replace oz := oz.keep h0
  replace oa := oa.keep h0
  replace hc := hc.trans (h0.mono hc.size)
  clear h0
  go_upto_region 3 with fail
  have ox := O4.new (w := v2) hc.size x0
  have hne1 : v2.heap.size ≠ w.heap.size := Nat.ne_of_gt oa.lt
  have hne2 : v2.heap.size ≠ w.heap.size + 1 := Nat.ne_of_gt oz.lt
  replace oz := oz.alloc (A4 x0)
  replace oa := oa.alloc (A4 x0)
  replace hc := hc.alloc hc.size (A4 x0)
  obtain ⟨v3, e3⟩ : ∃ v, v = v2.alloc (A4 x0) := ⟨_, rfl⟩
  rw [← e3] at ox oa oz hc ⊢
  clear e3
  have hG3 := HG.out.keep hc HG.out.pos
  have HS := Lib.hid (keepG ox oa hG3)
  clear hG3
  rw [← HI.out] at HS
  refine wp_region_seq 8 (fun wz => Below v3.heap.size v3 wz) (by kernel_rfl) (by kernel_rfl) (Below.refl _ v3).drew ?_
  simp only [List.take_succ_cons, List.take_zero, List.drop_succ_cons, List.drop_zero]
  refine Seq.run (nv x0) rfl (fun wz hz => by obtain ⟨s0, s1, s2, s3, t0, t1, t2, t3, u0_, u1_, u2_, u3_⟩ := HS.out wz hz; go_simp) ?_
  refine Seq.run (nv a1) rfl (fun wz hz => by obtain ⟨s0, s1, s2, s3, t0, t1, t2, t3, u0_, u1_, u2_, u3_⟩ := HS.out wz hz; go_simp) ?_
  refine Seq.call (.int .u64 (q1 : Int)) 60 #[nv x0, nv a1] rfl (fun wz hz => by go_simp) (fun wz hz => (K3.out wz).mono fun e w' ⟨he, h1⟩ => ⟨he, hz.trans (h1.mono hz.size)⟩) ?_
  refine Seq.run (nv x0) rfl (fun wz hz => by obtain ⟨s0, s1, s2, s3, t0, t1, t2, t3, u0_, u1_, u2_, u3_⟩ := HS.out wz hz; go_simp) ?_
  refine Seq.run (nv I) rfl (fun wz hz => by obtain ⟨s0, s1, s2, s3, t0, t1, t2, t3, u0_, u1_, u2_, u3_⟩ := HS.out wz hz; go_simp) ?_
  refine Seq.call (nv y) 26 #[nv x0, nv I] rfl (fun wz hz => by go_simp) (fun wz hz => (K4.out wz).mono fun e w' ⟨he, h1⟩ => ⟨he, hz.trans (h1.mono hz.size)⟩) ?_
  refine Seq.run (nv x0) rfl (fun wz hz => by obtain ⟨s0, s1, s2, s3, t0, t1, t2, t3, u0_, u1_, u2_, u3_⟩ := HS.out wz hz; go_simp) ?_
  refine Seq.call (nv x1) 55 #[.int .u64 (q1 : Int), nv y, nv x0] rfl (fun wz hz => by go_simp) (fun wz hz => (K5.out wz).mono fun e w' ⟨he, h1⟩ => ⟨he, hz.trans (h1.mono hz.size)⟩) ?_
  refine Seq.nil fun v4 hd => ?_
  replace ox := ox.keep hd
  replace oa := oa.keep hd
  replace oz := oz.keep hd
  replace hc := hc.trans (hd.mono hc.size)
  clear hd HS
  obtain ⟨s0, s1, s2, s3⟩ := ox.c4
  obtain ⟨f0, f1, f2, f3⟩ := ox.f4
  go_upto_region 4 with fail
  clear s0 s1 s2 s3 f0 f1 f2 f3
  have hb := ox.below x1
  replace oz := oz.other hne2 x1
  replace oa := oa.other hne1 x1
  replace ox := ox.put x1
  replace hc := hc.trans hb
  clear hb
  obtain ⟨v5, e5⟩ : ∃ v, v = set4w v4 v2.heap.size x1 := ⟨_, rfl⟩
  have e5' := e5
  rw [← e5] at ox oa oz hc
  unfold set4w at e5
  rw [← e5]
  clear e5 e5'
  have HS := Lib.hid (keep4 ox)
  refine wp_region_seq 6 (fun wz => Below v5.heap.size v5 wz) (by kernel_rfl) (by kernel_rfl) (Below.refl _ v5).drew ?_
  simp only [List.take_succ_cons, List.take_zero, List.drop_succ_cons, List.drop_zero]
  refine Seq.run (nv x1) rfl (fun wz hz => by obtain ⟨s0, s1, s2, s3⟩ := HS.out wz hz; go_simp) ?_
  refine Seq.call (.int .u64 (b : Int)) 56 #[nv x1, .int .i64 0] rfl (fun wz hz => by go_simp) (fun wz hz => (K6.out wz).mono fun e w' ⟨he, h1⟩ => ⟨he, hz.trans (h1.mono hz.size)⟩) ?_
  refine Seq.run (nv x1) rfl (fun wz hz => by obtain ⟨s0, s1, s2, s3⟩ := HS.out wz hz; go_simp) ?_
  refine Seq.run (nv x1) rfl (fun wz hz => by obtain ⟨s0, s1, s2, s3⟩ := HS.out wz hz; go_simp) ?_
  refine Seq.call (nv n) 23 #[nv x1] rfl (fun wz hz => by go_simp) (fun wz hz => (K7.out wz).mono fun e w' ⟨he, h1⟩ => ⟨he, hz.trans (h1.mono hz.size)⟩) ?_
  refine Seq.call (nv x2) 55 #[.int .u64 (b : Int), nv x1, nv n] rfl (fun wz hz => by go_simp) (fun wz hz => (K8.out wz).mono fun e w' ⟨he, h1⟩ => ⟨he, hz.trans (h1.mono hz.size)⟩) ?_
  refine Seq.nil fun v6 hd => ?_
  replace ox := ox.keep hd
  replace oa := oa.keep hd
  replace oz := oz.keep hd
  replace hc := hc.trans (hd.mono hc.size)
  clear hd HS
  obtain ⟨s0, s1, s2, s3⟩ := ox.c4
  obtain ⟨f0, f1, f2, f3⟩ := ox.f4
  obtain ⟨t0, t1, t2, t3⟩ := (oa.other hne1 x2).c4
  unfold set4w at t0 t1 t2 t3
  go_wp2_with fail
  clear s0 s1 s2 s3 f0 f1 f2 f3 t0 t1 t2 t3
  have hb := ox.below x2
  replace oz := oz.other hne2 x2
  replace oa := oa.other hne1 x2
  replace ox := ox.put x2
  replace hc := hc.trans hb
  clear hb
  go_at_call 60
  refine (K9.out _).mono ?_
  rintro e v7 ⟨rfl, h0⟩
  replace oz := oz.keep h0
  replace oa := oa.keep h0
  replace ox := ox.keep h0
  replace hc := hc.trans (h0.mono hc.size)
  clear h0
  obtain ⟨s0, s1, s2, s3⟩ := ox.c4
  go_wp2_with fail
  clear s0 s1 s2 s3
  go_at_call 55
  refine (K10.out _).mono ?_
  rintro e v8 ⟨rfl, h0⟩
  replace oz := oz.keep h0
  replace hc := hc.trans (h0.mono hc.size)
  clear h0
  have hq := HQ.out
  obtain ⟨z0, z1, z2, z3⟩ := oz.c4
  obtain ⟨f0, f1, f2, f3⟩ := oz.f4
  obtain ⟨wz, ez, or, hb, _⟩ := oz.out r
  obtain ⟨r0, r1, r2, r3⟩ := or.c4
  go_wp2_with fail
  rw [← ez]
  refine bodyPost_ret (v := .tuple #[nv r, .bool t]) (by simp [results, Tryd.results33, go_sem, r0, r1, r2, r3]) rfl ⟨rfl, hc.trans hb⟩
theorem bt_lt (x i : Nat) : bt x i < 2 := Nat.mod_lt _ (by decide)
theorem rt1_W4 (a : Nat) : rt1 a < W4 := by unfold rt1 rt0; split <;> exact red_W4 _
theorem rt2_W4 (a : Nat) : rt2 a < W4 := by unfold rt2 fsub; split; exact rt1_W4 a; exact red_W4 _
theorem froot_any {a : Nat} (ha : a < W4) (w : World) (hG : Glb w) :
    Calls Tryd.prog 33 #[nv a] w fun e w' => e = .returned (.tuple #[nv (rtr (a % P25)), .bool (decide (rtq (a % P25) = 1))]) ∧ Below w.heap.size w w' := by
  have h1 := red_W4 a
  refine froot_walk (a1 := a % P25) (x0 := rt0 (a % P25)) (q1 := if rt0 (a % P25) * rt0 (a % P25) % P25 = a % P25 then 1 else 0) (y := rt0 (a % P25) * IM % P25) (x1 := rt1 (a % P25)) (b := bt (rt1 (a % P25)) 0) (n := fsub 0 (rt1 (a % P25)))
    (x2 := rt2 (a % P25)) (q2 := rtq (a % P25)) (I := IM) rfl (fun w => reduce_any ha w) (fun w => ?_) (fun w => squares_any (red_W4 _) h1 w) (fun w => fmul_any (red_W4 _) IM_W4 w) (fun w => ?_) (fun w => bit_in _ 0 (by decide) w) (fun w => fneg_any (rt1_W4 _) w) (fun w => ?_) (fun w => squares_any (rt2_W4 _) h1 w) (fun w => ?_) ?_ w hG
  · have h := fpower_any h1 RE_W4 w
    rw [l_re] at h
    exact h
  · have h := pick_any (if rt0 (a % P25) * rt0 (a % P25) % P25 = a % P25 then 1 else 0) (rt0 (a % P25) * IM % P25) (rt0 (a % P25)) (by split <;> decide) w
    have e : (if (if rt0 (a % P25) * rt0 (a % P25) % P25 = a % P25 then 1 else 0) = 0 then rt0 (a % P25) * IM % P25 else rt0 (a % P25)) = rt1 (a % P25) := by
      unfold rt1; split <;> simp_all
    rw [e] at h
    exact h
  · exact pick_any _ _ _ (by have := bt_lt (rt1 (a % P25)) 0; omega) w
  · have h := pick_any (rtq (a % P25)) 0 (rt2 (a % P25)) (by unfold rtq; split <;> decide) w
    have e : (if rtq (a % P25) = 0 then 0 else rt2 (a % P25)) = rtr (a % P25) := by
      unfold rtq rtr; split <;> simp_all
    rw [e, nv_small (x := 0) (by decide)] at h
    exact h
  · unfold rtq; split <;> rfl
end Go.Proofs.YtifcjfeepgfmfaaDoor
