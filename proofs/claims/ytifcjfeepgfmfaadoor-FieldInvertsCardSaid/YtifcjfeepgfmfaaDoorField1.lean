import Derived.Test.YtifcjfeepgfmfaaDoorSettle
namespace Go.Proofs.YtifcjfeepgfmfaaDoor
open Go Go.RowKit
theorem P25_pos : 0 < P25 := by decide +kernel
theorem red_W4 (x : Nat) : x % P25 < W4 := Nat.lt_trans (Nat.mod_lt _ P25_pos) P25_W4
attribute [local irreducible] wd by8
set_option maxRecDepth 20000
theorem reduce_walk {a r : Nat} (kset : ∀ w, Calls Tryd.prog 44 #[nv a, .int .u64 0] w fun e w' => e = .returned (nv r) ∧ Below w.heap.size w w') (w : World) :
    Calls Tryd.prog 16 #[nv a] w fun e w' => e = .returned (nv r) ∧ Below w.heap.size w w' := by
  have KS := Lib.hid kset
  clear kset
  unfold nv
  go_enter Tryd.func16, Tryd.ntmps16
  go_wp2_with fail
  go_at_call 44
  refine (KS.out _).mono ?_
  rintro e v1 ⟨rfl, h0⟩
  obtain ⟨oz, hc⟩ := zres2 h0
  clear h0
  obtain ⟨z0, z1, z2, z3⟩ := oz.c4
  obtain ⟨f0, f1, f2, f3⟩ := oz.f4
  obtain ⟨wz, ez, or, hb, _⟩ := oz.out r
  obtain ⟨r0, r1, r2, r3⟩ := or.c4
  go_wp2_with fail
  rw [← ez]
  refine bodyPost_ret (v := nv r) (by simp [results, Tryd.results16, go_sem, r0, r1, r2, r3]) rfl ⟨rfl, hc.trans hb⟩
theorem reduce_any {a : Nat} (ha : a < W4) (w : World) :
    Calls Tryd.prog 16 #[nv a] w fun e w' => e = .returned (nv (a % P25)) ∧ Below w.heap.size w w' :=
  reduce_walk (fun w => by have h := settle_any ha (k := 0) (by decide) w; rw [Nat.mul_zero, Nat.add_zero] at h; exact h) w
/-- .. of a number that may be beyond 2^256: its words alone are asked. -/
theorem reduce_all (a : Nat) (w : World) :
    Calls Tryd.prog 16 #[nv a] w fun e w' => e = .returned (nv (a % W4 % P25)) ∧ Below w.heap.size w w' := by
  have h := reduce_any (Nat.mod_lt a W4_pos) w
  rw [nv_mod a] at h
  exact h
set_option maxHeartbeats 400000 in
theorem fadd_walk {x y s c r : Nat} (kadd : ∀ w, Calls Tryd.prog 47 #[nv x, nv y] w fun e w' => e = .returned (.tuple #[nv s, .int .u64 (c : Int)]) ∧ Below w.heap.size w w')
    (kset : ∀ w, Calls Tryd.prog 44 #[nv s, .int .u64 (c : Int)] w fun e w' => e = .returned (nv r) ∧ Below w.heap.size w w') (w : World) :
    Calls Tryd.prog 19 #[nv x, nv y] w fun e w' => e = .returned (nv r) ∧ Below w.heap.size w w' := by
  have KS := Lib.hid kset
  have KA := Lib.hid kadd
  clear kset kadd
  unfold nv
  go_enter Tryd.func19, Tryd.ntmps19
  go_wp2_with fail
  go_at_call 47
  refine (KA.out _).mono ?_
  rintro e v1 ⟨rfl, h0⟩
  obtain ⟨oz, hc⟩ := zres3 h0
  clear h0
  go_wp2_with fail
  go_at_call 44
  refine (KS.out _).mono ?_
  rintro e v2 ⟨rfl, h0⟩
  replace oz := oz.keep h0
  replace hc := hc.trans (h0.mono hc.size)
  clear h0
  obtain ⟨z0, z1, z2, z3⟩ := oz.c4
  obtain ⟨f0, f1, f2, f3⟩ := oz.f4
  obtain ⟨wz, ez, or, hb, _⟩ := oz.out r
  obtain ⟨r0, r1, r2, r3⟩ := or.c4
  go_wp2_with fail
  rw [← ez]
  refine bodyPost_ret (v := nv r) (by simp [results, Tryd.results19, go_sem, r0, r1, r2, r3]) rfl ⟨rfl, hc.trans hb⟩
theorem fadd_any {x y : Nat} (hx : x < W4) (hy : y < W4) (w : World) :
    Calls Tryd.prog 19 #[nv x, nv y] w fun e w' => e = .returned (nv ((x + y) % P25)) ∧ Below w.heap.size w w' := by
  refine fadd_walk (s := x + y) (c := cw x y 4) (fun w => add_any x y w) (fun w => ?_) w
  have e : cw x y 4 = (x + y) / W4 := cry_full hx hy
  have h := settle_any (a := (x + y) % W4) (k := cw x y 4) (Nat.mod_lt _ W4_pos) (by have := cw_le x y 4; omega) w
  rw [nv_mod (x + y)] at h
  rw [show (x + y) % W4 + W4 * cw x y 4 = x + y by rw [e]; exact Nat.mod_add_div _ _] at h
  exact h
/-- The difference. -/
def fsub (x y : Nat) : Nat := (x + 3 * P25 - y) % P25
set_option maxHeartbeats 1600000 in
theorem fsub_walk {x y d1 b1 d2 b2 d3 b3 r : Nat} (k1 : ∀ w, Calls Tryd.prog 46 #[nv x, nv y] w fun e w' => e = .returned (.tuple #[nv d1, .int .u64 (b1 : Int)]) ∧ Below w.heap.size w w')
    (k2 : ∀ w, Calls Tryd.prog 46 #[nv d1, lit4 ((38 * b1 : Nat) : Int) 0 0 0] w fun e w' => e = .returned (.tuple #[nv d2, .int .u64 (b2 : Int)]) ∧ Below w.heap.size w w')
    (k3 : ∀ w, Calls Tryd.prog 46 #[nv d2, lit4 ((38 * b2 : Nat) : Int) 0 0 0] w fun e w' => e = .returned (.tuple #[nv d3, .int .u64 (b3 : Int)]) ∧ Below w.heap.size w w')
    (k4 : ∀ w, Calls Tryd.prog 16 #[nv d3] w fun e w' => e = .returned (nv r) ∧ Below w.heap.size w w')
    (g1 : IntKind.u64.wrap (38 * (b1 : Int)) = ((38 * b1 : Nat) : Int)) (g2 : IntKind.u64.wrap (38 * (b2 : Int)) = ((38 * b2 : Nat) : Int)) (w : World) :
    Calls Tryd.prog 21 #[nv x, nv y] w fun e w' => e = .returned (nv r) ∧ Below w.heap.size w w' := by
  have K1 := Lib.hid k1
  have K2 := Lib.hid k2
  have K3 := Lib.hid k3
  have K4 := Lib.hid k4
  clear k1 k2 k3 k4
  generalize 38 * b1 = p1 at *
  generalize 38 * b2 = p2 at *
  unfold nv
  go_enter Tryd.func21, Tryd.ntmps21
  go_wp2_with fail
  go_at_call 46
  refine (K1.out _).mono ?_
  rintro e v1 ⟨rfl, h0⟩
  obtain ⟨oz, hc⟩ := zres3 h0
  have hne : v1.heap.size ≠ w.heap.size + 2 := Nat.ne_of_gt oz.lt
  clear h0
  go_wp2_with fail
  have od := O4.new (w := v1) hc.size d1
  replace oz := oz.alloc (A4 d1)
  replace hc := hc.alloc hc.size (A4 d1)
  go_at_call 46
  refine (K2.out _).mono ?_
  rintro e v2 ⟨rfl, h0⟩
  replace oz := oz.keep h0
  replace od := od.keep h0
  replace hc := hc.trans (h0.mono hc.size)
  clear h0
  obtain ⟨z0, z1, z2, z3⟩ := od.c4
  obtain ⟨f0, f1, f2, f3⟩ := od.f4
  go_wp2_with fail
  clear z0 z1 z2 z3 f0 f1 f2 f3
  replace oz := oz.other hne d2
  have hb := od.below d2
  replace od := od.put d2
  replace hc := hc.trans hb
  clear hb
  go_at_call 46
  refine (K3.out _).mono ?_
  rintro e v3 ⟨rfl, h0⟩
  replace oz := oz.keep h0
  replace od := od.keep h0
  replace hc := hc.trans (h0.mono hc.size)
  clear h0
  obtain ⟨z0, z1, z2, z3⟩ := od.c4
  obtain ⟨f0, f1, f2, f3⟩ := od.f4
  go_wp2_with fail
  clear z0 z1 z2 z3 f0 f1 f2 f3
  replace oz := oz.other hne d3
  have hb := od.below d3
  replace od := od.put d3
  replace hc := hc.trans hb
  clear hb
  go_at_call 16
  refine (K4.out _).mono ?_
  rintro e v4 ⟨rfl, h0⟩
  replace oz := oz.keep h0
  replace od := od.keep h0
  replace hc := hc.trans (h0.mono hc.size)
  clear h0
  obtain ⟨z0, z1, z2, z3⟩ := oz.c4
  obtain ⟨f0, f1, f2, f3⟩ := oz.f4
  obtain ⟨wz, ez, or, hb, _⟩ := oz.out r
  obtain ⟨r0, r1, r2, r3⟩ := or.c4
  go_wp2_with fail
  rw [← ez]
  refine bodyPost_ret (v := nv r) (by simp [results, Tryd.results21, go_sem, r0, r1, r2, r3]) rfl ⟨rfl, hc.trans hb⟩
theorem bw_mod {x y : Nat} (hy : y < W4) : bw x y 4 = if x % W4 < y then 1 else 0 := by
  show (if x % W4 < y % W4 then 1 else 0) = _
  rw [Nat.mod_eq_of_lt hy]
theorem P25_lit : P25 = 57896044618658097711785492504343953926634992332820282019728792003956564819949 := rfl
theorem fsub_eq {x y d1 b1 d2 b2 : Nat} (hx : x < W4) (hy : y < W4) (e1 : d1 = x + W4 - y) (e2 : b1 = if x % W4 < y then 1 else 0) (e3 : d2 = d1 + W4 - 38 * b1) (e4 : b2 = if d1 % W4 < 38 * b1 then 1 else 0) :
    (d2 + W4 - 38 * b2) % W4 % P25 = fsub x y := by
  unfold fsub
  rw [W4_eq] at *
  rw [P25_lit]
  by_cases h : x < y
  · rw [if_pos (by omega)] at e2
    subst e2
    by_cases h2 : d1 % 115792089237316195423570985008687907853269984665640564039457584007913129639936 < 38 * 1
    · rw [if_pos h2] at e4
      omega
    · rw [if_neg h2] at e4
      omega
  · rw [if_neg (by omega)] at e2
    subst e2
    rw [if_neg (by omega)] at e4
    omega
theorem fsub_any {x y : Nat} (hx : x < W4) (hy : y < W4) (w : World) :
    Calls Tryd.prog 21 #[nv x, nv y] w fun e w' => e = .returned (nv (fsub x y)) ∧ Below w.heap.size w w' := by
  have l1 := bw_le x y 4
  have l2 := bw_le (x + W4 - y) (38 * bw x y 4) 4
  have hW : 100 < W4 := by decide +kernel
  refine fsub_walk (d1 := x + W4 - y) (b1 := bw x y 4) (d2 := x + W4 - y + W4 - 38 * bw x y 4) (b2 := bw (x + W4 - y) (38 * bw x y 4) 4) (d3 := x + W4 - y + W4 - 38 * bw x y 4 + W4 - 38 * bw (x + W4 - y) (38 * bw x y 4) 4)
    (b3 := bw (x + W4 - y + W4 - 38 * bw x y 4) (38 * bw (x + W4 - y) (38 * bw x y 4) 4) 4) (fun w => sub_any x y hy w) (fun w => ?_) (fun w => ?_) (fun w => ?_) (by rw [IntKind.wrap_u64]; omega) (by rw [IntKind.wrap_u64]; omega) w
  · have h := sub_any (x + W4 - y) (38 * bw x y 4) (by omega) w
    rw [nv_small (x := 38 * bw x y 4) (by omega)] at h
    exact h
  · have h := sub_any (x + W4 - y + W4 - 38 * bw x y 4) (38 * bw (x + W4 - y) (38 * bw x y 4) 4) (by omega) w
    rw [nv_small (x := 38 * bw (x + W4 - y) (38 * bw x y 4) 4) (by omega)] at h
    exact h
  · have h := reduce_all (x + W4 - y + W4 - 38 * bw x y 4 + W4 - 38 * bw (x + W4 - y) (38 * bw x y 4) 4) w
    rw [fsub_eq hx hy rfl (bw_mod hy) rfl (bw_mod (by omega))] at h
    exact h
theorem fneg_walk {x r : Nat} (k1 : ∀ w, Calls Tryd.prog 21 #[lit4 0 0 0 0, nv x] w fun e w' => e = .returned (nv r) ∧ Below w.heap.size w w') (w : World) :
    Calls Tryd.prog 23 #[nv x] w fun e w' => e = .returned (nv r) ∧ Below w.heap.size w w' := by
  have K1 := Lib.hid k1
  clear k1
  unfold nv
  go_enter Tryd.func23, Tryd.ntmps23
  go_wp2_with fail
  go_at_call 21
  refine (K1.out _).mono ?_
  rintro e v1 ⟨rfl, h0⟩
  obtain ⟨oz, hc⟩ := zres2 h0
  clear h0
  obtain ⟨z0, z1, z2, z3⟩ := oz.c4
  obtain ⟨f0, f1, f2, f3⟩ := oz.f4
  obtain ⟨wz, ez, or, hb, _⟩ := oz.out r
  obtain ⟨r0, r1, r2, r3⟩ := or.c4
  go_wp2_with fail
  rw [← ez]
  refine bodyPost_ret (v := nv r) (by simp [results, Tryd.results23, go_sem, r0, r1, r2, r3]) rfl ⟨rfl, hc.trans hb⟩
theorem fneg_any {x : Nat} (hx : x < W4) (w : World) :
    Calls Tryd.prog 23 #[nv x] w fun e w' => e = .returned (nv (fsub 0 x)) ∧ Below w.heap.size w w' :=
  fneg_walk (fun w => by have h := fsub_any W4_pos hx w; rw [nv_small (x := 0) (by decide)] at h; exact h) w
set_option maxHeartbeats 800000 in
theorem right_walk {a d b : Nat} {q : Bool} (ksub : ∀ w, Calls Tryd.prog 46 #[nv a, nv P25] w fun e w' => e = .returned (.tuple #[nv d, .int .u64 (b : Int)]) ∧ Below w.heap.size w w')
    (hq : ((b : Int) == 1) = q) (w : World) :
    Calls Tryd.prog 18 #[nv a] w fun e w' => e = .returned (.bool q) ∧ Below w.heap.size w w' := by
  obtain ⟨P, hP⟩ : ∃ P, P = P25 := ⟨_, rfl⟩
  have kpr := prime_any
  rw [← hP] at ksub kpr
  clear hP
  have KS := Lib.hid ksub
  have HQ := Lib.hid hq
  clear ksub hq
  unfold nv
  go_enter Tryd.func18, Tryd.ntmps18
  go_upto_region 1 with fail
  obtain ⟨v2, e2⟩ : ∃ v, v = w.alloc (A4 a) := ⟨_, rfl⟩
  have os : O4 v2 w.heap.size w.heap.size a := by rw [e2]; exact O4.new (Nat.le_refl _) a
  have hc : Below w.heap.size w v2 := by rw [e2]; exact (Below.refl _ w).alloc (Nat.le_refl _) _
  rw [← e2]
  clear e2
  have HS := Lib.hid (keep4 os)
  have hs := hc.size
  go_cut [4] from 5 to 10 (fun c9 wx => c9 = .int .u64 (b : Int) ∧ Below v2.heap.size v2 wx)
  case first =>
    obtain ⟨s0, s1, s2, s3⟩ := HS.out v2 (Below.refl _ _)
    have hd : Below v2.heap.size v2 v2.drew := (Below.refl _ v2).drew
    go_region_held3 (fun wz => wz.cell? ⟨w.heap.size, 0, none⟩ = some (.int .u64 (wd a 0 : Int)) ∧ wz.cell? ⟨w.heap.size, 1, none⟩ = some (.int .u64 (wd a 1 : Int)) ∧ wz.cell? ⟨w.heap.size, 2, none⟩ = some (.int .u64 (wd a 2 : Int)) ∧ wz.cell? ⟨w.heap.size, 3, none⟩ = some (.int .u64 (wd a 3 : Int)))
      (first | exact HS.out _ hd | exact HS.out _ (hd.alloc hd.size _) | exact HS.out _ (by repeat (first | exact hd | (refine Below.setCell ?_ (by first | omega | (simp; done) | (simp; omega)) _) | (refine Below.alloc ?_ (by first | omega | (simp; done) | (simp; omega)) _) | refine Below.drew ?_)))
      (first | (go_at_call 14; (with_reducible refine (kpr _).mono ?_); rintro e wp ⟨rfl, h1⟩; (first | (replace ob := ob.keep h1) | (have ob := keepZd h1; have hg := Nat.le_refl v2.heap.size) | (have ob := keepZ h1; have hg := hd.size) | skip); (first | (replace hd := (hd.alloc hd.size Z4).trans (h1.mono (Nat.le_trans hd.size (by simp)))) | (replace hd := hd.trans (h1.mono hd.size))); clear h1) | (go_at_call 46; (with_reducible refine (KS.out _).mono ?_); rintro e wn ⟨rfl, h1⟩; (first | (replace ob := ob.keep h1) | (have ob := keepZd h1; have hg := Nat.le_refl v2.heap.size) | (have ob := keepZ h1; have hg := hd.size) | skip); (first | (replace hd := (hd.alloc hd.size Z4).trans (h1.mono (Nat.le_trans hd.size (by simp)))) | (replace hd := hd.trans (h1.mono hd.size))); clear h1; (try (obtain ⟨o0, o1, o2, o3⟩ := ob.c4; obtain ⟨q0, q1, q2, q3⟩ := ob.f4))))
    all_goals
      go_wp2_with fail
      go_meet
      first
        | exact ⟨rfl, hd.alloc hd.size _⟩
        | exact ⟨rfl, hd.trans ((ob.below d).mono hg)⟩
  case rest =>
    obtain ⟨rfl, hd⟩ := hcut
    have hq := HQ.out
    go_wp2_with fail
    go_ret
    exact ⟨rfl, hc.trans (hd.mono hs)⟩
theorem right_any {a : Nat} (ha : a < W4) (w : World) :
    Calls Tryd.prog 18 #[nv a] w fun e w' => e = .returned (.bool (decide (a < P25))) ∧ Below w.heap.size w w' := by
  refine right_walk (fun w => sub_any a P25 P25_W4 w) ?_ w
  rw [bw_one ha P25_W4]
  by_cases h : a < P25
  · rw [if_pos h, decide_eq_true h]; rfl
  · rw [if_neg h, decide_eq_false h]; rfl
end Go.Proofs.YtifcjfeepgfmfaaDoor
