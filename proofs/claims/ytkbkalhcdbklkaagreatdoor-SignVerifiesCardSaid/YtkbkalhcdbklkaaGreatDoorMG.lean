
import Derived.Test.YtkbkalhcdbklkaaGreatDoorJ11
import Derived.Test.YtkbkalhcdbklkaaGreatDoorJ01
namespace Go.Proofs.YtkbkalhcdbklkaaGreatDoor
open Go Go.RowKit
def H25 : Nat := 57896044618658097711785492504343953926634992332820282019728792003956564819968
theorem H25_eq : W4 = 2 * H25 := by decide +kernel
theorem H25_P : H25 = P25 + 19 := by decide +kernel
theorem top_bit {a : Nat} (ha : a < W4) : wd a 3 / 9223372036854775808 = a / H25 := by
 unfold wd dgt
 have h1 : a / 18446744073709551616 ^ 3 < 18446744073709551616 := Nat.div_lt_of_lt_mul (by rw [← Nat.pow_succ]; exact ha)
 rw [Nat.mod_eq_of_lt h1, Nat.div_div_eq_div_mul]
 rfl
theorem wd_low {a k : Nat} (hk : k < 3) : wd (a % H25) k = wd a k := by
 have e : H25 = 18446744073709551616 ^ 3 * 9223372036854775808 := by decide +kernel
 have h1 : (a % H25) % 18446744073709551616 ^ 3 = a % 18446744073709551616 ^ 3 := by rw [e, Nat.mod_mul_right_mod]
 unfold wd
 rw [← dgt_mod _ hk, h1, dgt_mod _ hk]
theorem wd_top {a : Nat} (ha : a < W4) : wd (a % H25) 3 = wd a 3 % 9223372036854775808 := by
 have e : H25 = 18446744073709551616 ^ 3 * 9223372036854775808 := by decide +kernel
 have h1 : a / 18446744073709551616 ^ 3 < 18446744073709551616 := Nat.div_lt_of_lt_mul (by rw [← Nat.pow_succ]; exact ha)
 unfold wd dgt
 rw [e, Nat.mod_mul_right_div_self, Nat.mod_eq_of_lt h1, Nat.mod_eq_of_lt (by have := Nat.mod_lt (a / 18446744073709551616 ^ 3) (show 0 < 9223372036854775808 by decide); omega)]
theorem O4.oth1 {w : World} {B g g' x : Nat} (h : O4 w B g x) (hg : g' ≠ g) (k : Nat) (v : Value) : O4 (w.setCell ⟨g', k, none⟩ v) B g x := OwnF.other h (p := ⟨g', k, none⟩) hg v
def hv (a k : Nat) : Nat := 2 * k + a / H25
def su (a k : Nat) : Nat := a % H25 + 19 * hv a k
theorem hv_le {a k : Nat} (ha : a < W4) (hk : k ≤ 4294967296) : hv a k ≤ 8589934593 := by
 have := Nat.div_lt_of_lt_mul (show a < H25 * 2 by rw [Nat.mul_comm, ← H25_eq]; exact ha)
 unfold hv; omega
theorem su_lt {a k : Nat} (ha : a < W4) (hk : k ≤ 4294967296) : su a k < 2 * P25 := by
 have h1 := hv_le ha hk
 have h2 := Nat.mod_lt a (show 0 < H25 by decide +kernel)
 have h3 : H25 + 200000000000 < 2 * P25 := by decide +kernel
 unfold su; omega
theorem su_mod (a k : Nat) : su a k % P25 = (a + W4 * k) % P25 := by
 have h := Nat.mod_add_div a H25
 have e : a + W4 * k = su a k + P25 * hv a k := by
  unfold su hv
  rw [H25_eq]
  rw [show 2 * H25 * k = H25 * (2 * k) by rw [Nat.mul_comm 2 H25, Nat.mul_assoc]]
  generalize a / H25 = q at *
  have h1 : a = a % H25 + H25 * q := by omega
  have h2 : H25 * (2 * k) + H25 * q = H25 * (2 * k + q) := by rw [Nat.mul_add]
  have h3 : H25 * (2 * k + q) = P25 * (2 * k + q) + 19 * (2 * k + q) := by rw [H25_P, Nat.add_mul]
  omega
 rw [e, Nat.add_mul_mod_self_left]
theorem pick_left {s : Nat} (h : s < 2 * P25) : (if (if s < P25 then 1 else 0) = 0 then s + W4 - P25 else s) % W4 = s % P25 := by
 have hP : P25 < W4 := P25_W4
 have hP2 : 2 * P25 < W4 := by decide +kernel
 by_cases h1 : s < P25
 ·rw [if_pos h1, if_neg (by decide), Nat.mod_eq_of_lt (by omega), Nat.mod_eq_of_lt h1]
 ·rw [if_neg h1, if_pos rfl, show s + W4 - P25 = s - P25 + W4 by omega, Nat.add_mod_right, Nat.mod_eq_of_lt (by omega), Nat.mod_eq_sub_mod (by omega), Nat.mod_eq_of_lt (by omega)]
theorem or_halves {k q : Nat} (hk : k ≤ 4294967296) (hq : q ≤ 1) : bits .or .u64 (2 * (k : Int)) (q : Int) = ((2 * k + q : Nat) : Int) := by
 have e : (2 * (k : Int)) = ((2 * k : Nat) : Int) := by omega
 rw [e, bits_or_u64_nat _ _ (by omega) (by omega)]
 have : 2 * k ||| q = 2 * k + q := by
  have := Nat.two_pow_add_eq_or_of_lt (i := 1) (b := q) (by omega) k
  rw [Nat.pow_one] at this
  exact this.symm
 rw [this]
theorem and_top {x : Nat} (h : x < 18446744073709551616) : bits .and .u64 (x : Int) 9223372036854775807 = ((x % 9223372036854775808 : Nat) : Int) := by
 have := bits_and_u64_nat x 9223372036854775807 h (by omega)
 rw [show (9223372036854775807 : Nat) = 2 ^ 63 - 1 from rfl, Nat.and_two_pow_sub_one_eq_mod] at this
 exact this
theorem bw_one {x y : Nat} (hx : x < W4) (hy : y < W4) : bw x y 4 = if x < y then 1 else 0 := brw_full hx hy
attribute [local irreducible] wd by8
set_option maxRecDepth 20000 in
set_option maxHeartbeats 800000 in
theorem settle_walk {a k a3 h1 h19 s c d b r : Nat} (e1 : bits .or .u64 (2 * (k : Int)) ((wd a 3 : Int) / 9223372036854775808) = (h1 : Int)) (e2 : bits .and .u64 (wd a 3 : Int) 9223372036854775807 = (a3 : Int)) (e3 : IntKind.u64.wrap (19 * (h1 : Int)) = (h19 : Int))
  (kadd : ∀ w, Calls Tryz.prog 53 #[lit4 (wd a 0) (wd a 1) (wd a 2) a3, lit4 h19 0 0 0] w fun e w' => e = .returned (.tuple #[nv s, .int .u64 (c : Int)]) ∧ Below w.heap.size w w')
  (ksub : ∀ w, Calls Tryz.prog 62 #[nv s, nv P25] w fun e w' => e = .returned (.tuple #[nv d, .int .u64 (b : Int)]) ∧ Below w.heap.size w w')
  (kpick : ∀ w, Calls Tryz.prog 132 #[.int .u64 (b : Int), nv d, nv s] w fun e w' => e = .returned (nv r) ∧ Below w.heap.size w w')
  (g1 : IntKind.u64.wrap ((k : Int) * 2) = 2 * (k : Int)) (w : World) :
  Calls Tryz.prog 129 #[nv a, .int .u64 k] w fun e w' => e = .returned (nv r) ∧ Below w.heap.size w w' := by
 obtain ⟨P, hP⟩ : ∃ P, P = P25 := ⟨_, rfl⟩
 have kpr := prime_any
 rw [← hP] at ksub kpr
 clear hP
 have KS := Lib.hid ksub
 have KP := Lib.hid kpick
 have KA := Lib.hid kadd
 clear ksub kpick kadd
 unfold nv
 go_enter Tryz.func129, Tryz.ntmps129
 go_wp2_with fail
 go_at_call 53
 refine (KA.out _).mono ?_
 rintro e v1 ⟨rfl, h0⟩
 clear e1 e2 e3
 obtain ⟨oz, hc⟩ := zres2 h0
 have os := O4.new (w := v1) hc.size s
 replace oz := oz.alloc (A4 s)
 replace hc := hc.alloc hc.size (A4 s)
 clear h0
 go_upto_region 4 with fail
 obtain ⟨v2, e2⟩ : ∃ v, v = v1.alloc (A4 s) := ⟨_, rfl⟩
 rw [← e2] at os oz hc ⊢
 clear e2
 have HS := Lib.hid (keep4 os)
 have hs := hc.size
 go_cut [8, 9] from 28 to 33 (fun p8 c9 wx => ∃ g, p8 = .pointer (some ⟨g, 0, none⟩) ∧ c9 = .int .u64 (b : Int) ∧ O4 wx w.heap.size g d ∧ Below v2.heap.size v2 wx)
 case first =>
  obtain ⟨s0, s1, s2, s3⟩ := HS.out v2 (Below.refl _ _)
  have hd : Below v2.heap.size v2 v2.drew := (Below.refl _ v2).drew
  go_region_held3 (fun wz => wz.cell? ⟨v1.heap.size, 0, none⟩ = some (.int .u64 (wd s 0 : Int)) ∧ wz.cell? ⟨v1.heap.size, 1, none⟩ = some (.int .u64 (wd s 1 : Int)) ∧ wz.cell? ⟨v1.heap.size, 2, none⟩ = some (.int .u64 (wd s 2 : Int)) ∧ wz.cell? ⟨v1.heap.size, 3, none⟩ = some (.int .u64 (wd s 3 : Int)))
   (first | exact HS.out _ hd | exact HS.out _ (hd.alloc hd.size _) | exact HS.out _ (by repeat (first | exact hd | (refine Below.setCell ?_ (by first | omega | (simp; done) | (simp; omega)) _) | (refine Below.alloc ?_ (by first | omega | (simp; done) | (simp; omega)) _) | refine Below.drew ?_)))
   (first | (go_at_call 100; (with_reducible refine (kpr _).mono ?_); rintro e wp ⟨rfl, h1⟩; (first | (replace ob := ob.keep h1) | (have ob := keepZd h1; have hg := Nat.le_refl v2.heap.size) | (have ob := keepZ h1; have hg := hd.size) | skip); (first | (replace hd := (hd.alloc hd.size Z4).trans (h1.mono (Nat.le_trans hd.size (by simp)))) | (replace hd := bnx hd h1)); clear h1) | (go_at_call 62; (with_reducible refine (KS.out _).mono ?_); rintro e wn ⟨rfl, h1⟩; (first | (replace ob := ob.keep h1) | (have ob := keepZd h1; have hg := Nat.le_refl v2.heap.size) | (have ob := keepZ h1; have hg := hd.size) | skip); (first | (replace hd := (hd.alloc hd.size Z4).trans (h1.mono (Nat.le_trans hd.size (by simp)))) | (replace hd := bnx hd h1)); clear h1; (try (obtain ⟨o0, o1, o2, o3⟩ := ob.c4; obtain ⟨q0, q1, q2, q3⟩ := ob.f4))))
  all_goals
   go_wp2_with fail
   go_meet
   first
    | exact ⟨_, rfl, rfl, O4.new (Nat.le_trans hs hd.size) d, hd.alloc hd.size _⟩
    | exact ⟨_, rfl, rfl, (ob.put d).mono (Nat.le_trans hs hg), hd.trans ((ob.below d).mono hg)⟩
 case rest =>
  obtain ⟨g, rfl, rfl, od, hd⟩ := hcut
  replace os := os.keep hd
  replace oz := oz.keep hd
  replace hc := hc.trans (hd.mono hs)
  clear hd hs HS
  obtain ⟨s0, s1, s2, s3⟩ := os.c4
  obtain ⟨d0, d1, d2, d3⟩ := od.c4
  go_wp2_with fail
  clear s0 s1 s2 s3 d0 d1 d2 d3
  go_at_call 132
  refine (KP.out _).mono ?_
  rintro e w3 ⟨rfl, h1⟩
  replace oz := oz.keep h1
  replace hc := bnx hc h1
  obtain ⟨z0, z1, z2, z3⟩ := oz.c4
  obtain ⟨f0, f1, f2, f3⟩ := oz.f4
  obtain ⟨wz, ez, or, hb, _⟩ := oz.out r
  obtain ⟨r0, r1, r2, r3⟩ := or.c4
  go_wp2_with fail
  rw [← ez]
  refine bodyPost_ret (v := nv r) (by simp [results, Tryz.results129, go_sem, r0, r1, r2, r3]) rfl ⟨rfl, hc.trans hb⟩
theorem settle_any {a k : Nat} (ha : a < W4) (hk : k ≤ 4294967296) (w : World) :
  Calls Tryz.prog 129 #[nv a, .int .u64 k] w fun e w' => e = .returned (nv ((a + W4 * k) % P25)) ∧ Below w.heap.size w w' := by
 have hh := hv_le ha hk
 have hq : a / H25 ≤ 1 := by
  have := Nat.div_lt_of_lt_mul (show a < H25 * 2 by rw [Nat.mul_comm, ← H25_eq]; exact ha)
  omega
 have hsu := su_lt ha hk
 have hs4 : su a k < W4 := Nat.lt_trans hsu (by decide +kernel)
 have hbw := bw_one hs4 P25_W4
 refine settle_walk (a3 := wd (a % H25) 3) (h1 := hv a k) (h19 := 19 * hv a k) (s := su a k) (c := cw (a % H25) (19 * hv a k) 4) (d := su a k + W4 - P25) (b := bw (su a k) P25 4) ?_ ?_ ?_ (fun w => ?_) (fun w => sub_any _ _ P25_W4 w) (fun w => ?_) ?_ w
 ·rw [show ((wd a 3 : Int) / 9223372036854775808) = ((wd a 3 / 9223372036854775808 : Nat) : Int) by rw [Int.natCast_ediv]; rfl, top_bit ha, or_halves hk hq]; rfl
 ·rw [and_top (wd_lt _ _), wd_top ha]
 ·rw [IntKind.wrap_u64]; omega
 ·have h := add_any (a % H25) (19 * hv a k) w
  rw [nv_small (x := 19 * hv a k) (by omega), show nv (a % H25) = lit4 (wd a 0) (wd a 1) (wd a 2) (wd (a % H25) 3) by unfold nv; rw [wd_low (k := 0) (by decide), wd_low (k := 1) (by decide), wd_low (k := 2) (by decide)]] at h
  exact h
 ·have h := pick_any (bw (su a k) P25 4) (su a k + W4 - P25) (su a k) (by have := bw_le (su a k) P25 4; omega) w
  rw [← nv_mod (if bw (su a k) P25 4 = 0 then su a k + W4 - P25 else su a k), hbw, pick_left hsu, su_mod] at h
  rw [hbw]
  exact h
 ·rw [IntKind.wrap_u64]; omega
end Go.Proofs.YtkbkalhcdbklkaaGreatDoor
namespace Go.Proofs.YtkbkalhcdbklkaaGreatDoor
open Go Go.RowKit
theorem P25_pos : 0 < P25 := by decide +kernel
theorem red_W4 (x : Nat) : x % P25 < W4 := Nat.lt_trans (Nat.mod_lt _ P25_pos) P25_W4
attribute [local irreducible] wd by8
set_option maxRecDepth 20000
theorem reduce_walk {a r : Nat} (kset : ∀ w, Calls Tryz.prog 129 #[nv a, .int .u64 0] w fun e w' => e = .returned (nv r) ∧ Below w.heap.size w w') (w : World) :
  Calls Tryz.prog 130 #[nv a] w fun e w' => e = .returned (nv r) ∧ Below w.heap.size w w' := by
 have KS := Lib.hid kset
 clear kset
 unfold nv
 go_enter Tryz.func130, Tryz.ntmps130
 go_wp2_with fail
 go_at_call 129
 refine (KS.out _).mono ?_
 rintro e v1 ⟨rfl, h0⟩
 obtain ⟨oz, hc⟩ := zres2 h0
 clear h0
 obtain ⟨z0, z1, z2, z3⟩ := oz.c4
 obtain ⟨f0, f1, f2, f3⟩ := oz.f4
 obtain ⟨wz, ez, or, hb, _⟩ := oz.out r
 obtain ⟨r0, r1, r2, r3⟩ := or.c4
 go_wp2_with fail
 rw [← ez]
 refine bodyPost_ret (v := nv r) (by simp [results, Tryz.results130, go_sem, r0, r1, r2, r3]) rfl ⟨rfl, hc.trans hb⟩
theorem reduce_any {a : Nat} (ha : a < W4) (w : World) :
  Calls Tryz.prog 130 #[nv a] w fun e w' => e = .returned (nv (a % P25)) ∧ Below w.heap.size w w' :=
 reduce_walk (fun w => by have h := settle_any ha (k := 0) (by decide) w; rw [Nat.mul_zero, Nat.add_zero] at h; exact h) w
theorem reduce_all (a : Nat) (w : World) :
  Calls Tryz.prog 130 #[nv a] w fun e w' => e = .returned (nv (a % W4 % P25)) ∧ Below w.heap.size w w' := by
 have h := reduce_any (Nat.mod_lt a W4_pos) w
 rw [nv_mod a] at h
 exact h
set_option maxHeartbeats 400000 in
theorem fadd_walk {x y s c r : Nat} (kadd : ∀ w, Calls Tryz.prog 53 #[nv x, nv y] w fun e w' => e = .returned (.tuple #[nv s, .int .u64 (c : Int)]) ∧ Below w.heap.size w w')
  (kset : ∀ w, Calls Tryz.prog 129 #[nv s, .int .u64 (c : Int)] w fun e w' => e = .returned (nv r) ∧ Below w.heap.size w w') (w : World) :
  Calls Tryz.prog 103 #[nv x, nv y] w fun e w' => e = .returned (nv r) ∧ Below w.heap.size w w' := by
 have KS := Lib.hid kset
 have KA := Lib.hid kadd
 clear kset kadd
 unfold nv
 go_enter Tryz.func103, Tryz.ntmps103
 go_wp2_with fail
 go_at_call 53
 refine (KA.out _).mono ?_
 rintro e v1 ⟨rfl, h0⟩
 obtain ⟨oz, hc⟩ := zres3 h0
 clear h0
 go_wp2_with fail
 go_at_call 129
 refine (KS.out _).mono ?_
 rintro e v2 ⟨rfl, h0⟩
 replace oz := oz.keep h0
 replace hc := bnx hc h0
 clear h0
 obtain ⟨z0, z1, z2, z3⟩ := oz.c4
 obtain ⟨f0, f1, f2, f3⟩ := oz.f4
 obtain ⟨wz, ez, or, hb, _⟩ := oz.out r
 obtain ⟨r0, r1, r2, r3⟩ := or.c4
 go_wp2_with fail
 rw [← ez]
 refine bodyPost_ret (v := nv r) (by simp [results, Tryz.results103, go_sem, r0, r1, r2, r3]) rfl ⟨rfl, hc.trans hb⟩
theorem fadd_any {x y : Nat} (hx : x < W4) (hy : y < W4) (w : World) :
  Calls Tryz.prog 103 #[nv x, nv y] w fun e w' => e = .returned (nv ((x + y) % P25)) ∧ Below w.heap.size w w' := by
 refine fadd_walk (s := x + y) (c := cw x y 4) (fun w => add_any x y w) (fun w => ?_) w
 have e : cw x y 4 = (x + y) / W4 := cry_full hx hy
 have h := settle_any (a := (x + y) % W4) (k := cw x y 4) (Nat.mod_lt _ W4_pos) (by have := cw_le x y 4; omega) w
 rw [nv_mod (x + y)] at h
 rw [show (x + y) % W4 + W4 * cw x y 4 = x + y by rw [e]; exact Nat.mod_add_div _ _] at h
 exact h
def fsub (x y : Nat) : Nat := (x + 3 * P25 - y) % P25
set_option maxHeartbeats 1600000 in
theorem fsub_walk {x y d1 b1 d2 b2 d3 b3 r : Nat} (k1 : ∀ w, Calls Tryz.prog 62 #[nv x, nv y] w fun e w' => e = .returned (.tuple #[nv d1, .int .u64 (b1 : Int)]) ∧ Below w.heap.size w w')
  (k2 : ∀ w, Calls Tryz.prog 62 #[nv d1, lit4 ((38 * b1 : Nat) : Int) 0 0 0] w fun e w' => e = .returned (.tuple #[nv d2, .int .u64 (b2 : Int)]) ∧ Below w.heap.size w w')
  (k3 : ∀ w, Calls Tryz.prog 62 #[nv d2, lit4 ((38 * b2 : Nat) : Int) 0 0 0] w fun e w' => e = .returned (.tuple #[nv d3, .int .u64 (b3 : Int)]) ∧ Below w.heap.size w w')
  (k4 : ∀ w, Calls Tryz.prog 130 #[nv d3] w fun e w' => e = .returned (nv r) ∧ Below w.heap.size w w')
  (g1 : IntKind.u64.wrap (38 * (b1 : Int)) = ((38 * b1 : Nat) : Int)) (g2 : IntKind.u64.wrap (38 * (b2 : Int)) = ((38 * b2 : Nat) : Int)) (w : World) :
  Calls Tryz.prog 102 #[nv x, nv y] w fun e w' => e = .returned (nv r) ∧ Below w.heap.size w w' := by
 have K1 := Lib.hid k1
 have K2 := Lib.hid k2
 have K3 := Lib.hid k3
 have K4 := Lib.hid k4
 clear k1 k2 k3 k4
 generalize 38 * b1 = p1 at *
 generalize 38 * b2 = p2 at *
 unfold nv
 go_enter Tryz.func102, Tryz.ntmps102
 go_wp2_with fail
 go_at_call 62
 refine (K1.out _).mono ?_
 rintro e v1 ⟨rfl, h0⟩
 obtain ⟨oz, hc⟩ := zres3 h0
 have hne : v1.heap.size ≠ w.heap.size + 2 := Nat.ne_of_gt oz.lt
 clear h0
 go_wp2_with fail
 have od := O4.new (w := v1) hc.size d1
 replace oz := oz.alloc (A4 d1)
 replace hc := hc.alloc hc.size (A4 d1)
 go_at_call 62
 refine (K2.out _).mono ?_
 rintro e v2 ⟨rfl, h0⟩
 replace oz := oz.keep h0
 replace od := od.keep h0
 replace hc := bnx hc h0
 clear h0
 obtain ⟨z0, z1, z2, z3⟩ := od.c4
 obtain ⟨f0, f1, f2, f3⟩ := od.f4
 go_wp2_with fail
 clear z0 z1 z2 z3 f0 f1 f2 f3
 replace oz := oz.other hne d2
 have hb := od.below d2
 replace od := od.put d2
 replace hc := hc.trans hb
 clear hb
 go_at_call 62
 refine (K3.out _).mono ?_
 rintro e v3 ⟨rfl, h0⟩
 replace oz := oz.keep h0
 replace od := od.keep h0
 replace hc := bnx hc h0
 clear h0
 obtain ⟨z0, z1, z2, z3⟩ := od.c4
 obtain ⟨f0, f1, f2, f3⟩ := od.f4
 go_wp2_with fail
 clear z0 z1 z2 z3 f0 f1 f2 f3
 replace oz := oz.other hne d3
 have hb := od.below d3
 replace od := od.put d3
 replace hc := hc.trans hb
 clear hb
 go_at_call 130
 refine (K4.out _).mono ?_
 rintro e v4 ⟨rfl, h0⟩
 replace oz := oz.keep h0
 replace od := od.keep h0
 replace hc := bnx hc h0
 clear h0
 obtain ⟨z0, z1, z2, z3⟩ := oz.c4
 obtain ⟨f0, f1, f2, f3⟩ := oz.f4
 obtain ⟨wz, ez, or, hb, _⟩ := oz.out r
 obtain ⟨r0, r1, r2, r3⟩ := or.c4
 go_wp2_with fail
 rw [← ez]
 refine bodyPost_ret (v := nv r) (by simp [results, Tryz.results102, go_sem, r0, r1, r2, r3]) rfl ⟨rfl, hc.trans hb⟩
theorem bw_mod {x y : Nat} (hy : y < W4) : bw x y 4 = if x % W4 < y then 1 else 0 := by
 show (if x % W4 < y % W4 then 1 else 0) = _
 rw [Nat.mod_eq_of_lt hy]
theorem P25_lit : P25 = 57896044618658097711785492504343953926634992332820282019728792003956564819949 := rfl
theorem fsub_eq {x y d1 b1 d2 b2 : Nat} (hx : x < W4) (hy : y < W4) (e1 : d1 = x + W4 - y) (e2 : b1 = if x % W4 < y then 1 else 0) (e3 : d2 = d1 + W4 - 38 * b1) (e4 : b2 = if d1 % W4 < 38 * b1 then 1 else 0) :
  (d2 + W4 - 38 * b2) % W4 % P25 = fsub x y := by
 unfold fsub
 rw [W4_eq] at *
 rw [P25_lit]
 by_cases h : x < y
 ·rw [if_pos (by omega)] at e2
  subst e2
  by_cases h2 : d1 % 115792089237316195423570985008687907853269984665640564039457584007913129639936 < 38 * 1
  ·rw [if_pos h2] at e4
   omega
  ·rw [if_neg h2] at e4
   omega
 ·rw [if_neg (by omega)] at e2
  subst e2
  rw [if_neg (by omega)] at e4
  omega
theorem fsub_any {x y : Nat} (hx : x < W4) (hy : y < W4) (w : World) :
  Calls Tryz.prog 102 #[nv x, nv y] w fun e w' => e = .returned (nv (fsub x y)) ∧ Below w.heap.size w w' := by
 have l1 := bw_le x y 4
 have l2 := bw_le (x + W4 - y) (38 * bw x y 4) 4
 have hW : 100 < W4 := by decide +kernel
 refine fsub_walk (d1 := x + W4 - y) (b1 := bw x y 4) (d2 := x + W4 - y + W4 - 38 * bw x y 4) (b2 := bw (x + W4 - y) (38 * bw x y 4) 4) (d3 := x + W4 - y + W4 - 38 * bw x y 4 + W4 - 38 * bw (x + W4 - y) (38 * bw x y 4) 4)
  (b3 := bw (x + W4 - y + W4 - 38 * bw x y 4) (38 * bw (x + W4 - y) (38 * bw x y 4) 4) 4) (fun w => sub_any x y hy w) (fun w => ?_) (fun w => ?_) (fun w => ?_) (by rw [IntKind.wrap_u64]; omega) (by rw [IntKind.wrap_u64]; omega) w
 ·have h := sub_any (x + W4 - y) (38 * bw x y 4) (by omega) w
  rw [nv_small (x := 38 * bw x y 4) (by omega)] at h
  exact h
 ·have h := sub_any (x + W4 - y + W4 - 38 * bw x y 4) (38 * bw (x + W4 - y) (38 * bw x y 4) 4) (by omega) w
  rw [nv_small (x := 38 * bw (x + W4 - y) (38 * bw x y 4) 4) (by omega)] at h
  exact h
 ·have h := reduce_all (x + W4 - y + W4 - 38 * bw x y 4 + W4 - 38 * bw (x + W4 - y) (38 * bw x y 4) 4) w
  rw [fsub_eq hx hy rfl (bw_mod hy) rfl (bw_mod (by omega))] at h
  exact h
theorem fneg_walk {x r : Nat} (k1 : ∀ w, Calls Tryz.prog 102 #[lit4 0 0 0 0, nv x] w fun e w' => e = .returned (nv r) ∧ Below w.heap.size w w') (w : World) :
  Calls Tryz.prog 69 #[nv x] w fun e w' => e = .returned (nv r) ∧ Below w.heap.size w w' := by
 have K1 := Lib.hid k1
 clear k1
 unfold nv
 go_enter Tryz.func69, Tryz.ntmps69
 go_wp2_with fail
 go_at_call 102
 refine (K1.out _).mono ?_
 rintro e v1 ⟨rfl, h0⟩
 obtain ⟨oz, hc⟩ := zres2 h0
 clear h0
 obtain ⟨z0, z1, z2, z3⟩ := oz.c4
 obtain ⟨f0, f1, f2, f3⟩ := oz.f4
 obtain ⟨wz, ez, or, hb, _⟩ := oz.out r
 obtain ⟨r0, r1, r2, r3⟩ := or.c4
 go_wp2_with fail
 rw [← ez]
 refine bodyPost_ret (v := nv r) (by simp [results, Tryz.results69, go_sem, r0, r1, r2, r3]) rfl ⟨rfl, hc.trans hb⟩
theorem fneg_any {x : Nat} (hx : x < W4) (w : World) :
  Calls Tryz.prog 69 #[nv x] w fun e w' => e = .returned (nv (fsub 0 x)) ∧ Below w.heap.size w w' :=
 fneg_walk (fun w => by have h := fsub_any W4_pos hx w; rw [nv_small (x := 0) (by decide)] at h; exact h) w
set_option maxHeartbeats 800000 in
theorem right_walk {a d b : Nat} {q : Bool} (ksub : ∀ w, Calls Tryz.prog 62 #[nv a, nv P25] w fun e w' => e = .returned (.tuple #[nv d, .int .u64 (b : Int)]) ∧ Below w.heap.size w w')
  (hq : ((b : Int) == 1) = q) (w : World) :
  Calls Tryz.prog 67 #[nv a] w fun e w' => e = .returned (.bool q) ∧ Below w.heap.size w w' := by
 obtain ⟨P, hP⟩ : ∃ P, P = P25 := ⟨_, rfl⟩
 have kpr := prime_any
 rw [← hP] at ksub kpr
 clear hP
 have KS := Lib.hid ksub
 have HQ := Lib.hid hq
 clear ksub hq
 unfold nv
 go_enter Tryz.func67, Tryz.ntmps67
 go_upto_region 1 with fail
 obtain ⟨v2, e2⟩ : ∃ v, v = w.alloc (A4 a) := ⟨_, rfl⟩
 have os : O4 v2 w.heap.size w.heap.size a := by rw [e2]; exact O4.new (Nat.le_refl _) a
 have hc : Below w.heap.size w v2 := by rw [e2]; exact (Below.refl _ w).alloc (Nat.le_refl _) _
 rw [← e2]
 clear e2
 have HS := Lib.hid (keep4 os)
 have hs := hc.size
 go_cut [4] from 5 to 10 (fun c9 wx => c9 = .int .u64 (b : Int) ∧ Below v2.heap.size v2 wx)
 case first =>
  obtain ⟨s0, s1, s2, s3⟩ := HS.out v2 (Below.refl _ _)
  have hd : Below v2.heap.size v2 v2.drew := (Below.refl _ v2).drew
  go_region_held3 (fun wz => wz.cell? ⟨w.heap.size, 0, none⟩ = some (.int .u64 (wd a 0 : Int)) ∧ wz.cell? ⟨w.heap.size, 1, none⟩ = some (.int .u64 (wd a 1 : Int)) ∧ wz.cell? ⟨w.heap.size, 2, none⟩ = some (.int .u64 (wd a 2 : Int)) ∧ wz.cell? ⟨w.heap.size, 3, none⟩ = some (.int .u64 (wd a 3 : Int)))
   (first | exact HS.out _ hd | exact HS.out _ (hd.alloc hd.size _) | exact HS.out _ (by repeat (first | exact hd | (refine Below.setCell ?_ (by first | omega | (simp; done) | (simp; omega)) _) | (refine Below.alloc ?_ (by first | omega | (simp; done) | (simp; omega)) _) | refine Below.drew ?_)))
   (first | (go_at_call 100; (with_reducible refine (kpr _).mono ?_); rintro e wp ⟨rfl, h1⟩; (first | (replace ob := ob.keep h1) | (have ob := keepZd h1; have hg := Nat.le_refl v2.heap.size) | (have ob := keepZ h1; have hg := hd.size) | skip); (first | (replace hd := (hd.alloc hd.size Z4).trans (h1.mono (Nat.le_trans hd.size (by simp)))) | (replace hd := bnx hd h1)); clear h1) | (go_at_call 62; (with_reducible refine (KS.out _).mono ?_); rintro e wn ⟨rfl, h1⟩; (first | (replace ob := ob.keep h1) | (have ob := keepZd h1; have hg := Nat.le_refl v2.heap.size) | (have ob := keepZ h1; have hg := hd.size) | skip); (first | (replace hd := (hd.alloc hd.size Z4).trans (h1.mono (Nat.le_trans hd.size (by simp)))) | (replace hd := bnx hd h1)); clear h1; (try (obtain ⟨o0, o1, o2, o3⟩ := ob.c4; obtain ⟨q0, q1, q2, q3⟩ := ob.f4))))
  all_goals
   go_wp2_with fail
   go_meet
   first
    | exact ⟨rfl, hd.alloc hd.size _⟩
    | exact ⟨rfl, hd.trans ((ob.below d).mono hg)⟩
 case rest =>
  obtain ⟨rfl, hd⟩ := hcut
  have hq := HQ.out
  go_wp2_with fail
  go_ret
  exact ⟨rfl, hc.trans (hd.mono hs)⟩
theorem right_any {a : Nat} (ha : a < W4) (w : World) :
  Calls Tryz.prog 67 #[nv a] w fun e w' => e = .returned (.bool (decide (a < P25))) ∧ Below w.heap.size w w' := by
 refine right_walk (fun w => sub_any a P25 P25_W4 w) ?_ w
 rw [bw_one ha P25_W4]
 by_cases h : a < P25
 ·rw [if_pos h, decide_eq_true h]; rfl
 ·rw [if_neg h, decide_eq_false h]; rfl
end Go.Proofs.YtkbkalhcdbklkaaGreatDoor
namespace Go.Proofs.YtkbkalhcdbklkaaGreatDoor
open Go Go.RowKit
def fT (p i : Nat) : Nat := p % 18446744073709551616 ^ i + 38 * (p / 18446744073709551616 ^ 4 % 18446744073709551616 ^ i)
def fo (p i : Nat) : Nat := fT p i / 18446744073709551616 ^ i
theorem fo_zero (p : Nat) : fo p 0 = 0 := by simp [fo, fT, Nat.mod_one]
theorem wd_hi4 (p i : Nat) : dgt 18446744073709551616 (p / 18446744073709551616 ^ 4) i = wd p (4 + i) := by
 unfold wd dgt; rw [Nat.div_div_eq_div_mul, ← Nat.pow_add]
theorem fT_succ (p i : Nat) : fT p (i + 1) = fT p i + 18446744073709551616 ^ i * (wd p (4 + i) * 38 + wd p i) := by
 unfold fT
 rw [mod_pow_succ', mod_pow_succ', wd_hi4, show dgt 18446744073709551616 p i = wd p i from rfl]
 generalize 18446744073709551616 ^ i = b
 rw [Nat.mul_add 38, Nat.mul_add b, show 38 * (b * wd p (4 + i)) = b * (wd p (4 + i) * 38) by rw [Nat.mul_left_comm, Nat.mul_comm 38]]
 omega
theorem fo_succ (p i : Nat) : fo p (i + 1) = mah (wd p (4 + i)) 38 (wd p i) (fo p i) := by
 unfold fo mah
 rw [fT_succ, dgt_div, Nat.add_mul_div_left _ _ (Nat.pow_pos (by decide))]
 congr 1; omega
theorem fT_digit0 (p i : Nat) : wd (fT p (i + 1)) i = mal (wd p (4 + i)) 38 (wd p i) (fo p i) := by
 show fT p (i + 1) / _ % _ = _
 rw [fT_succ, Nat.add_mul_div_left _ _ (Nat.pow_pos (by decide))]
 unfold mal fo
 congr 1; omega
theorem fT_digit (p i : Nat) : ∀ m, wd (fT p (i + 1 + m)) i = mal (wd p (4 + i)) 38 (wd p i) (fo p i)
 | 0 => fT_digit0 p i
 | m + 1 => by
  rw [show i + 1 + (m + 1) = i + 1 + m + 1 by omega, fT_succ]
  exact (dgt_add_mul (b := 18446744073709551616) _ _ (by omega)).trans (fT_digit p i m)
theorem fT_at {p i : Nat} (h : i < 4) : wd (fT p 4) i = mal (wd p (4 + i)) 38 (wd p i) (fo p i) := by
 have := fT_digit p i (3 - i)
 rwa [show i + 1 + (3 - i) = 4 by omega] at this
theorem fo_le (p i : Nat) : fo p i ≤ 38 := by
 have hp : 0 < 18446744073709551616 ^ i := Nat.pow_pos (by decide)
 have h1 := Nat.mod_lt p hp
 have h2 := Nat.mod_lt (p / 18446744073709551616 ^ 4) hp
 have : fo p i < 39 := Nat.div_lt_of_lt_mul (by unfold fT; omega)
 omega
theorem fT_end {p : Nat} (h : p < W8) : (fT p 4 % W4 + W4 * fo p 4) % P25 = p % P25 := by
 have e : fT p 4 % W4 + W4 * fo p 4 = fT p 4 := Nat.mod_add_div _ _
 have h1 : p / W4 < W4 := Nat.div_lt_of_lt_mul (by rw [← W8_eq]; exact h)
 have h2 : fT p 4 = p % W4 + 38 * (p / W4) := by
  show p % W4 + 38 * (p / W4 % W4) = _
  rw [Nat.mod_eq_of_lt h1]
 have h3 : p = p % W4 + 38 * (p / W4) + P25 * (2 * (p / W4)) := by
  have h4 := Nat.mod_add_div p W4
  have h5 : W4 = P25 * 2 + 38 := by decide +kernel
  generalize p / W4 = q at *
  have h6 : W4 * q = P25 * (2 * q) + 38 * q := by rw [h5, Nat.add_mul, Nat.mul_assoc]
  omega
 rw [e, h2]
 conv => rhs; rw [h3, Nat.add_mul_mod_self_left]
theorem fold_lo (q p o : Nat) : adl (adl (mlo q 38) p) o = mal q 38 p o := by unfold adl mlo mal; omega
theorem fold_hi {q p o : Nat} (hq : q < 18446744073709551616) (hp : p < 18446744073709551616) (ho : o ≤ 38) : IntKind.u64.wrap ((mhi q 38 : Int) + (adc (mlo q 38) p : Int) + (adc (adl (mlo q 38) p) o : Int)) = (mah q 38 p o : Int) := by
 have e2 : mhi q 38 + adc (mlo q 38) p + adc (adl (mlo q 38) p) o = mah q 38 p o := by unfold adl adc mlo mhi mah; omega
 have e3 : mah q 38 p o < 18446744073709551616 := by unfold mah; omega
 rw [IntKind.wrap_u64]; omega
theorem fold_mid {q p : Nat} (hq : q < 18446744073709551616) (hp : p < 18446744073709551616) : IntKind.u64.wrap ((mhi q 38 : Int) + (adc (mlo q 38) p : Int)) = (mhi q 38 : Int) + (adc (mlo q 38) p : Int) := by
 have : mhi q 38 + adc (mlo q 38) p < 18446744073709551616 := by unfold adc mhi mlo; omega
 rw [IntKind.wrap_u64]; omega
attribute [local irreducible] wd by8
set_option maxRecDepth 20000
set_option maxHeartbeats 1600000 in
theorem fmul_walk {x y p r : Nat} (kmul : ∀ w, Calls Tryz.prog 55 #[nv x, nv y] w fun e w' => e = .returned (dv p) ∧ Below w.heap.size w w')
  (kset : ∀ w, Calls Tryz.prog 129 #[nv (fT p 4), .int .u64 (fo p 4 : Int)] w fun e w' => e = .returned (nv r) ∧ Below w.heap.size w w') (w : World) :
  Calls Tryz.prog 101 #[nv x, nv y] w fun e w' => e = .returned (nv r) ∧ Below w.heap.size w w' := by
 have KS := Lib.hid kset
 have KM := Lib.hid kmul
 clear kset kmul
 unfold nv
 go_enter Tryz.func101, Tryz.ntmps101
 go_wp2_with fail
 go_at_call 55
 refine (KM.out _).mono ?_
 rintro e v1 ⟨rfl, h0⟩
 obtain ⟨oz, hc⟩ := zres3 h0
 clear h0
 have hs1 : (v1.alloc (A8 p)).heap.size = v1.heap.size + 1 := by simp
 have hz1 := Nat.ne_of_gt oz.lt
 have hz2 : v1.heap.size + 1 ≠ w.heap.size + 2 := by have := oz.lt; omega
 have hge := hc.size
 have op := (own_A8 (w := v1) hc.size p).keep ((Below.refl _ (v1.alloc (A8 p))).alloc (Nat.le_refl _) Z4)
 have os := own_Z4 (w := v1.alloc (A8 p)) (B := w.heap.size) (by omega)
 rw [hs1] at os
 replace oz := (oz.alloc (A8 p)).alloc Z4
 replace hc := (hc.alloc hc.size (A8 p)).alloc (by omega) Z4
 have HS1 := Lib.hid hs1
 clear hs1
 go_wp2_with fail
 go_loopw [7, 15] (fun v i wr => ∃ k : Nat, k ≤ 4 ∧ i = .int .i64 k ∧ v = .int .u64 (fo p k : Int) ∧ OwnF wr w.heap.size 86 (some ⟨v1.heap.size, 0, none⟩) 8 8 (wv p) ∧
   OwnF wr w.heap.size 35 (some ⟨v1.heap.size + 1, 0, none⟩) 4 4 (fw (fT p 4) k) ∧ O4 wr w.heap.size (w.heap.size + 2) 0 ∧ Below w.heap.size w wr)
  (fun _ i _ => 4 - (intOf i).toNat)
 case atStart => exact ⟨0, by omega, rfl, by rw [fo_zero]; rfl, op, os.congr (fun j _ => by rw [fw_out (by omega)]), oz, hc⟩
 case round =>
  clear op os oz hc
  obtain ⟨k, hk, rfl, rfl, op, os, oz, hc⟩ := hrel
  by_cases hlt : k < 4
  ·have g1 : (k : Int) < 4 := by omega
   have g2 : IntKind.i64.wrap (4 + (k : Int)) = ((4 + k : Nat) : Int) := by rw [IntKind.wrap_i64]; omega
   have c1 : wr.cell? ⟨v1.heap.size, 4 + k, none⟩ = some (.int .u64 (wd p (4 + k) : Int)) := OwnF.cell op (by omega)
   have c2 : wr.cell? ⟨v1.heap.size, k, none⟩ = some (.int .u64 (wd p k : Int)) := OwnF.cell op (by omega)
   have c3 := OwnF.cell os hlt
   rw [fw_out (by omega)] at c3
   have f3 := OwnF.free os k
   have hdig := fT_at (p := p) hlt
   have hsuc := fo_succ p k
   have hq := wd_lt p (4 + k)
   have hp := wd_lt p k
   have ho := fo_le p k
   have e1 := fold_lo (wd p (4 + k)) (wd p k) (fo p k)
   have e2 := fold_hi hq hp ho
   have e3 := fold_mid hq hp
   rw [← hdig] at e1
   rw [← hsuc] at e2
   have KM64 := Lib.hid (mul64_hl (wd p (4 + k)) 38 hq (by decide))
   clear hdig hsuc hq hp ho
   go_wp2_with (first | (go_at_call 128; refine (KM64.out _).mono ?_; rintro e w' ⟨rfl, rfl⟩) | simp only [add64_lc])
   go_roundw
   case rel =>
    refine ⟨k + 1, by omega, by go_num, rfl, OwnF.other op (by simp) _, (OwnF.set_ os k _).congr fun j _ => fw_set _ _ _, O4.oth1 oz hz2 _ _, hc.trans ((Below.refl w.heap.size w').setCell (by simp; omega) _)⟩
   case measure => simp [intOf]; omega
  ·obtain rfl : k = 4 := by omega
   replace os : O4 wr w.heap.size (v1.heap.size + 1) (fT p 4) := os.congr fun j hj => by rw [fw_in hj]; rfl
   obtain ⟨s0, s1, s2, s3⟩ := os.c4
   go_wp2_with fail
   clear s0 s1 s2 s3
   go_at_call 129
   refine (KS.out _).mono ?_
   rintro e v3 ⟨rfl, h0⟩
   replace oz := oz.keep h0
   replace hc := bnx hc h0
   clear h0
   obtain ⟨z0, z1, z2, z3⟩ := oz.c4
   obtain ⟨f0, f1, f2, f3⟩ := oz.f4
   obtain ⟨wz, ez, or, hb, _⟩ := oz.out r
   obtain ⟨r0, r1, r2, r3⟩ := or.c4
   go_wp2_with fail
   rw [← ez]
   refine bodyPost_ret (v := nv r) (by simp [results, Tryz.results101, go_sem, r0, r1, r2, r3]) rfl ⟨rfl, hc.trans hb⟩
theorem fmul_any {x y : Nat} (hx : x < W4) (hy : y < W4) (w : World) :
  Calls Tryz.prog 101 #[nv x, nv y] w fun e w' => e = .returned (nv (x * y % P25)) ∧ Below w.heap.size w w' := by
 have hp : x * y < W8 := by rw [W8_eq]; exact Nat.mul_lt_mul_of_lt_of_le hx (Nat.le_of_lt hy) W4_pos
 refine fmul_walk (fun w => mul_any x y hx hy w) (fun w => ?_) w
 have h := settle_any (a := fT (x * y) 4 % W4) (k := fo (x * y) 4) (Nat.mod_lt _ W4_pos) (by have := fo_le (x * y) 4; omega) w
 rw [nv_mod (fT (x * y) 4), fT_end hp] at h
 exact h
end Go.Proofs.YtkbkalhcdbklkaaGreatDoor
namespace Go.Proofs.YtkbkalhcdbklkaaGreatDoor
open Go Go.RowKit
def Others (B g : Nat) (w w' : World) : Prop := (∀ B' h x, h ≠ g → O4 w B' h x → O4 w' B' h x) ∧ Below B w w' ∧ w.heap.size ≤ w'.heap.size
theorem Others.refl (B g : Nat) (w : World) : Others B g w w := ⟨fun _ _ _ _ h => h, Below.refl _ _, Nat.le_refl _⟩
theorem Others.next {B g : Nat} {w w' w'' : World} (h : Others B g w w') (hB : B ≤ w.heap.size) (hb : Below w'.heap.size w' w'') : Others B g w w'' :=
 ⟨fun B' k x hk o => (h.1 B' k x hk o).keep hb, h.2.1.trans (hb.mono (Nat.le_trans hB h.2.2)), Nat.le_trans h.2.2 hb.size⟩
theorem Others.put {B g x : Nat} {w w' : World} (h : Others B g w w') (o : O4 w' B g x) (y : Nat) : Others B g w (set4w w' g y) :=
 ⟨fun B' k x hk o' => (h.1 B' k x hk o').other (Ne.symm hk) y, h.2.1.trans (o.below y), by rw [set4w_size]; exact h.2.2⟩
theorem Others.drew {B g : Nat} {w w' : World} (h : Others B g w w') : Others B g w w'.drew := ⟨fun B' k x hk o => (h.1 B' k x hk o).drew, h.2.1.drew, h.2.2⟩
def stp (o a b : Nat) : Nat := if b = 0 then o * o % P25 else o * o % P25 * a % P25
attribute [local irreducible] wd by8
set_option maxRecDepth 20000
set_option maxHeartbeats 1600000 in
theorem step_walk {B go ga o a b q m r : Nat} (k1 : ∀ w, Calls Tryz.prog 101 #[nv o, nv o] w fun e w' => e = .returned (nv q) ∧ Below w.heap.size w w')
  (k2 : ∀ w, Calls Tryz.prog 101 #[nv q, nv a] w fun e w' => e = .returned (nv m) ∧ Below w.heap.size w w')
  (k3 : ∀ w, Calls Tryz.prog 132 #[.int .u64 (b : Int), nv q, nv m] w fun e w' => e = .returned (nv r) ∧ Below w.heap.size w w')
  (w : World) (ho : O4 w B go o) (ha : O4 w B ga a) (hne : go ≠ ga) :
  Calls Tryz.prog 145 #[.int .u64 (b : Int), .pointer (some ⟨go, 0, none⟩), .pointer (some ⟨ga, 0, none⟩)] w fun e w' => e = .returned (.tuple #[]) ∧ O4 w' B go r ∧ Others B go w w' := by
 have K1 := Lib.hid k1
 have K2 := Lib.hid k2
 have K3 := Lib.hid k3
 clear k1 k2 k3
 have hB : B ≤ w.heap.size := Nat.le_trans ho.ge (Nat.le_of_lt ho.lt)
 have HW := Others.refl B go w
 obtain ⟨c0, c1, c2, c3⟩ := ho.c4
 go_enter Tryz.func145, Tryz.ntmps145
 go_wp2_with fail
 clear c0 c1 c2 c3
 go_at_call 101
 refine (K1.out _).mono ?_
 rintro e v1 ⟨rfl, h0⟩
 replace HW := HW.next hB h0
 replace ho := ho.keep h0
 replace ha := ha.keep h0
 clear h0
 obtain ⟨c0, c1, c2, c3⟩ := ho.c4
 obtain ⟨f0, f1, f2, f3⟩ := ho.f4
 go_upto_region 1 with fail
 clear c0 c1 c2 c3 f0 f1 f2 f3
 replace HW := HW.put ho q
 replace ha := ha.other hne q
 replace ho := ho.put q
 obtain ⟨v2, e2⟩ : ∃ v, v = set4w v1 go q := ⟨_, rfl⟩
 have e2' := e2
 rw [← e2] at HW ha ho
 unfold set4w at e2
 rw [← e2]
 clear e2 e2'
 have HS := Lib.hid (keep44 ho ha)
 refine wp_region_seq 6 (fun wz => Below v2.heap.size v2 wz) (by kernel_rfl) (by kernel_rfl) (Below.refl _ v2).drew ?_
 simp only [List.take_succ_cons, List.take_zero, List.drop_succ_cons, List.drop_zero]
 refine Seq.run (.int .u64 (b : Int)) rfl (fun wz hz => by rfl) ?_
 refine Seq.run (nv q) rfl (fun wz hz => by
  obtain ⟨s0, s1, s2, s3, t0, t1, t2, t3⟩ := HS.out wz hz
  go_simp) ?_
 refine Seq.run (nv q) rfl (fun wz hz => by
  obtain ⟨s0, s1, s2, s3, t0, t1, t2, t3⟩ := HS.out wz hz
  go_simp) ?_
 refine Seq.run (nv a) rfl (fun wz hz => by
  obtain ⟨s0, s1, s2, s3, t0, t1, t2, t3⟩ := HS.out wz hz
  go_simp) ?_
 refine Seq.call (nv m) 101 #[nv q, nv a] rfl (fun wz hz => by go_simp) (fun wz hz => (K2.out wz).mono fun e w' ⟨he, h1⟩ => ⟨he, bnx hz h1⟩) ?_
 refine Seq.call (nv r) 132 #[.int .u64 (b : Int), nv q, nv m] rfl (fun wz hz => by go_simp) (fun wz hz => (K3.out wz).mono fun e w' ⟨he, h1⟩ => ⟨he, bnx hz h1⟩) ?_
 refine Seq.nil fun wz hd => ?_
 obtain ⟨q0, q1, q2, q3⟩ := (ho.keep hd).f4
 obtain ⟨s0, s1, s2, s3, t0, t1, t2, t3⟩ := HS.out wz hd
 go_wp2_with fail
 go_returns
 exact ⟨rfl, (ho.keep hd).put r, (HW.next hB hd).put (ho.keep hd) r⟩
theorem step_any {B go ga o a b : Nat} (hb : b < 18446744073709551616) (hoW : o < W4) (haW : a < W4) (w : World) (ho : O4 w B go o) (ha : O4 w B ga a) (hne : go ≠ ga) :
  Calls Tryz.prog 145 #[.int .u64 (b : Int), .pointer (some ⟨go, 0, none⟩), .pointer (some ⟨ga, 0, none⟩)] w fun e w' => e = .returned (.tuple #[]) ∧ O4 w' B go (stp o a b) ∧ Others B go w w' :=
 step_walk (fun w => fmul_any hoW hoW w) (fun w => fmul_any (red_W4 _) haW w) (fun w => pick_any b _ _ hb w) w ho ha hne
def acc (a e k : Nat) : Nat := a ^ (e / 2 ^ (256 - k)) % P25
theorem acc_zero {a e : Nat} (he : e < W4) : acc a e 0 = 1 := by
 have hW : W4 = 2 ^ (256 - 0) := by decide +kernel
 have h : e / 2 ^ (256 - 0) = 0 := Nat.div_eq_of_lt (by rw [← hW]; exact he)
 unfold acc
 rw [h, Nat.pow_zero]; decide +kernel
theorem acc_end (a e : Nat) : acc a e 256 = a ^ e % P25 := by
 unfold acc; rw [Nat.sub_self, Nat.pow_zero, Nat.div_one]
theorem acc_succ {a e k : Nat} (hk : k < 256) : stp (acc a e k) a (bt e (255 - k)) = acc a e (k + 1) := by
 have e1 : e / 2 ^ (256 - (k + 1)) = 2 * (e / 2 ^ (256 - k)) + bt e (255 - k) := by
  unfold bt
  rw [show 256 - k = (255 - k) + 1 by omega, show 256 - (k + 1) = 255 - k by omega, Nat.pow_succ, ← Nat.div_div_eq_div_mul]
  omega
 have hb : bt e (255 - k) < 2 := Nat.mod_lt _ (by decide)
 unfold acc stp
 rw [e1]
 generalize bt e (255 - k) = b at *
 generalize e / 2 ^ (256 - k) = q at *
 have h2 : a ^ q % P25 * (a ^ q % P25) % P25 = a ^ (2 * q) % P25 := by rw [← Nat.mul_mod, ← Nat.pow_add, Nat.two_mul]
 rw [h2]
 rcases (show b = 0 ∨ b = 1 by omega) with rfl | rfl
 ·rw [if_pos rfl, Nat.add_zero]
 ·rw [if_neg (by decide), Nat.pow_succ, Nat.mod_mul_mod]
theorem A4_one : (Obj.cells #[.int .u64 1, .int .u64 0, .int .u64 0, .int .u64 0] 35) = A4 1 := by kernel_rfl
attribute [local irreducible] bt acc stp
set_option maxHeartbeats 1600000 in
theorem fpower_any {a e : Nat} (ha : a < W4) (he : e < W4) (w : World) :
  Calls Tryz.prog 131 #[nv a, nv e] w fun r w' => r = .returned (nv (a ^ e % P25)) ∧ Below w.heap.size w w' := by
 have hmf : ∀ (fn : Fn) (first cap : Array Value) (w : World), (Instr.makeFunc fn first cap).run Tryz.prog w = .ok (.func fn first cap) w := fun _ _ _ _ => rfl
 have s1 : (w.alloc (A4 a)).heap.size = w.heap.size + 1 := by simp
 have s2 : ((w.alloc (A4 a)).alloc (A4 e)).heap.size = w.heap.size + 2 := by simp
 have s3 : (((w.alloc (A4 a)).alloc (A4 e)).alloc Z4).heap.size = w.heap.size + 3 := by simp
 have oa := (((O4.new (w := w) (Nat.le_refl _) a).alloc (A4 e)).alloc Z4).alloc (A4 1)
 have oe := ((O4.new (w := w.alloc (A4 a)) (B := w.heap.size) (by omega) e).alloc Z4).alloc (A4 1)
 have oz := (O4.zero (own_Z4 (w := (w.alloc (A4 a)).alloc (A4 e)) (B := w.heap.size) (by omega))).alloc (A4 1)
 have oo := O4.new (w := ((w.alloc (A4 a)).alloc (A4 e)).alloc Z4) (B := w.heap.size) (by omega) 1
 have hc := (((((Below.refl _ w).alloc (Nat.le_refl _) (A4 a)).alloc (by omega) (A4 e)).alloc (by omega) Z4).alloc (by omega) (A4 1))
 rw [s1] at oe
 rw [s2] at oz
 rw [s3] at oo
 rw [← A4_one] at oa oe oz oo hc
 have S1 := Lib.hid s1
 clear s1 s2 s3
 have HA := Lib.hid ha
 have HE := Lib.hid he
 clear ha he
 obtain ⟨r, hr⟩ : ∃ r, r = a ^ e % P25 := ⟨_, rfl⟩
 rw [← hr]
 have HR := Lib.hid hr
 clear hr
 unfold nv
 go_enter Tryz.func131, Tryz.ntmps131
 go_wp2_with fail
 go_loopw [10] (fun i wr => ∃ k : Nat, k ≤ 256 ∧ i = .int .i64 k ∧ O4 wr w.heap.size w.heap.size a ∧ O4 wr w.heap.size (w.heap.size + 1) e ∧ O4 wr w.heap.size (w.heap.size + 2) 0 ∧ O4 wr w.heap.size (w.heap.size + 3) (acc a e k) ∧ Below w.heap.size w wr)
  (fun i _ => 256 - (intOf i).toNat)
 case atStart => exact ⟨0, by omega, rfl, oa, oe, oz, by rw [acc_zero HE.out]; exact oo, hc⟩
 case round =>
  clear oa oe oz oo hc
  obtain ⟨k, hk, rfl, oa, oe, oz, oo, hc⟩ := hrel
  by_cases hlt : k < 256
  ·have g1 : (k : Int) < 256 := by omega
   have g2 : IntKind.i64.wrap (255 - (k : Int)) = ((255 - k : Nat) : Int) := by rw [IntKind.wrap_i64]; omega
   obtain ⟨e0, e1, e2, e3⟩ := oe.c4
   go_wp2_with fail
   clear e0 e1 e2 e3
   go_at_call 66
   refine (bit_in e (255 - k) (by omega) _).mono ?_
   rintro r v1 ⟨rfl, h0⟩
   replace oa := oa.keep h0
   replace oe := oe.keep h0
   replace oz := oz.keep h0
   replace oo := oo.keep h0
   replace hc := bnx hc h0
   clear h0
   go_wp2_with fail
   go_at_call 145
   refine (step_any (by have : bt e (255 - k) < 2 := by unfold bt; exact Nat.mod_lt _ (by decide)
                        omega) (by unfold acc; exact red_W4 _) HA.out _ oo oa (by omega)).mono ?_
   rintro r v2 ⟨rfl, o2, hO⟩
   rw [acc_succ hlt] at o2
   replace oa := hO.1 _ _ _ (by omega) oa
   replace oe := hO.1 _ _ _ (by omega) oe
   replace oz := hO.1 _ _ _ (by omega) oz
   replace hc := hc.trans hO.2.1
   clear hO oo
   go_wp2_with fail
   go_roundw
   case rel => exact ⟨k + 1, by omega, by go_num, oa, oe, oz, o2, hc⟩
   case measure => simp [intOf]; omega
  ·obtain rfl : k = 256 := by omega
   rw [acc_end, ← HR.out] at oo
   obtain ⟨q0, q1, q2, q3⟩ := oo.c4
   obtain ⟨z0, z1, z2, z3⟩ := oz.c4
   obtain ⟨f0, f1, f2, f3⟩ := oz.f4
   obtain ⟨wz, ez, or, hb, _⟩ := oz.out r
   obtain ⟨r0, r1, r2, r3⟩ := or.c4
   go_wp2_with fail
   rw [← ez]
   refine bodyPost_ret (v := nv r) (by simp [results, Tryz.results131, go_sem, r0, r1, r2, r3]) rfl ⟨rfl, hc.trans hb⟩
end Go.Proofs.YtkbkalhcdbklkaaGreatDoor
namespace Go.Proofs.YtkbkalhcdbklkaaGreatDoor
open Go Go.RowKit
theorem P25_2 : (P25 + W4 - 2) % W4 = P25 - 2 := by decide +kernel
attribute [local irreducible] wd by8
set_option maxRecDepth 20000
set_option maxHeartbeats 800000 in
theorem finvert_walk {a d b r P : Nat} (kpr : ∀ w, Calls Tryz.prog 100 #[] w fun e w' => e = .returned (nv P) ∧ Below w.heap.size w w')
  (ksub : ∀ w, Calls Tryz.prog 62 #[nv P, lit4 2 0 0 0] w fun e w' => e = .returned (.tuple #[nv d, .int .u64 (b : Int)]) ∧ Below w.heap.size w w')
  (kpow : ∀ w, Calls Tryz.prog 131 #[nv a, nv d] w fun e w' => e = .returned (nv r) ∧ Below w.heap.size w w') (w : World) :
  Calls Tryz.prog 106 #[nv a] w fun e w' => e = .returned (nv r) ∧ Below w.heap.size w w' := by
 have KP := Lib.hid kpr
 have KS := Lib.hid ksub
 have KW := Lib.hid kpow
 clear kpr ksub kpow
 unfold nv
 go_enter Tryz.func106, Tryz.ntmps106
 go_wp2_with fail
 go_at_call 100
 refine (KP.out _).mono ?_
 rintro e v1 ⟨rfl, h0⟩
 obtain ⟨oz, hc⟩ := zres2 h0
 have oa := box1 h0
 clear h0
 go_wp2_with fail
 go_at_call 62
 refine (KS.out _).mono ?_
 rintro e v2 ⟨rfl, h0⟩
 replace oz := oz.keep h0
 replace oa := oa.keep h0
 replace hc := bnx hc h0
 clear h0
 have od := O4.new (w := v2) hc.size d
 replace oz := oz.alloc (A4 d)
 replace oa := oa.alloc (A4 d)
 replace hc := hc.alloc hc.size (A4 d)
 obtain ⟨a0, a1, a2, a3⟩ := oa.c4
 obtain ⟨d0, d1, d2, d3⟩ := od.c4
 go_wp2_with fail
 clear a0 a1 a2 a3 d0 d1 d2 d3
 go_at_call 131
 refine (KW.out _).mono ?_
 rintro e v3 ⟨rfl, h0⟩
 replace oz := oz.keep h0
 replace hc := bnx hc h0
 clear h0
 obtain ⟨z0, z1, z2, z3⟩ := oz.c4
 obtain ⟨f0, f1, f2, f3⟩ := oz.f4
 obtain ⟨wz, ez, or, hb, _⟩ := oz.out r
 obtain ⟨r0, r1, r2, r3⟩ := or.c4
 go_wp2_with fail
 rw [← ez]
 refine bodyPost_ret (v := nv r) (by simp [results, Tryz.results106, go_sem, r0, r1, r2, r3]) rfl ⟨rfl, hc.trans hb⟩
theorem finvert_any {a : Nat} (ha : a < W4) (w : World) :
  Calls Tryz.prog 106 #[nv a] w fun e w' => e = .returned (nv (a ^ (P25 - 2) % P25)) ∧ Below w.heap.size w w' := by
 refine finvert_walk (d := P25 + W4 - 2) (b := bw P25 2 4) prime_any (fun w => ?_) (fun w => ?_) w
 ·have h := sub_any P25 2 (by decide +kernel) w
  rw [nv_small (x := 2) (by decide)] at h
  exact h
 ·have h := fpower_any ha (e := P25 - 2) (Nat.lt_of_le_of_lt (Nat.sub_le _ _) P25_W4) w
  rw [← P25_2, nv_mod (P25 + W4 - 2), P25_2] at h
  exact h
theorem squares_walk {x a p q : Nat} (hp : p < W4) (haW : a < W4) (kmul : ∀ w, Calls Tryz.prog 101 #[nv x, nv x] w fun e w' => e = .returned (nv p) ∧ Below w.heap.size w w') (hq : q = if p = a then 1 else 0) (w : World) :
  Calls Tryz.prog 133 #[nv x, nv a] w fun e w' => e = .returned (.int .u64 (q : Int)) ∧ Below w.heap.size w w' := by
 have heq := eq4 p a hp haW
 have KM := Lib.hid kmul
 clear kmul
 obtain ⟨v2, e2⟩ : ∃ v, v = (w.alloc (A4 x)).alloc (A4 a) := ⟨_, rfl⟩
 have ox : O4 v2 w.heap.size w.heap.size x := by rw [e2]; exact (O4.new (Nat.le_refl _) x).alloc _
 have oa : O4 v2 w.heap.size (w.heap.size + 1) a := by
  rw [e2]; have h := O4.new (w := w.alloc (A4 x)) (B := w.heap.size) (by simp) a; simpa using h
 have hc : Below w.heap.size w v2 := by rw [e2]; exact ((Below.refl _ w).alloc (Nat.le_refl _) _).alloc (by simp) _
 have HS := Lib.hid (keep44 ox oa)
 have hs := hc.size
 unfold nv at heq
 have HE := Lib.hid heq
 clear heq
 unfold nv
 rcases (show p = a ∨ p ≠ a by omega) with h | h
 ·rw [if_pos h] at hq
  have hd : decide (p = a) = true := decide_eq_true h
  have HD := Lib.hid hd
  clear h hd
  subst hq
  go_enter Tryz.func133, Tryz.ntmps133
  go_upto_region 1 with fail
  rw [← e2]
  clear e2
  refine wp_region_seq 4 (fun wz => Below v2.heap.size v2 wz) (by kernel_rfl) (by kernel_rfl) (Below.refl _ v2).drew ?_
  simp only [List.take_succ_cons, List.take_zero, List.drop_succ_cons, List.drop_zero]
  refine Seq.run (nv x) rfl (fun wz hz => by obtain ⟨s0, s1, s2, s3, t0, t1, t2, t3⟩ := HS.out wz hz; go_simp) ?_
  refine Seq.run (nv x) rfl (fun wz hz => by obtain ⟨s0, s1, s2, s3, t0, t1, t2, t3⟩ := HS.out wz hz; go_simp) ?_
  refine Seq.call (nv p) 101 #[nv x, nv x] rfl (fun wz hz => by go_simp) (fun wz hz => (KM.out wz).mono fun e w' ⟨he, h1⟩ => ⟨he, bnx hz h1⟩) ?_
  refine Seq.run (nv a) rfl (fun wz hz => by obtain ⟨s0, s1, s2, s3, t0, t1, t2, t3⟩ := HS.out wz hz; go_simp) ?_
  refine Seq.nil fun wz hd => ?_
  have heq := HE.out
  have hD := HD.out
  go_wp2_with fail
  go_ret
  exact ⟨rfl, hc.trans (hd.mono hs)⟩
 ·rw [if_neg h] at hq
  have hd : decide (p = a) = false := decide_eq_false h
  have HD := Lib.hid hd
  clear h hd
  subst hq
  go_enter Tryz.func133, Tryz.ntmps133
  go_upto_region 1 with fail
  rw [← e2]
  clear e2
  refine wp_region_seq 4 (fun wz => Below v2.heap.size v2 wz) (by kernel_rfl) (by kernel_rfl) (Below.refl _ v2).drew ?_
  simp only [List.take_succ_cons, List.take_zero, List.drop_succ_cons, List.drop_zero]
  refine Seq.run (nv x) rfl (fun wz hz => by obtain ⟨s0, s1, s2, s3, t0, t1, t2, t3⟩ := HS.out wz hz; go_simp) ?_
  refine Seq.run (nv x) rfl (fun wz hz => by obtain ⟨s0, s1, s2, s3, t0, t1, t2, t3⟩ := HS.out wz hz; go_simp) ?_
  refine Seq.call (nv p) 101 #[nv x, nv x] rfl (fun wz hz => by go_simp) (fun wz hz => (KM.out wz).mono fun e w' ⟨he, h1⟩ => ⟨he, bnx hz h1⟩) ?_
  refine Seq.run (nv a) rfl (fun wz hz => by obtain ⟨s0, s1, s2, s3, t0, t1, t2, t3⟩ := HS.out wz hz; go_simp) ?_
  refine Seq.nil fun wz hd => ?_
  have heq := HE.out
  have hD := HD.out
  go_wp2_with fail
  go_ret
  exact ⟨rfl, hc.trans (hd.mono hs)⟩
theorem squares_any {x a : Nat} (hx : x < W4) (ha : a < W4) (w : World) :
  Calls Tryz.prog 133 #[nv x, nv a] w fun e w' => e = .returned (.int .u64 ((if x * x % P25 = a then 1 else 0 : Nat) : Int)) ∧ Below w.heap.size w w' :=
 squares_walk (red_W4 _) ha (fun w => fmul_any hx hx w) rfl w
end Go.Proofs.YtkbkalhcdbklkaaGreatDoor
namespace Go.Proofs.YtkbkalhcdbklkaaGreatDoor
open Go Go.RowKit
def IM : Nat := 19681161376707505956807079304988542015446066515923890162744021073123829784752
def Glb (w : World) : Prop := w.cell? ⟨3, 0, none⟩ = some (.int .u64 (wd IM 0 : Int)) ∧ w.cell? ⟨3, 1, none⟩ = some (.int .u64 (wd IM 1 : Int)) ∧ w.cell? ⟨3, 2, none⟩ = some (.int .u64 (wd IM 2 : Int)) ∧ w.cell? ⟨3, 3, none⟩ = some (.int .u64 (wd IM 3 : Int))
theorem Glb.keep {w w' : World} (h : Glb w) {B : Nat} (hb : Below B w w') (hB : 3 < B) : Glb w' := by
 obtain ⟨h0, h1, h2, h3⟩ := h
 exact ⟨(hb.cell (p := ⟨3, 0, none⟩) hB).trans h0, (hb.cell (p := ⟨3, 1, none⟩) hB).trans h1, (hb.cell (p := ⟨3, 2, none⟩) hB).trans h2, (hb.cell (p := ⟨3, 3, none⟩) hB).trans h3⟩
theorem Glb.pos {w : World} (h : Glb w) : 3 < w.heap.size := World.block_lt_of_cell? w ⟨3, 0, none⟩ h.1
theorem Glb.next {w w' : World} (h : Glb w) (hb : Below w.heap.size w w') : Glb w' := h.keep hb h.pos
theorem IM_W4 : IM < W4 := by decide +kernel
def RE : Nat := 7237005577332262213973186563042994240829374041602535252466099000494570602494
theorem l_re : nv RE = lit4 18446744073709551614 18446744073709551615 18446744073709551615 1152921504606846975 := by kernel_rfl
theorem RE_W4 : RE < W4 := by decide +kernel
def rt0 (a : Nat) : Nat := a ^ RE % P25
def rt1 (a : Nat) : Nat := if rt0 a * rt0 a % P25 = a then rt0 a else rt0 a * IM % P25
def rt2 (a : Nat) : Nat := if bt (rt1 a) 0 = 0 then rt1 a else fsub 0 (rt1 a)
def rtq (a : Nat) : Nat := if rt2 a * rt2 a % P25 = a then 1 else 0
def rtr (a : Nat) : Nat := if rt2 a * rt2 a % P25 = a then rt2 a else 0
theorem keepG {w : World} {B g x g' x' : Nat} (h : O4 w B g x) (h' : O4 w B g' x') (hG : Glb w) : ∀ wz, Below w.heap.size w wz → wz.cell? ⟨g, 0, none⟩ = some (.int .u64 (wd x 0 : Int)) ∧ wz.cell? ⟨g, 1, none⟩ = some (.int .u64 (wd x 1 : Int)) ∧ wz.cell? ⟨g, 2, none⟩ = some (.int .u64 (wd x 2 : Int)) ∧ wz.cell? ⟨g, 3, none⟩ = some (.int .u64 (wd x 3 : Int)) ∧ wz.cell? ⟨g', 0, none⟩ = some (.int .u64 (wd x' 0 : Int)) ∧ wz.cell? ⟨g', 1, none⟩ = some (.int .u64 (wd x' 1 : Int)) ∧ wz.cell? ⟨g', 2, none⟩ = some (.int .u64 (wd x' 2 : Int)) ∧ wz.cell? ⟨g', 3, none⟩ = some (.int .u64 (wd x' 3 : Int)) ∧ wz.cell? ⟨3, 0, none⟩ = some (.int .u64 (wd IM 0 : Int)) ∧ wz.cell? ⟨3, 1, none⟩ = some (.int .u64 (wd IM 1 : Int)) ∧ wz.cell? ⟨3, 2, none⟩ = some (.int .u64 (wd IM 2 : Int)) ∧ wz.cell? ⟨3, 3, none⟩ = some (.int .u64 (wd IM 3 : Int)) := fun wz hz => by
 obtain ⟨a0, a1, a2, a3⟩ := (h.keep hz).c4
 obtain ⟨b0, b1, b2, b3⟩ := (h'.keep hz).c4
 obtain ⟨c0, c1, c2, c3⟩ := hG.next hz
 exact ⟨a0, a1, a2, a3, b0, b1, b2, b3, c0, c1, c2, c3⟩
attribute [local irreducible] wd by8
set_option maxRecDepth 20000
set_option maxHeartbeats 1600000 in
theorem froot_walk {a a1 x0 q1 y x1 b n x2 q2 r I : Nat} {t : Bool} (hI : I = IM) (k1 : ∀ w, Calls Tryz.prog 130 #[nv a] w fun e w' => e = .returned (nv a1) ∧ Below w.heap.size w w')
  (k2 : ∀ w, Calls Tryz.prog 131 #[nv a1, lit4 18446744073709551614 18446744073709551615 18446744073709551615 1152921504606846975] w fun e w' => e = .returned (nv x0) ∧ Below w.heap.size w w')
  (k3 : ∀ w, Calls Tryz.prog 133 #[nv x0, nv a1] w fun e w' => e = .returned (.int .u64 (q1 : Int)) ∧ Below w.heap.size w w')
  (k4 : ∀ w, Calls Tryz.prog 101 #[nv x0, nv I] w fun e w' => e = .returned (nv y) ∧ Below w.heap.size w w')
  (k5 : ∀ w, Calls Tryz.prog 132 #[.int .u64 (q1 : Int), nv y, nv x0] w fun e w' => e = .returned (nv x1) ∧ Below w.heap.size w w')
  (k6 : ∀ w, Calls Tryz.prog 66 #[nv x1, .int .i64 0] w fun e w' => e = .returned (.int .u64 (b : Int)) ∧ Below w.heap.size w w')
  (k7 : ∀ w, Calls Tryz.prog 69 #[nv x1] w fun e w' => e = .returned (nv n) ∧ Below w.heap.size w w')
  (k8 : ∀ w, Calls Tryz.prog 132 #[.int .u64 (b : Int), nv x1, nv n] w fun e w' => e = .returned (nv x2) ∧ Below w.heap.size w w')
  (k9 : ∀ w, Calls Tryz.prog 133 #[nv x2, nv a1] w fun e w' => e = .returned (.int .u64 (q2 : Int)) ∧ Below w.heap.size w w')
  (k10 : ∀ w, Calls Tryz.prog 132 #[.int .u64 (q2 : Int), lit4 0 0 0 0, nv x2] w fun e w' => e = .returned (nv r) ∧ Below w.heap.size w w')
  (hq : ((q2 : Int) == 1) = t) (w : World) (hG : Glb w) :
  Calls Tryz.prog 105 #[nv a] w fun e w' => e = .returned (.tuple #[nv r, .bool t]) ∧ Below w.heap.size w w' := by
 have K1 := Lib.hid k1
 have K2 := Lib.hid k2
 have K3 := Lib.hid k3
 have K4 := Lib.hid k4
 have K5 := Lib.hid k5
 have K6 := Lib.hid k6
 have K7 := Lib.hid k7
 have K8 := Lib.hid k8
 have K9 := Lib.hid k9
 have K10 := Lib.hid k10
 have HQ := Lib.hid hq
 have HI := Lib.hid hI
 have HG := Lib.hid hG
 clear k1 k2 k3 k4 k5 k6 k7 k8 k9 k10 hq hI hG
 unfold nv
 go_enter Tryz.func105, Tryz.ntmps105
 go_wp2_with fail
 go_at_call 130
 refine (K1.out _).mono ?_
 rintro e v1 ⟨rfl, h0⟩
 obtain ⟨oz, hc⟩ := zres2 h0
 have oa := box1 h0
 clear h0
 obtain ⟨a0_, a1_, a2_, a3_⟩ := oa.c4
 obtain ⟨f0, f1, f2, f3⟩ := oa.f4
 go_wp2_with fail
 clear a0_ a1_ a2_ a3_ f0 f1 f2 f3
 have hb := oa.below a1
 replace oz := oz.other (g' := w.heap.size) (by omega) a1
 replace oa := oa.put a1
 replace hc := hc.trans hb
 clear hb
 go_at_call 131
 refine (K2.out _).mono ?_
 rintro e v2 ⟨rfl, h0⟩
 replace oz := oz.keep h0
 replace oa := oa.keep h0
 replace hc := bnx hc h0
 clear h0
 go_upto_region 3 with fail
 have ox := O4.new (w := v2) hc.size x0
 have hne1 : v2.heap.size ≠ w.heap.size := Nat.ne_of_gt oa.lt
 have hne2 : v2.heap.size ≠ w.heap.size + 1 := Nat.ne_of_gt oz.lt
 replace oz := oz.alloc (A4 x0)
 replace oa := oa.alloc (A4 x0)
 replace hc := hc.alloc hc.size (A4 x0)
 obtain ⟨v3, e3⟩ : ∃ v, v = v2.alloc (A4 x0) := ⟨_, rfl⟩
 rw [← e3] at ox oa oz hc ⊢
 clear e3
 have hG3 := HG.out.keep hc HG.out.pos
 have HS := Lib.hid (keepG ox oa hG3)
 clear hG3
 rw [← HI.out] at HS
 refine wp_region_seq 8 (fun wz => Below v3.heap.size v3 wz) (by kernel_rfl) (by kernel_rfl) (Below.refl _ v3).drew ?_
 simp only [List.take_succ_cons, List.take_zero, List.drop_succ_cons, List.drop_zero]
 refine Seq.run (nv x0) rfl (fun wz hz => by obtain ⟨s0, s1, s2, s3, t0, t1, t2, t3, u0_, u1_, u2_, u3_⟩ := HS.out wz hz; go_simp) ?_
 refine Seq.run (nv a1) rfl (fun wz hz => by obtain ⟨s0, s1, s2, s3, t0, t1, t2, t3, u0_, u1_, u2_, u3_⟩ := HS.out wz hz; go_simp) ?_
 refine Seq.call (.int .u64 (q1 : Int)) 133 #[nv x0, nv a1] rfl (fun wz hz => by go_simp) (fun wz hz => (K3.out wz).mono fun e w' ⟨he, h1⟩ => ⟨he, bnx hz h1⟩) ?_
 refine Seq.run (nv x0) rfl (fun wz hz => by obtain ⟨s0, s1, s2, s3, t0, t1, t2, t3, u0_, u1_, u2_, u3_⟩ := HS.out wz hz; go_simp) ?_
 refine Seq.run (nv I) rfl (fun wz hz => by obtain ⟨s0, s1, s2, s3, t0, t1, t2, t3, u0_, u1_, u2_, u3_⟩ := HS.out wz hz; go_simp) ?_
 refine Seq.call (nv y) 101 #[nv x0, nv I] rfl (fun wz hz => by go_simp) (fun wz hz => (K4.out wz).mono fun e w' ⟨he, h1⟩ => ⟨he, bnx hz h1⟩) ?_
 refine Seq.run (nv x0) rfl (fun wz hz => by obtain ⟨s0, s1, s2, s3, t0, t1, t2, t3, u0_, u1_, u2_, u3_⟩ := HS.out wz hz; go_simp) ?_
 refine Seq.call (nv x1) 132 #[.int .u64 (q1 : Int), nv y, nv x0] rfl (fun wz hz => by go_simp) (fun wz hz => (K5.out wz).mono fun e w' ⟨he, h1⟩ => ⟨he, bnx hz h1⟩) ?_
 refine Seq.nil fun v4 hd => ?_
 replace ox := ox.keep hd
 replace oa := oa.keep hd
 replace oz := oz.keep hd
 replace hc := bnx hc hd
 clear hd HS
 obtain ⟨s0, s1, s2, s3⟩ := ox.c4
 obtain ⟨f0, f1, f2, f3⟩ := ox.f4
 go_upto_region 4 with fail
 clear s0 s1 s2 s3 f0 f1 f2 f3
 have hb := ox.below x1
 replace oz := oz.other hne2 x1
 replace oa := oa.other hne1 x1
 replace ox := ox.put x1
 replace hc := hc.trans hb
 clear hb
 obtain ⟨v5, e5⟩ : ∃ v, v = set4w v4 v2.heap.size x1 := ⟨_, rfl⟩
 have e5' := e5
 rw [← e5] at ox oa oz hc
 unfold set4w at e5
 rw [← e5]
 clear e5 e5'
 have HS := Lib.hid (keep4 ox)
 refine wp_region_seq 6 (fun wz => Below v5.heap.size v5 wz) (by kernel_rfl) (by kernel_rfl) (Below.refl _ v5).drew ?_
 simp only [List.take_succ_cons, List.take_zero, List.drop_succ_cons, List.drop_zero]
 refine Seq.run (nv x1) rfl (fun wz hz => by obtain ⟨s0, s1, s2, s3⟩ := HS.out wz hz; go_simp) ?_
 refine Seq.call (.int .u64 (b : Int)) 66 #[nv x1, .int .i64 0] rfl (fun wz hz => by go_simp) (fun wz hz => (K6.out wz).mono fun e w' ⟨he, h1⟩ => ⟨he, bnx hz h1⟩) ?_
 refine Seq.run (nv x1) rfl (fun wz hz => by obtain ⟨s0, s1, s2, s3⟩ := HS.out wz hz; go_simp) ?_
 refine Seq.run (nv x1) rfl (fun wz hz => by obtain ⟨s0, s1, s2, s3⟩ := HS.out wz hz; go_simp) ?_
 refine Seq.call (nv n) 69 #[nv x1] rfl (fun wz hz => by go_simp) (fun wz hz => (K7.out wz).mono fun e w' ⟨he, h1⟩ => ⟨he, bnx hz h1⟩) ?_
 refine Seq.call (nv x2) 132 #[.int .u64 (b : Int), nv x1, nv n] rfl (fun wz hz => by go_simp) (fun wz hz => (K8.out wz).mono fun e w' ⟨he, h1⟩ => ⟨he, bnx hz h1⟩) ?_
 refine Seq.nil fun v6 hd => ?_
 replace ox := ox.keep hd
 replace oa := oa.keep hd
 replace oz := oz.keep hd
 replace hc := bnx hc hd
 clear hd HS
 obtain ⟨s0, s1, s2, s3⟩ := ox.c4
 obtain ⟨f0, f1, f2, f3⟩ := ox.f4
 obtain ⟨t0, t1, t2, t3⟩ := (oa.other hne1 x2).c4
 unfold set4w at t0 t1 t2 t3
 go_wp2_with fail
 clear s0 s1 s2 s3 f0 f1 f2 f3 t0 t1 t2 t3
 have hb := ox.below x2
 replace oz := oz.other hne2 x2
 replace oa := oa.other hne1 x2
 replace ox := ox.put x2
 replace hc := hc.trans hb
 clear hb
 go_at_call 133
 refine (K9.out _).mono ?_
 rintro e v7 ⟨rfl, h0⟩
 replace oz := oz.keep h0
 replace oa := oa.keep h0
 replace ox := ox.keep h0
 replace hc := bnx hc h0
 clear h0
 obtain ⟨s0, s1, s2, s3⟩ := ox.c4
 go_wp2_with fail
 clear s0 s1 s2 s3
 go_at_call 132
 refine (K10.out _).mono ?_
 rintro e v8 ⟨rfl, h0⟩
 replace oz := oz.keep h0
 replace hc := bnx hc h0
 clear h0
 have hq := HQ.out
 obtain ⟨z0, z1, z2, z3⟩ := oz.c4
 obtain ⟨f0, f1, f2, f3⟩ := oz.f4
 obtain ⟨wz, ez, or, hb, _⟩ := oz.out r
 obtain ⟨r0, r1, r2, r3⟩ := or.c4
 go_wp2_with fail
 rw [← ez]
 refine bodyPost_ret (v := .tuple #[nv r, .bool t]) (by simp [results, Tryz.results105, go_sem, r0, r1, r2, r3]) rfl ⟨rfl, hc.trans hb⟩
theorem bt_lt (x i : Nat) : bt x i < 2 := Nat.mod_lt _ (by decide)
theorem rt1_W4 (a : Nat) : rt1 a < W4 := by unfold rt1 rt0; split <;> exact red_W4 _
theorem rt2_W4 (a : Nat) : rt2 a < W4 := by unfold rt2 fsub; split; exact rt1_W4 a; exact red_W4 _
theorem froot_any {a : Nat} (ha : a < W4) (w : World) (hG : Glb w) :
  Calls Tryz.prog 105 #[nv a] w fun e w' => e = .returned (.tuple #[nv (rtr (a % P25)), .bool (decide (rtq (a % P25) = 1))]) ∧ Below w.heap.size w w' := by
 have h1 := red_W4 a
 refine froot_walk (a1 := a % P25) (x0 := rt0 (a % P25)) (q1 := if rt0 (a % P25) * rt0 (a % P25) % P25 = a % P25 then 1 else 0) (y := rt0 (a % P25) * IM % P25) (x1 := rt1 (a % P25)) (b := bt (rt1 (a % P25)) 0) (n := fsub 0 (rt1 (a % P25)))
  (x2 := rt2 (a % P25)) (q2 := rtq (a % P25)) (I := IM) rfl (fun w => reduce_any ha w) (fun w => ?_) (fun w => squares_any (red_W4 _) h1 w) (fun w => fmul_any (red_W4 _) IM_W4 w) (fun w => ?_) (fun w => bit_in _ 0 (by decide) w) (fun w => fneg_any (rt1_W4 _) w) (fun w => ?_) (fun w => squares_any (rt2_W4 _) h1 w) (fun w => ?_) ?_ w hG
 ·have h := fpower_any h1 RE_W4 w
  rw [l_re] at h
  exact h
 ·have h := pick_any (if rt0 (a % P25) * rt0 (a % P25) % P25 = a % P25 then 1 else 0) (rt0 (a % P25) * IM % P25) (rt0 (a % P25)) (by split <;> decide) w
  have e : (if (if rt0 (a % P25) * rt0 (a % P25) % P25 = a % P25 then 1 else 0) = 0 then rt0 (a % P25) * IM % P25 else rt0 (a % P25)) = rt1 (a % P25) := by
   unfold rt1; split <;> simp_all
  rw [e] at h
  exact h
 ·exact pick_any _ _ _ (by have := bt_lt (rt1 (a % P25)) 0; omega) w
 ·have h := pick_any (rtq (a % P25)) 0 (rt2 (a % P25)) (by unfold rtq; split <;> decide) w
  have e : (if rtq (a % P25) = 0 then 0 else rt2 (a % P25)) = rtr (a % P25) := by
   unfold rtq rtr; split <;> simp_all
  rw [e, nv_small (x := 0) (by decide)] at h
  exact h
 ·unfold rtq; split <;> rfl
end Go.Proofs.YtkbkalhcdbklkaaGreatDoor
namespace Go.Proofs.YtkbkalhcdbklkaaGreatDoor
open Go Go.RowKit
attribute [local irreducible] wd by8
set_option maxRecDepth 20000
end Go.Proofs.YtkbkalhcdbklkaaGreatDoor
