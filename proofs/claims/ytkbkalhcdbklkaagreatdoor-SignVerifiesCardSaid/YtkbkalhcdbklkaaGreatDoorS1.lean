
import Derived.Test.YtkbkalhcdbklkaaGreatDoorJ11
import Derived.Test.YtkbkalhcdbklkaaGreatDoorJ01
namespace Go.Proofs.YtkbkalhcdbklkaaGreatDoor
open Go Go.RowKit
attribute [local irreducible] wd by8
set_option maxRecDepth 20000
set_option maxHeartbeats 800000 in
theorem tsettle_walk {a d : Nat} (kmod : ∀ w, Calls Tryz.prog 96 #[dv a, nv LL] w fun e w' => e = .returned (.tuple #[nv d, .int .i64 0]) ∧ Below w.heap.size w w') (w : World) :
  Calls Tryz.prog 54 #[dv a] w fun e w' => e = .returned (nv d) ∧ Below w.heap.size w w' := by
 obtain ⟨P, hP⟩ : ∃ P, P = LL := ⟨_, rfl⟩
 have kpr := order_any
 rw [← hP] at kmod kpr
 clear hP
 have KS := Lib.hid kmod
 clear kmod
 unfold nv
 go_enter Tryz.func54, Tryz.ntmps54
 go_upto_region 1 with fail
 have oa := OwnF.keep (own_A8 (w := w) (B := w.heap.size) (Nat.le_refl _) a) ((Below.refl _ (w.alloc (A8 a))).alloc (Nat.le_refl _) (ZE 44))
 obtain ⟨oz, hc⟩ := tres2 (X := A8 a) (Below.refl _ ((w.alloc (A8 a)).alloc (ZE 44)))
 obtain ⟨v2, e2⟩ : ∃ v, v = (w.alloc (A8 a)).alloc (ZE 44) := ⟨_, rfl⟩
 rw [← e2] at oa oz hc ⊢
 clear e2
 have HS := Lib.hid (keep8 oa)
 have hs := hc.size
 clear oa
 go_cut [3, 4] from 5 to 10 (fun p8 c9 wx => ∃ g, p8 = .pointer (some ⟨g, 0, none⟩) ∧ c9 = .int .i64 0 ∧ T4 wx w.heap.size g d ∧ Below v2.heap.size v2 wx)
 case first =>
  obtain ⟨s0, s1, s2, s3, s4, s5, s6, s7⟩ := HS.out v2 (Below.refl _ _)
  have hd : Below v2.heap.size v2 v2.drew := (Below.refl _ v2).drew
  go_region_held3 (fun wz => wz.cell? ⟨w.heap.size, 0, none⟩ = some (.int .u64 (wd a 0 : Int)) ∧ wz.cell? ⟨w.heap.size, 1, none⟩ = some (.int .u64 (wd a 1 : Int)) ∧ wz.cell? ⟨w.heap.size, 2, none⟩ = some (.int .u64 (wd a 2 : Int)) ∧ wz.cell? ⟨w.heap.size, 3, none⟩ = some (.int .u64 (wd a 3 : Int)) ∧ wz.cell? ⟨w.heap.size, 4, none⟩ = some (.int .u64 (wd a 4 : Int)) ∧ wz.cell? ⟨w.heap.size, 5, none⟩ = some (.int .u64 (wd a 5 : Int)) ∧ wz.cell? ⟨w.heap.size, 6, none⟩ = some (.int .u64 (wd a 6 : Int)) ∧ wz.cell? ⟨w.heap.size, 7, none⟩ = some (.int .u64 (wd a 7 : Int)))
   (first | exact HS.out _ hd | exact HS.out _ (hd.alloc hd.size _) | exact HS.out _ (by repeat (first | exact hd | (refine Below.setCell ?_ (by first | omega | (simp; done) | (simp; omega)) _) | (refine Below.alloc ?_ (by first | omega | (simp; done) | (simp; omega)) _) | refine Below.drew ?_)))
   (first | (go_at_call 63; (with_reducible refine (kpr _).mono ?_); rintro e wp ⟨rfl, h1⟩; (first | (replace ob := ob.keep h1) | (have ob := tkeepZd h1; have hg := Nat.le_refl v2.heap.size) | (have ob := tkeepZ h1; have hg := hd.size) | skip); (first | (replace hd := (hd.alloc hd.size (ZE 35)).trans (h1.mono (Nat.le_trans hd.size (by simp)))) | (replace hd := bnx hd h1)); clear h1) | (go_at_call 96; (with_reducible refine (KS.out _).mono ?_); rintro e wn ⟨rfl, h1⟩; (first | (replace ob := ob.keep h1) | (have ob := tkeepZd h1; have hg := Nat.le_refl v2.heap.size) | (have ob := tkeepZ h1; have hg := hd.size) | skip); (first | (replace hd := (hd.alloc hd.size (ZE 35)).trans (h1.mono (Nat.le_trans hd.size (by simp)))) | (replace hd := bnx hd h1)); clear h1; (try (obtain ⟨o0, o1, o2, o3⟩ := ob.c4; obtain ⟨q0, q1, q2, q3⟩ := ob.f4))))
  all_goals
   go_wp2_with fail
   go_meet
   first
    | exact ⟨_, rfl, rfl, T4.new (Nat.le_trans hs hd.size) 35 d, hd.alloc hd.size _⟩
    | exact ⟨_, rfl, rfl, (ob.put d).mono (Nat.le_trans hs hg), hd.trans ((ob.below d).mono hg)⟩
 case rest =>
  obtain ⟨g, rfl, rfl, od, hd⟩ := hcut
  replace oz := oz.keep hd
  replace hc := hc.trans (hd.mono hs)
  clear hd hs HS
  obtain ⟨d0, d1, d2, d3⟩ := od.c4
  obtain ⟨z0, z1, z2, z3⟩ := oz.c4
  obtain ⟨f0, f1, f2, f3⟩ := oz.f4
  obtain ⟨wz, ez, or, hb, _⟩ := oz.out d
  obtain ⟨r0, r1, r2, r3⟩ := or.c4
  go_wp2_with fail
  rw [← ez]
  refine bodyPost_ret (v := nv d) (by simp [results, Tryz.results54, go_sem, r0, r1, r2, r3]) rfl ⟨rfl, hc.trans hb⟩
theorem tsettle_any {a : Nat} (ha : a < W8) (w : World) :
  Calls Tryz.prog 54 #[dv a] w fun e w' => e = .returned (nv (a % LL)) ∧ Below w.heap.size w w' :=
 tsettle_walk (fun w => mod_any ha LL_W4 LL_pos w) w
theorem treduce_walk {a r : Nat} (kset : ∀ w, Calls Tryz.prog 54 #[dv5 a 0] w fun e w' => e = .returned (nv r) ∧ Below w.heap.size w w') (w : World) :
  Calls Tryz.prog 22 #[nv a] w fun e w' => e = .returned (nv r) ∧ Below w.heap.size w w' := by
 have KS := Lib.hid kset
 clear kset
 unfold nv
 go_enter Tryz.func22, Tryz.ntmps22
 go_wp2_with fail
 go_at_call 54
 refine (KS.out _).mono ?_
 rintro e v1 ⟨rfl, h0⟩
 obtain ⟨oz, hc⟩ := tres2 h0
 clear h0
 obtain ⟨z0, z1, z2, z3⟩ := oz.c4
 obtain ⟨f0, f1, f2, f3⟩ := oz.f4
 obtain ⟨wz, ez, or, hb, _⟩ := oz.out r
 obtain ⟨r0, r1, r2, r3⟩ := or.c4
 go_wp2_with fail
 rw [← ez]
 refine bodyPost_ret (v := nv r) (by simp [results, Tryz.results22, go_sem, r0, r1, r2, r3]) rfl ⟨rfl, hc.trans hb⟩
theorem five_lt {s c : Nat} (hc : c ≤ 1) : s % W4 + W4 * c < W8 := by
 have h1 := Nat.mod_lt s W4_pos
 have h2 : W4 * c ≤ W4 := by have := Nat.mul_le_mul_left W4 hc; omega
 have h3 : W4 + W4 < W8 := by decide +kernel
 omega
theorem treduce_any {a : Nat} (ha : a < W4) (w : World) :
  Calls Tryz.prog 22 #[nv a] w fun e w' => e = .returned (nv (a % LL)) ∧ Below w.heap.size w w' :=
 treduce_walk (fun w => by
  have h := tsettle_any (five_lt (s := a) (c := 0) (by decide)) w
  have e : dv5 a ((0 : Nat) : Int) = _ := dv_five a (c := 0) (by decide)
  rw [← e, Nat.mul_zero, Nat.add_zero, Nat.mod_eq_of_lt ha] at h
  exact h) w
theorem tnum_walk {a r : Nat} (kr : ∀ w, Calls Tryz.prog 22 #[nv a] w fun e w' => e = .returned (nv r) ∧ Below w.heap.size w w') (w : World) :
  Calls Tryz.prog 19 #[nv a] w fun e w' => e = .returned (nv r) ∧ Below w.heap.size w w' := by
 have KS := Lib.hid kr
 clear kr
 unfold nv
 go_enter Tryz.func19, Tryz.ntmps19
 go_wp2_with fail
 go_at_call 22
 refine (KS.out _).mono ?_
 rintro e v1 ⟨rfl, h0⟩
 obtain ⟨oz, hc⟩ := tres2 h0
 clear h0
 obtain ⟨z0, z1, z2, z3⟩ := oz.c4
 obtain ⟨f0, f1, f2, f3⟩ := oz.f4
 obtain ⟨wz, ez, or, hb, _⟩ := oz.out r
 obtain ⟨r0, r1, r2, r3⟩ := or.c4
 go_wp2_with fail
 rw [← ez]
 refine bodyPost_ret (v := nv r) (by simp [results, Tryz.results19, go_sem, r0, r1, r2, r3]) rfl ⟨rfl, hc.trans hb⟩
theorem tnum_any {a : Nat} (ha : a < W4) (w : World) :
  Calls Tryz.prog 19 #[nv a] w fun e w' => e = .returned (nv (a % LL)) ∧ Below w.heap.size w w' := tnum_walk (fun w => treduce_any ha w) w
end Go.Proofs.YtkbkalhcdbklkaaGreatDoor
