
import Derived.Test.YtkbkalhcdbklkaaGreatDoorJ11
import Derived.Test.YtkbkalhcdbklkaaGreatDoorJ01
import Derived.Test.YtkbkalhcdbklkaaGreatDoorJ02
namespace Go.Proofs.YtkbkalhcdbklkaaGreatDoor
open Go Go.RowKit
section
variable {w : World} {B g x : Nat}
theorem T4.zc (h : T4 w B g 0) : w.cell? ⟨g, 0, none⟩ = some (.int .u64 0) ∧ w.cell? ⟨g, 1, none⟩ = some (.int .u64 0) ∧ w.cell? ⟨g, 2, none⟩ = some (.int .u64 0) ∧ w.cell? ⟨g, 3, none⟩ = some (.int .u64 0) := by
 have := h.c4
 simpa [wd, dgt] using this
theorem set4z (w : World) (g : Nat) : set4w w g 0 = ((((w.setCell ⟨g, 0, none⟩ (.int .u64 0)).setCell ⟨g, 1, none⟩ (.int .u64 0)).setCell ⟨g, 2, none⟩ (.int .u64 0)).setCell ⟨g, 3, none⟩ (.int .u64 0)) := by
 simp [set4w, wd, dgt]
theorem T4.zout (h : T4 w B g x) : ∃ wz, wz = ((((w.setCell ⟨g, 0, none⟩ (.int .u64 0)).setCell ⟨g, 1, none⟩ (.int .u64 0)).setCell ⟨g, 2, none⟩ (.int .u64 0)).setCell ⟨g, 3, none⟩ (.int .u64 0)) ∧
  T4 wz B g 0 ∧ Below B w wz := ⟨set4w w g 0, set4z w g, h.put 0, h.below 0⟩
end
attribute [local irreducible] wd by8
set_option maxRecDepth 20000
set_option maxHeartbeats 800000 in
theorem tdecode_walk {A : Option Addr} {c x d b r : Nat} {er : Int} (w : World) (kfrom : Calls Tryz.prog 45 #[.slice A 32 c] (w.alloc (ZE 44)) fun e w' => e = .returned (.tuple #[nv x, .int .i64 0]) ∧ Below (w.alloc (ZE 44)).heap.size (w.alloc (ZE 44)) w')
  (ksub : ∀ w, Calls Tryz.prog 62 #[nv x, nv LL] w fun e w' => e = .returned (.tuple #[nv d, .int .u64 (b : Int)]) ∧ Below w.heap.size w w')
  (hq : (((b : Int) == 0) = true ∧ r = 0 ∧ er = 6) ∨ (((b : Int) == 0) = false ∧ r = x ∧ er = 0)) :
  Calls Tryz.prog 31 #[.slice A 32 c] w fun e w' => e = .returned (.tuple #[nv r, .int .i64 er]) ∧ Below w.heap.size w w' := by
 obtain ⟨P, hP⟩ : ∃ P, P = LL := ⟨_, rfl⟩
 have kpr := order_any
 rw [← hP] at ksub kpr
 clear hP
 have KF := Lib.hid kfrom
 have KS := Lib.hid ksub
 have HQ := Lib.hid hq
 clear kfrom ksub hq
 go_enter Tryz.func31, Tryz.ntmps31
 go_wp2_with fail
 go_at_call 45
 refine KF.out.mono ?_
 rintro e v1 ⟨rfl, h0⟩
 obtain ⟨oz, hc⟩ := tres1 h0
 clear h0 KF
 go_upto_region 4 with fail
 have ox := T4.new (w := v1) hc.size 35 x
 replace oz := oz.alloc (AE 35 x)
 replace hc := hc.alloc hc.size (AE 35 x)
 obtain ⟨v2, e2⟩ : ∃ v, v = v1.alloc (AE 35 x) := ⟨_, rfl⟩
 rw [← e2] at ox oz hc ⊢
 clear e2
 have HS := Lib.hid (tkeep4 ox)
 have hs := hc.size
 go_cut [7] from 17 to 22 (fun c9 wx => c9 = .int .u64 (b : Int) ∧ Below v2.heap.size v2 wx)
 case first =>
  obtain ⟨s0, s1, s2, s3⟩ := HS.out v2 (Below.refl _ _)
  have hd : Below v2.heap.size v2 v2.drew := (Below.refl _ v2).drew
  go_region_held3 (fun wz => wz.cell? ⟨v1.heap.size, 0, none⟩ = some (.int .u64 (wd x 0 : Int)) ∧ wz.cell? ⟨v1.heap.size, 1, none⟩ = some (.int .u64 (wd x 1 : Int)) ∧ wz.cell? ⟨v1.heap.size, 2, none⟩ = some (.int .u64 (wd x 2 : Int)) ∧ wz.cell? ⟨v1.heap.size, 3, none⟩ = some (.int .u64 (wd x 3 : Int)))
   (first | exact HS.out _ hd | exact HS.out _ (hd.alloc hd.size _) | exact HS.out _ (by repeat (first | exact hd | (refine Below.setCell ?_ (by first | omega | (simp; done) | (simp; omega)) _) | (refine Below.alloc ?_ (by first | omega | (simp; done) | (simp; omega)) _) | refine Below.drew ?_)))
   (first | (go_at_call 63; (with_reducible refine (kpr _).mono ?_); rintro e wp ⟨rfl, h1⟩; (first | (replace ob := ob.keep h1) | (have ob := tkeepZd h1; have hg := Nat.le_refl v2.heap.size) | (have ob := tkeepZ h1; have hg := hd.size) | skip); (first | (replace hd := (hd.alloc hd.size (ZE 35)).trans (h1.mono (Nat.le_trans hd.size (by simp)))) | (replace hd := bnx hd h1)); clear h1) | (go_at_call 62; (with_reducible refine (KS.out _).mono ?_); rintro e wn ⟨rfl, h1⟩; (first | (replace ob := ob.keep h1) | (have ob := tkeepZd h1; have hg := Nat.le_refl v2.heap.size) | (have ob := tkeepZ h1; have hg := hd.size) | skip); (first | (replace hd := (hd.alloc hd.size (ZE 35)).trans (h1.mono (Nat.le_trans hd.size (by simp)))) | (replace hd := bnx hd h1)); clear h1; (try (obtain ⟨o0, o1, o2, o3⟩ := ob.c4; obtain ⟨q0, q1, q2, q3⟩ := ob.f4))))
  all_goals
   go_wp2_with fail
   go_meet
   first
    | exact ⟨rfl, hd.alloc hd.size _⟩
    | exact ⟨rfl, hd.trans ((ob.below d).mono hg)⟩
 case rest =>
  obtain ⟨rfl, hd⟩ := hcut
  replace oz := oz.keep hd
  replace ox := ox.keep hd
  replace hc := hc.trans (hd.mono hs)
  clear hd hs HS
  obtain ⟨f0, f1, f2, f3⟩ := oz.f4
  rcases HQ.out with ⟨hb, rfl, rfl⟩ | ⟨hb, rfl, rfl⟩
  ·obtain ⟨z0, z1, z2, z3⟩ := oz.zc
   obtain ⟨wz, ez, or, hbz⟩ := oz.zout
   obtain ⟨r0, r1, r2, r3⟩ := or.zc
   clear HQ
   go_wp2_with fail
   rw [← ez]
   refine bodyPost_ret (v := .tuple #[lit4 0 0 0 0, .int .i64 6]) (by simp [results, Tryz.results31, go_sem, r0, r1, r2, r3]) rfl ⟨by rw [nv_z], hc.trans hbz⟩
  ·obtain ⟨z0, z1, z2, z3⟩ := oz.c4
   obtain ⟨s0, s1, s2, s3⟩ := ox.c4
   obtain ⟨wz, ez, or, hbz, _⟩ := oz.out r
   obtain ⟨r0, r1, r2, r3⟩ := or.c4
   clear HQ
   go_wp2_with fail
   rw [← ez]
   refine bodyPost_ret (v := .tuple #[nv r, .int .i64 0]) (by simp [results, Tryz.results31, go_sem, r0, r1, r2, r3]) rfl ⟨rfl, hc.trans hbz⟩
theorem tdecode_any {B c : Nat} {A : Option Addr} {bs : List UInt8} (w : World) (hr : Rd w B A c bs) (hB : B ≤ w.heap.size) (hl : bs.length = 32) :
  Calls Tryz.prog 31 #[.slice A bs.length c] w fun e w' => e = .returned (.tuple #[nv (if vb bs < LL then vb bs else 0), .int .i64 (if vb bs < LL then 0 else 6)]) ∧ Below w.heap.size w w' := by
 have h0 := from_good (w.alloc (ZE 44)) (hr.keep ((Below.refl _ w).alloc hB (ZE 44))) (by simp; omega) (Nat.le_of_eq hl)
 rw [hl] at h0 ⊢
 refine tdecode_walk w h0 (fun w => sub_any (vb bs) LL LL_W4 w) ?_
 rw [bw_four (vb_lt hl) LL_W4]
 by_cases h : vb bs < LL
 ·rw [if_pos h, if_pos h, if_pos h]; exact .inr ⟨rfl, rfl, rfl⟩
 ·rw [if_neg h, if_neg h, if_neg h]; exact .inl ⟨rfl, rfl, rfl⟩
end Go.Proofs.YtkbkalhcdbklkaaGreatDoor
