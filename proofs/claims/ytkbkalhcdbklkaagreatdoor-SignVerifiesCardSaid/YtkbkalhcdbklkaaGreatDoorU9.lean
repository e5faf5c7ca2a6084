/-
  The code's Decode (layer 8), over letters. Written by tools/gen_u6.py. By an AI agent.
-/
import Derived.Test.YtkbkalhcdbklkaaGreatDoorU8
namespace Go.Proofs.YtkbkalhcdbklkaaGreatDoor
open Go Go.RowKit
section
attribute [local irreducible] wd by8 fl rl setA sf taf set8p set4w ed2
set_option maxRecDepth 20000
set_option maxHeartbeats 6400000 in
theorem cDecode_r0 {A : Option Addr} {c z y : Nat} (w : World) (han : bits .andNot .u64 (wd z 3 : Int) 9223372036854775808 = (wd y 3 : Int)) (hz : ∀ k, k < 3 → wd y k = wd z k)
  (kB : ∀ w, Calls Tryz.prog 66 #[nv z, .int .i64 255] w fun e w' => e = .returned (.int .u64 0) ∧ Below w.heap.size w w')
  (kR : ∀ w, Calls Tryz.prog 67 #[nv y] w fun e w' => e = .returned (.bool false) ∧ Below w.heap.size w w')
  (kF : ∀ v, Below w.heap.size w v → Calls Tryz.prog 45 #[.slice A 32 c] v fun e w' => e = .returned (.tuple #[nv z, .int .i64 0]) ∧ Below v.heap.size v w') :
  Calls Tryz.prog 33 #[.slice A 32 c] w fun e w' => e = .returned (.tuple #[prv 0 0, .int .i64 6]) ∧ Below w.heap.size w w' := by
 have HAN := Lib.hid han
 have HZ := Lib.hid hz
 have KF := Lib.hid kF
 clear han hz kF
 have KB := Lib.hid kB
 have KR := Lib.hid kR
 clear kB kR
 obtain ⟨v1, ev1⟩ : ∃ v, v = w.alloc (Z8p) := ⟨_, rfl⟩
 have bv1 := bnw ev1
 have sv1 := bsz ev1
 obtain ⟨g2, eg2⟩ : ∃ g, g = w.heap.size := ⟨_, rfl⟩
 have o2 : O8 v1 w.heap.size g2 0 0 := by rw [eg2, ev1]; exact O8.newz (Nat.le_refl _)
 have hc := bv1
 have hs1 := hc.size
 go_enter Tryz.func33, Tryz.ntmps33
 go_upto_region 1 with fail
 rw [← ev1]
 rw [show Value.pointer (some ⟨w.heap.size, 0, none⟩) = .pointer (some ⟨g2, 0, none⟩) by rw [eg2]]
 clear ev1 bv1 sv1 eg2 hs1
 go_wp2_with (first | ((with_reducible refine p_load o2 ?_ ?_); rfl))
 go_at_call 45
 refine (KF.out _ hc).mono ?_
 rintro e y2 ⟨rfl, h0⟩
 replace o2 := O8.keep o2 h0
 replace hc := bnx hc h0
 clear h0
 have on0 := O4.newz (w := y2) (Nat.le_refl _)
 have hl2 := OwnF.lt o2
 have o4 := (on0.put z).mono hc.size
 have hbz := ((Below.refl _ y2).alloc (Nat.le_refl _) Z4).trans (on0.below z)
 replace o2 := O8.keep o2 hbz
 replace hc := bnx hc hbz
 clear hbz
 go_upto_region 4 with (first | ((with_reducible refine n_store on0 z ?_ ?_ ?_); rfl; rfl))
 obtain ⟨y3, ev⟩ : ∃ v, v = set4w (y2.alloc Z4) y2.heap.size z := ⟨_, rfl⟩
 obtain ⟨g4, eg⟩ : ∃ g, g = y2.heap.size := ⟨_, rfl⟩
 rw [← ev] at o2 o4 hc ⊢
 rw [← eg] at o4 ⊢
 have n4_2 : g4 ≠ g2 := by omega
 clear hl2
 clear ev eg on0
 go_wp2_with (first | ((with_reducible refine p_load o2 ?_ ?_); rfl) | ((with_reducible refine n_load o4 ?_ ?_); rfl))
 go_at_call 66
 refine (KB.out _).mono ?_
 rintro e y4 ⟨rfl, h0⟩
 replace o2 := O8.keep o2 h0
 replace o4 := O4.keep o4 h0
 replace hc := bnx hc h0
 clear h0
 obtain ⟨c0, c1, c2, c3⟩ := o4.c4
 obtain ⟨f0, f1, f2, f3⟩ := o4.f4
 have han := HAN.out
 go_upto_region 6 with fail
 clear c0 c1 c2 c3 f0 f1 f2 f3 han
 have hb4 : Below w.heap.size y4 (y4.setCell ⟨g4, 3, none⟩ (.int .u64 (wd y 3 : Int))) := (Below.refl _ _).setCell (p := ⟨g4, 3, none⟩) o4.ge _
 replace hc := hc.trans hb4
 replace o2 := o2.only (Only.setCell y4 ⟨g4, 3, none⟩ (.int .u64 (wd y 3 : Int))) n4_2
 replace o4 := o4.set3 HZ.out
 clear hb4
 obtain ⟨v6, ev⟩ : ∃ v, v = y4.setCell ⟨g4, 3, none⟩ (.int .u64 (wd y 3 : Int)) := ⟨_, rfl⟩
 rw [← ev] at o2 o4 hc ⊢
 clear ev
 go_wp2_with (first | ((with_reducible refine p_load o2 ?_ ?_); rfl) | ((with_reducible refine n_load o4 ?_ ?_); rfl))
 go_at_call 67
 refine (KR.out _).mono ?_
 rintro e y5 ⟨rfl, h0⟩
 replace o2 := O8.keep o2 h0
 replace o4 := O4.keep o4 h0
 replace hc := bnx hc h0
 clear h0
 have hfb := Lib.hid (hc.trans (o2.below 0 0))
 have HR := Lib.hid (o2.put 0 0)
 go_wp2_with (first | (with_reducible refine T_zero ?_) | ((with_reducible refine p_store o2 0 0 ?_ ?_ ?_); rfl; rfl))
 exact bodyPost_ret (pres2 Tryz.results33 _ HR.out rfl rfl) rfl ⟨rfl, hfb.out⟩
set_option maxHeartbeats 6400000 in
theorem cDecode_r1 {A : Option Addr} {c z y : Nat} (w : World) (han : bits .andNot .u64 (wd z 3 : Int) 9223372036854775808 = (wd y 3 : Int)) (hz : ∀ k, k < 3 → wd y k = wd z k)
  (kB : ∀ w, Calls Tryz.prog 66 #[nv z, .int .i64 255] w fun e w' => e = .returned (.int .u64 1) ∧ Below w.heap.size w w')
  (kR : ∀ w, Calls Tryz.prog 67 #[nv y] w fun e w' => e = .returned (.bool false) ∧ Below w.heap.size w w')
  (kF : ∀ v, Below w.heap.size w v → Calls Tryz.prog 45 #[.slice A 32 c] v fun e w' => e = .returned (.tuple #[nv z, .int .i64 0]) ∧ Below v.heap.size v w') :
  Calls Tryz.prog 33 #[.slice A 32 c] w fun e w' => e = .returned (.tuple #[prv 0 0, .int .i64 6]) ∧ Below w.heap.size w w' := by
 have HAN := Lib.hid han
 have HZ := Lib.hid hz
 have KF := Lib.hid kF
 clear han hz kF
 have KB := Lib.hid kB
 have KR := Lib.hid kR
 clear kB kR
 obtain ⟨v1, ev1⟩ : ∃ v, v = w.alloc (Z8p) := ⟨_, rfl⟩
 have bv1 := bnw ev1
 have sv1 := bsz ev1
 obtain ⟨g2, eg2⟩ : ∃ g, g = w.heap.size := ⟨_, rfl⟩
 have o2 : O8 v1 w.heap.size g2 0 0 := by rw [eg2, ev1]; exact O8.newz (Nat.le_refl _)
 have hc := bv1
 have hs1 := hc.size
 go_enter Tryz.func33, Tryz.ntmps33
 go_upto_region 1 with fail
 rw [← ev1]
 rw [show Value.pointer (some ⟨w.heap.size, 0, none⟩) = .pointer (some ⟨g2, 0, none⟩) by rw [eg2]]
 clear ev1 bv1 sv1 eg2 hs1
 go_wp2_with (first | ((with_reducible refine p_load o2 ?_ ?_); rfl))
 go_at_call 45
 refine (KF.out _ hc).mono ?_
 rintro e y2 ⟨rfl, h0⟩
 replace o2 := O8.keep o2 h0
 replace hc := bnx hc h0
 clear h0
 have on0 := O4.newz (w := y2) (Nat.le_refl _)
 have hl2 := OwnF.lt o2
 have o4 := (on0.put z).mono hc.size
 have hbz := ((Below.refl _ y2).alloc (Nat.le_refl _) Z4).trans (on0.below z)
 replace o2 := O8.keep o2 hbz
 replace hc := bnx hc hbz
 clear hbz
 go_upto_region 4 with (first | ((with_reducible refine n_store on0 z ?_ ?_ ?_); rfl; rfl))
 obtain ⟨y3, ev⟩ : ∃ v, v = set4w (y2.alloc Z4) y2.heap.size z := ⟨_, rfl⟩
 obtain ⟨g4, eg⟩ : ∃ g, g = y2.heap.size := ⟨_, rfl⟩
 rw [← ev] at o2 o4 hc ⊢
 rw [← eg] at o4 ⊢
 have n4_2 : g4 ≠ g2 := by omega
 clear hl2
 clear ev eg on0
 go_wp2_with (first | ((with_reducible refine p_load o2 ?_ ?_); rfl) | ((with_reducible refine n_load o4 ?_ ?_); rfl))
 go_at_call 66
 refine (KB.out _).mono ?_
 rintro e y4 ⟨rfl, h0⟩
 replace o2 := O8.keep o2 h0
 replace o4 := O4.keep o4 h0
 replace hc := bnx hc h0
 clear h0
 obtain ⟨c0, c1, c2, c3⟩ := o4.c4
 obtain ⟨f0, f1, f2, f3⟩ := o4.f4
 have han := HAN.out
 go_upto_region 6 with fail
 clear c0 c1 c2 c3 f0 f1 f2 f3 han
 have hb4 : Below w.heap.size y4 (y4.setCell ⟨g4, 3, none⟩ (.int .u64 (wd y 3 : Int))) := (Below.refl _ _).setCell (p := ⟨g4, 3, none⟩) o4.ge _
 replace hc := hc.trans hb4
 replace o2 := o2.only (Only.setCell y4 ⟨g4, 3, none⟩ (.int .u64 (wd y 3 : Int))) n4_2
 replace o4 := o4.set3 HZ.out
 clear hb4
 obtain ⟨v6, ev⟩ : ∃ v, v = y4.setCell ⟨g4, 3, none⟩ (.int .u64 (wd y 3 : Int)) := ⟨_, rfl⟩
 rw [← ev] at o2 o4 hc ⊢
 clear ev
 go_wp2_with (first | ((with_reducible refine p_load o2 ?_ ?_); rfl) | ((with_reducible refine n_load o4 ?_ ?_); rfl))
 go_at_call 67
 refine (KR.out _).mono ?_
 rintro e y5 ⟨rfl, h0⟩
 replace o2 := O8.keep o2 h0
 replace o4 := O4.keep o4 h0
 replace hc := bnx hc h0
 clear h0
 have hfb := Lib.hid (hc.trans (o2.below 0 0))
 have HR := Lib.hid (o2.put 0 0)
 go_wp2_with (first | (with_reducible refine T_zero ?_) | ((with_reducible refine p_store o2 0 0 ?_ ?_ ?_); rfl; rfl))
 exact bodyPost_ret (pres2 Tryz.results33 _ HR.out rfl rfl) rfl ⟨rfl, hfb.out⟩
set_option maxHeartbeats 6400000 in
theorem cDecode_n0 {A : Option Addr} {c z y r : Nat} (w : World) (han : bits .andNot .u64 (wd z 3 : Int) 9223372036854775808 = (wd y 3 : Int)) (hz : ∀ k, k < 3 → wd y k = wd z k)
  (kB : ∀ w, Calls Tryz.prog 66 #[nv z, .int .i64 255] w fun e w' => e = .returned (.int .u64 0) ∧ Below w.heap.size w w')
  (kR : ∀ w, Calls Tryz.prog 67 #[nv y] w fun e w' => e = .returned (.bool true) ∧ Below w.heap.size w w')
  (kF : ∀ v, Below w.heap.size w v → Calls Tryz.prog 45 #[.slice A 32 c] v fun e w' => e = .returned (.tuple #[nv z, .int .i64 0]) ∧ Below v.heap.size v w')
  (kA : ∀ w, Glb w → Calls Tryz.prog 68 #[nv y] w fun e w' => e = .returned (.tuple #[nv r, .bool false]) ∧ Below w.heap.size w w') (hG : Glb w) :
  Calls Tryz.prog 33 #[.slice A 32 c] w fun e w' => e = .returned (.tuple #[prv 0 0, .int .i64 7]) ∧ Below w.heap.size w w' := by
 have HAN := Lib.hid han
 have HZ := Lib.hid hz
 have KF := Lib.hid kF
 clear han hz kF
 have KA := Lib.hid kA
 have HG := Lib.hid hG
 clear kA hG
 have KB := Lib.hid kB
 have KR := Lib.hid kR
 clear kB kR
 obtain ⟨v1, ev1⟩ : ∃ v, v = w.alloc (Z8p) := ⟨_, rfl⟩
 have bv1 := bnw ev1
 have sv1 := bsz ev1
 obtain ⟨g2, eg2⟩ : ∃ g, g = w.heap.size := ⟨_, rfl⟩
 have o2 : O8 v1 w.heap.size g2 0 0 := by rw [eg2, ev1]; exact O8.newz (Nat.le_refl _)
 have hc := bv1
 have hs1 := hc.size
 go_enter Tryz.func33, Tryz.ntmps33
 go_upto_region 1 with fail
 rw [← ev1]
 rw [show Value.pointer (some ⟨w.heap.size, 0, none⟩) = .pointer (some ⟨g2, 0, none⟩) by rw [eg2]]
 clear ev1 bv1 sv1 eg2 hs1
 go_wp2_with (first | ((with_reducible refine p_load o2 ?_ ?_); rfl))
 go_at_call 45
 refine (KF.out _ hc).mono ?_
 rintro e y2 ⟨rfl, h0⟩
 replace o2 := O8.keep o2 h0
 replace hc := bnx hc h0
 clear h0
 have on0 := O4.newz (w := y2) (Nat.le_refl _)
 have hl2 := OwnF.lt o2
 have o4 := (on0.put z).mono hc.size
 have hbz := ((Below.refl _ y2).alloc (Nat.le_refl _) Z4).trans (on0.below z)
 replace o2 := O8.keep o2 hbz
 replace hc := bnx hc hbz
 clear hbz
 go_upto_region 4 with (first | ((with_reducible refine n_store on0 z ?_ ?_ ?_); rfl; rfl))
 obtain ⟨y3, ev⟩ : ∃ v, v = set4w (y2.alloc Z4) y2.heap.size z := ⟨_, rfl⟩
 obtain ⟨g4, eg⟩ : ∃ g, g = y2.heap.size := ⟨_, rfl⟩
 rw [← ev] at o2 o4 hc ⊢
 rw [← eg] at o4 ⊢
 have n4_2 : g4 ≠ g2 := by omega
 clear hl2
 clear ev eg on0
 go_wp2_with (first | ((with_reducible refine p_load o2 ?_ ?_); rfl) | ((with_reducible refine n_load o4 ?_ ?_); rfl))
 go_at_call 66
 refine (KB.out _).mono ?_
 rintro e y4 ⟨rfl, h0⟩
 replace o2 := O8.keep o2 h0
 replace o4 := O4.keep o4 h0
 replace hc := bnx hc h0
 clear h0
 obtain ⟨c0, c1, c2, c3⟩ := o4.c4
 obtain ⟨f0, f1, f2, f3⟩ := o4.f4
 have han := HAN.out
 go_upto_region 6 with fail
 clear c0 c1 c2 c3 f0 f1 f2 f3 han
 have hb4 : Below w.heap.size y4 (y4.setCell ⟨g4, 3, none⟩ (.int .u64 (wd y 3 : Int))) := (Below.refl _ _).setCell (p := ⟨g4, 3, none⟩) o4.ge _
 replace hc := hc.trans hb4
 replace o2 := o2.only (Only.setCell y4 ⟨g4, 3, none⟩ (.int .u64 (wd y 3 : Int))) n4_2
 replace o4 := o4.set3 HZ.out
 clear hb4
 obtain ⟨v6, ev⟩ : ∃ v, v = y4.setCell ⟨g4, 3, none⟩ (.int .u64 (wd y 3 : Int)) := ⟨_, rfl⟩
 rw [← ev] at o2 o4 hc ⊢
 clear ev
 go_wp2_with (first | ((with_reducible refine p_load o2 ?_ ?_); rfl) | ((with_reducible refine n_load o4 ?_ ?_); rfl))
 go_at_call 67
 refine (KR.out _).mono ?_
 rintro e y5 ⟨rfl, h0⟩
 replace o2 := O8.keep o2 h0
 replace o4 := O4.keep o4 h0
 replace hc := bnx hc h0
 clear h0
 go_wp2_with (first | ((with_reducible refine p_load o2 ?_ ?_); rfl) | ((with_reducible refine n_load o4 ?_ ?_); rfl))
 go_at_call 68
 refine (KA.out _ (HG.out.next hc)).mono ?_
 rintro e v7 ⟨rfl, h0⟩
 replace o2 := O8.keep o2 h0
 replace o4 := O4.keep o4 h0
 replace hc := bnx hc h0
 clear h0
 have on0 := O4.newz (w := v7) (Nat.le_refl _)
 have hl2 := OwnF.lt o2
 have hl4 := OwnF.lt o4
 have o7 := (on0.put r).mono hc.size
 have hbz := ((Below.refl _ v7).alloc (Nat.le_refl _) Z4).trans (on0.below r)
 replace o2 := O8.keep o2 hbz
 replace o4 := O4.keep o4 hbz
 replace hc := bnx hc hbz
 clear hbz
 go_upto_region 9 with (first | ((with_reducible refine n_store on0 r ?_ ?_ ?_); rfl; rfl))
 obtain ⟨y6, ev⟩ : ∃ v, v = set4w (v7.alloc Z4) v7.heap.size r := ⟨_, rfl⟩
 obtain ⟨g7, eg⟩ : ∃ g, g = v7.heap.size := ⟨_, rfl⟩
 rw [← ev] at o2 o4 o7 hc ⊢
 rw [← eg] at o7 ⊢
 have n7_2 : g7 ≠ g2 := by omega
 have n7_4 : g7 ≠ g4 := by omega
 clear hl2 hl4
 clear ev eg on0
 go_upto_region 11 with fail
 refine wp_region_obs 7 [37, 38, 39, 40, 41, 42, 43] [.val (.bool false), .val (.bool true), .val (.bool true), .val (undef), .val (undef), .val (undef), .val (undef)] (fun wz => Below y6.heap.size y6 wz) (by kernel_rfl) (fun wz wz' hz hb => bnx hz hb) (Below.refl _ _) (fun u => by simp only [puts, List.foldl_cons, List.foldl_nil]; go_simp; exact rfl) ?_ ?_
 ·simp only [List.take_succ_cons, List.take_zero]
  refine .cons (fun u w hS hd => ?_) ?_
  ·exact Gv.run (.bool false) rfl (by go_simp) rfl
  refine .cons (fun u w hS hd => ?_) ?_
  ·have d37 : u 37 = .bool false := hd 0 (by decide)
   rw [d37]
   exact Gv.run (.bool true) rfl (by go_simp) rfl
  refine .cons (fun u w hS hd => ?_) ?_
  ·have d38 : u 38 = .bool true := hd 1 (by decide)
   rw [d38]
   exact Gv.run (.bool true) rfl (by go_simp) rfl
  refine .cons (fun u w hS hd => ?_) ?_
  ·have d39 : u 39 = .bool true := hd 2 (by decide)
   rw [d39]
   exact Gv.skip (by rfl) rfl
  refine .cons (fun u w hS hd => ?_) ?_
  ·have d39 : u 39 = .bool true := hd 2 (by decide)
   rw [d39]
   exact Gv.skip (by rfl) rfl
  refine .cons (fun u w hS hd => ?_) ?_
  ·have d39 : u 39 = .bool true := hd 2 (by decide)
   rw [d39]
   exact Gv.skip (by rfl) rfl
  refine .cons (fun u w hS hd => ?_) ?_
  ·have d39 : u 39 = .bool true := hd 2 (by decide)
   rw [d39]
   exact Gv.skip (by rfl) rfl
  exact ObsS.nil
 intro uy7 y7 hS hd
 have d39 : uy7 39 = .bool true := hd 2 (by decide)
 have d43 : uy7 43 = undef := hd 6 (by decide)
 rw [d39, d43]
 replace o2 := O8.keep o2 hS
 replace o4 := O4.keep o4 hS
 replace o7 := O4.keep o7 hS
 replace hc := bnx hc hS
 clear hS hd d39 d43
 simp only [List.drop_succ_cons, List.drop_zero]
 have hfb := Lib.hid (hc.trans (o2.below 0 0))
 have HR := Lib.hid (o2.put 0 0)
 go_wp2_with (first | (with_reducible refine T_zero ?_) | ((with_reducible refine p_store o2 0 0 ?_ ?_ ?_); rfl; rfl))
 exact bodyPost_ret (pres2 Tryz.results33 _ HR.out rfl rfl) rfl ⟨rfl, hfb.out⟩
set_option maxHeartbeats 6400000 in
theorem cDecode_y00 {A : Option Addr} {c z y r : Nat} (w : World) (han : bits .andNot .u64 (wd z 3 : Int) 9223372036854775808 = (wd y 3 : Int)) (hz : ∀ k, k < 3 → wd y k = wd z k)
  (kB : ∀ w, Calls Tryz.prog 66 #[nv z, .int .i64 255] w fun e w' => e = .returned (.int .u64 0) ∧ Below w.heap.size w w')
  (kR : ∀ w, Calls Tryz.prog 67 #[nv y] w fun e w' => e = .returned (.bool true) ∧ Below w.heap.size w w')
  (kb : ∀ w, Calls Tryz.prog 66 #[nv r, .int .i64 0] w fun e w' => e = .returned (.int .u64 0) ∧ Below w.heap.size w w')
  (kF : ∀ v, Below w.heap.size w v → Calls Tryz.prog 45 #[.slice A 32 c] v fun e w' => e = .returned (.tuple #[nv z, .int .i64 0]) ∧ Below v.heap.size v w')
  (kA : ∀ w, Glb w → Calls Tryz.prog 68 #[nv y] w fun e w' => e = .returned (.tuple #[nv r, .bool true]) ∧ Below w.heap.size w w') (hG : Glb w) :
  Calls Tryz.prog 33 #[.slice A 32 c] w fun e w' => e = .returned (.tuple #[prv r y, .int .i64 0]) ∧ Below w.heap.size w w' := by
 have HAN := Lib.hid han
 have HZ := Lib.hid hz
 have KF := Lib.hid kF
 clear han hz kF
 have KA := Lib.hid kA
 have HG := Lib.hid hG
 clear kA hG
 have KB := Lib.hid kB
 have KR := Lib.hid kR
 have Kb := Lib.hid kb
 clear kB kR kb
 obtain ⟨v1, ev1⟩ : ∃ v, v = w.alloc (Z8p) := ⟨_, rfl⟩
 have bv1 := bnw ev1
 have sv1 := bsz ev1
 obtain ⟨g2, eg2⟩ : ∃ g, g = w.heap.size := ⟨_, rfl⟩
 have o2 : O8 v1 w.heap.size g2 0 0 := by rw [eg2, ev1]; exact O8.newz (Nat.le_refl _)
 have hc := bv1
 have hs1 := hc.size
 go_enter Tryz.func33, Tryz.ntmps33
 go_upto_region 1 with fail
 rw [← ev1]
 rw [show Value.pointer (some ⟨w.heap.size, 0, none⟩) = .pointer (some ⟨g2, 0, none⟩) by rw [eg2]]
 clear ev1 bv1 sv1 eg2 hs1
 go_wp2_with (first | ((with_reducible refine p_load o2 ?_ ?_); rfl))
 go_at_call 45
 refine (KF.out _ hc).mono ?_
 rintro e y2 ⟨rfl, h0⟩
 replace o2 := O8.keep o2 h0
 replace hc := bnx hc h0
 clear h0
 have on0 := O4.newz (w := y2) (Nat.le_refl _)
 have hl2 := OwnF.lt o2
 have o4 := (on0.put z).mono hc.size
 have hbz := ((Below.refl _ y2).alloc (Nat.le_refl _) Z4).trans (on0.below z)
 replace o2 := O8.keep o2 hbz
 replace hc := bnx hc hbz
 clear hbz
 go_upto_region 4 with (first | ((with_reducible refine n_store on0 z ?_ ?_ ?_); rfl; rfl))
 obtain ⟨y3, ev⟩ : ∃ v, v = set4w (y2.alloc Z4) y2.heap.size z := ⟨_, rfl⟩
 obtain ⟨g4, eg⟩ : ∃ g, g = y2.heap.size := ⟨_, rfl⟩
 rw [← ev] at o2 o4 hc ⊢
 rw [← eg] at o4 ⊢
 have n4_2 : g4 ≠ g2 := by omega
 clear hl2
 clear ev eg on0
 go_wp2_with (first | ((with_reducible refine p_load o2 ?_ ?_); rfl) | ((with_reducible refine n_load o4 ?_ ?_); rfl))
 go_at_call 66
 refine (KB.out _).mono ?_
 rintro e y4 ⟨rfl, h0⟩
 replace o2 := O8.keep o2 h0
 replace o4 := O4.keep o4 h0
 replace hc := bnx hc h0
 clear h0
 obtain ⟨c0, c1, c2, c3⟩ := o4.c4
 obtain ⟨f0, f1, f2, f3⟩ := o4.f4
 have han := HAN.out
 go_upto_region 6 with fail
 clear c0 c1 c2 c3 f0 f1 f2 f3 han
 have hb4 : Below w.heap.size y4 (y4.setCell ⟨g4, 3, none⟩ (.int .u64 (wd y 3 : Int))) := (Below.refl _ _).setCell (p := ⟨g4, 3, none⟩) o4.ge _
 replace hc := hc.trans hb4
 replace o2 := o2.only (Only.setCell y4 ⟨g4, 3, none⟩ (.int .u64 (wd y 3 : Int))) n4_2
 replace o4 := o4.set3 HZ.out
 clear hb4
 obtain ⟨v6, ev⟩ : ∃ v, v = y4.setCell ⟨g4, 3, none⟩ (.int .u64 (wd y 3 : Int)) := ⟨_, rfl⟩
 rw [← ev] at o2 o4 hc ⊢
 clear ev
 go_wp2_with (first | ((with_reducible refine p_load o2 ?_ ?_); rfl) | ((with_reducible refine n_load o4 ?_ ?_); rfl))
 go_at_call 67
 refine (KR.out _).mono ?_
 rintro e y5 ⟨rfl, h0⟩
 replace o2 := O8.keep o2 h0
 replace o4 := O4.keep o4 h0
 replace hc := bnx hc h0
 clear h0
 go_wp2_with (first | ((with_reducible refine p_load o2 ?_ ?_); rfl) | ((with_reducible refine n_load o4 ?_ ?_); rfl))
 go_at_call 68
 refine (KA.out _ (HG.out.next hc)).mono ?_
 rintro e v7 ⟨rfl, h0⟩
 replace o2 := O8.keep o2 h0
 replace o4 := O4.keep o4 h0
 replace hc := bnx hc h0
 clear h0
 have on0 := O4.newz (w := v7) (Nat.le_refl _)
 have hl2 := OwnF.lt o2
 have hl4 := OwnF.lt o4
 have o7 := (on0.put r).mono hc.size
 have hbz := ((Below.refl _ v7).alloc (Nat.le_refl _) Z4).trans (on0.below r)
 replace o2 := O8.keep o2 hbz
 replace o4 := O4.keep o4 hbz
 replace hc := bnx hc hbz
 clear hbz
 go_upto_region 9 with (first | ((with_reducible refine n_store on0 r ?_ ?_ ?_); rfl; rfl))
 obtain ⟨y6, ev⟩ : ∃ v, v = set4w (v7.alloc Z4) v7.heap.size r := ⟨_, rfl⟩
 obtain ⟨g7, eg⟩ : ∃ g, g = v7.heap.size := ⟨_, rfl⟩
 rw [← ev] at o2 o4 o7 hc ⊢
 rw [← eg] at o7 ⊢
 have n7_2 : g7 ≠ g2 := by omega
 have n7_4 : g7 ≠ g4 := by omega
 clear hl2 hl4
 clear ev eg on0
 go_upto_region 11 with fail
 refine wp_region_obs 7 [37, 38, 39, 40, 41, 42, 43] [.val (.bool true), .val (.bool false), .val (.bool false), .val (nv r), .val (.int .u64 0), .val (.int .u64 0), .val (.bool false)] (fun wz => Below y6.heap.size y6 wz) (by kernel_rfl) (fun wz wz' hz hb => bnx hz hb) (Below.refl _ _) (fun u => by simp only [puts, List.foldl_cons, List.foldl_nil]; go_simp; exact rfl) ?_ ?_
 ·simp only [List.take_succ_cons, List.take_zero]
  refine .cons (fun u w hS hd => ?_) ?_
  ·exact Gv.run (.bool true) rfl (by go_simp) rfl
  refine .cons (fun u w hS hd => ?_) ?_
  ·have d37 : u 37 = .bool true := hd 0 (by decide)
   rw [d37]
   exact Gv.run (.bool false) rfl (by go_simp) rfl
  refine .cons (fun u w hS hd => ?_) ?_
  ·have d38 : u 38 = .bool false := hd 1 (by decide)
   rw [d38]
   exact Gv.run (.bool false) rfl (by go_simp) rfl
  refine .cons (fun u w hS hd => ?_) ?_
  ·have d39 : u 39 = .bool false := hd 2 (by decide)
   rw [d39]
   exact Gv.run (nv r) (by rfl) (run_nload rfl rfl (O4.keep o7 hS)) rfl
  refine .cons (fun u w hS hd => ?_) ?_
  ·have d39 : u 39 = .bool false := hd 2 (by decide)
   rw [d39]
   have d40 : u 40 = nv r := hd 3 (by decide)
   rw [d40]
   refine Gv.call 66 #[nv r, .int .i64 0] rfl (by go_simp) ((Kb.out w).mono ?_)
   rintro e w' ⟨rfl, hb⟩
   exact ⟨_, rfl, rfl, hb⟩
  refine .cons (fun u w hS hd => ?_) ?_
  ·have d39 : u 39 = .bool false := hd 2 (by decide)
   rw [d39]
   exact Gv.run (.int .u64 0) rfl (by go_simp) rfl
  refine .cons (fun u w hS hd => ?_) ?_
  ·have d39 : u 39 = .bool false := hd 2 (by decide)
   rw [d39]
   have d41 : u 41 = .int .u64 0 := hd 4 (by decide)
   rw [d41]
   have d42 : u 42 = .int .u64 0 := hd 5 (by decide)
   rw [d42]
   exact Gv.run (.bool false) rfl (by go_simp) rfl
  exact ObsS.nil
 intro uy7 y7 hS hd
 have d39 : uy7 39 = .bool false := hd 2 (by decide)
 have d43 : uy7 43 = .bool false := hd 6 (by decide)
 rw [d39, d43]
 replace o2 := O8.keep o2 hS
 replace o4 := O4.keep o4 hS
 replace o7 := O4.keep o7 hS
 replace hc := bnx hc hS
 clear hS hd d39 d43
 simp only [List.drop_succ_cons, List.drop_zero]
 have hfb := Lib.hid (hc.trans (o2.below r y))
 have HR := Lib.hid (o2.put r y)
 go_wp2_with (first | ((with_reducible refine n_load o7 ?_ ?_); rfl) | ((with_reducible refine n_load o4 ?_ ?_); rfl) | ((with_reducible refine T_two r y ?_ ?_ ?_); rfl; rfl) | ((with_reducible refine p_store o2 r y ?_ ?_ ?_); rfl; rfl))
 exact bodyPost_ret (pres2 Tryz.results33 _ HR.out rfl rfl) rfl ⟨rfl, hfb.out⟩
set_option maxHeartbeats 6400000 in
theorem cDecode_n1 {A : Option Addr} {c z y r s : Nat} (w : World) (han : bits .andNot .u64 (wd z 3 : Int) 9223372036854775808 = (wd y 3 : Int)) (hz : ∀ k, k < 3 → wd y k = wd z k)
  (kB : ∀ w, Calls Tryz.prog 66 #[nv z, .int .i64 255] w fun e w' => e = .returned (.int .u64 1) ∧ Below w.heap.size w w')
  (kR : ∀ w, Calls Tryz.prog 67 #[nv y] w fun e w' => e = .returned (.bool true) ∧ Below w.heap.size w w')
  (kN : ∀ w, Calls Tryz.prog 69 #[nv r] w fun e w' => e = .returned (nv s) ∧ Below w.heap.size w w')
  (kF : ∀ v, Below w.heap.size w v → Calls Tryz.prog 45 #[.slice A 32 c] v fun e w' => e = .returned (.tuple #[nv z, .int .i64 0]) ∧ Below v.heap.size v w')
  (kA : ∀ w, Glb w → Calls Tryz.prog 68 #[nv y] w fun e w' => e = .returned (.tuple #[nv r, .bool false]) ∧ Below w.heap.size w w') (hG : Glb w) :
  Calls Tryz.prog 33 #[.slice A 32 c] w fun e w' => e = .returned (.tuple #[prv 0 0, .int .i64 7]) ∧ Below w.heap.size w w' := by
 have HAN := Lib.hid han
 have HZ := Lib.hid hz
 have KF := Lib.hid kF
 clear han hz kF
 have KA := Lib.hid kA
 have HG := Lib.hid hG
 clear kA hG
 have KB := Lib.hid kB
 have KR := Lib.hid kR
 have KN := Lib.hid kN
 clear kB kR kN
 obtain ⟨v1, ev1⟩ : ∃ v, v = w.alloc (Z8p) := ⟨_, rfl⟩
 have bv1 := bnw ev1
 have sv1 := bsz ev1
 obtain ⟨g2, eg2⟩ : ∃ g, g = w.heap.size := ⟨_, rfl⟩
 have o2 : O8 v1 w.heap.size g2 0 0 := by rw [eg2, ev1]; exact O8.newz (Nat.le_refl _)
 have hc := bv1
 have hs1 := hc.size
 go_enter Tryz.func33, Tryz.ntmps33
 go_upto_region 1 with fail
 rw [← ev1]
 rw [show Value.pointer (some ⟨w.heap.size, 0, none⟩) = .pointer (some ⟨g2, 0, none⟩) by rw [eg2]]
 clear ev1 bv1 sv1 eg2 hs1
 go_wp2_with (first | ((with_reducible refine p_load o2 ?_ ?_); rfl))
 go_at_call 45
 refine (KF.out _ hc).mono ?_
 rintro e y2 ⟨rfl, h0⟩
 replace o2 := O8.keep o2 h0
 replace hc := bnx hc h0
 clear h0
 have on0 := O4.newz (w := y2) (Nat.le_refl _)
 have hl2 := OwnF.lt o2
 have o4 := (on0.put z).mono hc.size
 have hbz := ((Below.refl _ y2).alloc (Nat.le_refl _) Z4).trans (on0.below z)
 replace o2 := O8.keep o2 hbz
 replace hc := bnx hc hbz
 clear hbz
 go_upto_region 4 with (first | ((with_reducible refine n_store on0 z ?_ ?_ ?_); rfl; rfl))
 obtain ⟨y3, ev⟩ : ∃ v, v = set4w (y2.alloc Z4) y2.heap.size z := ⟨_, rfl⟩
 obtain ⟨g4, eg⟩ : ∃ g, g = y2.heap.size := ⟨_, rfl⟩
 rw [← ev] at o2 o4 hc ⊢
 rw [← eg] at o4 ⊢
 have n4_2 : g4 ≠ g2 := by omega
 clear hl2
 clear ev eg on0
 go_wp2_with (first | ((with_reducible refine p_load o2 ?_ ?_); rfl) | ((with_reducible refine n_load o4 ?_ ?_); rfl))
 go_at_call 66
 refine (KB.out _).mono ?_
 rintro e y4 ⟨rfl, h0⟩
 replace o2 := O8.keep o2 h0
 replace o4 := O4.keep o4 h0
 replace hc := bnx hc h0
 clear h0
 obtain ⟨c0, c1, c2, c3⟩ := o4.c4
 obtain ⟨f0, f1, f2, f3⟩ := o4.f4
 have han := HAN.out
 go_upto_region 6 with fail
 clear c0 c1 c2 c3 f0 f1 f2 f3 han
 have hb4 : Below w.heap.size y4 (y4.setCell ⟨g4, 3, none⟩ (.int .u64 (wd y 3 : Int))) := (Below.refl _ _).setCell (p := ⟨g4, 3, none⟩) o4.ge _
 replace hc := hc.trans hb4
 replace o2 := o2.only (Only.setCell y4 ⟨g4, 3, none⟩ (.int .u64 (wd y 3 : Int))) n4_2
 replace o4 := o4.set3 HZ.out
 clear hb4
 obtain ⟨v6, ev⟩ : ∃ v, v = y4.setCell ⟨g4, 3, none⟩ (.int .u64 (wd y 3 : Int)) := ⟨_, rfl⟩
 rw [← ev] at o2 o4 hc ⊢
 clear ev
 go_wp2_with (first | ((with_reducible refine p_load o2 ?_ ?_); rfl) | ((with_reducible refine n_load o4 ?_ ?_); rfl))
 go_at_call 67
 refine (KR.out _).mono ?_
 rintro e y5 ⟨rfl, h0⟩
 replace o2 := O8.keep o2 h0
 replace o4 := O4.keep o4 h0
 replace hc := bnx hc h0
 clear h0
 go_wp2_with (first | ((with_reducible refine p_load o2 ?_ ?_); rfl) | ((with_reducible refine n_load o4 ?_ ?_); rfl))
 go_at_call 68
 refine (KA.out _ (HG.out.next hc)).mono ?_
 rintro e v7 ⟨rfl, h0⟩
 replace o2 := O8.keep o2 h0
 replace o4 := O4.keep o4 h0
 replace hc := bnx hc h0
 clear h0
 have on0 := O4.newz (w := v7) (Nat.le_refl _)
 have hl2 := OwnF.lt o2
 have hl4 := OwnF.lt o4
 have o7 := (on0.put r).mono hc.size
 have hbz := ((Below.refl _ v7).alloc (Nat.le_refl _) Z4).trans (on0.below r)
 replace o2 := O8.keep o2 hbz
 replace o4 := O4.keep o4 hbz
 replace hc := bnx hc hbz
 clear hbz
 go_upto_region 9 with (first | ((with_reducible refine n_store on0 r ?_ ?_ ?_); rfl; rfl))
 obtain ⟨y6, ev⟩ : ∃ v, v = set4w (v7.alloc Z4) v7.heap.size r := ⟨_, rfl⟩
 obtain ⟨g7, eg⟩ : ∃ g, g = v7.heap.size := ⟨_, rfl⟩
 rw [← ev] at o2 o4 o7 hc ⊢
 rw [← eg] at o7 ⊢
 have n7_2 : g7 ≠ g2 := by omega
 have n7_4 : g7 ≠ g4 := by omega
 clear hl2 hl4
 clear ev eg on0
 go_wp2_with (first | ((with_reducible refine p_load o2 ?_ ?_); rfl) | ((with_reducible refine n_load o4 ?_ ?_); rfl) | ((with_reducible refine n_load o7 ?_ ?_); rfl))
 go_at_call 69
 refine (KN.out _).mono ?_
 rintro e y7 ⟨rfl, h0⟩
 replace o2 := O8.keep o2 h0
 replace o4 := O4.keep o4 h0
 replace o7 := O4.keep o7 h0
 replace hc := bnx hc h0
 clear h0
 have hbn := o7.below s
 have o7b := o7.put s
 replace o2 := o2.only (only4 y7 g7 s) n7_2
 replace o4 := o4.only (only4 y7 g7 s) n7_4
 replace hc := hc.trans hbn
 go_upto_region 11 with ((with_reducible refine n_store o7 s ?_ ?_ ?_); rfl; rfl)
 clear hbn o7
 obtain ⟨v9, ev⟩ : ∃ v, v = set4w y7 g7 s := ⟨_, rfl⟩
 rw [← ev] at o2 o4 o7b hc ⊢
 clear ev
 refine wp_region_obs 7 [37, 38, 39, 40, 41, 42, 43] [.val (.bool false), .val (.bool true), .val (.bool true), .val (undef), .val (undef), .val (undef), .val (undef)] (fun wz => Below v9.heap.size v9 wz) (by kernel_rfl) (fun wz wz' hz hb => bnx hz hb) (Below.refl _ _) (fun u => by simp only [puts, List.foldl_cons, List.foldl_nil]; go_simp; exact rfl) ?_ ?_
 ·simp only [List.take_succ_cons, List.take_zero]
  refine .cons (fun u w hS hd => ?_) ?_
  ·exact Gv.run (.bool false) rfl (by go_simp) rfl
  refine .cons (fun u w hS hd => ?_) ?_
  ·have d37 : u 37 = .bool false := hd 0 (by decide)
   rw [d37]
   exact Gv.run (.bool true) rfl (by go_simp) rfl
  refine .cons (fun u w hS hd => ?_) ?_
  ·have d38 : u 38 = .bool true := hd 1 (by decide)
   rw [d38]
   exact Gv.run (.bool true) rfl (by go_simp) rfl
  refine .cons (fun u w hS hd => ?_) ?_
  ·have d39 : u 39 = .bool true := hd 2 (by decide)
   rw [d39]
   exact Gv.skip (by rfl) rfl
  refine .cons (fun u w hS hd => ?_) ?_
  ·have d39 : u 39 = .bool true := hd 2 (by decide)
   rw [d39]
   exact Gv.skip (by rfl) rfl
  refine .cons (fun u w hS hd => ?_) ?_
  ·have d39 : u 39 = .bool true := hd 2 (by decide)
   rw [d39]
   exact Gv.skip (by rfl) rfl
  refine .cons (fun u w hS hd => ?_) ?_
  ·have d39 : u 39 = .bool true := hd 2 (by decide)
   rw [d39]
   exact Gv.skip (by rfl) rfl
  exact ObsS.nil
 intro uy8 y8 hS hd
 have d39 : uy8 39 = .bool true := hd 2 (by decide)
 have d43 : uy8 43 = undef := hd 6 (by decide)
 rw [d39, d43]
 replace o2 := O8.keep o2 hS
 replace o4 := O4.keep o4 hS
 replace o7b := O4.keep o7b hS
 replace hc := bnx hc hS
 clear hS hd d39 d43
 simp only [List.drop_succ_cons, List.drop_zero]
 have hfb := Lib.hid (hc.trans (o2.below 0 0))
 have HR := Lib.hid (o2.put 0 0)
 go_wp2_with (first | (with_reducible refine T_zero ?_) | ((with_reducible refine p_store o2 0 0 ?_ ?_ ?_); rfl; rfl))
 exact bodyPost_ret (pres2 Tryz.results33 _ HR.out rfl rfl) rfl ⟨rfl, hfb.out⟩
set_option maxHeartbeats 6400000 in
theorem cDecode_y10 {A : Option Addr} {c z y r s : Nat} (w : World) (han : bits .andNot .u64 (wd z 3 : Int) 9223372036854775808 = (wd y 3 : Int)) (hz : ∀ k, k < 3 → wd y k = wd z k)
  (kB : ∀ w, Calls Tryz.prog 66 #[nv z, .int .i64 255] w fun e w' => e = .returned (.int .u64 1) ∧ Below w.heap.size w w')
  (kR : ∀ w, Calls Tryz.prog 67 #[nv y] w fun e w' => e = .returned (.bool true) ∧ Below w.heap.size w w')
  (kN : ∀ w, Calls Tryz.prog 69 #[nv r] w fun e w' => e = .returned (nv s) ∧ Below w.heap.size w w')
  (kb : ∀ w, Calls Tryz.prog 66 #[nv s, .int .i64 0] w fun e w' => e = .returned (.int .u64 0) ∧ Below w.heap.size w w')
  (kF : ∀ v, Below w.heap.size w v → Calls Tryz.prog 45 #[.slice A 32 c] v fun e w' => e = .returned (.tuple #[nv z, .int .i64 0]) ∧ Below v.heap.size v w')
  (kA : ∀ w, Glb w → Calls Tryz.prog 68 #[nv y] w fun e w' => e = .returned (.tuple #[nv r, .bool true]) ∧ Below w.heap.size w w') (hG : Glb w) :
  Calls Tryz.prog 33 #[.slice A 32 c] w fun e w' => e = .returned (.tuple #[prv 0 0, .int .i64 7]) ∧ Below w.heap.size w w' := by
 have HAN := Lib.hid han
 have HZ := Lib.hid hz
 have KF := Lib.hid kF
 clear han hz kF
 have KA := Lib.hid kA
 have HG := Lib.hid hG
 clear kA hG
 have KB := Lib.hid kB
 have KR := Lib.hid kR
 have KN := Lib.hid kN
 have Kb := Lib.hid kb
 clear kB kR kN kb
 obtain ⟨v1, ev1⟩ : ∃ v, v = w.alloc (Z8p) := ⟨_, rfl⟩
 have bv1 := bnw ev1
 have sv1 := bsz ev1
 obtain ⟨g2, eg2⟩ : ∃ g, g = w.heap.size := ⟨_, rfl⟩
 have o2 : O8 v1 w.heap.size g2 0 0 := by rw [eg2, ev1]; exact O8.newz (Nat.le_refl _)
 have hc := bv1
 have hs1 := hc.size
 go_enter Tryz.func33, Tryz.ntmps33
 go_upto_region 1 with fail
 rw [← ev1]
 rw [show Value.pointer (some ⟨w.heap.size, 0, none⟩) = .pointer (some ⟨g2, 0, none⟩) by rw [eg2]]
 clear ev1 bv1 sv1 eg2 hs1
 go_wp2_with (first | ((with_reducible refine p_load o2 ?_ ?_); rfl))
 go_at_call 45
 refine (KF.out _ hc).mono ?_
 rintro e y2 ⟨rfl, h0⟩
 replace o2 := O8.keep o2 h0
 replace hc := bnx hc h0
 clear h0
 have on0 := O4.newz (w := y2) (Nat.le_refl _)
 have hl2 := OwnF.lt o2
 have o4 := (on0.put z).mono hc.size
 have hbz := ((Below.refl _ y2).alloc (Nat.le_refl _) Z4).trans (on0.below z)
 replace o2 := O8.keep o2 hbz
 replace hc := bnx hc hbz
 clear hbz
 go_upto_region 4 with (first | ((with_reducible refine n_store on0 z ?_ ?_ ?_); rfl; rfl))
 obtain ⟨y3, ev⟩ : ∃ v, v = set4w (y2.alloc Z4) y2.heap.size z := ⟨_, rfl⟩
 obtain ⟨g4, eg⟩ : ∃ g, g = y2.heap.size := ⟨_, rfl⟩
 rw [← ev] at o2 o4 hc ⊢
 rw [← eg] at o4 ⊢
 have n4_2 : g4 ≠ g2 := by omega
 clear hl2
 clear ev eg on0
 go_wp2_with (first | ((with_reducible refine p_load o2 ?_ ?_); rfl) | ((with_reducible refine n_load o4 ?_ ?_); rfl))
 go_at_call 66
 refine (KB.out _).mono ?_
 rintro e y4 ⟨rfl, h0⟩
 replace o2 := O8.keep o2 h0
 replace o4 := O4.keep o4 h0
 replace hc := bnx hc h0
 clear h0
 obtain ⟨c0, c1, c2, c3⟩ := o4.c4
 obtain ⟨f0, f1, f2, f3⟩ := o4.f4
 have han := HAN.out
 go_upto_region 6 with fail
 clear c0 c1 c2 c3 f0 f1 f2 f3 han
 have hb4 : Below w.heap.size y4 (y4.setCell ⟨g4, 3, none⟩ (.int .u64 (wd y 3 : Int))) := (Below.refl _ _).setCell (p := ⟨g4, 3, none⟩) o4.ge _
 replace hc := hc.trans hb4
 replace o2 := o2.only (Only.setCell y4 ⟨g4, 3, none⟩ (.int .u64 (wd y 3 : Int))) n4_2
 replace o4 := o4.set3 HZ.out
 clear hb4
 obtain ⟨v6, ev⟩ : ∃ v, v = y4.setCell ⟨g4, 3, none⟩ (.int .u64 (wd y 3 : Int)) := ⟨_, rfl⟩
 rw [← ev] at o2 o4 hc ⊢
 clear ev
 go_wp2_with (first | ((with_reducible refine p_load o2 ?_ ?_); rfl) | ((with_reducible refine n_load o4 ?_ ?_); rfl))
 go_at_call 67
 refine (KR.out _).mono ?_
 rintro e y5 ⟨rfl, h0⟩
 replace o2 := O8.keep o2 h0
 replace o4 := O4.keep o4 h0
 replace hc := bnx hc h0
 clear h0
 go_wp2_with (first | ((with_reducible refine p_load o2 ?_ ?_); rfl) | ((with_reducible refine n_load o4 ?_ ?_); rfl))
 go_at_call 68
 refine (KA.out _ (HG.out.next hc)).mono ?_
 rintro e v7 ⟨rfl, h0⟩
 replace o2 := O8.keep o2 h0
 replace o4 := O4.keep o4 h0
 replace hc := bnx hc h0
 clear h0
 have on0 := O4.newz (w := v7) (Nat.le_refl _)
 have hl2 := OwnF.lt o2
 have hl4 := OwnF.lt o4
 have o7 := (on0.put r).mono hc.size
 have hbz := ((Below.refl _ v7).alloc (Nat.le_refl _) Z4).trans (on0.below r)
 replace o2 := O8.keep o2 hbz
 replace o4 := O4.keep o4 hbz
 replace hc := bnx hc hbz
 clear hbz
 go_upto_region 9 with (first | ((with_reducible refine n_store on0 r ?_ ?_ ?_); rfl; rfl))
 obtain ⟨y6, ev⟩ : ∃ v, v = set4w (v7.alloc Z4) v7.heap.size r := ⟨_, rfl⟩
 obtain ⟨g7, eg⟩ : ∃ g, g = v7.heap.size := ⟨_, rfl⟩
 rw [← ev] at o2 o4 o7 hc ⊢
 rw [← eg] at o7 ⊢
 have n7_2 : g7 ≠ g2 := by omega
 have n7_4 : g7 ≠ g4 := by omega
 clear hl2 hl4
 clear ev eg on0
 go_wp2_with (first | ((with_reducible refine p_load o2 ?_ ?_); rfl) | ((with_reducible refine n_load o4 ?_ ?_); rfl) | ((with_reducible refine n_load o7 ?_ ?_); rfl))
 go_at_call 69
 refine (KN.out _).mono ?_
 rintro e y7 ⟨rfl, h0⟩
 replace o2 := O8.keep o2 h0
 replace o4 := O4.keep o4 h0
 replace o7 := O4.keep o7 h0
 replace hc := bnx hc h0
 clear h0
 have hbn := o7.below s
 have o7b := o7.put s
 replace o2 := o2.only (only4 y7 g7 s) n7_2
 replace o4 := o4.only (only4 y7 g7 s) n7_4
 replace hc := hc.trans hbn
 go_upto_region 11 with ((with_reducible refine n_store o7 s ?_ ?_ ?_); rfl; rfl)
 clear hbn o7
 obtain ⟨v9, ev⟩ : ∃ v, v = set4w y7 g7 s := ⟨_, rfl⟩
 rw [← ev] at o2 o4 o7b hc ⊢
 clear ev
 refine wp_region_obs 7 [37, 38, 39, 40, 41, 42, 43] [.val (.bool true), .val (.bool false), .val (.bool false), .val (nv s), .val (.int .u64 0), .val (.int .u64 1), .val (.bool true)] (fun wz => Below v9.heap.size v9 wz) (by kernel_rfl) (fun wz wz' hz hb => bnx hz hb) (Below.refl _ _) (fun u => by simp only [puts, List.foldl_cons, List.foldl_nil]; go_simp; exact rfl) ?_ ?_
 ·simp only [List.take_succ_cons, List.take_zero]
  refine .cons (fun u w hS hd => ?_) ?_
  ·exact Gv.run (.bool true) rfl (by go_simp) rfl
  refine .cons (fun u w hS hd => ?_) ?_
  ·have d37 : u 37 = .bool true := hd 0 (by decide)
   rw [d37]
   exact Gv.run (.bool false) rfl (by go_simp) rfl
  refine .cons (fun u w hS hd => ?_) ?_
  ·have d38 : u 38 = .bool false := hd 1 (by decide)
   rw [d38]
   exact Gv.run (.bool false) rfl (by go_simp) rfl
  refine .cons (fun u w hS hd => ?_) ?_
  ·have d39 : u 39 = .bool false := hd 2 (by decide)
   rw [d39]
   exact Gv.run (nv s) (by rfl) (run_nload rfl rfl (O4.keep o7b hS)) rfl
  refine .cons (fun u w hS hd => ?_) ?_
  ·have d39 : u 39 = .bool false := hd 2 (by decide)
   rw [d39]
   have d40 : u 40 = nv s := hd 3 (by decide)
   rw [d40]
   refine Gv.call 66 #[nv s, .int .i64 0] rfl (by go_simp) ((Kb.out w).mono ?_)
   rintro e w' ⟨rfl, hb⟩
   exact ⟨_, rfl, rfl, hb⟩
  refine .cons (fun u w hS hd => ?_) ?_
  ·have d39 : u 39 = .bool false := hd 2 (by decide)
   rw [d39]
   exact Gv.run (.int .u64 1) rfl (by go_simp) rfl
  refine .cons (fun u w hS hd => ?_) ?_
  ·have d39 : u 39 = .bool false := hd 2 (by decide)
   rw [d39]
   have d41 : u 41 = .int .u64 0 := hd 4 (by decide)
   rw [d41]
   have d42 : u 42 = .int .u64 1 := hd 5 (by decide)
   rw [d42]
   exact Gv.run (.bool true) rfl (by go_simp) rfl
  exact ObsS.nil
 intro uy8 y8 hS hd
 have d39 : uy8 39 = .bool false := hd 2 (by decide)
 have d43 : uy8 43 = .bool true := hd 6 (by decide)
 rw [d39, d43]
 replace o2 := O8.keep o2 hS
 replace o4 := O4.keep o4 hS
 replace o7b := O4.keep o7b hS
 replace hc := bnx hc hS
 clear hS hd d39 d43
 simp only [List.drop_succ_cons, List.drop_zero]
 have hfb := Lib.hid (hc.trans (o2.below 0 0))
 have HR := Lib.hid (o2.put 0 0)
 go_wp2_with (first | (with_reducible refine T_zero ?_) | ((with_reducible refine p_store o2 0 0 ?_ ?_ ?_); rfl; rfl))
 exact bodyPost_ret (pres2 Tryz.results33 _ HR.out rfl rfl) rfl ⟨rfl, hfb.out⟩
set_option maxHeartbeats 6400000 in
theorem cDecode_y11 {A : Option Addr} {c z y r s : Nat} (w : World) (han : bits .andNot .u64 (wd z 3 : Int) 9223372036854775808 = (wd y 3 : Int)) (hz : ∀ k, k < 3 → wd y k = wd z k)
  (kB : ∀ w, Calls Tryz.prog 66 #[nv z, .int .i64 255] w fun e w' => e = .returned (.int .u64 1) ∧ Below w.heap.size w w')
  (kR : ∀ w, Calls Tryz.prog 67 #[nv y] w fun e w' => e = .returned (.bool true) ∧ Below w.heap.size w w')
  (kN : ∀ w, Calls Tryz.prog 69 #[nv r] w fun e w' => e = .returned (nv s) ∧ Below w.heap.size w w')
  (kb : ∀ w, Calls Tryz.prog 66 #[nv s, .int .i64 0] w fun e w' => e = .returned (.int .u64 1) ∧ Below w.heap.size w w')
  (kF : ∀ v, Below w.heap.size w v → Calls Tryz.prog 45 #[.slice A 32 c] v fun e w' => e = .returned (.tuple #[nv z, .int .i64 0]) ∧ Below v.heap.size v w')
  (kA : ∀ w, Glb w → Calls Tryz.prog 68 #[nv y] w fun e w' => e = .returned (.tuple #[nv r, .bool true]) ∧ Below w.heap.size w w') (hG : Glb w) :
  Calls Tryz.prog 33 #[.slice A 32 c] w fun e w' => e = .returned (.tuple #[prv s y, .int .i64 0]) ∧ Below w.heap.size w w' := by
 have HAN := Lib.hid han
 have HZ := Lib.hid hz
 have KF := Lib.hid kF
 clear han hz kF
 have KA := Lib.hid kA
 have HG := Lib.hid hG
 clear kA hG
 have KB := Lib.hid kB
 have KR := Lib.hid kR
 have KN := Lib.hid kN
 have Kb := Lib.hid kb
 clear kB kR kN kb
 obtain ⟨v1, ev1⟩ : ∃ v, v = w.alloc (Z8p) := ⟨_, rfl⟩
 have bv1 := bnw ev1
 have sv1 := bsz ev1
 obtain ⟨g2, eg2⟩ : ∃ g, g = w.heap.size := ⟨_, rfl⟩
 have o2 : O8 v1 w.heap.size g2 0 0 := by rw [eg2, ev1]; exact O8.newz (Nat.le_refl _)
 have hc := bv1
 have hs1 := hc.size
 go_enter Tryz.func33, Tryz.ntmps33
 go_upto_region 1 with fail
 rw [← ev1]
 rw [show Value.pointer (some ⟨w.heap.size, 0, none⟩) = .pointer (some ⟨g2, 0, none⟩) by rw [eg2]]
 clear ev1 bv1 sv1 eg2 hs1
 go_wp2_with (first | ((with_reducible refine p_load o2 ?_ ?_); rfl))
 go_at_call 45
 refine (KF.out _ hc).mono ?_
 rintro e y2 ⟨rfl, h0⟩
 replace o2 := O8.keep o2 h0
 replace hc := bnx hc h0
 clear h0
 have on0 := O4.newz (w := y2) (Nat.le_refl _)
 have hl2 := OwnF.lt o2
 have o4 := (on0.put z).mono hc.size
 have hbz := ((Below.refl _ y2).alloc (Nat.le_refl _) Z4).trans (on0.below z)
 replace o2 := O8.keep o2 hbz
 replace hc := bnx hc hbz
 clear hbz
 go_upto_region 4 with (first | ((with_reducible refine n_store on0 z ?_ ?_ ?_); rfl; rfl))
 obtain ⟨y3, ev⟩ : ∃ v, v = set4w (y2.alloc Z4) y2.heap.size z := ⟨_, rfl⟩
 obtain ⟨g4, eg⟩ : ∃ g, g = y2.heap.size := ⟨_, rfl⟩
 rw [← ev] at o2 o4 hc ⊢
 rw [← eg] at o4 ⊢
 have n4_2 : g4 ≠ g2 := by omega
 clear hl2
 clear ev eg on0
 go_wp2_with (first | ((with_reducible refine p_load o2 ?_ ?_); rfl) | ((with_reducible refine n_load o4 ?_ ?_); rfl))
 go_at_call 66
 refine (KB.out _).mono ?_
 rintro e y4 ⟨rfl, h0⟩
 replace o2 := O8.keep o2 h0
 replace o4 := O4.keep o4 h0
 replace hc := bnx hc h0
 clear h0
 obtain ⟨c0, c1, c2, c3⟩ := o4.c4
 obtain ⟨f0, f1, f2, f3⟩ := o4.f4
 have han := HAN.out
 go_upto_region 6 with fail
 clear c0 c1 c2 c3 f0 f1 f2 f3 han
 have hb4 : Below w.heap.size y4 (y4.setCell ⟨g4, 3, none⟩ (.int .u64 (wd y 3 : Int))) := (Below.refl _ _).setCell (p := ⟨g4, 3, none⟩) o4.ge _
 replace hc := hc.trans hb4
 replace o2 := o2.only (Only.setCell y4 ⟨g4, 3, none⟩ (.int .u64 (wd y 3 : Int))) n4_2
 replace o4 := o4.set3 HZ.out
 clear hb4
 obtain ⟨v6, ev⟩ : ∃ v, v = y4.setCell ⟨g4, 3, none⟩ (.int .u64 (wd y 3 : Int)) := ⟨_, rfl⟩
 rw [← ev] at o2 o4 hc ⊢
 clear ev
 go_wp2_with (first | ((with_reducible refine p_load o2 ?_ ?_); rfl) | ((with_reducible refine n_load o4 ?_ ?_); rfl))
 go_at_call 67
 refine (KR.out _).mono ?_
 rintro e y5 ⟨rfl, h0⟩
 replace o2 := O8.keep o2 h0
 replace o4 := O4.keep o4 h0
 replace hc := bnx hc h0
 clear h0
 go_wp2_with (first | ((with_reducible refine p_load o2 ?_ ?_); rfl) | ((with_reducible refine n_load o4 ?_ ?_); rfl))
 go_at_call 68
 refine (KA.out _ (HG.out.next hc)).mono ?_
 rintro e v7 ⟨rfl, h0⟩
 replace o2 := O8.keep o2 h0
 replace o4 := O4.keep o4 h0
 replace hc := bnx hc h0
 clear h0
 have on0 := O4.newz (w := v7) (Nat.le_refl _)
 have hl2 := OwnF.lt o2
 have hl4 := OwnF.lt o4
 have o7 := (on0.put r).mono hc.size
 have hbz := ((Below.refl _ v7).alloc (Nat.le_refl _) Z4).trans (on0.below r)
 replace o2 := O8.keep o2 hbz
 replace o4 := O4.keep o4 hbz
 replace hc := bnx hc hbz
 clear hbz
 go_upto_region 9 with (first | ((with_reducible refine n_store on0 r ?_ ?_ ?_); rfl; rfl))
 obtain ⟨y6, ev⟩ : ∃ v, v = set4w (v7.alloc Z4) v7.heap.size r := ⟨_, rfl⟩
 obtain ⟨g7, eg⟩ : ∃ g, g = v7.heap.size := ⟨_, rfl⟩
 rw [← ev] at o2 o4 o7 hc ⊢
 rw [← eg] at o7 ⊢
 have n7_2 : g7 ≠ g2 := by omega
 have n7_4 : g7 ≠ g4 := by omega
 clear hl2 hl4
 clear ev eg on0
 go_wp2_with (first | ((with_reducible refine p_load o2 ?_ ?_); rfl) | ((with_reducible refine n_load o4 ?_ ?_); rfl) | ((with_reducible refine n_load o7 ?_ ?_); rfl))
 go_at_call 69
 refine (KN.out _).mono ?_
 rintro e y7 ⟨rfl, h0⟩
 replace o2 := O8.keep o2 h0
 replace o4 := O4.keep o4 h0
 replace o7 := O4.keep o7 h0
 replace hc := bnx hc h0
 clear h0
 have hbn := o7.below s
 have o7b := o7.put s
 replace o2 := o2.only (only4 y7 g7 s) n7_2
 replace o4 := o4.only (only4 y7 g7 s) n7_4
 replace hc := hc.trans hbn
 go_upto_region 11 with ((with_reducible refine n_store o7 s ?_ ?_ ?_); rfl; rfl)
 clear hbn o7
 obtain ⟨v9, ev⟩ : ∃ v, v = set4w y7 g7 s := ⟨_, rfl⟩
 rw [← ev] at o2 o4 o7b hc ⊢
 clear ev
 refine wp_region_obs 7 [37, 38, 39, 40, 41, 42, 43] [.val (.bool true), .val (.bool false), .val (.bool false), .val (nv s), .val (.int .u64 1), .val (.int .u64 1), .val (.bool false)] (fun wz => Below v9.heap.size v9 wz) (by kernel_rfl) (fun wz wz' hz hb => bnx hz hb) (Below.refl _ _) (fun u => by simp only [puts, List.foldl_cons, List.foldl_nil]; go_simp; exact rfl) ?_ ?_
 ·simp only [List.take_succ_cons, List.take_zero]
  refine .cons (fun u w hS hd => ?_) ?_
  ·exact Gv.run (.bool true) rfl (by go_simp) rfl
  refine .cons (fun u w hS hd => ?_) ?_
  ·have d37 : u 37 = .bool true := hd 0 (by decide)
   rw [d37]
   exact Gv.run (.bool false) rfl (by go_simp) rfl
  refine .cons (fun u w hS hd => ?_) ?_
  ·have d38 : u 38 = .bool false := hd 1 (by decide)
   rw [d38]
   exact Gv.run (.bool false) rfl (by go_simp) rfl
  refine .cons (fun u w hS hd => ?_) ?_
  ·have d39 : u 39 = .bool false := hd 2 (by decide)
   rw [d39]
   exact Gv.run (nv s) (by rfl) (run_nload rfl rfl (O4.keep o7b hS)) rfl
  refine .cons (fun u w hS hd => ?_) ?_
  ·have d39 : u 39 = .bool false := hd 2 (by decide)
   rw [d39]
   have d40 : u 40 = nv s := hd 3 (by decide)
   rw [d40]
   refine Gv.call 66 #[nv s, .int .i64 0] rfl (by go_simp) ((Kb.out w).mono ?_)
   rintro e w' ⟨rfl, hb⟩
   exact ⟨_, rfl, rfl, hb⟩
  refine .cons (fun u w hS hd => ?_) ?_
  ·have d39 : u 39 = .bool false := hd 2 (by decide)
   rw [d39]
   exact Gv.run (.int .u64 1) rfl (by go_simp) rfl
  refine .cons (fun u w hS hd => ?_) ?_
  ·have d39 : u 39 = .bool false := hd 2 (by decide)
   rw [d39]
   have d41 : u 41 = .int .u64 1 := hd 4 (by decide)
   rw [d41]
   have d42 : u 42 = .int .u64 1 := hd 5 (by decide)
   rw [d42]
   exact Gv.run (.bool false) rfl (by go_simp) rfl
  exact ObsS.nil
 intro uy8 y8 hS hd
 have d39 : uy8 39 = .bool false := hd 2 (by decide)
 have d43 : uy8 43 = .bool false := hd 6 (by decide)
 rw [d39, d43]
 replace o2 := O8.keep o2 hS
 replace o4 := O4.keep o4 hS
 replace o7b := O4.keep o7b hS
 replace hc := bnx hc hS
 clear hS hd d39 d43
 simp only [List.drop_succ_cons, List.drop_zero]
 have hfb := Lib.hid (hc.trans (o2.below s y))
 have HR := Lib.hid (o2.put s y)
 go_wp2_with (first | ((with_reducible refine n_load o7b ?_ ?_); rfl) | ((with_reducible refine n_load o4 ?_ ?_); rfl) | ((with_reducible refine T_two s y ?_ ?_ ?_); rfl; rfl) | ((with_reducible refine p_store o2 s y ?_ ?_ ?_); rfl; rfl))
 exact bodyPost_ret (pres2 Tryz.results33 _ HR.out rfl rfl) rfl ⟨rfl, hfb.out⟩
end
end Go.Proofs.YtkbkalhcdbklkaaGreatDoor
