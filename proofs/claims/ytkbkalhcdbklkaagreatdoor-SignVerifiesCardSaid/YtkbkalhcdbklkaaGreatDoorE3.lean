/-
  The document's plus (layer 8), over letters. Written by tools/gen_e3.py. By an AI agent.
-/
import Derived.Test.YtkbkalhcdbklkaaGreatDoorJ10
import Derived.Test.YtkbkalhcdbklkaaGreatDoorJ07
import Derived.Test.YtkbkalhcdbklkaaGreatDoorJ10
namespace Go.Proofs.YtkbkalhcdbklkaaGreatDoor
open Go Go.RowKit
section
attribute [local irreducible] wd by8 d16 set16w fl rl setA t3f
set_option maxRecDepth 20000
set_option maxHeartbeats 6400000 in
theorem plus_gen {dd a b xx yy s1 s2 xy e0 ee lo hi m1 X s3 m2 Y Z : Nat} {p q : Tr}
  (ka : ∀ w, Calls Tryz.prog 82 #[fv p.z, fv q.z] w fun e w' => e = .returned (fv a) ∧ Below w.heap.size w w')
  (kb : ∀ w, Calls Tryz.prog 82 #[fv a, fv a] w fun e w' => e = .returned (fv b) ∧ Below w.heap.size w w')
  (kxx : ∀ w, Calls Tryz.prog 82 #[fv p.x, fv q.x] w fun e w' => e = .returned (fv xx) ∧ Below w.heap.size w w')
  (kyy : ∀ w, Calls Tryz.prog 82 #[fv p.y, fv q.y] w fun e w' => e = .returned (fv yy) ∧ Below w.heap.size w w')
  (ks1 : ∀ w, Calls Tryz.prog 82 #[fv p.x, fv q.y] w fun e w' => e = .returned (fv s1) ∧ Below w.heap.size w w')
  (ks2 : ∀ w, Calls Tryz.prog 82 #[fv p.y, fv q.x] w fun e w' => e = .returned (fv s2) ∧ Below w.heap.size w w')
  (kxy : ∀ w, Calls Tryz.prog 112 #[fv s1, fv s2] w fun e w' => e = .returned (fv xy) ∧ Below w.heap.size w w')
  (ke0 : ∀ w, Calls Tryz.prog 82 #[fv xx, fv yy] w fun e w' => e = .returned (fv e0) ∧ Below w.heap.size w w')
  (kee : ∀ w, Calls Tryz.prog 82 #[fv dd, fv e0] w fun e w' => e = .returned (fv ee) ∧ Below w.heap.size w w')
  (klo : ∀ w, Calls Tryz.prog 111 #[fv b, fv ee] w fun e w' => e = .returned (fv lo) ∧ Below w.heap.size w w')
  (khi : ∀ w, Calls Tryz.prog 112 #[fv b, fv ee] w fun e w' => e = .returned (fv hi) ∧ Below w.heap.size w w')
  (km1 : ∀ w, Calls Tryz.prog 82 #[fv lo, fv xy] w fun e w' => e = .returned (fv m1) ∧ Below w.heap.size w w')
  (kX : ∀ w, Calls Tryz.prog 82 #[fv a, fv m1] w fun e w' => e = .returned (fv X) ∧ Below w.heap.size w w')
  (ks3 : ∀ w, Calls Tryz.prog 112 #[fv yy, fv xx] w fun e w' => e = .returned (fv s3) ∧ Below w.heap.size w w')
  (km2 : ∀ w, Calls Tryz.prog 82 #[fv hi, fv s3] w fun e w' => e = .returned (fv m2) ∧ Below w.heap.size w w')
  (kY : ∀ w, Calls Tryz.prog 82 #[fv a, fv m2] w fun e w' => e = .returned (fv Y) ∧ Below w.heap.size w w')
  (kZ : ∀ w, Calls Tryz.prog 82 #[fv lo, fv hi] w fun e w' => e = .returned (fv Z) ∧ Below w.heap.size w w')
  (w : World) : Calls Tryz.prog 81 #[fv dd, t3v p, t3v q] w fun e w' => e = .returned (t3v ⟨X, Y, Z⟩) ∧ Below w.heap.size w w' := by
 have Ka := Lib.hid ka
 have Kb := Lib.hid kb
 have Kxx := Lib.hid kxx
 have Kyy := Lib.hid kyy
 have Ks1 := Lib.hid ks1
 have Ks2 := Lib.hid ks2
 have Kxy := Lib.hid kxy
 have Ke0 := Lib.hid ke0
 have Kee := Lib.hid kee
 have Klo := Lib.hid klo
 have Khi := Lib.hid khi
 have Km1 := Lib.hid km1
 have KX := Lib.hid kX
 have Ks3 := Lib.hid ks3
 have Km2 := Lib.hid km2
 have KY := Lib.hid kY
 have KZ := Lib.hid kZ
 clear ka kb kxx kyy ks1 ks2 kxy ke0 kee klo khi km1 kX ks3 km2 kY kZ
 obtain ⟨v1, ev1⟩ : ∃ v, v = w.alloc (A16 dd) := ⟨_, rfl⟩
 have bv1 := bnw ev1
 have sv1 := bsz ev1
 obtain ⟨g3, eg3⟩ : ∃ g, g = w.heap.size := ⟨_, rfl⟩
 have o3 : O16 v1 w.heap.size g3 dd := by rw [eg3, ev1]; exact O16.new (Nat.le_refl _) dd
 have hc := bv1
 have hs1 := hc.size
 obtain ⟨v2, ev2⟩ : ∃ v, v = v1.alloc (AP p) := ⟨_, rfl⟩
 have bv2 := bnw ev2
 have sv2 := bsz ev2
 obtain ⟨g4, eg4⟩ : ∃ g, g = v1.heap.size := ⟨_, rfl⟩
 have o4 : O48 v2 v1.heap.size g4 p := by rw [eg4, ev2]; exact O48.new (Nat.le_refl _) p
 replace o3 := o3.keep bv2
 replace hc := bnx hc bv2
 replace o4 := o4.mono hs1
 have hs2 := hc.size
 obtain ⟨v3, ev3⟩ : ∃ v, v = v2.alloc (AP q) := ⟨_, rfl⟩
 have bv3 := bnw ev3
 have sv3 := bsz ev3
 obtain ⟨g5, eg5⟩ : ∃ g, g = v2.heap.size := ⟨_, rfl⟩
 have o5 : O48 v3 v2.heap.size g5 q := by rw [eg5, ev3]; exact O48.new (Nat.le_refl _) q
 replace o3 := o3.keep bv3
 replace o4 := o4.keep bv3
 replace hc := bnx hc bv3
 replace o5 := o5.mono hs2
 have hs3 := hc.size
 obtain ⟨v4, ev4⟩ : ∃ v, v = v3.alloc (Z48) := ⟨_, rfl⟩
 have bv4 := bnw ev4
 have sv4 := bsz ev4
 obtain ⟨g6, eg6⟩ : ∃ g, g = v3.heap.size := ⟨_, rfl⟩
 have o6 : OwnF v4 v3.heap.size 70 (some ⟨g6, 0, none⟩) 48 48 (fun _ => .int .i64 0) := by rw [eg6, ev4]; exact z48_new (Nat.le_refl _)
 replace o3 := o3.keep bv4
 replace o4 := o4.keep bv4
 replace o5 := o5.keep bv4
 replace hc := bnx hc bv4
 replace o6 := o6.mono hs3
 have hs4 := hc.size
 go_enter Tryz.func81, Tryz.ntmps81
 go_upto_region 1 with fail
 rw [← ev1, ← ev2, ← ev3, ← ev4]
 rw [show Value.pointer (some ⟨w.heap.size, 0, none⟩) = .pointer (some ⟨g3, 0, none⟩) by rw [eg3]]
 rw [show Value.pointer (some ⟨w.heap.size + 1, 0, none⟩) = .pointer (some ⟨g4, 0, none⟩) by rw [eg4, sv1]]
 rw [show Value.pointer (some ⟨w.heap.size + 2, 0, none⟩) = .pointer (some ⟨g5, 0, none⟩) by rw [eg5, sv2, sv1]]
 rw [show Value.pointer (some ⟨w.heap.size + 3, 0, none⟩) = .pointer (some ⟨g6, 0, none⟩) by rw [eg6, sv3, sv2, sv1]]
 clear ev1 bv1 sv1 ev2 bv2 sv2 ev3 bv3 sv3 ev4 bv4 sv4 eg3 eg4 eg5 eg6 hs1 hs2 hs3 hs4
 go_wp2_with (first | ((with_reducible refine fl_load o3 ?_ ?_); rfl) | ((with_reducible refine t3x_load o4 ?_ ?_); rfl) | ((with_reducible refine t3y_load o4 ?_ ?_); rfl) | ((with_reducible refine t3z_load o4 ?_ ?_); rfl) | ((with_reducible refine t3_load o4 ?_ ?_); rfl) | ((with_reducible refine t3x_load o5 ?_ ?_); rfl) | ((with_reducible refine t3y_load o5 ?_ ?_); rfl) | ((with_reducible refine t3z_load o5 ?_ ?_); rfl) | ((with_reducible refine t3_load o5 ?_ ?_); rfl))
 go_at_call 82
 refine (Ka.out _).mono ?_
 rintro e y5 ⟨rfl, h0⟩
 replace o3 := O16.keep o3 h0
 replace o4 := O48.keep o4 h0
 replace o5 := O48.keep o5 h0
 replace o6 := OwnF.keep o6 h0
 replace hc := bnx hc h0
 clear h0
 have on0 : O16 (y5.alloc Z16) y5.heap.size y5.heap.size 0 := O16.zero (own_Z16 (Nat.le_refl _))
 have o7 := on0.put a
 have hbz := ((Below.refl _ y5).alloc (Nat.le_refl _) Z16).trans (on0.below a)
 replace o3 := O16.keep o3 hbz
 replace o4 := O48.keep o4 hbz
 replace o5 := O48.keep o5 hbz
 replace o6 := OwnF.keep o6 hbz
 replace hc := bnx hc hbz
 clear hbz
 go_upto_region 2 with ((with_reducible refine fl_store on0 a ?_ ?_ ?_); rfl; rfl)
 obtain ⟨y6, ev⟩ : ∃ v, v = set16w (y5.alloc Z16) y5.heap.size a := ⟨_, rfl⟩
 obtain ⟨g7, eg⟩ : ∃ g, g = y5.heap.size := ⟨_, rfl⟩
 rw [← ev] at o3 o4 o5 o6 o7 hc ⊢
 rw [← eg] at o7 ⊢
 clear ev eg on0
 go_wp2_with (first | ((with_reducible refine fl_load o3 ?_ ?_); rfl) | ((with_reducible refine t3x_load o4 ?_ ?_); rfl) | ((with_reducible refine t3y_load o4 ?_ ?_); rfl) | ((with_reducible refine t3z_load o4 ?_ ?_); rfl) | ((with_reducible refine t3_load o4 ?_ ?_); rfl) | ((with_reducible refine t3x_load o5 ?_ ?_); rfl) | ((with_reducible refine t3y_load o5 ?_ ?_); rfl) | ((with_reducible refine t3z_load o5 ?_ ?_); rfl) | ((with_reducible refine t3_load o5 ?_ ?_); rfl) | ((with_reducible refine fl_load o7 ?_ ?_); rfl))
 go_at_call 82
 refine (Kb.out _).mono ?_
 rintro e y7 ⟨rfl, h0⟩
 replace o3 := O16.keep o3 h0
 replace o4 := O48.keep o4 h0
 replace o5 := O48.keep o5 h0
 replace o6 := OwnF.keep o6 h0
 replace o7 := O16.keep o7 h0
 replace hc := bnx hc h0
 clear h0
 have on0 : O16 (y7.alloc Z16) y7.heap.size y7.heap.size 0 := O16.zero (own_Z16 (Nat.le_refl _))
 have o8 := on0.put b
 have hbz := ((Below.refl _ y7).alloc (Nat.le_refl _) Z16).trans (on0.below b)
 replace o3 := O16.keep o3 hbz
 replace o4 := O48.keep o4 hbz
 replace o5 := O48.keep o5 hbz
 replace o6 := OwnF.keep o6 hbz
 replace o7 := O16.keep o7 hbz
 replace hc := bnx hc hbz
 clear hbz
 go_upto_region 3 with ((with_reducible refine fl_store on0 b ?_ ?_ ?_); rfl; rfl)
 obtain ⟨y8, ev⟩ : ∃ v, v = set16w (y7.alloc Z16) y7.heap.size b := ⟨_, rfl⟩
 obtain ⟨g8, eg⟩ : ∃ g, g = y7.heap.size := ⟨_, rfl⟩
 rw [← ev] at o3 o4 o5 o6 o7 o8 hc ⊢
 rw [← eg] at o8 ⊢
 clear ev eg on0
 refine wp_region_box 14 [some 23, some 24, some 25, some 26, some 27, some 28, some 29, some 30, some 31, some 32, some 9, some 10, none, none] [.val (.pointer (some ⟨g4, 0, none⟩)), .val (fv p.x), .val (.pointer (some ⟨g5, 0, none⟩)), .val (fv q.x), .val (fv xx), .val (.pointer (some ⟨g4, 16, none⟩)), .val (fv p.y), .val (.pointer (some ⟨g5, 16, none⟩)), .val (fv q.y), .val (fv yy), .box 68 16, .box 68 16, .holds 10 68 16 (dv16 xx), .holds 11 68 16 (dv16 yy)] y8.heap.size (fun wz => Below y8.heap.size y8 wz) (by kernel_rfl) (by kernel_rfl)
  (fun _ _ h _ hb => h.trans hb) ((Below.refl _ _).drew) (Nat.le_refl _) (fun u => by simp only [List.filterMap_cons, List.filterMap_nil, id, puts, List.foldl_cons, List.foldl_nil]; go_simp; exact rfl) ?_ ?_
 ·simp only [List.take_succ_cons, List.take_zero]
  refine .cons (fun u w L hL hS hBw hd => ?_) ?_
  ·exact GB.run 23 rfl (.pointer (some ⟨g4, 0, none⟩)) rfl (by go_simp) rfl rfl
  refine .cons (fun u w L hL hS hBw hd => ?_) ?_
  ·have d23 : u 23 = .pointer (some ⟨g4, 0, none⟩) := depB hd 0 rfl
   rw [d23]
   exact GB.run 24 rfl (fv p.x) rfl (run_Px rfl rfl (O48.keep o4 hS)) rfl rfl
  refine .cons (fun u w L hL hS hBw hd => ?_) ?_
  ·exact GB.run 25 rfl (.pointer (some ⟨g5, 0, none⟩)) rfl (by go_simp) rfl rfl
  refine .cons (fun u w L hL hS hBw hd => ?_) ?_
  ·have d25 : u 25 = .pointer (some ⟨g5, 0, none⟩) := depB hd 2 rfl
   rw [d25]
   exact GB.run 26 rfl (fv q.x) rfl (run_Px rfl rfl (O48.keep o5 hS)) rfl rfl
  refine .cons (fun u w L hL hS hBw hd => ?_) ?_
  ·have d24 : u 24 = fv p.x := depB hd 1 rfl
   rw [d24]
   have d26 : u 26 = fv q.x := depB hd 3 rfl
   rw [d26]
   refine GB.call 27 rfl 82 #[fv p.x, fv q.x] rfl (by go_simp) rfl ((Kxx.out w).mono ?_)
   rintro e w' ⟨rfl, hb⟩
   exact ⟨_, rfl, rfl, hb⟩
  refine .cons (fun u w L hL hS hBw hd => ?_) ?_
  ·exact GB.run 28 rfl (.pointer (some ⟨g4, 16, none⟩)) rfl (by go_simp) rfl rfl
  refine .cons (fun u w L hL hS hBw hd => ?_) ?_
  ·have d28 : u 28 = .pointer (some ⟨g4, 16, none⟩) := depB hd 5 rfl
   rw [d28]
   exact GB.run 29 rfl (fv p.y) rfl (run_Py rfl rfl (O48.keep o4 hS)) rfl rfl
  refine .cons (fun u w L hL hS hBw hd => ?_) ?_
  ·exact GB.run 30 rfl (.pointer (some ⟨g5, 16, none⟩)) rfl (by go_simp) rfl rfl
  refine .cons (fun u w L hL hS hBw hd => ?_) ?_
  ·have d30 : u 30 = .pointer (some ⟨g5, 16, none⟩) := depB hd 7 rfl
   rw [d30]
   exact GB.run 31 rfl (fv q.y) rfl (run_Py rfl rfl (O48.keep o5 hS)) rfl rfl
  refine .cons (fun u w L hL hS hBw hd => ?_) ?_
  ·have d29 : u 29 = fv p.y := depB hd 6 rfl
   rw [d29]
   have d31 : u 31 = fv q.y := depB hd 8 rfl
   rw [d31]
   refine GB.call 32 rfl 82 #[fv p.y, fv q.y] rfl (by go_simp) rfl ((Kyy.out w).mono ?_)
   rintro e w' ⟨rfl, hb⟩
   exact ⟨_, rfl, rfl, hb⟩
  refine .cons (fun u w L hL hS hBw hd => ?_) ?_
  ·exact GB.alloc 9 rfl rfl #[.int .i64 0, .int .i64 0, .int .i64 0, .int .i64 0, .int .i64 0, .int .i64 0, .int .i64 0, .int .i64 0, .int .i64 0, .int .i64 0, .int .i64 0, .int .i64 0, .int .i64 0, .int .i64 0, .int .i64 0, .int .i64 0] 68 16 (fun _ => .int .i64 0) rfl rfl (by go_simp) hBw (by decide) rfl
  refine .cons (fun u w L hL hS hBw hd => ?_) ?_
  ·exact GB.alloc 10 rfl rfl #[.int .i64 0, .int .i64 0, .int .i64 0, .int .i64 0, .int .i64 0, .int .i64 0, .int .i64 0, .int .i64 0, .int .i64 0, .int .i64 0, .int .i64 0, .int .i64 0, .int .i64 0, .int .i64 0, .int .i64 0, .int .i64 0] 68 16 (fun _ => .int .i64 0) rfl rfl (by go_simp) hBw (by decide) rfl
  refine .cons (fun u w L hL hS hBw hd => ?_) ?_
  ·have d27 : u 27 = fv xx := depB hd 4 rfl
   obtain ⟨g, fg, e9, o9⟩ : (Fact.box 68 16).ok y8.heap.size [some 23, some 24, some 25, some 26, some 27, some 28, some 29, some 30, some 31, some 32, some 9, some 10, none, none] 10 u w L := depB hd 10 rfl
   exact GB.store rfl 10 g 68 16 (dv16 xx) rfl rfl rfl e9 (run_fstore rfl (by exact e9) (by exact d27) o9) (only16 w g xx) (put16 o9 xx)
  refine .cons (fun u w L hL hS hBw hd => ?_) ?_
  ·have d32 : u 32 = fv yy := depB hd 9 rfl
   obtain ⟨g, fg, e10, o10⟩ : (Fact.box 68 16).ok y8.heap.size [some 23, some 24, some 25, some 26, some 27, some 28, some 29, some 30, some 31, some 32, some 9, some 10, none, none] 11 u w L := depB hd 11 rfl
   exact GB.store rfl 11 g 68 16 (dv16 yy) rfl rfl rfl e10 (run_fstore rfl (by exact e10) (by exact d32) o10) (only16 w g yy) (put16 o10 yy)
  exact ObsB.nil
 intro uy9 y9 hS hd
 obtain ⟨g9, eg9, o9⟩ : (Fact.holds 10 68 16 (dv16 xx)).ok y8.heap.size [some 23, some 24, some 25, some 26, some 27, some 28, some 29, some 30, some 31, some 32, some 9, some 10, none, none] 12 uy9 y9 (fun _ => true) := hd 12 (by decide)
 replace eg9 : uy9 9 = .pointer (some ⟨g9, 0, none⟩) := eg9
 replace o9 : O16 y9 y8.heap.size g9 xx := o9
 replace o9 := o9.mono hc.size
 obtain ⟨g10, eg10, o10⟩ : (Fact.holds 11 68 16 (dv16 yy)).ok y8.heap.size [some 23, some 24, some 25, some 26, some 27, some 28, some 29, some 30, some 31, some 32, some 9, some 10, none, none] 13 uy9 y9 (fun _ => true) := hd 13 (by decide)
 replace eg10 : uy9 10 = .pointer (some ⟨g10, 0, none⟩) := eg10
 replace o10 : O16 y9 y8.heap.size g10 yy := o10
 replace o10 := o10.mono hc.size
 replace o3 := O16.keep o3 hS
 replace o4 := O48.keep o4 hS
 replace o5 := O48.keep o5 hS
 replace o6 := OwnF.keep o6 hS
 replace o7 := O16.keep o7 hS
 replace o8 := O16.keep o8 hS
 replace hc := bnx hc hS
 rw [eg9, eg10]
 clear hS hd eg9 eg10
 simp only [List.drop_succ_cons, List.drop_zero]
 go_upto_region 4 with fail
 refine wp_region_box 13 [some 33, some 34, some 35, some 36, some 37, some 38, some 39, some 40, some 41, some 42, some 43, some 11, none] [.val (.pointer (some ⟨g4, 0, none⟩)), .val (fv p.x), .val (.pointer (some ⟨g5, 16, none⟩)), .val (fv q.y), .val (fv s1), .val (.pointer (some ⟨g4, 16, none⟩)), .val (fv p.y), .val (.pointer (some ⟨g5, 0, none⟩)), .val (fv q.x), .val (fv s2), .val (fv xy), .box 68 16, .holds 11 68 16 (dv16 xy)] y9.heap.size (fun wz => Below y9.heap.size y9 wz) (by kernel_rfl) (by kernel_rfl)
  (fun _ _ h _ hb => h.trans hb) ((Below.refl _ _).drew) (Nat.le_refl _) (fun u => by simp only [List.filterMap_cons, List.filterMap_nil, id, puts, List.foldl_cons, List.foldl_nil]; go_simp; exact rfl) ?_ ?_
 ·simp only [List.take_succ_cons, List.take_zero]
  refine .cons (fun u w L hL hS hBw hd => ?_) ?_
  ·exact GB.run 33 rfl (.pointer (some ⟨g4, 0, none⟩)) rfl (by go_simp) rfl rfl
  refine .cons (fun u w L hL hS hBw hd => ?_) ?_
  ·have d33 : u 33 = .pointer (some ⟨g4, 0, none⟩) := depB hd 0 rfl
   rw [d33]
   exact GB.run 34 rfl (fv p.x) rfl (run_Px rfl rfl (O48.keep o4 hS)) rfl rfl
  refine .cons (fun u w L hL hS hBw hd => ?_) ?_
  ·exact GB.run 35 rfl (.pointer (some ⟨g5, 16, none⟩)) rfl (by go_simp) rfl rfl
  refine .cons (fun u w L hL hS hBw hd => ?_) ?_
  ·have d35 : u 35 = .pointer (some ⟨g5, 16, none⟩) := depB hd 2 rfl
   rw [d35]
   exact GB.run 36 rfl (fv q.y) rfl (run_Py rfl rfl (O48.keep o5 hS)) rfl rfl
  refine .cons (fun u w L hL hS hBw hd => ?_) ?_
  ·have d34 : u 34 = fv p.x := depB hd 1 rfl
   rw [d34]
   have d36 : u 36 = fv q.y := depB hd 3 rfl
   rw [d36]
   refine GB.call 37 rfl 82 #[fv p.x, fv q.y] rfl (by go_simp) rfl ((Ks1.out w).mono ?_)
   rintro e w' ⟨rfl, hb⟩
   exact ⟨_, rfl, rfl, hb⟩
  refine .cons (fun u w L hL hS hBw hd => ?_) ?_
  ·exact GB.run 38 rfl (.pointer (some ⟨g4, 16, none⟩)) rfl (by go_simp) rfl rfl
  refine .cons (fun u w L hL hS hBw hd => ?_) ?_
  ·have d38 : u 38 = .pointer (some ⟨g4, 16, none⟩) := depB hd 5 rfl
   rw [d38]
   exact GB.run 39 rfl (fv p.y) rfl (run_Py rfl rfl (O48.keep o4 hS)) rfl rfl
  refine .cons (fun u w L hL hS hBw hd => ?_) ?_
  ·exact GB.run 40 rfl (.pointer (some ⟨g5, 0, none⟩)) rfl (by go_simp) rfl rfl
  refine .cons (fun u w L hL hS hBw hd => ?_) ?_
  ·have d40 : u 40 = .pointer (some ⟨g5, 0, none⟩) := depB hd 7 rfl
   rw [d40]
   exact GB.run 41 rfl (fv q.x) rfl (run_Px rfl rfl (O48.keep o5 hS)) rfl rfl
  refine .cons (fun u w L hL hS hBw hd => ?_) ?_
  ·have d39 : u 39 = fv p.y := depB hd 6 rfl
   rw [d39]
   have d41 : u 41 = fv q.x := depB hd 8 rfl
   rw [d41]
   refine GB.call 42 rfl 82 #[fv p.y, fv q.x] rfl (by go_simp) rfl ((Ks2.out w).mono ?_)
   rintro e w' ⟨rfl, hb⟩
   exact ⟨_, rfl, rfl, hb⟩
  refine .cons (fun u w L hL hS hBw hd => ?_) ?_
  ·have d37 : u 37 = fv s1 := depB hd 4 rfl
   rw [d37]
   have d42 : u 42 = fv s2 := depB hd 9 rfl
   rw [d42]
   refine GB.call 43 rfl 112 #[fv s1, fv s2] rfl (by go_simp) rfl ((Kxy.out w).mono ?_)
   rintro e w' ⟨rfl, hb⟩
   exact ⟨_, rfl, rfl, hb⟩
  refine .cons (fun u w L hL hS hBw hd => ?_) ?_
  ·exact GB.alloc 11 rfl rfl #[.int .i64 0, .int .i64 0, .int .i64 0, .int .i64 0, .int .i64 0, .int .i64 0, .int .i64 0, .int .i64 0, .int .i64 0, .int .i64 0, .int .i64 0, .int .i64 0, .int .i64 0, .int .i64 0, .int .i64 0, .int .i64 0] 68 16 (fun _ => .int .i64 0) rfl rfl (by go_simp) hBw (by decide) rfl
  refine .cons (fun u w L hL hS hBw hd => ?_) ?_
  ·have d43 : u 43 = fv xy := depB hd 10 rfl
   obtain ⟨g, fg, e11, o11⟩ : (Fact.box 68 16).ok y9.heap.size [some 33, some 34, some 35, some 36, some 37, some 38, some 39, some 40, some 41, some 42, some 43, some 11, none] 11 u w L := depB hd 11 rfl
   exact GB.store rfl 11 g 68 16 (dv16 xy) rfl rfl rfl e11 (run_fstore rfl (by exact e11) (by exact d43) o11) (only16 w g xy) (put16 o11 xy)
  exact ObsB.nil
 intro uy10 y10 hS hd
 obtain ⟨g11, eg11, o11⟩ : (Fact.holds 11 68 16 (dv16 xy)).ok y9.heap.size [some 33, some 34, some 35, some 36, some 37, some 38, some 39, some 40, some 41, some 42, some 43, some 11, none] 12 uy10 y10 (fun _ => true) := hd 12 (by decide)
 replace eg11 : uy10 11 = .pointer (some ⟨g11, 0, none⟩) := eg11
 replace o11 : O16 y10 y9.heap.size g11 xy := o11
 replace o11 := o11.mono hc.size
 replace o3 := O16.keep o3 hS
 replace o4 := O48.keep o4 hS
 replace o5 := O48.keep o5 hS
 replace o6 := OwnF.keep o6 hS
 replace o7 := O16.keep o7 hS
 replace o8 := O16.keep o8 hS
 replace o9 := O16.keep o9 hS
 replace o10 := O16.keep o10 hS
 replace hc := bnx hc hS
 rw [eg11]
 clear hS hd eg11
 simp only [List.drop_succ_cons, List.drop_zero]
 go_upto_region 5 with fail
 refine wp_region_box 7 [some 44, some 45, some 46, some 47, some 48, some 12, none] [.val (fv dd), .val (fv xx), .val (fv yy), .val (fv e0), .val (fv ee), .box 68 16, .holds 5 68 16 (dv16 ee)] y10.heap.size (fun wz => Below y10.heap.size y10 wz) (by kernel_rfl) (by kernel_rfl)
  (fun _ _ h _ hb => h.trans hb) ((Below.refl _ _).drew) (Nat.le_refl _) (fun u => by simp only [List.filterMap_cons, List.filterMap_nil, id, puts, List.foldl_cons, List.foldl_nil]; go_simp; exact rfl) ?_ ?_
 ·simp only [List.take_succ_cons, List.take_zero]
  refine .cons (fun u w L hL hS hBw hd => ?_) ?_
  ·exact GB.run 44 rfl (fv dd) rfl (run_fload rfl rfl (o3.keep hS)) rfl rfl
  refine .cons (fun u w L hL hS hBw hd => ?_) ?_
  ·exact GB.run 45 rfl (fv xx) rfl (run_fload rfl rfl (o9.keep hS)) rfl rfl
  refine .cons (fun u w L hL hS hBw hd => ?_) ?_
  ·exact GB.run 46 rfl (fv yy) rfl (run_fload rfl rfl (o10.keep hS)) rfl rfl
  refine .cons (fun u w L hL hS hBw hd => ?_) ?_
  ·have d45 : u 45 = fv xx := depB hd 1 rfl
   rw [d45]
   have d46 : u 46 = fv yy := depB hd 2 rfl
   rw [d46]
   refine GB.call 47 rfl 82 #[fv xx, fv yy] rfl (by go_simp) rfl ((Ke0.out w).mono ?_)
   rintro e w' ⟨rfl, hb⟩
   exact ⟨_, rfl, rfl, hb⟩
  refine .cons (fun u w L hL hS hBw hd => ?_) ?_
  ·have d44 : u 44 = fv dd := depB hd 0 rfl
   rw [d44]
   have d47 : u 47 = fv e0 := depB hd 3 rfl
   rw [d47]
   refine GB.call 48 rfl 82 #[fv dd, fv e0] rfl (by go_simp) rfl ((Kee.out w).mono ?_)
   rintro e w' ⟨rfl, hb⟩
   exact ⟨_, rfl, rfl, hb⟩
  refine .cons (fun u w L hL hS hBw hd => ?_) ?_
  ·exact GB.alloc 12 rfl rfl #[.int .i64 0, .int .i64 0, .int .i64 0, .int .i64 0, .int .i64 0, .int .i64 0, .int .i64 0, .int .i64 0, .int .i64 0, .int .i64 0, .int .i64 0, .int .i64 0, .int .i64 0, .int .i64 0, .int .i64 0, .int .i64 0] 68 16 (fun _ => .int .i64 0) rfl rfl (by go_simp) hBw (by decide) rfl
  refine .cons (fun u w L hL hS hBw hd => ?_) ?_
  ·have d48 : u 48 = fv ee := depB hd 4 rfl
   obtain ⟨g, fg, e12, o12⟩ : (Fact.box 68 16).ok y10.heap.size [some 44, some 45, some 46, some 47, some 48, some 12, none] 5 u w L := depB hd 5 rfl
   exact GB.store rfl 5 g 68 16 (dv16 ee) rfl rfl rfl e12 (run_fstore rfl (by exact e12) (by exact d48) o12) (only16 w g ee) (put16 o12 ee)
  exact ObsB.nil
 intro uy11 y11 hS hd
 obtain ⟨g12, eg12, o12⟩ : (Fact.holds 5 68 16 (dv16 ee)).ok y10.heap.size [some 44, some 45, some 46, some 47, some 48, some 12, none] 6 uy11 y11 (fun _ => true) := hd 6 (by decide)
 replace eg12 : uy11 12 = .pointer (some ⟨g12, 0, none⟩) := eg12
 replace o12 : O16 y11 y10.heap.size g12 ee := o12
 replace o12 := o12.mono hc.size
 replace o3 := O16.keep o3 hS
 replace o4 := O48.keep o4 hS
 replace o5 := O48.keep o5 hS
 replace o6 := OwnF.keep o6 hS
 replace o7 := O16.keep o7 hS
 replace o8 := O16.keep o8 hS
 replace o9 := O16.keep o9 hS
 replace o10 := O16.keep o10 hS
 replace o11 := O16.keep o11 hS
 replace hc := bnx hc hS
 rw [eg12]
 clear hS hd eg12
 simp only [List.drop_succ_cons, List.drop_zero]
 go_upto_region 6 with fail
 refine wp_region_box 10 [some 49, some 50, some 51, some 52, some 53, some 54, some 13, some 14, none, none] [.val (fv b), .val (fv ee), .val (fv lo), .val (fv b), .val (fv ee), .val (fv hi), .box 68 16, .box 68 16, .holds 6 68 16 (dv16 lo), .holds 7 68 16 (dv16 hi)] y11.heap.size (fun wz => Below y11.heap.size y11 wz) (by kernel_rfl) (by kernel_rfl)
  (fun _ _ h _ hb => h.trans hb) ((Below.refl _ _).drew) (Nat.le_refl _) (fun u => by simp only [List.filterMap_cons, List.filterMap_nil, id, puts, List.foldl_cons, List.foldl_nil]; go_simp; exact rfl) ?_ ?_
 ·simp only [List.take_succ_cons, List.take_zero]
  refine .cons (fun u w L hL hS hBw hd => ?_) ?_
  ·exact GB.run 49 rfl (fv b) rfl (run_fload rfl rfl (o8.keep hS)) rfl rfl
  refine .cons (fun u w L hL hS hBw hd => ?_) ?_
  ·exact GB.run 50 rfl (fv ee) rfl (run_fload rfl rfl (o12.keep hS)) rfl rfl
  refine .cons (fun u w L hL hS hBw hd => ?_) ?_
  ·have d49 : u 49 = fv b := depB hd 0 rfl
   rw [d49]
   have d50 : u 50 = fv ee := depB hd 1 rfl
   rw [d50]
   refine GB.call 51 rfl 111 #[fv b, fv ee] rfl (by go_simp) rfl ((Klo.out w).mono ?_)
   rintro e w' ⟨rfl, hb⟩
   exact ⟨_, rfl, rfl, hb⟩
  refine .cons (fun u w L hL hS hBw hd => ?_) ?_
  ·exact GB.run 52 rfl (fv b) rfl (run_fload rfl rfl (o8.keep hS)) rfl rfl
  refine .cons (fun u w L hL hS hBw hd => ?_) ?_
  ·exact GB.run 53 rfl (fv ee) rfl (run_fload rfl rfl (o12.keep hS)) rfl rfl
  refine .cons (fun u w L hL hS hBw hd => ?_) ?_
  ·have d52 : u 52 = fv b := depB hd 3 rfl
   rw [d52]
   have d53 : u 53 = fv ee := depB hd 4 rfl
   rw [d53]
   refine GB.call 54 rfl 112 #[fv b, fv ee] rfl (by go_simp) rfl ((Khi.out w).mono ?_)
   rintro e w' ⟨rfl, hb⟩
   exact ⟨_, rfl, rfl, hb⟩
  refine .cons (fun u w L hL hS hBw hd => ?_) ?_
  ·exact GB.alloc 13 rfl rfl #[.int .i64 0, .int .i64 0, .int .i64 0, .int .i64 0, .int .i64 0, .int .i64 0, .int .i64 0, .int .i64 0, .int .i64 0, .int .i64 0, .int .i64 0, .int .i64 0, .int .i64 0, .int .i64 0, .int .i64 0, .int .i64 0] 68 16 (fun _ => .int .i64 0) rfl rfl (by go_simp) hBw (by decide) rfl
  refine .cons (fun u w L hL hS hBw hd => ?_) ?_
  ·exact GB.alloc 14 rfl rfl #[.int .i64 0, .int .i64 0, .int .i64 0, .int .i64 0, .int .i64 0, .int .i64 0, .int .i64 0, .int .i64 0, .int .i64 0, .int .i64 0, .int .i64 0, .int .i64 0, .int .i64 0, .int .i64 0, .int .i64 0, .int .i64 0] 68 16 (fun _ => .int .i64 0) rfl rfl (by go_simp) hBw (by decide) rfl
  refine .cons (fun u w L hL hS hBw hd => ?_) ?_
  ·have d51 : u 51 = fv lo := depB hd 2 rfl
   obtain ⟨g, fg, e13, o13⟩ : (Fact.box 68 16).ok y11.heap.size [some 49, some 50, some 51, some 52, some 53, some 54, some 13, some 14, none, none] 6 u w L := depB hd 6 rfl
   exact GB.store rfl 6 g 68 16 (dv16 lo) rfl rfl rfl e13 (run_fstore rfl (by exact e13) (by exact d51) o13) (only16 w g lo) (put16 o13 lo)
  refine .cons (fun u w L hL hS hBw hd => ?_) ?_
  ·have d54 : u 54 = fv hi := depB hd 5 rfl
   obtain ⟨g, fg, e14, o14⟩ : (Fact.box 68 16).ok y11.heap.size [some 49, some 50, some 51, some 52, some 53, some 54, some 13, some 14, none, none] 7 u w L := depB hd 7 rfl
   exact GB.store rfl 7 g 68 16 (dv16 hi) rfl rfl rfl e14 (run_fstore rfl (by exact e14) (by exact d54) o14) (only16 w g hi) (put16 o14 hi)
  exact ObsB.nil
 intro uy12 y12 hS hd
 obtain ⟨g13, eg13, o13⟩ : (Fact.holds 6 68 16 (dv16 lo)).ok y11.heap.size [some 49, some 50, some 51, some 52, some 53, some 54, some 13, some 14, none, none] 8 uy12 y12 (fun _ => true) := hd 8 (by decide)
 replace eg13 : uy12 13 = .pointer (some ⟨g13, 0, none⟩) := eg13
 replace o13 : O16 y12 y11.heap.size g13 lo := o13
 replace o13 := o13.mono hc.size
 obtain ⟨g14, eg14, o14⟩ : (Fact.holds 7 68 16 (dv16 hi)).ok y11.heap.size [some 49, some 50, some 51, some 52, some 53, some 54, some 13, some 14, none, none] 9 uy12 y12 (fun _ => true) := hd 9 (by decide)
 replace eg14 : uy12 14 = .pointer (some ⟨g14, 0, none⟩) := eg14
 replace o14 : O16 y12 y11.heap.size g14 hi := o14
 replace o14 := o14.mono hc.size
 replace o3 := O16.keep o3 hS
 replace o4 := O48.keep o4 hS
 replace o5 := O48.keep o5 hS
 replace o6 := OwnF.keep o6 hS
 replace o7 := O16.keep o7 hS
 replace o8 := O16.keep o8 hS
 replace o9 := O16.keep o9 hS
 replace o10 := O16.keep o10 hS
 replace o11 := O16.keep o11 hS
 replace o12 := O16.keep o12 hS
 replace hc := bnx hc hS
 rw [eg13, eg14]
 clear hS hd eg13 eg14
 simp only [List.drop_succ_cons, List.drop_zero]
 go_upto_region 7 with fail
 refine wp_region_inv 16 [55, 56, 57, 58, 59, 60, 61, 62, 63, 64, 65, 66, 67, 68, 69, 70] [.val (fv a), .val (fv lo), .val (fv xy), .val (fv m1), .val (fv X), .val (fv a), .val (fv hi), .val (fv yy), .val (fv xx), .val (fv s3), .val (fv m2), .val (fv Y), .val (fv lo), .val (fv hi), .val (fv Z), .val (t3v ⟨X, Y, Z⟩)] (fun wz => Below y12.heap.size y12 wz) (by kernel_rfl) (by kernel_rfl) (fun wz wz' hz hb => bnx hz hb) ((Below.refl _ _).drew) (fun u => by simp only [puts, List.foldl_cons, List.foldl_nil]; go_simp; exact rfl) ?_ ?_
 ·simp only [List.take_succ_cons, List.take_zero]
  refine .cons (fun u w hS hd => ?_) ?_
  ·exact Gv.run (fv a) rfl (run_fload rfl rfl (o7.keep hS)) rfl
  refine .cons (fun u w hS hd => ?_) ?_
  ·exact Gv.run (fv lo) rfl (run_fload rfl rfl (o13.keep hS)) rfl
  refine .cons (fun u w hS hd => ?_) ?_
  ·exact Gv.run (fv xy) rfl (run_fload rfl rfl (o11.keep hS)) rfl
  refine .cons (fun u w hS hd => ?_) ?_
  ·have d56 : u 56 = fv lo := dep hd 1 rfl
   rw [d56]
   have d57 : u 57 = fv xy := dep hd 2 rfl
   rw [d57]
   refine Gv.call 82 #[fv lo, fv xy] rfl (by go_simp) ((Km1.out w).mono ?_)
   rintro e w' ⟨rfl, hb⟩
   exact ⟨_, rfl, rfl, hb⟩
  refine .cons (fun u w hS hd => ?_) ?_
  ·have d55 : u 55 = fv a := dep hd 0 rfl
   rw [d55]
   have d58 : u 58 = fv m1 := dep hd 3 rfl
   rw [d58]
   refine Gv.call 82 #[fv a, fv m1] rfl (by go_simp) ((KX.out w).mono ?_)
   rintro e w' ⟨rfl, hb⟩
   exact ⟨_, rfl, rfl, hb⟩
  refine .cons (fun u w hS hd => ?_) ?_
  ·exact Gv.run (fv a) rfl (run_fload rfl rfl (o7.keep hS)) rfl
  refine .cons (fun u w hS hd => ?_) ?_
  ·exact Gv.run (fv hi) rfl (run_fload rfl rfl (o14.keep hS)) rfl
  refine .cons (fun u w hS hd => ?_) ?_
  ·exact Gv.run (fv yy) rfl (run_fload rfl rfl (o10.keep hS)) rfl
  refine .cons (fun u w hS hd => ?_) ?_
  ·exact Gv.run (fv xx) rfl (run_fload rfl rfl (o9.keep hS)) rfl
  refine .cons (fun u w hS hd => ?_) ?_
  ·have d62 : u 62 = fv yy := dep hd 7 rfl
   rw [d62]
   have d63 : u 63 = fv xx := dep hd 8 rfl
   rw [d63]
   refine Gv.call 112 #[fv yy, fv xx] rfl (by go_simp) ((Ks3.out w).mono ?_)
   rintro e w' ⟨rfl, hb⟩
   exact ⟨_, rfl, rfl, hb⟩
  refine .cons (fun u w hS hd => ?_) ?_
  ·have d61 : u 61 = fv hi := dep hd 6 rfl
   rw [d61]
   have d64 : u 64 = fv s3 := dep hd 9 rfl
   rw [d64]
   refine Gv.call 82 #[fv hi, fv s3] rfl (by go_simp) ((Km2.out w).mono ?_)
   rintro e w' ⟨rfl, hb⟩
   exact ⟨_, rfl, rfl, hb⟩
  refine .cons (fun u w hS hd => ?_) ?_
  ·have d60 : u 60 = fv a := dep hd 5 rfl
   rw [d60]
   have d65 : u 65 = fv m2 := dep hd 10 rfl
   rw [d65]
   refine Gv.call 82 #[fv a, fv m2] rfl (by go_simp) ((KY.out w).mono ?_)
   rintro e w' ⟨rfl, hb⟩
   exact ⟨_, rfl, rfl, hb⟩
  refine .cons (fun u w hS hd => ?_) ?_
  ·exact Gv.run (fv lo) rfl (run_fload rfl rfl (o13.keep hS)) rfl
  refine .cons (fun u w hS hd => ?_) ?_
  ·exact Gv.run (fv hi) rfl (run_fload rfl rfl (o14.keep hS)) rfl
  refine .cons (fun u w hS hd => ?_) ?_
  ·have d67 : u 67 = fv lo := dep hd 12 rfl
   rw [d67]
   have d68 : u 68 = fv hi := dep hd 13 rfl
   rw [d68]
   refine Gv.call 82 #[fv lo, fv hi] rfl (by go_simp) ((KZ.out w).mono ?_)
   rintro e w' ⟨rfl, hb⟩
   exact ⟨_, rfl, rfl, hb⟩
  refine .cons (fun u w hS hd => ?_) ?_
  ·have d59 : u 59 = fv X := dep hd 4 rfl
   rw [d59]
   have d66 : u 66 = fv Y := dep hd 11 rfl
   rw [d66]
   have d69 : u 69 = fv Z := dep hd 14 rfl
   rw [d69]
   exact Gv.run (t3v ⟨X, Y, Z⟩) rfl (run_Pbuild rfl rfl rfl rfl) rfl
  exact Obs.nil
 intro uy13 y13 hS hd
 have d70 : uy13 70 = t3v ⟨X, Y, Z⟩ := hd 15 (by decide)
 rw [d70]
 replace o3 := O16.keep o3 hS
 replace o4 := O48.keep o4 hS
 replace o5 := O48.keep o5 hS
 replace o6 := OwnF.keep o6 hS
 replace o7 := O16.keep o7 hS
 replace o8 := O16.keep o8 hS
 replace o9 := O16.keep o9 hS
 replace o10 := O16.keep o10 hS
 replace o11 := O16.keep o11 hS
 replace o12 := O16.keep o12 hS
 replace o13 := O16.keep o13 hS
 replace o14 := O16.keep o14 hS
 replace hc := bnx hc hS
 clear hS hd d70
 simp only [List.drop_succ_cons, List.drop_zero]
 have hfb := hc.trans (t3_below o6 ⟨X, Y, Z⟩)
 have or := t3_put o6 ⟨X, Y, Z⟩
 have HF := Lib.hid hfb
 have HR := Lib.hid or
 clear hfb or
 go_wp2_with ((with_reducible refine t3_store o6 ⟨X, Y, Z⟩ ?_ ?_ ?_); rfl; rfl)
 exact bodyPost_ret (t3_res Tryz.results81 _ HR.out rfl) rfl ⟨rfl, HF.out⟩
end
end Go.Proofs.YtkbkalhcdbklkaaGreatDoor
