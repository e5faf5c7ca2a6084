/-
  The document's D, Nought, Plus (layer 8), over letters. Written by tools/gen_e4.py. By an AI agent. (and more)
-/
import Derived.Test.YtkbkalhcdbklkaaGreatDoorE3
import Derived.Test.YtkbkalhcdbklkaaGreatDoorJ13
import Derived.Test.YtkbkalhcdbklkaaGreatDoorJ14
import Derived.Test.YtkbkalhcdbklkaaGreatDoorJ10
import Derived.Test.YtkbkalhcdbklkaaGreatDoorMT
namespace Go.Proofs.YtkbkalhcdbklkaaGreatDoor
section
open Go Go.RowKit
section
attribute [local irreducible] wd by8 d16 set16w fl rl setA t3f set8p set4w
set_option maxRecDepth 20000
set_option maxHeartbeats 6400000 in
theorem D_gen {m1 m2 nc ng n1 sc iv D : Nat}
  (k1 : ∀ w, Calls Tryz.prog 83 #[.int .i64 65535] w fun e w' => e = .returned (fv m1) ∧ Below w.heap.size w w')
  (k2 : ∀ w, Calls Tryz.prog 83 #[.int .i64 56130] w fun e w' => e = .returned (fv m2) ∧ Below w.heap.size w w')
  (k3 : ∀ w, Calls Tryz.prog 112 #[fv m1, fv m2] w fun e w' => e = .returned (fv nc) ∧ Below w.heap.size w w')
  (k4 : ∀ w, Calls Tryz.prog 113 #[fv nc] w fun e w' => e = .returned (fv ng) ∧ Below w.heap.size w w')
  (k5 : ∀ w, Calls Tryz.prog 83 #[.int .i64 1] w fun e w' => e = .returned (fv n1) ∧ Below w.heap.size w w')
  (k6 : ∀ w, Calls Tryz.prog 112 #[fv nc, fv n1] w fun e w' => e = .returned (fv sc) ∧ Below w.heap.size w w')
  (k7 : ∀ w, Calls Tryz.prog 84 #[fv sc] w fun e w' => e = .returned (fv iv) ∧ Below w.heap.size w w')
  (k8 : ∀ w, Calls Tryz.prog 82 #[fv ng, fv iv] w fun e w' => e = .returned (fv D) ∧ Below w.heap.size w w')
  (w : World) : Calls Tryz.prog 80 #[] w fun e w' => e = .returned (fv D) ∧ Below w.heap.size w w' := by
 have K1 := Lib.hid k1
 have K2 := Lib.hid k2
 have K3 := Lib.hid k3
 have K4 := Lib.hid k4
 have K5 := Lib.hid k5
 have K6 := Lib.hid k6
 have K7 := Lib.hid k7
 have K8 := Lib.hid k8
 clear k1 k2 k3 k4 k5 k6 k7 k8
 obtain ⟨v1, ev1⟩ : ∃ v, v = w.alloc (Z16) := ⟨_, rfl⟩
 have bv1 := bnw ev1
 have sv1 := bsz ev1
 obtain ⟨g0, eg0⟩ : ∃ g, g = w.heap.size := ⟨_, rfl⟩
 have o0 : O16 v1 w.heap.size g0 0 := by rw [eg0, ev1]; exact O16.zero (own_Z16 (Nat.le_refl _))
 have hc := bv1
 have hs1 := hc.size
 go_enter Tryz.func80, Tryz.ntmps80
 go_upto_region 1 with fail
 rw [← ev1]
 rw [show Value.pointer (some ⟨w.heap.size, 0, none⟩) = .pointer (some ⟨g0, 0, none⟩) by rw [eg0]]
 clear ev1 bv1 sv1 eg0 hs1
 go_wp2_with fail
 go_at_call 83
 refine (K1.out _).mono ?_
 rintro e y2 ⟨rfl, h0⟩
 replace o0 := O16.keep o0 h0
 replace hc := bnx hc h0
 clear h0
 go_wp2_with fail
 go_at_call 83
 refine (K2.out _).mono ?_
 rintro e y3 ⟨rfl, h0⟩
 replace o0 := O16.keep o0 h0
 replace hc := bnx hc h0
 clear h0
 go_wp2_with fail
 go_at_call 112
 refine (K3.out _).mono ?_
 rintro e y4 ⟨rfl, h0⟩
 replace o0 := O16.keep o0 h0
 replace hc := bnx hc h0
 clear h0
 have on0 : O16 (y4.alloc Z16) y4.heap.size y4.heap.size 0 := O16.zero (own_Z16 (Nat.le_refl _))
 have o1 := on0.put nc
 have hbz := ((Below.refl _ y4).alloc (Nat.le_refl _) Z16).trans (on0.below nc)
 replace o0 := O16.keep o0 hbz
 replace hc := bnx hc hbz
 clear hbz
 go_upto_region 2 with ((with_reducible refine fl_store on0 nc ?_ ?_ ?_); rfl; rfl)
 obtain ⟨y5, ev⟩ : ∃ v, v = set16w (y4.alloc Z16) y4.heap.size nc := ⟨_, rfl⟩
 obtain ⟨g1, eg⟩ : ∃ g, g = y4.heap.size := ⟨_, rfl⟩
 rw [← ev] at o0 o1 hc ⊢
 rw [← eg] at o1 ⊢
 clear ev eg on0
 refine wp_region_inv 7 [5, 6, 7, 8, 9, 10, 11] [.val (fv nc), .val (fv ng), .val (fv nc), .val (fv n1), .val (fv sc), .val (fv iv), .val (fv D)] (fun wz => Below y5.heap.size y5 wz) (by kernel_rfl) (by kernel_rfl) (fun wz wz' hz hb => bnx hz hb) ((Below.refl _ _).drew) (fun u => by simp only [puts, List.foldl_cons, List.foldl_nil]; go_simp; exact rfl) ?_ ?_
 ·simp only [List.take_succ_cons, List.take_zero]
  refine .cons (fun u w hS hd => ?_) ?_
  ·exact Gv.run (fv nc) rfl (run_fload rfl rfl (o1.keep hS)) rfl
  refine .cons (fun u w hS hd => ?_) ?_
  ·have d5 : u 5 = fv nc := dep hd 0 rfl
   rw [d5]
   refine Gv.call 113 #[fv nc] rfl (by go_simp) ((K4.out w).mono ?_)
   rintro e w' ⟨rfl, hb⟩
   exact ⟨_, rfl, rfl, hb⟩
  refine .cons (fun u w hS hd => ?_) ?_
  ·exact Gv.run (fv nc) rfl (run_fload rfl rfl (o1.keep hS)) rfl
  refine .cons (fun u w hS hd => ?_) ?_
  ·refine Gv.call 83 #[.int .i64 1] rfl (by go_simp) ((K5.out w).mono ?_)
   rintro e w' ⟨rfl, hb⟩
   exact ⟨_, rfl, rfl, hb⟩
  refine .cons (fun u w hS hd => ?_) ?_
  ·have d7 : u 7 = fv nc := dep hd 2 rfl
   rw [d7]
   have d8 : u 8 = fv n1 := dep hd 3 rfl
   rw [d8]
   refine Gv.call 112 #[fv nc, fv n1] rfl (by go_simp) ((K6.out w).mono ?_)
   rintro e w' ⟨rfl, hb⟩
   exact ⟨_, rfl, rfl, hb⟩
  refine .cons (fun u w hS hd => ?_) ?_
  ·have d9 : u 9 = fv sc := dep hd 4 rfl
   rw [d9]
   refine Gv.call 84 #[fv sc] rfl (by go_simp) ((K7.out w).mono ?_)
   rintro e w' ⟨rfl, hb⟩
   exact ⟨_, rfl, rfl, hb⟩
  refine .cons (fun u w hS hd => ?_) ?_
  ·have d6 : u 6 = fv ng := dep hd 1 rfl
   rw [d6]
   have d10 : u 10 = fv iv := dep hd 5 rfl
   rw [d10]
   refine Gv.call 82 #[fv ng, fv iv] rfl (by go_simp) ((K8.out w).mono ?_)
   rintro e w' ⟨rfl, hb⟩
   exact ⟨_, rfl, rfl, hb⟩
  exact Obs.nil
 intro uy6 y6 hS hd
 have d11 : uy6 11 = fv D := hd 6 (by decide)
 rw [d11]
 replace o0 := O16.keep o0 hS
 replace o1 := O16.keep o1 hS
 replace hc := bnx hc hS
 clear hS hd d11
 simp only [List.drop_succ_cons, List.drop_zero]
 have hfb := Lib.hid (hc.trans (o0.below D))
 have HR := Lib.hid (o0.put D)
 go_wp2_with ((with_reducible refine fl_store o0 D ?_ ?_ ?_); rfl; rfl)
 exact bodyPost_ret (fres Tryz.results80 _ HR.out rfl) rfl ⟨rfl, hfb.out⟩
set_option maxHeartbeats 6400000 in
theorem Nought_gen {n0 n1 : Nat}
  (k1 : ∀ w, Calls Tryz.prog 83 #[.int .i64 0] w fun e w' => e = .returned (fv n0) ∧ Below w.heap.size w w')
  (k2 : ∀ w, Calls Tryz.prog 83 #[.int .i64 1] w fun e w' => e = .returned (fv n1) ∧ Below w.heap.size w w')
  (w : World) : Calls Tryz.prog 79 #[] w fun e w' => e = .returned (t3v ⟨n0, n1, n1⟩) ∧ Below w.heap.size w w' := by
 have K1 := Lib.hid k1
 have K2 := Lib.hid k2
 clear k1 k2
 obtain ⟨v1, ev1⟩ : ∃ v, v = w.alloc (Z48) := ⟨_, rfl⟩
 have bv1 := bnw ev1
 have sv1 := bsz ev1
 obtain ⟨g0, eg0⟩ : ∃ g, g = w.heap.size := ⟨_, rfl⟩
 have o0 : OwnF v1 w.heap.size 70 (some ⟨g0, 0, none⟩) 48 48 (fun _ => .int .i64 0) := by rw [eg0, ev1]; exact z48_new (Nat.le_refl _)
 have hc := bv1
 have hs1 := hc.size
 go_enter Tryz.func79, Tryz.ntmps79
 go_upto_region 1 with fail
 rw [← ev1]
 rw [show Value.pointer (some ⟨w.heap.size, 0, none⟩) = .pointer (some ⟨g0, 0, none⟩) by rw [eg0]]
 clear ev1 bv1 sv1 eg0 hs1
 go_wp2_with fail
 go_at_call 83
 refine (K1.out _).mono ?_
 rintro e y2 ⟨rfl, h0⟩
 replace o0 := OwnF.keep o0 h0
 replace hc := bnx hc h0
 clear h0
 go_wp2_with fail
 go_at_call 83
 refine (K2.out _).mono ?_
 rintro e y3 ⟨rfl, h0⟩
 replace o0 := OwnF.keep o0 h0
 replace hc := bnx hc h0
 clear h0
 go_wp2_with fail
 go_at_call 83
 refine (K2.out _).mono ?_
 rintro e y4 ⟨rfl, h0⟩
 replace o0 := OwnF.keep o0 h0
 replace hc := bnx hc h0
 clear h0
 have hfb := Lib.hid (hc.trans (t3_below o0 (⟨n0, n1, n1⟩)))
 have HR := Lib.hid (t3_put o0 (⟨n0, n1, n1⟩))
 go_wp2_with (first | ((with_reducible refine t3_built (x := n0) (y := n1) (z := n1) ?_ ?_ ?_ ?_); rfl; rfl; rfl) | ((with_reducible refine t3_store o0 (⟨n0, n1, n1⟩) ?_ ?_ ?_); rfl; rfl))
 exact bodyPost_ret (t3_res Tryz.results79 _ HR.out rfl) rfl ⟨rfl, hfb.out⟩
set_option maxHeartbeats 6400000 in
theorem Plus_gen {D : Nat} {p q r : Tr}
  (k1 : ∀ w, Calls Tryz.prog 80 #[] w fun e w' => e = .returned (fv D) ∧ Below w.heap.size w w')
  (k2 : ∀ w, Calls Tryz.prog 81 #[fv D, t3v p, t3v q] w fun e w' => e = .returned (t3v r) ∧ Below w.heap.size w w')
  (w : World) : Calls Tryz.prog 41 #[t3v p, t3v q] w fun e w' => e = .returned (t3v r) ∧ Below w.heap.size w w' := by
 have K1 := Lib.hid k1
 have K2 := Lib.hid k2
 clear k1 k2
 obtain ⟨v1, ev1⟩ : ∃ v, v = w.alloc (AP p) := ⟨_, rfl⟩
 have bv1 := bnw ev1
 have sv1 := bsz ev1
 obtain ⟨g2, eg2⟩ : ∃ g, g = w.heap.size := ⟨_, rfl⟩
 have o2 : O48 v1 w.heap.size g2 p := by rw [eg2, ev1]; exact O48.new (Nat.le_refl _) p
 have hc := bv1
 have hs1 := hc.size
 obtain ⟨v2, ev2⟩ : ∃ v, v = v1.alloc (AP q) := ⟨_, rfl⟩
 have bv2 := bnw ev2
 have sv2 := bsz ev2
 obtain ⟨g3, eg3⟩ : ∃ g, g = v1.heap.size := ⟨_, rfl⟩
 have o3 : O48 v2 v1.heap.size g3 q := by rw [eg3, ev2]; exact O48.new (Nat.le_refl _) q
 replace o2 := o2.keep bv2
 replace hc := bnx hc bv2
 replace o3 := o3.mono hs1
 have hs2 := hc.size
 obtain ⟨v3, ev3⟩ : ∃ v, v = v2.alloc (Z48) := ⟨_, rfl⟩
 have bv3 := bnw ev3
 have sv3 := bsz ev3
 obtain ⟨g4, eg4⟩ : ∃ g, g = v2.heap.size := ⟨_, rfl⟩
 have o4 : OwnF v3 v2.heap.size 70 (some ⟨g4, 0, none⟩) 48 48 (fun _ => .int .i64 0) := by rw [eg4, ev3]; exact z48_new (Nat.le_refl _)
 replace o2 := o2.keep bv3
 replace o3 := o3.keep bv3
 replace hc := bnx hc bv3
 replace o4 := o4.mono hs2
 have hs3 := hc.size
 go_enter Tryz.func41, Tryz.ntmps41
 go_upto_region 1 with fail
 rw [← ev1, ← ev2, ← ev3]
 rw [show Value.pointer (some ⟨w.heap.size, 0, none⟩) = .pointer (some ⟨g2, 0, none⟩) by rw [eg2]]
 rw [show Value.pointer (some ⟨w.heap.size + 1, 0, none⟩) = .pointer (some ⟨g3, 0, none⟩) by rw [eg3, sv1]]
 rw [show Value.pointer (some ⟨w.heap.size + 2, 0, none⟩) = .pointer (some ⟨g4, 0, none⟩) by rw [eg4, sv2, sv1]]
 clear ev1 bv1 sv1 ev2 bv2 sv2 ev3 bv3 sv3 eg2 eg3 eg4 hs1 hs2 hs3
 refine wp_region_inv 4 [5, 6, 7, 8] [.val (fv D), .val (t3v p), .val (t3v q), .val (t3v r)] (fun wz => Below v3.heap.size v3 wz) (by kernel_rfl) (by kernel_rfl) (fun wz wz' hz hb => bnx hz hb) ((Below.refl _ _).drew) (fun u => by simp only [puts, List.foldl_cons, List.foldl_nil]; go_simp; exact rfl) ?_ ?_
 ·simp only [List.take_succ_cons, List.take_zero]
  refine .cons (fun u w hS hd => ?_) ?_
  ·refine Gv.call 80 #[] rfl (by go_simp) ((K1.out w).mono ?_)
   rintro e w' ⟨rfl, hb⟩
   exact ⟨_, rfl, rfl, hb⟩
  refine .cons (fun u w hS hd => ?_) ?_
  ·exact Gv.run (t3v p) rfl (run_Pload rfl rfl (O48.keep o2 hS)) rfl
  refine .cons (fun u w hS hd => ?_) ?_
  ·exact Gv.run (t3v q) rfl (run_Pload rfl rfl (O48.keep o3 hS)) rfl
  refine .cons (fun u w hS hd => ?_) ?_
  ·have d5 : u 5 = fv D := dep hd 0 rfl
   rw [d5]
   have d6 : u 6 = t3v p := dep hd 1 rfl
   rw [d6]
   have d7 : u 7 = t3v q := dep hd 2 rfl
   rw [d7]
   refine Gv.call 81 #[fv D, t3v p, t3v q] rfl (by go_simp) ((K2.out w).mono ?_)
   rintro e w' ⟨rfl, hb⟩
   exact ⟨_, rfl, rfl, hb⟩
  exact Obs.nil
 intro uy4 y4 hS hd
 have d8 : uy4 8 = t3v r := hd 3 (by decide)
 rw [d8]
 replace o2 := O48.keep o2 hS
 replace o3 := O48.keep o3 hS
 replace o4 := OwnF.keep o4 hS
 replace hc := bnx hc hS
 clear hS hd d8
 simp only [List.drop_succ_cons, List.drop_zero]
 have hfb := Lib.hid (hc.trans (t3_below o4 (r)))
 have HR := Lib.hid (t3_put o4 (r))
 go_wp2_with (first | ((with_reducible refine t3_built (x := r.x) (y := r.y) (z := r.z) ?_ ?_ ?_ ?_); rfl; rfl; rfl) | ((with_reducible refine t3_store o4 (r) ?_ ?_ ?_); rfl; rfl))
 exact bodyPost_ret (t3_res Tryz.results41 _ HR.out rfl) rfl ⟨rfl, hfb.out⟩
end
end
section
open Go Go.RowKit
section
attribute [local irreducible] wd by8 d16 set16w fl rl setA t3f set8p set4w
set_option maxRecDepth 20000
set_option maxHeartbeats 6400000 in
theorem Point_gen {t : Tr} {iv a b : Nat}
  (k1 : ∀ w, Calls Tryz.prog 84 #[fv t.z] w fun e w' => e = .returned (fv iv) ∧ Below w.heap.size w w')
  (k2 : ∀ w, Calls Tryz.prog 82 #[fv t.x, fv iv] w fun e w' => e = .returned (fv a) ∧ Below w.heap.size w w')
  (k3 : ∀ w, Calls Tryz.prog 85 #[fv a] w fun e w' => e = .returned (nv a) ∧ Below w.heap.size w w')
  (k4 : ∀ w, Calls Tryz.prog 82 #[fv t.y, fv iv] w fun e w' => e = .returned (fv b) ∧ Below w.heap.size w w')
  (k5 : ∀ w, Calls Tryz.prog 85 #[fv b] w fun e w' => e = .returned (nv b) ∧ Below w.heap.size w w')
  (w : World) : Calls Tryz.prog 42 #[t3v t] w fun e w' => e = .returned (prv a b) ∧ Below w.heap.size w w' := by
 have K1 := Lib.hid k1
 have K2 := Lib.hid k2
 have K3 := Lib.hid k3
 have K4 := Lib.hid k4
 have K5 := Lib.hid k5
 clear k1 k2 k3 k4 k5
 obtain ⟨v1, ev1⟩ : ∃ v, v = w.alloc (AP t) := ⟨_, rfl⟩
 have bv1 := bnw ev1
 have sv1 := bsz ev1
 obtain ⟨g1, eg1⟩ : ∃ g, g = w.heap.size := ⟨_, rfl⟩
 have o1 : O48 v1 w.heap.size g1 t := by rw [eg1, ev1]; exact O48.new (Nat.le_refl _) t
 have hc := bv1
 have hs1 := hc.size
 obtain ⟨v2, ev2⟩ : ∃ v, v = v1.alloc (Z8p) := ⟨_, rfl⟩
 have bv2 := bnw ev2
 have sv2 := bsz ev2
 obtain ⟨g2, eg2⟩ : ∃ g, g = v1.heap.size := ⟨_, rfl⟩
 have o2 : O8 v2 v1.heap.size g2 0 0 := by rw [eg2, ev2]; exact O8.newz (Nat.le_refl _)
 replace o1 := o1.keep bv2
 replace hc := bnx hc bv2
 replace o2 := o2.mono hs1
 have hs2 := hc.size
 go_enter Tryz.func42, Tryz.ntmps42
 go_upto_region 1 with fail
 rw [← ev1, ← ev2]
 rw [show Value.pointer (some ⟨w.heap.size, 0, none⟩) = .pointer (some ⟨g1, 0, none⟩) by rw [eg1]]
 rw [show Value.pointer (some ⟨w.heap.size + 1, 0, none⟩) = .pointer (some ⟨g2, 0, none⟩) by rw [eg2, sv1]]
 clear ev1 bv1 sv1 ev2 bv2 sv2 eg1 eg2 hs1 hs2
 go_wp2_with (first | ((with_reducible refine t3x_load o1 ?_ ?_); rfl) | ((with_reducible refine t3y_load o1 ?_ ?_); rfl) | ((with_reducible refine t3z_load o1 ?_ ?_); rfl) | ((with_reducible refine t3_load o1 ?_ ?_); rfl))
 go_at_call 84
 refine (K1.out _).mono ?_
 rintro e y3 ⟨rfl, h0⟩
 replace o1 := O48.keep o1 h0
 replace o2 := O8.keep o2 h0
 replace hc := bnx hc h0
 clear h0
 have on0 : O16 (y3.alloc Z16) y3.heap.size y3.heap.size 0 := O16.zero (own_Z16 (Nat.le_refl _))
 have o3 := on0.put iv
 have hbz := ((Below.refl _ y3).alloc (Nat.le_refl _) Z16).trans (on0.below iv)
 replace o1 := O48.keep o1 hbz
 replace o2 := O8.keep o2 hbz
 replace hc := bnx hc hbz
 clear hbz
 go_upto_region 2 with ((with_reducible refine fl_store on0 iv ?_ ?_ ?_); rfl; rfl)
 obtain ⟨y4, ev⟩ : ∃ v, v = set16w (y3.alloc Z16) y3.heap.size iv := ⟨_, rfl⟩
 obtain ⟨g3, eg⟩ : ∃ g, g = y3.heap.size := ⟨_, rfl⟩
 rw [← ev] at o1 o2 o3 hc ⊢
 rw [← eg] at o3 ⊢
 clear ev eg on0
 refine wp_region_inv 11 [7, 8, 9, 10, 11, 12, 13, 14, 15, 16, 17] [.val (.pointer (some ⟨g1, 0, none⟩)), .val (fv t.x), .val (fv iv), .val (fv a), .val (nv a), .val (.pointer (some ⟨g1, 16, none⟩)), .val (fv t.y), .val (fv iv), .val (fv b), .val (nv b), .val (prv a b)] (fun wz => Below y4.heap.size y4 wz) (by kernel_rfl) (by kernel_rfl) (fun wz wz' hz hb => bnx hz hb) ((Below.refl _ _).drew) (fun u => by simp only [puts, List.foldl_cons, List.foldl_nil]; go_simp; exact rfl) ?_ ?_
 ·simp only [List.take_succ_cons, List.take_zero]
  refine .cons (fun u w hS hd => ?_) ?_
  ·exact Gv.run (.pointer (some ⟨g1, 0, none⟩)) rfl (by go_simp) rfl
  refine .cons (fun u w hS hd => ?_) ?_
  ·have d7 : u 7 = .pointer (some ⟨g1, 0, none⟩) := dep hd 0 rfl
   rw [d7]
   exact Gv.run (fv t.x) rfl (run_Px rfl rfl (O48.keep o1 hS)) rfl
  refine .cons (fun u w hS hd => ?_) ?_
  ·exact Gv.run (fv iv) rfl (run_fload rfl rfl (o3.keep hS)) rfl
  refine .cons (fun u w hS hd => ?_) ?_
  ·have d8 : u 8 = fv t.x := dep hd 1 rfl
   rw [d8]
   have d9 : u 9 = fv iv := dep hd 2 rfl
   rw [d9]
   refine Gv.call 82 #[fv t.x, fv iv] rfl (by go_simp) ((K2.out w).mono ?_)
   rintro e w' ⟨rfl, hb⟩
   exact ⟨_, rfl, rfl, hb⟩
  refine .cons (fun u w hS hd => ?_) ?_
  ·have d10 : u 10 = fv a := dep hd 3 rfl
   rw [d10]
   refine Gv.call 85 #[fv a] rfl (by go_simp) ((K3.out w).mono ?_)
   rintro e w' ⟨rfl, hb⟩
   exact ⟨_, rfl, rfl, hb⟩
  refine .cons (fun u w hS hd => ?_) ?_
  ·exact Gv.run (.pointer (some ⟨g1, 16, none⟩)) rfl (by go_simp) rfl
  refine .cons (fun u w hS hd => ?_) ?_
  ·have d12 : u 12 = .pointer (some ⟨g1, 16, none⟩) := dep hd 5 rfl
   rw [d12]
   exact Gv.run (fv t.y) rfl (run_Py rfl rfl (O48.keep o1 hS)) rfl
  refine .cons (fun u w hS hd => ?_) ?_
  ·exact Gv.run (fv iv) rfl (run_fload rfl rfl (o3.keep hS)) rfl
  refine .cons (fun u w hS hd => ?_) ?_
  ·have d13 : u 13 = fv t.y := dep hd 6 rfl
   rw [d13]
   have d14 : u 14 = fv iv := dep hd 7 rfl
   rw [d14]
   refine Gv.call 82 #[fv t.y, fv iv] rfl (by go_simp) ((K4.out w).mono ?_)
   rintro e w' ⟨rfl, hb⟩
   exact ⟨_, rfl, rfl, hb⟩
  refine .cons (fun u w hS hd => ?_) ?_
  ·have d15 : u 15 = fv b := dep hd 8 rfl
   rw [d15]
   refine Gv.call 85 #[fv b] rfl (by go_simp) ((K5.out w).mono ?_)
   rintro e w' ⟨rfl, hb⟩
   exact ⟨_, rfl, rfl, hb⟩
  refine .cons (fun u w hS hd => ?_) ?_
  ·have d11 : u 11 = nv a := dep hd 4 rfl
   rw [d11]
   have d16 : u 16 = nv b := dep hd 9 rfl
   rw [d16]
   exact Gv.run (prv a b) rfl (run_Tbuild rfl rfl rfl) rfl
  exact Obs.nil
 intro uy5 y5 hS hd
 have d17 : uy5 17 = prv a b := hd 10 (by decide)
 rw [d17]
 replace o1 := O48.keep o1 hS
 replace o2 := O8.keep o2 hS
 replace o3 := O16.keep o3 hS
 replace hc := bnx hc hS
 clear hS hd d17
 simp only [List.drop_succ_cons, List.drop_zero]
 have hfb := Lib.hid (hc.trans (o2.below a b))
 have HR := Lib.hid (o2.put a b)
 go_wp2_with ((with_reducible refine p_store o2 a b ?_ ?_ ?_); rfl; rfl)
 exact bodyPost_ret (pres Tryz.results42 _ HR.out rfl) rfl ⟨rfl, hfb.out⟩
end
end
section
open Go Go.RowKit
section
attribute [local irreducible] wd by8 d16 set16w fl rl setA t3f set8p set4w
set_option maxRecDepth 20000
end
end
section
open Go Go.RowKit
theorem set16w_eq (w : World) (g y : Nat) : w.setCells g 0 (fl y) = set16w w g y := rfl
attribute [local irreducible] wd by8 d16 set16w fl
set_option maxRecDepth 20000
set_option maxHeartbeats 1600000 in
theorem rinvert_any {a : Nat} (ha : a < P25) (w : World) :
  Calls Tryz.prog 84 #[fv a] w fun e w' => e = .returned (fv (a ^ (P25 - 2) % P25)) ∧ Below w.heap.size w w' := by
 have hE : (P25 - 2) / 1 = P25 - 2 := Nat.div_one _
 have k1 := fun w => rless_any (n := 2) (b := 1) (by decide) (by decide) (by decide) w
 rw [hE] at k1
 have k1' : ∀ w, Calls Tryz.prog 116 #[.int .i64 2, .int .i64 1] w fun e w' => ∃ A c m, e = .returned (.slice A m c) ∧ DOwn w' w.heap.size A c m (P25 - 2) ∧ Below w.heap.size w w' := k1
 have hEW : P25 - 2 < W4 := Nat.lt_of_le_of_lt (Nat.sub_le _ _) P25_W4
 have K1 := Lib.hid k1'
 have KL := Lib.hid (fun n (hn : Can n (P25 - 2)) => Can.le32 hn hEW)
 have K2 : Hid (∀ (A : Option Addr) (c n : Nat) (w : World), Dig w w.heap.size A c n (P25 - 2) → n ≤ 32 → Calls Tryz.prog 115 #[fv a, .slice A n c] w fun r' w' => r' = .returned (fv (a ^ (P25 - 2) % P25)) ∧ Below w.heap.size w w') := Lib.hid (fun A c n w h hn => rpower_any ha (by omega) w h (Nat.le_refl _))
 have hs : (w.alloc (A16 a)).heap.size = w.heap.size + 1 := by simp
 have ox := (O16.new (w := w) (Nat.le_refl _) a).alloc Z16
 have oz := O16.zero (own_Z16 (w := w.alloc (A16 a)) (B := w.heap.size) (by omega))
 rw [hs] at oz
 have hc := ((Below.refl _ w).alloc (Nat.le_refl _) (A16 a)).alloc (by omega) Z16
 clear k1 k1' hE hEW ha hs
 generalize P25 - 2 = E at *
 obtain ⟨r, hr⟩ : ∃ r, r = a ^ E % P25 := ⟨_, rfl⟩
 rw [← hr] at K2 ⊢
 clear hr
 go_enter Tryz.func84, Tryz.ntmps84
 go_upto_region 1 with fail
 obtain ⟨v0, e0⟩ : ∃ u, u = (w.alloc (A16 a)).alloc Z16 := ⟨_, rfl⟩
 rw [← e0] at ox oz hc ⊢
 clear e0
 have hs := hc.size
 have finf : (Tryz.prog.info? 68).map (·.size) = some (fl a).length := by rw [fl_len]; exact f_info
 have farr := f_arr
 have flen := fl_len a
 have fone : ∀ v ∈ fl a, v.oneCell' = true := fun v hv => by
  have h := fl_one a
  rw [Array.all_eq_true_iff_forall_mem] at h
  exact h v (by simpa using hv)
 have hne : w.heap.size + 1 ≠ w.heap.size := by omega
 have finr : (Tryz.prog.info? 68).map (·.size) = some (fl r).toArray.size := by rw [List.size_toArray, fl_len]; exact f_info
 have foner := fl_one r
 have fonr : ∀ v ∈ fl r, v.oneCell' = true := fun v hv => by
  have h := fl_one r
  rw [Array.all_eq_true_iff_forall_mem] at h
  exact h v (by simpa using hv)
 have flenr := fl_len r
 have HC : ∀ wz, Below v0.heap.size v0 wz → wz.rangeAt w.heap.size 0 (fl a) ∧ wz.there (w.heap.size + 1) 0 16 := fun wz hz => ⟨OwnF.range (ox.keep hz) (by rw [fl_len]; exact Nat.le_refl _) (fun k hk => fl_get (by rwa [fl_len] at hk)), OwnF.there (oz.keep hz)⟩
 have HS := Lib.hid HC
 clear HC
 obtain ⟨sr, st⟩ := HS.out v0 (Below.refl _ _)
 have hd : Below v0.heap.size v0 v0.drew := (Below.refl _ v0).drew
 go_region_held3 (fun wz => wz.rangeAt w.heap.size 0 (fl a) ∧ wz.there (w.heap.size + 1) 0 16)
  (first | exact HS.out _ hd | exact ⟨World.rangeAt_setCells_apart (HS.out _ hd).1 _ _ _ (.inl (by omega)), World.there_setCells (HS.out _ hd).2 _ _ _⟩)
  (first | (go_at_call 116; (with_reducible refine (K1.out _).mono ?_); rintro e' wt ⟨At, ct, nt, rfl, dt, h9⟩; have p1 := dt.dig; have l1 := KL.out _ dt.can; replace hd := bnx hd h9; clear dt) | (go_at_call 115; (with_reducible refine (K2.out _ _ _ _ p1 l1).mono ?_); rintro e' wx ⟨rfl, h9⟩; replace hd := bnx hd h9))
 all_goals
  have hop := Lib.hid ((oz.keep hd).put r)
  have hbl := (oz.keep hd).below r
  rw [set16w_eq]
  go_wp2_with fail
  exact bodyPost_ret (fres Tryz.results84 _ hop.out rfl) rfl ⟨rfl, (hc.trans (hd.mono hs)).trans hbl⟩
end
section
open Go Go.RowKit
theorem lInv {x : Nat} (hx : x < P25) (w : World) : Calls Tryz.prog 84 #[fv x] w fun e w' => e = .returned (fv (ivN x)) ∧ Below w.heap.size w w' := rinvert_any hx w
theorem lNeg {x : Nat} (hx : x < P25) (w : World) : Calls Tryz.prog 113 #[fv x] w fun e w' => e = .returned (fv ((P25 - x) % P25)) ∧ Below w.heap.size w w' := rneg_any (Nat.le_of_lt hx) w
def Tr.ok (t : Tr) : Prop := t.x < P25 ∧ t.y < P25 ∧ t.z < P25
theorem ed_lt : ed < P25 := by decide +kernel
theorem lt_W {x : Nat} (h : x < P25) : x < W4 := Nat.lt_trans h P25_W4
theorem adN_is (x y : Nat) : adN x y = (x + y) % P25 := rfl
section
attribute [local irreducible] wd by8 d16 set16w fl rl setA t3f ivN mlN adN sbN
theorem refD_any (w : World) : Calls Tryz.prog 80 #[] w fun e w' => e = .returned (fv ed) ∧ Below w.heap.size w w' := by
 obtain ⟨m1, h1⟩ : ∃ n, n = 65535 := ⟨_, rfl⟩
 obtain ⟨m2, h2⟩ : ∃ n, n = 56130 := ⟨_, rfl⟩
 obtain ⟨nc, h3⟩ : ∃ n, n = 121665 := ⟨_, rfl⟩
 obtain ⟨n1, h4⟩ : ∃ n, n = 1 := ⟨_, rfl⟩
 obtain ⟨sc, h5⟩ : ∃ n, n = 121666 := ⟨_, rfl⟩
 have l1 : m1 < P25 := by rw [h1]; decide +kernel
 have l2 : m2 < P25 := by rw [h2]; decide +kernel
 have l3 : nc < P25 := by rw [h3]; decide +kernel
 have l4 : n1 < P25 := by rw [h4]; decide +kernel
 have l5 : sc < P25 := by rw [h5]; decide +kernel
 have l6 : (P25 - nc) % P25 < P25 := Nat.mod_lt _ P25_pos
 have e3 : adN m1 m2 = nc := by rw [h1, h2, h3, adN_is]; exact Nat.mod_eq_of_lt (by decide +kernel)
 have e5 : adN nc n1 = sc := by rw [h3, h4, h5, adN_is]; exact Nat.mod_eq_of_lt (by decide +kernel)
 have e8 : mlN ((P25 - nc) % P25) (ivN sc) = ed := by rw [h3, h5]; exact d_is2
 refine D_gen (m1 := m1) (m2 := m2) (nc := nc) (ng := (P25 - nc) % P25) (n1 := n1) (sc := sc) (iv := ivN sc) (fun w => by rw [h1]; exact int_any (n := 65535) (by decide) w) (fun w => by rw [h2]; exact int_any (n := 56130) (by decide) w)
  (fun w => e3 ▸ lAdd l1 l2 w) (fun w => lNeg l3 w) (fun w => by rw [h4]; exact int_any (n := 1) (by decide) w) (fun w => e5 ▸ lAdd l3 l4 w) (fun w => lInv l5 w) (fun w => ?_) w
 have h := lMul l6 (show ivN sc < P25 from ivN_lt sc) w
 rwa [e8] at h
theorem refNought_any (w : World) : Calls Tryz.prog 79 #[] w fun e w' => e = .returned (t3v ⟨0, 1, 1⟩) ∧ Below w.heap.size w w' :=
 Nought_gen (n0 := 0) (n1 := 1) (fun w => int_any (n := 0) (by decide) w) (fun w => int_any (n := 1) (by decide) w) w
theorem plus_is (dd : Nat) (p q : Tr) : Tr.plus dd p q = ⟨mlN (mlN p.z q.z) (mlN (sbN (mlN (mlN p.z q.z) (mlN p.z q.z)) (mlN dd (mlN (mlN p.x q.x) (mlN p.y q.y)))) (adN (mlN p.x q.y) (mlN p.y q.x))),
  mlN (mlN p.z q.z) (mlN (adN (mlN (mlN p.z q.z) (mlN p.z q.z)) (mlN dd (mlN (mlN p.x q.x) (mlN p.y q.y)))) (adN (mlN p.y q.y) (mlN p.x q.x))),
  mlN (sbN (mlN (mlN p.z q.z) (mlN p.z q.z)) (mlN dd (mlN (mlN p.x q.x) (mlN p.y q.y)))) (adN (mlN (mlN p.z q.z) (mlN p.z q.z)) (mlN dd (mlN (mlN p.x q.x) (mlN p.y q.y))))⟩ := by with_unfolding_all rfl
theorem plus_ok (dd : Nat) (p q : Tr) : (Tr.plus dd p q).ok := by
 rw [plus_is]
 exact ⟨mlN_lt _ _, mlN_lt _ _, mlN_lt _ _⟩
theorem refplus_any {dd : Nat} (hd : dd < P25) {p q : Tr} (hp : p.ok) (hq : q.ok) (w : World) : Calls Tryz.prog 81 #[fv dd, t3v p, t3v q] w fun e w' => e = .returned (t3v (Tr.plus dd p q)) ∧ Below w.heap.size w w' := by
 obtain ⟨p1, p2, p3⟩ := hp
 obtain ⟨q1, q2, q3⟩ := hq
 have M := fun x y => mlN_lt x y
 have A := fun x y => adN_lt x y
 have S := fun x y => sbN_lt x y
 rw [plus_is]
 exact plus_gen (fun w => lMul p3 q3 w) (fun w => lMul (M _ _) (M _ _) w) (fun w => lMul p1 q1 w) (fun w => lMul p2 q2 w) (fun w => lMul p1 q2 w) (fun w => lMul p2 q1 w) (fun w => lAdd (M _ _) (M _ _) w) (fun w => lMul (M _ _) (M _ _) w) (fun w => lMul hd (M _ _) w)
  (fun w => lSub (M _ _) (M _ _) w) (fun w => lAdd (M _ _) (M _ _) w) (fun w => lMul (S _ _) (A _ _) w) (fun w => lMul (M _ _) (M _ _) w) (fun w => lAdd (M _ _) (M _ _) w) (fun w => lMul (A _ _) (A _ _) w) (fun w => lMul (M _ _) (M _ _) w) (fun w => lMul (S _ _) (A _ _) w) w
theorem refPlus_any {p q : Tr} (hp : p.ok) (hq : q.ok) (w : World) : Calls Tryz.prog 41 #[t3v p, t3v q] w fun e w' => e = .returned (t3v (Tr.plus ed p q)) ∧ Below w.heap.size w w' :=
 Plus_gen refD_any (fun w => refplus_any ed_lt hp hq w) w
theorem refPoint_any {t : Tr} (ht : t.ok) (w : World) : Calls Tryz.prog 42 #[t3v t] w fun e w' => e = .returned (prv (mlN t.x (ivN t.z)) (mlN t.y (ivN t.z))) ∧ Below w.heap.size w w' :=
 Point_gen (fun w => lInv ht.2.2 w) (fun w => lMul ht.1 (ivN_lt _) w) (fun w => rnum_any (lt_W (mlN_lt _ _)) w) (fun w => lMul ht.2.1 (ivN_lt _) w) (fun w => rnum_any (lt_W (mlN_lt _ _)) w) w
def okN (x y : Nat) : Bool := decide (x < P25) && (decide (y < P25) && onN x y)
end
end
end Go.Proofs.YtkbkalhcdbklkaaGreatDoor
