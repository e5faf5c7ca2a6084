/-
  The document's with (layer 8), over letters. Written by tools/gen_e9.py. By an AI agent.
-/
import Derived.Test.YtkbkalhcdbklkaaGreatDoorJ15
import Derived.Test.YtkbkalhcdbklkaaGreatDoorJ14
namespace Go.Proofs.YtkbkalhcdbklkaaGreatDoor
open Go Go.RowKit
theorem built_P0 : Tryz.prog.built 70 [] = some (rl 48 (t3f ⟨0, 0, 0⟩)).toArray := by kernel_rfl
theorem t3_zero {ops : Array Oper} {rest : List Oper} {a : Act} {w : World} {Q : Exit → Act → World → Prop} {dst : Option Nat} {tp : TypeId} {ps : String} {af : Array Edge} (h : wpList Tryz.prog ops Q rest (a.put dst (t3v ⟨0, 0, 0⟩)) w) : wpList Tryz.prog ops Q (⟨dst, .build 70 #[], tp, ps, af, none⟩ :: rest) a w := by
 have hb := run_build (P := Tryz.prog) w 70 #[] _ built_P0
 refine wpList_plain rfl fun K hK => ?_
 unfold Oper.wp execOp
 simp only [List.map_toArray, List.map_nil, Sem.run_bind, hb, Result.andThen_ok, Sem.run_pure]
 exact hK _ _ h
section
attribute [local irreducible] wd by8 d16 set16w fl rl setA t3f set8p set4w
set_option maxRecDepth 20000
set_option maxHeartbeats 6400000 in
theorem with_no {y yy n1 s D dy dn iv un r : Nat} {b : Int}
  (k1 : ∀ w, Calls Tryz.prog 82 #[fv y, fv y] w fun e w' => e = .returned (fv yy) ∧ Below w.heap.size w w')
  (k2 : ∀ w, Calls Tryz.prog 83 #[.int .i64 1] w fun e w' => e = .returned (fv n1) ∧ Below w.heap.size w w')
  (k3 : ∀ w, Calls Tryz.prog 111 #[fv yy, fv n1] w fun e w' => e = .returned (fv s) ∧ Below w.heap.size w w')
  (k4 : ∀ w, Calls Tryz.prog 80 #[] w fun e w' => e = .returned (fv D) ∧ Below w.heap.size w w')
  (k5 : ∀ w, Calls Tryz.prog 82 #[fv D, fv yy] w fun e w' => e = .returned (fv dy) ∧ Below w.heap.size w w')
  (k6 : ∀ w, Calls Tryz.prog 112 #[fv n1, fv dy] w fun e w' => e = .returned (fv dn) ∧ Below w.heap.size w w')
  (k7 : ∀ w, Calls Tryz.prog 84 #[fv dn] w fun e w' => e = .returned (fv iv) ∧ Below w.heap.size w w')
  (k8 : ∀ w, Calls Tryz.prog 82 #[fv s, fv iv] w fun e w' => e = .returned (fv un) ∧ Below w.heap.size w w')
  (k9 : ∀ w, Calls Tryz.prog 110 #[fv un] w fun e w' => e = .returned (.tuple #[fv r, .bool false]) ∧ Below w.heap.size w w')
  (w : World) : Calls Tryz.prog 78 #[fv y, .int .i64 b] w fun e w' => e = .returned (.tuple #[t3v ⟨0, 0, 0⟩, .bool false]) ∧ Below w.heap.size w w' := by
 have K1 := Lib.hid k1
 have K2 := Lib.hid k2
 have K3 := Lib.hid k3
 have K4 := Lib.hid k4
 have K5 := Lib.hid k5
 have K6 := Lib.hid k6
 have K7 := Lib.hid k7
 have K8 := Lib.hid k8
 have K9 := Lib.hid k9
 clear k1 k2 k3 k4 k5 k6 k7 k8 k9
 obtain ⟨v1, ev1⟩ : ∃ v, v = w.alloc (A16 y) := ⟨_, rfl⟩
 have bv1 := bnw ev1
 have sv1 := bsz ev1
 obtain ⟨g2, eg2⟩ : ∃ g, g = w.heap.size := ⟨_, rfl⟩
 have o2 : O16 v1 w.heap.size g2 y := by rw [eg2, ev1]; exact O16.new (Nat.le_refl _) y
 have hc := bv1
 have hs1 := hc.size
 obtain ⟨v2, ev2⟩ : ∃ v, v = v1.alloc (Z48) := ⟨_, rfl⟩
 have bv2 := bnw ev2
 have sv2 := bsz ev2
 obtain ⟨g4, eg4⟩ : ∃ g, g = v1.heap.size := ⟨_, rfl⟩
 have o4 : OwnF v2 v1.heap.size 70 (some ⟨g4, 0, none⟩) 48 48 (fun _ => .int .i64 0) := by rw [eg4, ev2]; exact z48_new (Nat.le_refl _)
 have n4_2 : g4 ≠ g2 := by have := OwnF.lt o2; omega
 replace o2 := o2.keep bv2
 replace hc := bnx hc bv2
 replace o4 := o4.mono hs1
 have hs2 := hc.size
 go_enter Tryz.func78, Tryz.ntmps78
 go_upto_region 1 with fail
 rw [← ev1, ← ev2]
 rw [show Value.pointer (some ⟨w.heap.size, 0, none⟩) = .pointer (some ⟨g2, 0, none⟩) by rw [eg2]]
 rw [show Value.pointer (some ⟨w.heap.size + 1, 0, none⟩) = .pointer (some ⟨g4, 0, none⟩) by rw [eg4, sv1]]
 clear ev1 bv1 sv1 ev2 bv2 sv2 eg2 eg4 hs1 hs2
 go_wp2_with (first | ((with_reducible refine fl_load o2 ?_ ?_); rfl))
 go_at_call 82
 refine (K1.out _).mono ?_
 rintro e y3 ⟨rfl, h0⟩
 replace o2 := O16.keep o2 h0
 replace o4 := OwnF.keep o4 h0
 replace hc := bnx hc h0
 clear h0
 have on0 : O16 (y3.alloc Z16) y3.heap.size y3.heap.size 0 := O16.zero (own_Z16 (Nat.le_refl _))
 have hl2 := OwnF.lt o2
 have hl4 := OwnF.lt o4
 have o6 := (on0.put yy).mono hc.size
 have hbz := ((Below.refl _ y3).alloc (Nat.le_refl _) Z16).trans (on0.below yy)
 replace o2 := O16.keep o2 hbz
 replace o4 := OwnF.keep o4 hbz
 replace hc := bnx hc hbz
 clear hbz
 go_upto_region 2 with ((with_reducible refine fl_store on0 yy ?_ ?_ ?_); rfl; rfl)
 obtain ⟨y4, ev⟩ : ∃ v, v = set16w (y3.alloc Z16) y3.heap.size yy := ⟨_, rfl⟩
 obtain ⟨g6, eg⟩ : ∃ g, g = y3.heap.size := ⟨_, rfl⟩
 rw [← ev] at o2 o4 o6 hc ⊢
 rw [← eg] at o6 ⊢
 have n6_2 : g6 ≠ g2 := by omega
 have n6_4 : g6 ≠ g4 := by omega
 clear hl2 hl4
 clear ev eg on0
 refine wp_region_box 17 [some 13, some 14, some 15, some 16, some 17, some 18, some 19, some 20, some 21, some 22, some 23, some 12, some 24, some 25, some 7, none, some 8] [.val (fv yy), .val (fv n1), .val (fv s), .val (fv n1), .val (fv D), .val (fv yy), .val (fv dy), .val (fv dn), .val (fv iv), .val (fv un), .val (.tuple #[fv r, .bool false]), .val (.tuple #[fv r, .bool false]), .val (fv r), .val (.bool false), .box 68 16, .holds 14 68 16 (dv16 r), .val (.bool false)] y4.heap.size (fun wz => Below y4.heap.size y4 wz) (by kernel_rfl) (by kernel_rfl)
  (fun _ _ h _ hb => h.trans hb) ((Below.refl _ _).drew) (Nat.le_refl _) (fun u => by simp only [List.filterMap_cons, List.filterMap_nil, id, puts, List.foldl_cons, List.foldl_nil]; go_simp; exact rfl) ?_ ?_
 ·simp only [List.take_succ_cons, List.take_zero]
  refine .cons (fun u w L hL hS hBw hd => ?_) ?_
  ·exact GB.run 13 rfl (fv yy) rfl (run_fload rfl rfl (o6.keep hS)) rfl rfl
  refine .cons (fun u w L hL hS hBw hd => ?_) ?_
  ·refine GB.call 14 rfl 83 #[.int .i64 1] rfl (by go_simp) rfl ((K2.out w).mono ?_)
   rintro e w' ⟨rfl, hb⟩
   exact ⟨_, rfl, rfl, hb⟩
  refine .cons (fun u w L hL hS hBw hd => ?_) ?_
  ·have d13 : u 13 = fv yy := depB hd 0 rfl
   rw [d13]
   have d14 : u 14 = fv n1 := depB hd 1 rfl
   rw [d14]
   refine GB.call 15 rfl 111 #[fv yy, fv n1] rfl (by go_simp) rfl ((K3.out w).mono ?_)
   rintro e w' ⟨rfl, hb⟩
   exact ⟨_, rfl, rfl, hb⟩
  refine .cons (fun u w L hL hS hBw hd => ?_) ?_
  ·refine GB.call 16 rfl 83 #[.int .i64 1] rfl (by go_simp) rfl ((K2.out w).mono ?_)
   rintro e w' ⟨rfl, hb⟩
   exact ⟨_, rfl, rfl, hb⟩
  refine .cons (fun u w L hL hS hBw hd => ?_) ?_
  ·refine GB.call 17 rfl 80 #[] rfl (by go_simp) rfl ((K4.out w).mono ?_)
   rintro e w' ⟨rfl, hb⟩
   exact ⟨_, rfl, rfl, hb⟩
  refine .cons (fun u w L hL hS hBw hd => ?_) ?_
  ·exact GB.run 18 rfl (fv yy) rfl (run_fload rfl rfl (o6.keep hS)) rfl rfl
  refine .cons (fun u w L hL hS hBw hd => ?_) ?_
  ·have d17 : u 17 = fv D := depB hd 4 rfl
   rw [d17]
   have d18 : u 18 = fv yy := depB hd 5 rfl
   rw [d18]
   refine GB.call 19 rfl 82 #[fv D, fv yy] rfl (by go_simp) rfl ((K5.out w).mono ?_)
   rintro e w' ⟨rfl, hb⟩
   exact ⟨_, rfl, rfl, hb⟩
  refine .cons (fun u w L hL hS hBw hd => ?_) ?_
  ·have d16 : u 16 = fv n1 := depB hd 3 rfl
   rw [d16]
   have d19 : u 19 = fv dy := depB hd 6 rfl
   rw [d19]
   refine GB.call 20 rfl 112 #[fv n1, fv dy] rfl (by go_simp) rfl ((K6.out w).mono ?_)
   rintro e w' ⟨rfl, hb⟩
   exact ⟨_, rfl, rfl, hb⟩
  refine .cons (fun u w L hL hS hBw hd => ?_) ?_
  ·have d20 : u 20 = fv dn := depB hd 7 rfl
   rw [d20]
   refine GB.call 21 rfl 84 #[fv dn] rfl (by go_simp) rfl ((K7.out w).mono ?_)
   rintro e w' ⟨rfl, hb⟩
   exact ⟨_, rfl, rfl, hb⟩
  refine .cons (fun u w L hL hS hBw hd => ?_) ?_
  ·have d15 : u 15 = fv s := depB hd 2 rfl
   rw [d15]
   have d21 : u 21 = fv iv := depB hd 8 rfl
   rw [d21]
   refine GB.call 22 rfl 82 #[fv s, fv iv] rfl (by go_simp) rfl ((K8.out w).mono ?_)
   rintro e w' ⟨rfl, hb⟩
   exact ⟨_, rfl, rfl, hb⟩
  refine .cons (fun u w L hL hS hBw hd => ?_) ?_
  ·have d22 : u 22 = fv un := depB hd 9 rfl
   rw [d22]
   refine GB.call 23 rfl 110 #[fv un] rfl (by go_simp) rfl ((K9.out w).mono ?_)
   rintro e w' ⟨rfl, hb⟩
   exact ⟨_, rfl, rfl, hb⟩
  refine .cons (fun u w L hL hS hBw hd => ?_) ?_
  ·have d23 : u 23 = .tuple #[fv r, .bool false] := depB hd 10 rfl
   rw [d23]
   exact GB.run 12 rfl (.tuple #[fv r, .bool false]) rfl (by go_simp) rfl rfl
  refine .cons (fun u w L hL hS hBw hd => ?_) ?_
  ·have d12 : u 12 = .tuple #[fv r, .bool false] := depB hd 11 rfl
   rw [d12]
   exact GB.run 24 rfl (fv r) rfl (by go_simp) rfl rfl
  refine .cons (fun u w L hL hS hBw hd => ?_) ?_
  ·have d12 : u 12 = .tuple #[fv r, .bool false] := depB hd 11 rfl
   rw [d12]
   exact GB.run 25 rfl (.bool false) rfl (by go_simp) rfl rfl
  refine .cons (fun u w L hL hS hBw hd => ?_) ?_
  ·exact GB.alloc 7 rfl rfl #[.int .i64 0, .int .i64 0, .int .i64 0, .int .i64 0, .int .i64 0, .int .i64 0, .int .i64 0, .int .i64 0, .int .i64 0, .int .i64 0, .int .i64 0, .int .i64 0, .int .i64 0, .int .i64 0, .int .i64 0, .int .i64 0] 68 16 (fun _ => .int .i64 0) rfl rfl (by go_simp) hBw (by decide) rfl
  refine .cons (fun u w L hL hS hBw hd => ?_) ?_
  ·have d24 : u 24 = fv r := depB hd 12 rfl
   obtain ⟨g, fg, e7, o7⟩ : (Fact.box 68 16).ok y4.heap.size [some 13, some 14, some 15, some 16, some 17, some 18, some 19, some 20, some 21, some 22, some 23, some 12, some 24, some 25, some 7, none, some 8] 14 u w L := depB hd 14 rfl
   exact GB.store rfl 14 g 68 16 (dv16 r) rfl rfl rfl e7 (run_fstore rfl (by exact e7) (by exact d24) o7) (only16 w g r) (put16 o7 r)
  refine .cons (fun u w L hL hS hBw hd => ?_) ?_
  ·have d25 : u 25 = .bool false := depB hd 13 rfl
   rw [d25]
   exact GB.run 8 rfl (.bool false) rfl (by go_simp) rfl rfl
  exact ObsB.nil
 intro uy5 y5 hS hd
 obtain ⟨g7, eg7, o7⟩ : (Fact.holds 14 68 16 (dv16 r)).ok y4.heap.size [some 13, some 14, some 15, some 16, some 17, some 18, some 19, some 20, some 21, some 22, some 23, some 12, some 24, some 25, some 7, none, some 8] 15 uy5 y5 (fun _ => true) := hd 15 (by decide)
 replace eg7 : uy5 7 = .pointer (some ⟨g7, 0, none⟩) := eg7
 replace o7 : O16 y5 y4.heap.size g7 r := o7
 have n7_2 : g7 ≠ g2 := by have := OwnF.ge o7; have := OwnF.lt o2; omega
 have n7_4 : g7 ≠ g4 := by have := OwnF.ge o7; have := OwnF.lt o4; omega
 have n7_6 : g7 ≠ g6 := by have := OwnF.ge o7; have := OwnF.lt o6; omega
 replace o7 := o7.mono hc.size
 replace o2 := O16.keep o2 hS
 replace o4 := OwnF.keep o4 hS
 replace o6 := O16.keep o6 hS
 replace hc := bnx hc hS
 have d8 : uy5 8 = .bool false := hd 16 (by decide)
 rw [eg7, d8]
 clear hS hd eg7 d8
 simp only [List.drop_succ_cons, List.drop_zero]
 go_upto_region 3 with fail
 refine wp_region_inv 10 [26, 27, 28, 29, 30, 31, 32, 33, 34, 35] [.val (.bool false), .val (.bool true), .val (.bool true), .val (undef), .val (undef), .val (undef), .val (undef), .val (undef), .val (undef), .val (undef)] (fun wz => Below y5.heap.size y5 wz) (by kernel_rfl) (by kernel_rfl) (fun wz wz' hz hb => bnx hz hb) ((Below.refl _ _).drew) (fun u => by simp only [puts, List.foldl_cons, List.foldl_nil]; go_simp; exact rfl) ?_ ?_
 ·simp only [List.take_succ_cons, List.take_zero]
  refine .cons (fun u w hS hd => ?_) ?_
  ·exact Gv.run (.bool false) rfl (by go_simp) rfl
  refine .cons (fun u w hS hd => ?_) ?_
  ·have d26 : u 26 = .bool false := dep hd 0 rfl
   rw [d26]
   exact Gv.run (.bool true) rfl (by go_simp) rfl
  refine .cons (fun u w hS hd => ?_) ?_
  ·have d27 : u 27 = .bool true := dep hd 1 rfl
   rw [d27]
   exact Gv.run (.bool true) rfl (by go_simp) rfl
  refine .cons (fun u w hS hd => ?_) ?_
  ·have d28 : u 28 = .bool true := dep hd 2 rfl
   rw [d28]
   exact Gv.skip (by rfl) rfl
  refine .cons (fun u w hS hd => ?_) ?_
  ·have d28 : u 28 = .bool true := dep hd 2 rfl
   rw [d28]
   exact Gv.skip (by rfl) rfl
  refine .cons (fun u w hS hd => ?_) ?_
  ·have d28 : u 28 = .bool true := dep hd 2 rfl
   rw [d28]
   exact Gv.skip (by rfl) rfl
  refine .cons (fun u w hS hd => ?_) ?_
  ·have d28 : u 28 = .bool true := dep hd 2 rfl
   rw [d28]
   exact Gv.skip (by rfl) rfl
  refine .cons (fun u w hS hd => ?_) ?_
  ·have d32 : u 32 = undef := dep hd 6 rfl
   rw [d32]
   exact Gv.skip (by rfl) rfl
  refine .cons (fun u w hS hd => ?_) ?_
  ·have d32 : u 32 = undef := dep hd 6 rfl
   rw [d32]
   exact Gv.skip (by rfl) rfl
  refine .cons (fun u w hS hd => ?_) ?_
  ·have d28 : u 28 = .bool true := dep hd 2 rfl
   rw [d28]
   exact Gv.skip (by rfl) rfl
  exact Obs.nil
 intro uy6 y6 hS hd
 have d28 : uy6 28 = .bool true := hd 2 (by decide)
 rw [d28]
 replace o2 := O16.keep o2 hS
 replace o4 := OwnF.keep o4 hS
 replace o6 := O16.keep o6 hS
 replace o7 := O16.keep o7 hS
 replace hc := bnx hc hS
 clear hS hd d28
 simp only [List.drop_succ_cons, List.drop_zero]
 have hfb := Lib.hid (hc.trans (t3_below o4 (⟨0, 0, 0⟩)))
 have HR := Lib.hid (t3_put o4 (⟨0, 0, 0⟩))
 go_wp2_with (first | (with_reducible refine t3_zero ?_) | ((with_reducible refine t3_store o4 (⟨0, 0, 0⟩) ?_ ?_ ?_); rfl; rfl))
 exact bodyPost_ret (t3_res2 Tryz.results78 _ HR.out rfl rfl) rfl ⟨rfl, hfb.out⟩
set_option maxHeartbeats 6400000 in
theorem with_nought {y yy n1 s D dy dn iv un r n0 : Nat} {b : Int} (hbr : r < W4) (hb0 : n0 < W4) (he : r = n0) (hb : b = 1)
  (k1 : ∀ w, Calls Tryz.prog 82 #[fv y, fv y] w fun e w' => e = .returned (fv yy) ∧ Below w.heap.size w w')
  (k2 : ∀ w, Calls Tryz.prog 83 #[.int .i64 1] w fun e w' => e = .returned (fv n1) ∧ Below w.heap.size w w')
  (k3 : ∀ w, Calls Tryz.prog 111 #[fv yy, fv n1] w fun e w' => e = .returned (fv s) ∧ Below w.heap.size w w')
  (k4 : ∀ w, Calls Tryz.prog 80 #[] w fun e w' => e = .returned (fv D) ∧ Below w.heap.size w w')
  (k5 : ∀ w, Calls Tryz.prog 82 #[fv D, fv yy] w fun e w' => e = .returned (fv dy) ∧ Below w.heap.size w w')
  (k6 : ∀ w, Calls Tryz.prog 112 #[fv n1, fv dy] w fun e w' => e = .returned (fv dn) ∧ Below w.heap.size w w')
  (k7 : ∀ w, Calls Tryz.prog 84 #[fv dn] w fun e w' => e = .returned (fv iv) ∧ Below w.heap.size w w')
  (k8 : ∀ w, Calls Tryz.prog 82 #[fv s, fv iv] w fun e w' => e = .returned (fv un) ∧ Below w.heap.size w w')
  (k9 : ∀ w, Calls Tryz.prog 110 #[fv un] w fun e w' => e = .returned (.tuple #[fv r, .bool true]) ∧ Below w.heap.size w w')
  (k10 : ∀ w, Calls Tryz.prog 83 #[.int .i64 0] w fun e w' => e = .returned (fv n0) ∧ Below w.heap.size w w')
  (w : World) : Calls Tryz.prog 78 #[fv y, .int .i64 b] w fun e w' => e = .returned (.tuple #[t3v ⟨0, 0, 0⟩, .bool false]) ∧ Below w.heap.size w w' := by
 have K1 := Lib.hid k1
 have K2 := Lib.hid k2
 have K3 := Lib.hid k3
 have K4 := Lib.hid k4
 have K5 := Lib.hid k5
 have K6 := Lib.hid k6
 have K7 := Lib.hid k7
 have K8 := Lib.hid k8
 have K9 := Lib.hid k9
 have K10 := Lib.hid k10
 clear k1 k2 k3 k4 k5 k6 k7 k8 k9 k10
 have HE := Lib.hid he
 clear he
 obtain ⟨v1, ev1⟩ : ∃ v, v = w.alloc (A16 y) := ⟨_, rfl⟩
 have bv1 := bnw ev1
 have sv1 := bsz ev1
 obtain ⟨g2, eg2⟩ : ∃ g, g = w.heap.size := ⟨_, rfl⟩
 have o2 : O16 v1 w.heap.size g2 y := by rw [eg2, ev1]; exact O16.new (Nat.le_refl _) y
 have hc := bv1
 have hs1 := hc.size
 obtain ⟨v2, ev2⟩ : ∃ v, v = v1.alloc (Z48) := ⟨_, rfl⟩
 have bv2 := bnw ev2
 have sv2 := bsz ev2
 obtain ⟨g4, eg4⟩ : ∃ g, g = v1.heap.size := ⟨_, rfl⟩
 have o4 : OwnF v2 v1.heap.size 70 (some ⟨g4, 0, none⟩) 48 48 (fun _ => .int .i64 0) := by rw [eg4, ev2]; exact z48_new (Nat.le_refl _)
 have n4_2 : g4 ≠ g2 := by have := OwnF.lt o2; omega
 replace o2 := o2.keep bv2
 replace hc := bnx hc bv2
 replace o4 := o4.mono hs1
 have hs2 := hc.size
 go_enter Tryz.func78, Tryz.ntmps78
 go_upto_region 1 with fail
 rw [← ev1, ← ev2]
 rw [show Value.pointer (some ⟨w.heap.size, 0, none⟩) = .pointer (some ⟨g2, 0, none⟩) by rw [eg2]]
 rw [show Value.pointer (some ⟨w.heap.size + 1, 0, none⟩) = .pointer (some ⟨g4, 0, none⟩) by rw [eg4, sv1]]
 clear ev1 bv1 sv1 ev2 bv2 sv2 eg2 eg4 hs1 hs2
 go_wp2_with (first | ((with_reducible refine fl_load o2 ?_ ?_); rfl))
 go_at_call 82
 refine (K1.out _).mono ?_
 rintro e y3 ⟨rfl, h0⟩
 replace o2 := O16.keep o2 h0
 replace o4 := OwnF.keep o4 h0
 replace hc := bnx hc h0
 clear h0
 have on0 : O16 (y3.alloc Z16) y3.heap.size y3.heap.size 0 := O16.zero (own_Z16 (Nat.le_refl _))
 have hl2 := OwnF.lt o2
 have hl4 := OwnF.lt o4
 have o6 := (on0.put yy).mono hc.size
 have hbz := ((Below.refl _ y3).alloc (Nat.le_refl _) Z16).trans (on0.below yy)
 replace o2 := O16.keep o2 hbz
 replace o4 := OwnF.keep o4 hbz
 replace hc := bnx hc hbz
 clear hbz
 go_upto_region 2 with ((with_reducible refine fl_store on0 yy ?_ ?_ ?_); rfl; rfl)
 obtain ⟨y4, ev⟩ : ∃ v, v = set16w (y3.alloc Z16) y3.heap.size yy := ⟨_, rfl⟩
 obtain ⟨g6, eg⟩ : ∃ g, g = y3.heap.size := ⟨_, rfl⟩
 rw [← ev] at o2 o4 o6 hc ⊢
 rw [← eg] at o6 ⊢
 have n6_2 : g6 ≠ g2 := by omega
 have n6_4 : g6 ≠ g4 := by omega
 clear hl2 hl4
 clear ev eg on0
 refine wp_region_box 17 [some 13, some 14, some 15, some 16, some 17, some 18, some 19, some 20, some 21, some 22, some 23, some 12, some 24, some 25, some 7, none, some 8] [.val (fv yy), .val (fv n1), .val (fv s), .val (fv n1), .val (fv D), .val (fv yy), .val (fv dy), .val (fv dn), .val (fv iv), .val (fv un), .val (.tuple #[fv r, .bool true]), .val (.tuple #[fv r, .bool true]), .val (fv r), .val (.bool true), .box 68 16, .holds 14 68 16 (dv16 r), .val (.bool true)] y4.heap.size (fun wz => Below y4.heap.size y4 wz) (by kernel_rfl) (by kernel_rfl)
  (fun _ _ h _ hb => h.trans hb) ((Below.refl _ _).drew) (Nat.le_refl _) (fun u => by simp only [List.filterMap_cons, List.filterMap_nil, id, puts, List.foldl_cons, List.foldl_nil]; go_simp; exact rfl) ?_ ?_
 ·simp only [List.take_succ_cons, List.take_zero]
  refine .cons (fun u w L hL hS hBw hd => ?_) ?_
  ·exact GB.run 13 rfl (fv yy) rfl (run_fload rfl rfl (o6.keep hS)) rfl rfl
  refine .cons (fun u w L hL hS hBw hd => ?_) ?_
  ·refine GB.call 14 rfl 83 #[.int .i64 1] rfl (by go_simp) rfl ((K2.out w).mono ?_)
   rintro e w' ⟨rfl, hb⟩
   exact ⟨_, rfl, rfl, hb⟩
  refine .cons (fun u w L hL hS hBw hd => ?_) ?_
  ·have d13 : u 13 = fv yy := depB hd 0 rfl
   rw [d13]
   have d14 : u 14 = fv n1 := depB hd 1 rfl
   rw [d14]
   refine GB.call 15 rfl 111 #[fv yy, fv n1] rfl (by go_simp) rfl ((K3.out w).mono ?_)
   rintro e w' ⟨rfl, hb⟩
   exact ⟨_, rfl, rfl, hb⟩
  refine .cons (fun u w L hL hS hBw hd => ?_) ?_
  ·refine GB.call 16 rfl 83 #[.int .i64 1] rfl (by go_simp) rfl ((K2.out w).mono ?_)
   rintro e w' ⟨rfl, hb⟩
   exact ⟨_, rfl, rfl, hb⟩
  refine .cons (fun u w L hL hS hBw hd => ?_) ?_
  ·refine GB.call 17 rfl 80 #[] rfl (by go_simp) rfl ((K4.out w).mono ?_)
   rintro e w' ⟨rfl, hb⟩
   exact ⟨_, rfl, rfl, hb⟩
  refine .cons (fun u w L hL hS hBw hd => ?_) ?_
  ·exact GB.run 18 rfl (fv yy) rfl (run_fload rfl rfl (o6.keep hS)) rfl rfl
  refine .cons (fun u w L hL hS hBw hd => ?_) ?_
  ·have d17 : u 17 = fv D := depB hd 4 rfl
   rw [d17]
   have d18 : u 18 = fv yy := depB hd 5 rfl
   rw [d18]
   refine GB.call 19 rfl 82 #[fv D, fv yy] rfl (by go_simp) rfl ((K5.out w).mono ?_)
   rintro e w' ⟨rfl, hb⟩
   exact ⟨_, rfl, rfl, hb⟩
  refine .cons (fun u w L hL hS hBw hd => ?_) ?_
  ·have d16 : u 16 = fv n1 := depB hd 3 rfl
   rw [d16]
   have d19 : u 19 = fv dy := depB hd 6 rfl
   rw [d19]
   refine GB.call 20 rfl 112 #[fv n1, fv dy] rfl (by go_simp) rfl ((K6.out w).mono ?_)
   rintro e w' ⟨rfl, hb⟩
   exact ⟨_, rfl, rfl, hb⟩
  refine .cons (fun u w L hL hS hBw hd => ?_) ?_
  ·have d20 : u 20 = fv dn := depB hd 7 rfl
   rw [d20]
   refine GB.call 21 rfl 84 #[fv dn] rfl (by go_simp) rfl ((K7.out w).mono ?_)
   rintro e w' ⟨rfl, hb⟩
   exact ⟨_, rfl, rfl, hb⟩
  refine .cons (fun u w L hL hS hBw hd => ?_) ?_
  ·have d15 : u 15 = fv s := depB hd 2 rfl
   rw [d15]
   have d21 : u 21 = fv iv := depB hd 8 rfl
   rw [d21]
   refine GB.call 22 rfl 82 #[fv s, fv iv] rfl (by go_simp) rfl ((K8.out w).mono ?_)
   rintro e w' ⟨rfl, hb⟩
   exact ⟨_, rfl, rfl, hb⟩
  refine .cons (fun u w L hL hS hBw hd => ?_) ?_
  ·have d22 : u 22 = fv un := depB hd 9 rfl
   rw [d22]
   refine GB.call 23 rfl 110 #[fv un] rfl (by go_simp) rfl ((K9.out w).mono ?_)
   rintro e w' ⟨rfl, hb⟩
   exact ⟨_, rfl, rfl, hb⟩
  refine .cons (fun u w L hL hS hBw hd => ?_) ?_
  ·have d23 : u 23 = .tuple #[fv r, .bool true] := depB hd 10 rfl
   rw [d23]
   exact GB.run 12 rfl (.tuple #[fv r, .bool true]) rfl (by go_simp) rfl rfl
  refine .cons (fun u w L hL hS hBw hd => ?_) ?_
  ·have d12 : u 12 = .tuple #[fv r, .bool true] := depB hd 11 rfl
   rw [d12]
   exact GB.run 24 rfl (fv r) rfl (by go_simp) rfl rfl
  refine .cons (fun u w L hL hS hBw hd => ?_) ?_
  ·have d12 : u 12 = .tuple #[fv r, .bool true] := depB hd 11 rfl
   rw [d12]
   exact GB.run 25 rfl (.bool true) rfl (by go_simp) rfl rfl
  refine .cons (fun u w L hL hS hBw hd => ?_) ?_
  ·exact GB.alloc 7 rfl rfl #[.int .i64 0, .int .i64 0, .int .i64 0, .int .i64 0, .int .i64 0, .int .i64 0, .int .i64 0, .int .i64 0, .int .i64 0, .int .i64 0, .int .i64 0, .int .i64 0, .int .i64 0, .int .i64 0, .int .i64 0, .int .i64 0] 68 16 (fun _ => .int .i64 0) rfl rfl (by go_simp) hBw (by decide) rfl
  refine .cons (fun u w L hL hS hBw hd => ?_) ?_
  ·have d24 : u 24 = fv r := depB hd 12 rfl
   obtain ⟨g, fg, e7, o7⟩ : (Fact.box 68 16).ok y4.heap.size [some 13, some 14, some 15, some 16, some 17, some 18, some 19, some 20, some 21, some 22, some 23, some 12, some 24, some 25, some 7, none, some 8] 14 u w L := depB hd 14 rfl
   exact GB.store rfl 14 g 68 16 (dv16 r) rfl rfl rfl e7 (run_fstore rfl (by exact e7) (by exact d24) o7) (only16 w g r) (put16 o7 r)
  refine .cons (fun u w L hL hS hBw hd => ?_) ?_
  ·have d25 : u 25 = .bool true := depB hd 13 rfl
   rw [d25]
   exact GB.run 8 rfl (.bool true) rfl (by go_simp) rfl rfl
  exact ObsB.nil
 intro uy5 y5 hS hd
 obtain ⟨g7, eg7, o7⟩ : (Fact.holds 14 68 16 (dv16 r)).ok y4.heap.size [some 13, some 14, some 15, some 16, some 17, some 18, some 19, some 20, some 21, some 22, some 23, some 12, some 24, some 25, some 7, none, some 8] 15 uy5 y5 (fun _ => true) := hd 15 (by decide)
 replace eg7 : uy5 7 = .pointer (some ⟨g7, 0, none⟩) := eg7
 replace o7 : O16 y5 y4.heap.size g7 r := o7
 have n7_2 : g7 ≠ g2 := by have := OwnF.ge o7; have := OwnF.lt o2; omega
 have n7_4 : g7 ≠ g4 := by have := OwnF.ge o7; have := OwnF.lt o4; omega
 have n7_6 : g7 ≠ g6 := by have := OwnF.ge o7; have := OwnF.lt o6; omega
 replace o7 := o7.mono hc.size
 replace o2 := O16.keep o2 hS
 replace o4 := OwnF.keep o4 hS
 replace o6 := O16.keep o6 hS
 replace hc := bnx hc hS
 have d8 : uy5 8 = .bool true := hd 16 (by decide)
 rw [eg7, d8]
 clear hS hd eg7 d8
 simp only [List.drop_succ_cons, List.drop_zero]
 go_upto_region 3 with fail
 refine wp_region_inv 10 [26, 27, 28, 29, 30, 31, 32, 33, 34, 35] [.val (.bool true), .val (.bool false), .val (.bool false), .val (fv r), .val (fv n0), .val (.bool true), .val (.bool true), .val (.int .i64 b), .val (.bool true), .val (.bool true)] (fun wz => Below y5.heap.size y5 wz) (by kernel_rfl) (by kernel_rfl) (fun wz wz' hz hb => bnx hz hb) ((Below.refl _ _).drew) (fun u => by simp only [puts, List.foldl_cons, List.foldl_nil]; go_simp; exact rfl) ?_ ?_
 ·simp only [List.take_succ_cons, List.take_zero]
  refine .cons (fun u w hS hd => ?_) ?_
  ·exact Gv.run (.bool true) rfl (by go_simp) rfl
  refine .cons (fun u w hS hd => ?_) ?_
  ·have d26 : u 26 = .bool true := dep hd 0 rfl
   rw [d26]
   exact Gv.run (.bool false) rfl (by go_simp) rfl
  refine .cons (fun u w hS hd => ?_) ?_
  ·have d27 : u 27 = .bool false := dep hd 1 rfl
   rw [d27]
   exact Gv.run (.bool false) rfl (by go_simp) rfl
  refine .cons (fun u w hS hd => ?_) ?_
  ·have d28 : u 28 = .bool false := dep hd 2 rfl
   rw [d28]
   exact Gv.run (fv r) (by rfl) (run_fload rfl rfl (o7.keep hS)) rfl
  refine .cons (fun u w hS hd => ?_) ?_
  ·have d28 : u 28 = .bool false := dep hd 2 rfl
   rw [d28]
   refine Gv.call 83 #[.int .i64 0] rfl (by go_simp) ((K10.out w).mono ?_)
   rintro e w' ⟨rfl, hb⟩
   exact ⟨_, rfl, rfl, hb⟩
  refine .cons (fun u w hS hd => ?_) ?_
  ·have d28 : u 28 = .bool false := dep hd 2 rfl
   rw [d28]
   have d29 : u 29 = fv r := dep hd 3 rfl
   rw [d29]
   have d30 : u 30 = fv n0 := dep hd 4 rfl
   rw [d30]
   exact Gv.run (.bool true) rfl (run_eqF rfl rfl rfl hbr hb0 (decide_eq_true HE.out) w) rfl
  refine .cons (fun u w hS hd => ?_) ?_
  ·have d28 : u 28 = .bool false := dep hd 2 rfl
   rw [d28]
   have d31 : u 31 = .bool true := dep hd 5 rfl
   rw [d31]
   exact Gv.run (.bool true) rfl (by go_simp) rfl
  refine .cons (fun u w hS hd => ?_) ?_
  ·have d32 : u 32 = .bool true := dep hd 6 rfl
   rw [d32]
   exact Gv.run (.int .i64 b) rfl (by go_simp) rfl
  refine .cons (fun u w hS hd => ?_) ?_
  ·have d32 : u 32 = .bool true := dep hd 6 rfl
   rw [d32]
   have d33 : u 33 = .int .i64 b := dep hd 7 rfl
   rw [d33]
   exact Gv.run (.bool true) rfl (by have hq : (b == 1) = true := (by simp [hb]); go_simp) rfl
  refine .cons (fun u w hS hd => ?_) ?_
  ·have d28 : u 28 = .bool false := dep hd 2 rfl
   rw [d28]
   have d32 : u 32 = .bool true := dep hd 6 rfl
   rw [d32]
   have d34 : u 34 = .bool true := dep hd 8 rfl
   rw [d34]
   exact Gv.run (.bool true) rfl (by go_simp) rfl
  exact Obs.nil
 intro uy6 y6 hS hd
 have d28 : uy6 28 = .bool false := hd 2 (by decide)
 have d35 : uy6 35 = .bool true := hd 9 (by decide)
 rw [d28, d35]
 replace o2 := O16.keep o2 hS
 replace o4 := OwnF.keep o4 hS
 replace o6 := O16.keep o6 hS
 replace o7 := O16.keep o7 hS
 replace hc := bnx hc hS
 clear hS hd d28 d35
 simp only [List.drop_succ_cons, List.drop_zero]
 have hfb := Lib.hid (hc.trans (t3_below o4 (⟨0, 0, 0⟩)))
 have HR := Lib.hid (t3_put o4 (⟨0, 0, 0⟩))
 go_wp2_with (first | (with_reducible refine t3_zero ?_) | ((with_reducible refine t3_store o4 (⟨0, 0, 0⟩) ?_ ?_ ?_); rfl; rfl))
 exact bodyPost_ret (t3_res2 Tryz.results78 _ HR.out rfl rfl) rfl ⟨rfl, hfb.out⟩
set_option maxHeartbeats 6400000 in
theorem with_even {y yy n1 s D dy dn iv un r n0 : Nat} {b : Int} (hbr : r < W4) (hb0 : n0 < W4) (he : ¬ r = n0) (hb : ¬ b = 1)
  (k1 : ∀ w, Calls Tryz.prog 82 #[fv y, fv y] w fun e w' => e = .returned (fv yy) ∧ Below w.heap.size w w')
  (k2 : ∀ w, Calls Tryz.prog 83 #[.int .i64 1] w fun e w' => e = .returned (fv n1) ∧ Below w.heap.size w w')
  (k3 : ∀ w, Calls Tryz.prog 111 #[fv yy, fv n1] w fun e w' => e = .returned (fv s) ∧ Below w.heap.size w w')
  (k4 : ∀ w, Calls Tryz.prog 80 #[] w fun e w' => e = .returned (fv D) ∧ Below w.heap.size w w')
  (k5 : ∀ w, Calls Tryz.prog 82 #[fv D, fv yy] w fun e w' => e = .returned (fv dy) ∧ Below w.heap.size w w')
  (k6 : ∀ w, Calls Tryz.prog 112 #[fv n1, fv dy] w fun e w' => e = .returned (fv dn) ∧ Below w.heap.size w w')
  (k7 : ∀ w, Calls Tryz.prog 84 #[fv dn] w fun e w' => e = .returned (fv iv) ∧ Below w.heap.size w w')
  (k8 : ∀ w, Calls Tryz.prog 82 #[fv s, fv iv] w fun e w' => e = .returned (fv un) ∧ Below w.heap.size w w')
  (k9 : ∀ w, Calls Tryz.prog 110 #[fv un] w fun e w' => e = .returned (.tuple #[fv r, .bool true]) ∧ Below w.heap.size w w')
  (k10 : ∀ w, Calls Tryz.prog 83 #[.int .i64 0] w fun e w' => e = .returned (fv n0) ∧ Below w.heap.size w w')
  (w : World) : Calls Tryz.prog 78 #[fv y, .int .i64 b] w fun e w' => e = .returned (.tuple #[t3v ⟨r, y, n1⟩, .bool true]) ∧ Below w.heap.size w w' := by
 have K1 := Lib.hid k1
 have K2 := Lib.hid k2
 have K3 := Lib.hid k3
 have K4 := Lib.hid k4
 have K5 := Lib.hid k5
 have K6 := Lib.hid k6
 have K7 := Lib.hid k7
 have K8 := Lib.hid k8
 have K9 := Lib.hid k9
 have K10 := Lib.hid k10
 clear k1 k2 k3 k4 k5 k6 k7 k8 k9 k10
 have HE := Lib.hid he
 clear he
 obtain ⟨v1, ev1⟩ : ∃ v, v = w.alloc (A16 y) := ⟨_, rfl⟩
 have bv1 := bnw ev1
 have sv1 := bsz ev1
 obtain ⟨g2, eg2⟩ : ∃ g, g = w.heap.size := ⟨_, rfl⟩
 have o2 : O16 v1 w.heap.size g2 y := by rw [eg2, ev1]; exact O16.new (Nat.le_refl _) y
 have hc := bv1
 have hs1 := hc.size
 obtain ⟨v2, ev2⟩ : ∃ v, v = v1.alloc (Z48) := ⟨_, rfl⟩
 have bv2 := bnw ev2
 have sv2 := bsz ev2
 obtain ⟨g4, eg4⟩ : ∃ g, g = v1.heap.size := ⟨_, rfl⟩
 have o4 : OwnF v2 v1.heap.size 70 (some ⟨g4, 0, none⟩) 48 48 (fun _ => .int .i64 0) := by rw [eg4, ev2]; exact z48_new (Nat.le_refl _)
 have n4_2 : g4 ≠ g2 := by have := OwnF.lt o2; omega
 replace o2 := o2.keep bv2
 replace hc := bnx hc bv2
 replace o4 := o4.mono hs1
 have hs2 := hc.size
 go_enter Tryz.func78, Tryz.ntmps78
 go_upto_region 1 with fail
 rw [← ev1, ← ev2]
 rw [show Value.pointer (some ⟨w.heap.size, 0, none⟩) = .pointer (some ⟨g2, 0, none⟩) by rw [eg2]]
 rw [show Value.pointer (some ⟨w.heap.size + 1, 0, none⟩) = .pointer (some ⟨g4, 0, none⟩) by rw [eg4, sv1]]
 clear ev1 bv1 sv1 ev2 bv2 sv2 eg2 eg4 hs1 hs2
 go_wp2_with (first | ((with_reducible refine fl_load o2 ?_ ?_); rfl))
 go_at_call 82
 refine (K1.out _).mono ?_
 rintro e y3 ⟨rfl, h0⟩
 replace o2 := O16.keep o2 h0
 replace o4 := OwnF.keep o4 h0
 replace hc := bnx hc h0
 clear h0
 have on0 : O16 (y3.alloc Z16) y3.heap.size y3.heap.size 0 := O16.zero (own_Z16 (Nat.le_refl _))
 have hl2 := OwnF.lt o2
 have hl4 := OwnF.lt o4
 have o6 := (on0.put yy).mono hc.size
 have hbz := ((Below.refl _ y3).alloc (Nat.le_refl _) Z16).trans (on0.below yy)
 replace o2 := O16.keep o2 hbz
 replace o4 := OwnF.keep o4 hbz
 replace hc := bnx hc hbz
 clear hbz
 go_upto_region 2 with ((with_reducible refine fl_store on0 yy ?_ ?_ ?_); rfl; rfl)
 obtain ⟨y4, ev⟩ : ∃ v, v = set16w (y3.alloc Z16) y3.heap.size yy := ⟨_, rfl⟩
 obtain ⟨g6, eg⟩ : ∃ g, g = y3.heap.size := ⟨_, rfl⟩
 rw [← ev] at o2 o4 o6 hc ⊢
 rw [← eg] at o6 ⊢
 have n6_2 : g6 ≠ g2 := by omega
 have n6_4 : g6 ≠ g4 := by omega
 clear hl2 hl4
 clear ev eg on0
 refine wp_region_box 17 [some 13, some 14, some 15, some 16, some 17, some 18, some 19, some 20, some 21, some 22, some 23, some 12, some 24, some 25, some 7, none, some 8] [.val (fv yy), .val (fv n1), .val (fv s), .val (fv n1), .val (fv D), .val (fv yy), .val (fv dy), .val (fv dn), .val (fv iv), .val (fv un), .val (.tuple #[fv r, .bool true]), .val (.tuple #[fv r, .bool true]), .val (fv r), .val (.bool true), .box 68 16, .holds 14 68 16 (dv16 r), .val (.bool true)] y4.heap.size (fun wz => Below y4.heap.size y4 wz) (by kernel_rfl) (by kernel_rfl)
  (fun _ _ h _ hb => h.trans hb) ((Below.refl _ _).drew) (Nat.le_refl _) (fun u => by simp only [List.filterMap_cons, List.filterMap_nil, id, puts, List.foldl_cons, List.foldl_nil]; go_simp; exact rfl) ?_ ?_
 ·simp only [List.take_succ_cons, List.take_zero]
  refine .cons (fun u w L hL hS hBw hd => ?_) ?_
  ·exact GB.run 13 rfl (fv yy) rfl (run_fload rfl rfl (o6.keep hS)) rfl rfl
  refine .cons (fun u w L hL hS hBw hd => ?_) ?_
  ·refine GB.call 14 rfl 83 #[.int .i64 1] rfl (by go_simp) rfl ((K2.out w).mono ?_)
   rintro e w' ⟨rfl, hb⟩
   exact ⟨_, rfl, rfl, hb⟩
  refine .cons (fun u w L hL hS hBw hd => ?_) ?_
  ·have d13 : u 13 = fv yy := depB hd 0 rfl
   rw [d13]
   have d14 : u 14 = fv n1 := depB hd 1 rfl
   rw [d14]
   refine GB.call 15 rfl 111 #[fv yy, fv n1] rfl (by go_simp) rfl ((K3.out w).mono ?_)
   rintro e w' ⟨rfl, hb⟩
   exact ⟨_, rfl, rfl, hb⟩
  refine .cons (fun u w L hL hS hBw hd => ?_) ?_
  ·refine GB.call 16 rfl 83 #[.int .i64 1] rfl (by go_simp) rfl ((K2.out w).mono ?_)
   rintro e w' ⟨rfl, hb⟩
   exact ⟨_, rfl, rfl, hb⟩
  refine .cons (fun u w L hL hS hBw hd => ?_) ?_
  ·refine GB.call 17 rfl 80 #[] rfl (by go_simp) rfl ((K4.out w).mono ?_)
   rintro e w' ⟨rfl, hb⟩
   exact ⟨_, rfl, rfl, hb⟩
  refine .cons (fun u w L hL hS hBw hd => ?_) ?_
  ·exact GB.run 18 rfl (fv yy) rfl (run_fload rfl rfl (o6.keep hS)) rfl rfl
  refine .cons (fun u w L hL hS hBw hd => ?_) ?_
  ·have d17 : u 17 = fv D := depB hd 4 rfl
   rw [d17]
   have d18 : u 18 = fv yy := depB hd 5 rfl
   rw [d18]
   refine GB.call 19 rfl 82 #[fv D, fv yy] rfl (by go_simp) rfl ((K5.out w).mono ?_)
   rintro e w' ⟨rfl, hb⟩
   exact ⟨_, rfl, rfl, hb⟩
  refine .cons (fun u w L hL hS hBw hd => ?_) ?_
  ·have d16 : u 16 = fv n1 := depB hd 3 rfl
   rw [d16]
   have d19 : u 19 = fv dy := depB hd 6 rfl
   rw [d19]
   refine GB.call 20 rfl 112 #[fv n1, fv dy] rfl (by go_simp) rfl ((K6.out w).mono ?_)
   rintro e w' ⟨rfl, hb⟩
   exact ⟨_, rfl, rfl, hb⟩
  refine .cons (fun u w L hL hS hBw hd => ?_) ?_
  ·have d20 : u 20 = fv dn := depB hd 7 rfl
   rw [d20]
   refine GB.call 21 rfl 84 #[fv dn] rfl (by go_simp) rfl ((K7.out w).mono ?_)
   rintro e w' ⟨rfl, hb⟩
   exact ⟨_, rfl, rfl, hb⟩
  refine .cons (fun u w L hL hS hBw hd => ?_) ?_
  ·have d15 : u 15 = fv s := depB hd 2 rfl
   rw [d15]
   have d21 : u 21 = fv iv := depB hd 8 rfl
   rw [d21]
   refine GB.call 22 rfl 82 #[fv s, fv iv] rfl (by go_simp) rfl ((K8.out w).mono ?_)
   rintro e w' ⟨rfl, hb⟩
   exact ⟨_, rfl, rfl, hb⟩
  refine .cons (fun u w L hL hS hBw hd => ?_) ?_
  ·have d22 : u 22 = fv un := depB hd 9 rfl
   rw [d22]
   refine GB.call 23 rfl 110 #[fv un] rfl (by go_simp) rfl ((K9.out w).mono ?_)
   rintro e w' ⟨rfl, hb⟩
   exact ⟨_, rfl, rfl, hb⟩
  refine .cons (fun u w L hL hS hBw hd => ?_) ?_
  ·have d23 : u 23 = .tuple #[fv r, .bool true] := depB hd 10 rfl
   rw [d23]
   exact GB.run 12 rfl (.tuple #[fv r, .bool true]) rfl (by go_simp) rfl rfl
  refine .cons (fun u w L hL hS hBw hd => ?_) ?_
  ·have d12 : u 12 = .tuple #[fv r, .bool true] := depB hd 11 rfl
   rw [d12]
   exact GB.run 24 rfl (fv r) rfl (by go_simp) rfl rfl
  refine .cons (fun u w L hL hS hBw hd => ?_) ?_
  ·have d12 : u 12 = .tuple #[fv r, .bool true] := depB hd 11 rfl
   rw [d12]
   exact GB.run 25 rfl (.bool true) rfl (by go_simp) rfl rfl
  refine .cons (fun u w L hL hS hBw hd => ?_) ?_
  ·exact GB.alloc 7 rfl rfl #[.int .i64 0, .int .i64 0, .int .i64 0, .int .i64 0, .int .i64 0, .int .i64 0, .int .i64 0, .int .i64 0, .int .i64 0, .int .i64 0, .int .i64 0, .int .i64 0, .int .i64 0, .int .i64 0, .int .i64 0, .int .i64 0] 68 16 (fun _ => .int .i64 0) rfl rfl (by go_simp) hBw (by decide) rfl
  refine .cons (fun u w L hL hS hBw hd => ?_) ?_
  ·have d24 : u 24 = fv r := depB hd 12 rfl
   obtain ⟨g, fg, e7, o7⟩ : (Fact.box 68 16).ok y4.heap.size [some 13, some 14, some 15, some 16, some 17, some 18, some 19, some 20, some 21, some 22, some 23, some 12, some 24, some 25, some 7, none, some 8] 14 u w L := depB hd 14 rfl
   exact GB.store rfl 14 g 68 16 (dv16 r) rfl rfl rfl e7 (run_fstore rfl (by exact e7) (by exact d24) o7) (only16 w g r) (put16 o7 r)
  refine .cons (fun u w L hL hS hBw hd => ?_) ?_
  ·have d25 : u 25 = .bool true := depB hd 13 rfl
   rw [d25]
   exact GB.run 8 rfl (.bool true) rfl (by go_simp) rfl rfl
  exact ObsB.nil
 intro uy5 y5 hS hd
 obtain ⟨g7, eg7, o7⟩ : (Fact.holds 14 68 16 (dv16 r)).ok y4.heap.size [some 13, some 14, some 15, some 16, some 17, some 18, some 19, some 20, some 21, some 22, some 23, some 12, some 24, some 25, some 7, none, some 8] 15 uy5 y5 (fun _ => true) := hd 15 (by decide)
 replace eg7 : uy5 7 = .pointer (some ⟨g7, 0, none⟩) := eg7
 replace o7 : O16 y5 y4.heap.size g7 r := o7
 have n7_2 : g7 ≠ g2 := by have := OwnF.ge o7; have := OwnF.lt o2; omega
 have n7_4 : g7 ≠ g4 := by have := OwnF.ge o7; have := OwnF.lt o4; omega
 have n7_6 : g7 ≠ g6 := by have := OwnF.ge o7; have := OwnF.lt o6; omega
 replace o7 := o7.mono hc.size
 replace o2 := O16.keep o2 hS
 replace o4 := OwnF.keep o4 hS
 replace o6 := O16.keep o6 hS
 replace hc := bnx hc hS
 have d8 : uy5 8 = .bool true := hd 16 (by decide)
 rw [eg7, d8]
 clear hS hd eg7 d8
 simp only [List.drop_succ_cons, List.drop_zero]
 go_upto_region 3 with fail
 refine wp_region_inv 10 [26, 27, 28, 29, 30, 31, 32, 33, 34, 35] [.val (.bool true), .val (.bool false), .val (.bool false), .val (fv r), .val (fv n0), .val (.bool false), .val (.bool false), .val (undef), .val (undef), .val (.bool false)] (fun wz => Below y5.heap.size y5 wz) (by kernel_rfl) (by kernel_rfl) (fun wz wz' hz hb => bnx hz hb) ((Below.refl _ _).drew) (fun u => by simp only [puts, List.foldl_cons, List.foldl_nil]; go_simp; exact rfl) ?_ ?_
 ·simp only [List.take_succ_cons, List.take_zero]
  refine .cons (fun u w hS hd => ?_) ?_
  ·exact Gv.run (.bool true) rfl (by go_simp) rfl
  refine .cons (fun u w hS hd => ?_) ?_
  ·have d26 : u 26 = .bool true := dep hd 0 rfl
   rw [d26]
   exact Gv.run (.bool false) rfl (by go_simp) rfl
  refine .cons (fun u w hS hd => ?_) ?_
  ·have d27 : u 27 = .bool false := dep hd 1 rfl
   rw [d27]
   exact Gv.run (.bool false) rfl (by go_simp) rfl
  refine .cons (fun u w hS hd => ?_) ?_
  ·have d28 : u 28 = .bool false := dep hd 2 rfl
   rw [d28]
   exact Gv.run (fv r) (by rfl) (run_fload rfl rfl (o7.keep hS)) rfl
  refine .cons (fun u w hS hd => ?_) ?_
  ·have d28 : u 28 = .bool false := dep hd 2 rfl
   rw [d28]
   refine Gv.call 83 #[.int .i64 0] rfl (by go_simp) ((K10.out w).mono ?_)
   rintro e w' ⟨rfl, hb⟩
   exact ⟨_, rfl, rfl, hb⟩
  refine .cons (fun u w hS hd => ?_) ?_
  ·have d28 : u 28 = .bool false := dep hd 2 rfl
   rw [d28]
   have d29 : u 29 = fv r := dep hd 3 rfl
   rw [d29]
   have d30 : u 30 = fv n0 := dep hd 4 rfl
   rw [d30]
   exact Gv.run (.bool false) rfl (run_eqF rfl rfl rfl hbr hb0 (decide_eq_false HE.out) w) rfl
  refine .cons (fun u w hS hd => ?_) ?_
  ·have d28 : u 28 = .bool false := dep hd 2 rfl
   rw [d28]
   have d31 : u 31 = .bool false := dep hd 5 rfl
   rw [d31]
   exact Gv.run (.bool false) rfl (by go_simp) rfl
  refine .cons (fun u w hS hd => ?_) ?_
  ·have d32 : u 32 = .bool false := dep hd 6 rfl
   rw [d32]
   exact Gv.skip (by rfl) rfl
  refine .cons (fun u w hS hd => ?_) ?_
  ·have d32 : u 32 = .bool false := dep hd 6 rfl
   rw [d32]
   exact Gv.skip (by rfl) rfl
  refine .cons (fun u w hS hd => ?_) ?_
  ·have d28 : u 28 = .bool false := dep hd 2 rfl
   rw [d28]
   have d32 : u 32 = .bool false := dep hd 6 rfl
   rw [d32]
   have d34 : u 34 = undef := dep hd 8 rfl
   rw [d34]
   exact Gv.run (.bool false) rfl (by go_simp) rfl
  exact Obs.nil
 intro uy6 y6 hS hd
 have d28 : uy6 28 = .bool false := hd 2 (by decide)
 have d35 : uy6 35 = .bool false := hd 9 (by decide)
 rw [d28, d35]
 replace o2 := O16.keep o2 hS
 replace o4 := OwnF.keep o4 hS
 replace o6 := O16.keep o6 hS
 replace o7 := O16.keep o7 hS
 replace hc := bnx hc hS
 clear hS hd d28 d35
 simp only [List.drop_succ_cons, List.drop_zero]
 have hb1 : (b == 1) = false := beq_eq_false_iff_ne.2 hb
 go_upto_region 7 with fail
 refine wp_region_inv 4 [42, 43, 44, 45] [.val (fv r), .val (fv y), .val (fv n1), .val (t3v ⟨r, y, n1⟩)] (fun wz => Below y6.heap.size y6 wz) (by kernel_rfl) (by kernel_rfl) (fun wz wz' hz hb => bnx hz hb) ((Below.refl _ _).drew) (fun u => by simp only [puts, List.foldl_cons, List.foldl_nil]; go_simp; exact rfl) ?_ ?_
 ·simp only [List.take_succ_cons, List.take_zero]
  refine .cons (fun u w hS hd => ?_) ?_
  ·exact Gv.run (fv r) rfl (run_fload rfl rfl (o7.keep hS)) rfl
  refine .cons (fun u w hS hd => ?_) ?_
  ·exact Gv.run (fv y) rfl (run_fload rfl rfl (o2.keep hS)) rfl
  refine .cons (fun u w hS hd => ?_) ?_
  ·refine Gv.call 83 #[.int .i64 1] rfl (by go_simp) ((K2.out w).mono ?_)
   rintro e w' ⟨rfl, hb⟩
   exact ⟨_, rfl, rfl, hb⟩
  refine .cons (fun u w hS hd => ?_) ?_
  ·have d42 : u 42 = fv r := dep hd 0 rfl
   rw [d42]
   have d43 : u 43 = fv y := dep hd 1 rfl
   rw [d43]
   have d44 : u 44 = fv n1 := dep hd 2 rfl
   rw [d44]
   exact Gv.run (t3v ⟨r, y, n1⟩) rfl (run_Pbuild rfl rfl rfl rfl) rfl
  exact Obs.nil
 intro uy7 y7 hS hd
 have d45 : uy7 45 = t3v ⟨r, y, n1⟩ := hd 3 (by decide)
 rw [d45]
 replace o2 := O16.keep o2 hS
 replace o4 := OwnF.keep o4 hS
 replace o6 := O16.keep o6 hS
 replace o7 := O16.keep o7 hS
 replace hc := bnx hc hS
 clear hS hd d45
 simp only [List.drop_succ_cons, List.drop_zero]
 have hfb := Lib.hid (hc.trans (t3_below o4 (⟨r, y, n1⟩)))
 have HR := Lib.hid (t3_put o4 (⟨r, y, n1⟩))
 go_wp2_with ((with_reducible refine t3_store o4 (⟨r, y, n1⟩) ?_ ?_ ?_); rfl; rfl)
 exact bodyPost_ret (t3_res2 Tryz.results78 _ HR.out rfl rfl) rfl ⟨rfl, hfb.out⟩
set_option maxHeartbeats 6400000 in
theorem with_odd {y yy n1 s D dy dn iv un r n0 rn : Nat} {b : Int} (hbr : r < W4) (hb0 : n0 < W4) (he : ¬ r = n0) (hb : b = 1)
  (k1 : ∀ w, Calls Tryz.prog 82 #[fv y, fv y] w fun e w' => e = .returned (fv yy) ∧ Below w.heap.size w w')
  (k2 : ∀ w, Calls Tryz.prog 83 #[.int .i64 1] w fun e w' => e = .returned (fv n1) ∧ Below w.heap.size w w')
  (k3 : ∀ w, Calls Tryz.prog 111 #[fv yy, fv n1] w fun e w' => e = .returned (fv s) ∧ Below w.heap.size w w')
  (k4 : ∀ w, Calls Tryz.prog 80 #[] w fun e w' => e = .returned (fv D) ∧ Below w.heap.size w w')
  (k5 : ∀ w, Calls Tryz.prog 82 #[fv D, fv yy] w fun e w' => e = .returned (fv dy) ∧ Below w.heap.size w w')
  (k6 : ∀ w, Calls Tryz.prog 112 #[fv n1, fv dy] w fun e w' => e = .returned (fv dn) ∧ Below w.heap.size w w')
  (k7 : ∀ w, Calls Tryz.prog 84 #[fv dn] w fun e w' => e = .returned (fv iv) ∧ Below w.heap.size w w')
  (k8 : ∀ w, Calls Tryz.prog 82 #[fv s, fv iv] w fun e w' => e = .returned (fv un) ∧ Below w.heap.size w w')
  (k9 : ∀ w, Calls Tryz.prog 110 #[fv un] w fun e w' => e = .returned (.tuple #[fv r, .bool true]) ∧ Below w.heap.size w w')
  (k10 : ∀ w, Calls Tryz.prog 83 #[.int .i64 0] w fun e w' => e = .returned (fv n0) ∧ Below w.heap.size w w')
  (k11 : ∀ w, Calls Tryz.prog 113 #[fv r] w fun e w' => e = .returned (fv rn) ∧ Below w.heap.size w w')
  (w : World) : Calls Tryz.prog 78 #[fv y, .int .i64 b] w fun e w' => e = .returned (.tuple #[t3v ⟨rn, y, n1⟩, .bool true]) ∧ Below w.heap.size w w' := by
 have K1 := Lib.hid k1
 have K2 := Lib.hid k2
 have K3 := Lib.hid k3
 have K4 := Lib.hid k4
 have K5 := Lib.hid k5
 have K6 := Lib.hid k6
 have K7 := Lib.hid k7
 have K8 := Lib.hid k8
 have K9 := Lib.hid k9
 have K10 := Lib.hid k10
 have K11 := Lib.hid k11
 clear k1 k2 k3 k4 k5 k6 k7 k8 k9 k10 k11
 have HE := Lib.hid he
 clear he
 obtain ⟨v1, ev1⟩ : ∃ v, v = w.alloc (A16 y) := ⟨_, rfl⟩
 have bv1 := bnw ev1
 have sv1 := bsz ev1
 obtain ⟨g2, eg2⟩ : ∃ g, g = w.heap.size := ⟨_, rfl⟩
 have o2 : O16 v1 w.heap.size g2 y := by rw [eg2, ev1]; exact O16.new (Nat.le_refl _) y
 have hc := bv1
 have hs1 := hc.size
 obtain ⟨v2, ev2⟩ : ∃ v, v = v1.alloc (Z48) := ⟨_, rfl⟩
 have bv2 := bnw ev2
 have sv2 := bsz ev2
 obtain ⟨g4, eg4⟩ : ∃ g, g = v1.heap.size := ⟨_, rfl⟩
 have o4 : OwnF v2 v1.heap.size 70 (some ⟨g4, 0, none⟩) 48 48 (fun _ => .int .i64 0) := by rw [eg4, ev2]; exact z48_new (Nat.le_refl _)
 have n4_2 : g4 ≠ g2 := by have := OwnF.lt o2; omega
 replace o2 := o2.keep bv2
 replace hc := bnx hc bv2
 replace o4 := o4.mono hs1
 have hs2 := hc.size
 go_enter Tryz.func78, Tryz.ntmps78
 go_upto_region 1 with fail
 rw [← ev1, ← ev2]
 rw [show Value.pointer (some ⟨w.heap.size, 0, none⟩) = .pointer (some ⟨g2, 0, none⟩) by rw [eg2]]
 rw [show Value.pointer (some ⟨w.heap.size + 1, 0, none⟩) = .pointer (some ⟨g4, 0, none⟩) by rw [eg4, sv1]]
 clear ev1 bv1 sv1 ev2 bv2 sv2 eg2 eg4 hs1 hs2
 go_wp2_with (first | ((with_reducible refine fl_load o2 ?_ ?_); rfl))
 go_at_call 82
 refine (K1.out _).mono ?_
 rintro e y3 ⟨rfl, h0⟩
 replace o2 := O16.keep o2 h0
 replace o4 := OwnF.keep o4 h0
 replace hc := bnx hc h0
 clear h0
 have on0 : O16 (y3.alloc Z16) y3.heap.size y3.heap.size 0 := O16.zero (own_Z16 (Nat.le_refl _))
 have hl2 := OwnF.lt o2
 have hl4 := OwnF.lt o4
 have o6 := (on0.put yy).mono hc.size
 have hbz := ((Below.refl _ y3).alloc (Nat.le_refl _) Z16).trans (on0.below yy)
 replace o2 := O16.keep o2 hbz
 replace o4 := OwnF.keep o4 hbz
 replace hc := bnx hc hbz
 clear hbz
 go_upto_region 2 with ((with_reducible refine fl_store on0 yy ?_ ?_ ?_); rfl; rfl)
 obtain ⟨y4, ev⟩ : ∃ v, v = set16w (y3.alloc Z16) y3.heap.size yy := ⟨_, rfl⟩
 obtain ⟨g6, eg⟩ : ∃ g, g = y3.heap.size := ⟨_, rfl⟩
 rw [← ev] at o2 o4 o6 hc ⊢
 rw [← eg] at o6 ⊢
 have n6_2 : g6 ≠ g2 := by omega
 have n6_4 : g6 ≠ g4 := by omega
 clear hl2 hl4
 clear ev eg on0
 refine wp_region_box 17 [some 13, some 14, some 15, some 16, some 17, some 18, some 19, some 20, some 21, some 22, some 23, some 12, some 24, some 25, some 7, none, some 8] [.val (fv yy), .val (fv n1), .val (fv s), .val (fv n1), .val (fv D), .val (fv yy), .val (fv dy), .val (fv dn), .val (fv iv), .val (fv un), .val (.tuple #[fv r, .bool true]), .val (.tuple #[fv r, .bool true]), .val (fv r), .val (.bool true), .box 68 16, .holds 14 68 16 (dv16 r), .val (.bool true)] y4.heap.size (fun wz => Below y4.heap.size y4 wz) (by kernel_rfl) (by kernel_rfl)
  (fun _ _ h _ hb => h.trans hb) ((Below.refl _ _).drew) (Nat.le_refl _) (fun u => by simp only [List.filterMap_cons, List.filterMap_nil, id, puts, List.foldl_cons, List.foldl_nil]; go_simp; exact rfl) ?_ ?_
 ·simp only [List.take_succ_cons, List.take_zero]
  refine .cons (fun u w L hL hS hBw hd => ?_) ?_
  ·exact GB.run 13 rfl (fv yy) rfl (run_fload rfl rfl (o6.keep hS)) rfl rfl
  refine .cons (fun u w L hL hS hBw hd => ?_) ?_
  ·refine GB.call 14 rfl 83 #[.int .i64 1] rfl (by go_simp) rfl ((K2.out w).mono ?_)
   rintro e w' ⟨rfl, hb⟩
   exact ⟨_, rfl, rfl, hb⟩
  refine .cons (fun u w L hL hS hBw hd => ?_) ?_
  ·have d13 : u 13 = fv yy := depB hd 0 rfl
   rw [d13]
   have d14 : u 14 = fv n1 := depB hd 1 rfl
   rw [d14]
   refine GB.call 15 rfl 111 #[fv yy, fv n1] rfl (by go_simp) rfl ((K3.out w).mono ?_)
   rintro e w' ⟨rfl, hb⟩
   exact ⟨_, rfl, rfl, hb⟩
  refine .cons (fun u w L hL hS hBw hd => ?_) ?_
  ·refine GB.call 16 rfl 83 #[.int .i64 1] rfl (by go_simp) rfl ((K2.out w).mono ?_)
   rintro e w' ⟨rfl, hb⟩
   exact ⟨_, rfl, rfl, hb⟩
  refine .cons (fun u w L hL hS hBw hd => ?_) ?_
  ·refine GB.call 17 rfl 80 #[] rfl (by go_simp) rfl ((K4.out w).mono ?_)
   rintro e w' ⟨rfl, hb⟩
   exact ⟨_, rfl, rfl, hb⟩
  refine .cons (fun u w L hL hS hBw hd => ?_) ?_
  ·exact GB.run 18 rfl (fv yy) rfl (run_fload rfl rfl (o6.keep hS)) rfl rfl
  refine .cons (fun u w L hL hS hBw hd => ?_) ?_
  ·have d17 : u 17 = fv D := depB hd 4 rfl
   rw [d17]
   have d18 : u 18 = fv yy := depB hd 5 rfl
   rw [d18]
   refine GB.call 19 rfl 82 #[fv D, fv yy] rfl (by go_simp) rfl ((K5.out w).mono ?_)
   rintro e w' ⟨rfl, hb⟩
   exact ⟨_, rfl, rfl, hb⟩
  refine .cons (fun u w L hL hS hBw hd => ?_) ?_
  ·have d16 : u 16 = fv n1 := depB hd 3 rfl
   rw [d16]
   have d19 : u 19 = fv dy := depB hd 6 rfl
   rw [d19]
   refine GB.call 20 rfl 112 #[fv n1, fv dy] rfl (by go_simp) rfl ((K6.out w).mono ?_)
   rintro e w' ⟨rfl, hb⟩
   exact ⟨_, rfl, rfl, hb⟩
  refine .cons (fun u w L hL hS hBw hd => ?_) ?_
  ·have d20 : u 20 = fv dn := depB hd 7 rfl
   rw [d20]
   refine GB.call 21 rfl 84 #[fv dn] rfl (by go_simp) rfl ((K7.out w).mono ?_)
   rintro e w' ⟨rfl, hb⟩
   exact ⟨_, rfl, rfl, hb⟩
  refine .cons (fun u w L hL hS hBw hd => ?_) ?_
  ·have d15 : u 15 = fv s := depB hd 2 rfl
   rw [d15]
   have d21 : u 21 = fv iv := depB hd 8 rfl
   rw [d21]
   refine GB.call 22 rfl 82 #[fv s, fv iv] rfl (by go_simp) rfl ((K8.out w).mono ?_)
   rintro e w' ⟨rfl, hb⟩
   exact ⟨_, rfl, rfl, hb⟩
  refine .cons (fun u w L hL hS hBw hd => ?_) ?_
  ·have d22 : u 22 = fv un := depB hd 9 rfl
   rw [d22]
   refine GB.call 23 rfl 110 #[fv un] rfl (by go_simp) rfl ((K9.out w).mono ?_)
   rintro e w' ⟨rfl, hb⟩
   exact ⟨_, rfl, rfl, hb⟩
  refine .cons (fun u w L hL hS hBw hd => ?_) ?_
  ·have d23 : u 23 = .tuple #[fv r, .bool true] := depB hd 10 rfl
   rw [d23]
   exact GB.run 12 rfl (.tuple #[fv r, .bool true]) rfl (by go_simp) rfl rfl
  refine .cons (fun u w L hL hS hBw hd => ?_) ?_
  ·have d12 : u 12 = .tuple #[fv r, .bool true] := depB hd 11 rfl
   rw [d12]
   exact GB.run 24 rfl (fv r) rfl (by go_simp) rfl rfl
  refine .cons (fun u w L hL hS hBw hd => ?_) ?_
  ·have d12 : u 12 = .tuple #[fv r, .bool true] := depB hd 11 rfl
   rw [d12]
   exact GB.run 25 rfl (.bool true) rfl (by go_simp) rfl rfl
  refine .cons (fun u w L hL hS hBw hd => ?_) ?_
  ·exact GB.alloc 7 rfl rfl #[.int .i64 0, .int .i64 0, .int .i64 0, .int .i64 0, .int .i64 0, .int .i64 0, .int .i64 0, .int .i64 0, .int .i64 0, .int .i64 0, .int .i64 0, .int .i64 0, .int .i64 0, .int .i64 0, .int .i64 0, .int .i64 0] 68 16 (fun _ => .int .i64 0) rfl rfl (by go_simp) hBw (by decide) rfl
  refine .cons (fun u w L hL hS hBw hd => ?_) ?_
  ·have d24 : u 24 = fv r := depB hd 12 rfl
   obtain ⟨g, fg, e7, o7⟩ : (Fact.box 68 16).ok y4.heap.size [some 13, some 14, some 15, some 16, some 17, some 18, some 19, some 20, some 21, some 22, some 23, some 12, some 24, some 25, some 7, none, some 8] 14 u w L := depB hd 14 rfl
   exact GB.store rfl 14 g 68 16 (dv16 r) rfl rfl rfl e7 (run_fstore rfl (by exact e7) (by exact d24) o7) (only16 w g r) (put16 o7 r)
  refine .cons (fun u w L hL hS hBw hd => ?_) ?_
  ·have d25 : u 25 = .bool true := depB hd 13 rfl
   rw [d25]
   exact GB.run 8 rfl (.bool true) rfl (by go_simp) rfl rfl
  exact ObsB.nil
 intro uy5 y5 hS hd
 obtain ⟨g7, eg7, o7⟩ : (Fact.holds 14 68 16 (dv16 r)).ok y4.heap.size [some 13, some 14, some 15, some 16, some 17, some 18, some 19, some 20, some 21, some 22, some 23, some 12, some 24, some 25, some 7, none, some 8] 15 uy5 y5 (fun _ => true) := hd 15 (by decide)
 replace eg7 : uy5 7 = .pointer (some ⟨g7, 0, none⟩) := eg7
 replace o7 : O16 y5 y4.heap.size g7 r := o7
 have n7_2 : g7 ≠ g2 := by have := OwnF.ge o7; have := OwnF.lt o2; omega
 have n7_4 : g7 ≠ g4 := by have := OwnF.ge o7; have := OwnF.lt o4; omega
 have n7_6 : g7 ≠ g6 := by have := OwnF.ge o7; have := OwnF.lt o6; omega
 replace o7 := o7.mono hc.size
 replace o2 := O16.keep o2 hS
 replace o4 := OwnF.keep o4 hS
 replace o6 := O16.keep o6 hS
 replace hc := bnx hc hS
 have d8 : uy5 8 = .bool true := hd 16 (by decide)
 rw [eg7, d8]
 clear hS hd eg7 d8
 simp only [List.drop_succ_cons, List.drop_zero]
 go_upto_region 3 with fail
 refine wp_region_inv 10 [26, 27, 28, 29, 30, 31, 32, 33, 34, 35] [.val (.bool true), .val (.bool false), .val (.bool false), .val (fv r), .val (fv n0), .val (.bool false), .val (.bool false), .val (undef), .val (undef), .val (.bool false)] (fun wz => Below y5.heap.size y5 wz) (by kernel_rfl) (by kernel_rfl) (fun wz wz' hz hb => bnx hz hb) ((Below.refl _ _).drew) (fun u => by simp only [puts, List.foldl_cons, List.foldl_nil]; go_simp; exact rfl) ?_ ?_
 ·simp only [List.take_succ_cons, List.take_zero]
  refine .cons (fun u w hS hd => ?_) ?_
  ·exact Gv.run (.bool true) rfl (by go_simp) rfl
  refine .cons (fun u w hS hd => ?_) ?_
  ·have d26 : u 26 = .bool true := dep hd 0 rfl
   rw [d26]
   exact Gv.run (.bool false) rfl (by go_simp) rfl
  refine .cons (fun u w hS hd => ?_) ?_
  ·have d27 : u 27 = .bool false := dep hd 1 rfl
   rw [d27]
   exact Gv.run (.bool false) rfl (by go_simp) rfl
  refine .cons (fun u w hS hd => ?_) ?_
  ·have d28 : u 28 = .bool false := dep hd 2 rfl
   rw [d28]
   exact Gv.run (fv r) (by rfl) (run_fload rfl rfl (o7.keep hS)) rfl
  refine .cons (fun u w hS hd => ?_) ?_
  ·have d28 : u 28 = .bool false := dep hd 2 rfl
   rw [d28]
   refine Gv.call 83 #[.int .i64 0] rfl (by go_simp) ((K10.out w).mono ?_)
   rintro e w' ⟨rfl, hb⟩
   exact ⟨_, rfl, rfl, hb⟩
  refine .cons (fun u w hS hd => ?_) ?_
  ·have d28 : u 28 = .bool false := dep hd 2 rfl
   rw [d28]
   have d29 : u 29 = fv r := dep hd 3 rfl
   rw [d29]
   have d30 : u 30 = fv n0 := dep hd 4 rfl
   rw [d30]
   exact Gv.run (.bool false) rfl (run_eqF rfl rfl rfl hbr hb0 (decide_eq_false HE.out) w) rfl
  refine .cons (fun u w hS hd => ?_) ?_
  ·have d28 : u 28 = .bool false := dep hd 2 rfl
   rw [d28]
   have d31 : u 31 = .bool false := dep hd 5 rfl
   rw [d31]
   exact Gv.run (.bool false) rfl (by go_simp) rfl
  refine .cons (fun u w hS hd => ?_) ?_
  ·have d32 : u 32 = .bool false := dep hd 6 rfl
   rw [d32]
   exact Gv.skip (by rfl) rfl
  refine .cons (fun u w hS hd => ?_) ?_
  ·have d32 : u 32 = .bool false := dep hd 6 rfl
   rw [d32]
   exact Gv.skip (by rfl) rfl
  refine .cons (fun u w hS hd => ?_) ?_
  ·have d28 : u 28 = .bool false := dep hd 2 rfl
   rw [d28]
   have d32 : u 32 = .bool false := dep hd 6 rfl
   rw [d32]
   have d34 : u 34 = undef := dep hd 8 rfl
   rw [d34]
   exact Gv.run (.bool false) rfl (by go_simp) rfl
  exact Obs.nil
 intro uy6 y6 hS hd
 have d28 : uy6 28 = .bool false := hd 2 (by decide)
 have d35 : uy6 35 = .bool false := hd 9 (by decide)
 rw [d28, d35]
 replace o2 := O16.keep o2 hS
 replace o4 := OwnF.keep o4 hS
 replace o6 := O16.keep o6 hS
 replace o7 := O16.keep o7 hS
 replace hc := bnx hc hS
 clear hS hd d28 d35
 simp only [List.drop_succ_cons, List.drop_zero]
 have hb1 : (b == 1) = true := by rw [hb]; rfl
 go_wp2_with (first | ((with_reducible refine fl_load o7 ?_ ?_); rfl))
 go_at_call 113
 refine (K11.out _).mono ?_
 rintro e z1 ⟨rfl, h0⟩
 replace o2 := O16.keep o2 h0
 replace o4 := OwnF.keep o4 h0
 replace o6 := O16.keep o6 h0
 replace o7 := O16.keep o7 h0
 replace hc := bnx hc h0
 clear h0
 have on0 := o7
 have ho := only16 z1 g7 rn
 have hbz := on0.below rn
 replace o7 := on0.put rn
 replace o2 : O16 _ _ _ y := OwnF.only o2 ho n7_2
 replace o4 := OwnF.only o4 ho n7_4
 replace hc := hc.trans hbz
 clear ho hbz o6
 go_upto_region 7 with ((with_reducible refine fl_store on0 rn ?_ ?_ ?_); rfl; rfl)
 obtain ⟨z2, ev⟩ : ∃ v, v = set16w z1 g7 rn := ⟨_, rfl⟩
 rw [← ev] at o2 o4 o7 hc ⊢
 clear ev on0
 refine wp_region_inv 4 [42, 43, 44, 45] [.val (fv rn), .val (fv y), .val (fv n1), .val (t3v ⟨rn, y, n1⟩)] (fun wz => Below z2.heap.size z2 wz) (by kernel_rfl) (by kernel_rfl) (fun wz wz' hz hb => bnx hz hb) ((Below.refl _ _).drew) (fun u => by simp only [puts, List.foldl_cons, List.foldl_nil]; go_simp; exact rfl) ?_ ?_
 ·simp only [List.take_succ_cons, List.take_zero]
  refine .cons (fun u w hS hd => ?_) ?_
  ·exact Gv.run (fv rn) rfl (run_fload rfl rfl (o7.keep hS)) rfl
  refine .cons (fun u w hS hd => ?_) ?_
  ·exact Gv.run (fv y) rfl (run_fload rfl rfl (o2.keep hS)) rfl
  refine .cons (fun u w hS hd => ?_) ?_
  ·refine Gv.call 83 #[.int .i64 1] rfl (by go_simp) ((K2.out w).mono ?_)
   rintro e w' ⟨rfl, hb⟩
   exact ⟨_, rfl, rfl, hb⟩
  refine .cons (fun u w hS hd => ?_) ?_
  ·have d42 : u 42 = fv rn := dep hd 0 rfl
   rw [d42]
   have d43 : u 43 = fv y := dep hd 1 rfl
   rw [d43]
   have d44 : u 44 = fv n1 := dep hd 2 rfl
   rw [d44]
   exact Gv.run (t3v ⟨rn, y, n1⟩) rfl (run_Pbuild rfl rfl rfl rfl) rfl
  exact Obs.nil
 intro uy7 y7 hS hd
 have d45 : uy7 45 = t3v ⟨rn, y, n1⟩ := hd 3 (by decide)
 rw [d45]
 replace o2 := O16.keep o2 hS
 replace o7 := O16.keep o7 hS
 replace o4 := OwnF.keep o4 hS
 replace hc := bnx hc hS
 clear hS hd d45
 simp only [List.drop_succ_cons, List.drop_zero]
 have hfb := Lib.hid (hc.trans (t3_below o4 (⟨rn, y, n1⟩)))
 have HR := Lib.hid (t3_put o4 (⟨rn, y, n1⟩))
 go_wp2_with ((with_reducible refine t3_store o4 (⟨rn, y, n1⟩) ?_ ?_ ?_); rfl; rfl)
 exact bodyPost_ret (t3_res2 Tryz.results78 _ HR.out rfl rfl) rfl ⟨rfl, hfb.out⟩
set_option maxHeartbeats 6400000 in
theorem with_zero {y yy n1 s D dy dn iv un r n0 : Nat} {b : Int} (hbr : r < W4) (hb0 : n0 < W4) (he : r = n0) (hb : ¬ b = 1)
  (k1 : ∀ w, Calls Tryz.prog 82 #[fv y, fv y] w fun e w' => e = .returned (fv yy) ∧ Below w.heap.size w w')
  (k2 : ∀ w, Calls Tryz.prog 83 #[.int .i64 1] w fun e w' => e = .returned (fv n1) ∧ Below w.heap.size w w')
  (k3 : ∀ w, Calls Tryz.prog 111 #[fv yy, fv n1] w fun e w' => e = .returned (fv s) ∧ Below w.heap.size w w')
  (k4 : ∀ w, Calls Tryz.prog 80 #[] w fun e w' => e = .returned (fv D) ∧ Below w.heap.size w w')
  (k5 : ∀ w, Calls Tryz.prog 82 #[fv D, fv yy] w fun e w' => e = .returned (fv dy) ∧ Below w.heap.size w w')
  (k6 : ∀ w, Calls Tryz.prog 112 #[fv n1, fv dy] w fun e w' => e = .returned (fv dn) ∧ Below w.heap.size w w')
  (k7 : ∀ w, Calls Tryz.prog 84 #[fv dn] w fun e w' => e = .returned (fv iv) ∧ Below w.heap.size w w')
  (k8 : ∀ w, Calls Tryz.prog 82 #[fv s, fv iv] w fun e w' => e = .returned (fv un) ∧ Below w.heap.size w w')
  (k9 : ∀ w, Calls Tryz.prog 110 #[fv un] w fun e w' => e = .returned (.tuple #[fv r, .bool true]) ∧ Below w.heap.size w w')
  (k10 : ∀ w, Calls Tryz.prog 83 #[.int .i64 0] w fun e w' => e = .returned (fv n0) ∧ Below w.heap.size w w')
  (w : World) : Calls Tryz.prog 78 #[fv y, .int .i64 b] w fun e w' => e = .returned (.tuple #[t3v ⟨r, y, n1⟩, .bool true]) ∧ Below w.heap.size w w' := by
 have K1 := Lib.hid k1
 have K2 := Lib.hid k2
 have K3 := Lib.hid k3
 have K4 := Lib.hid k4
 have K5 := Lib.hid k5
 have K6 := Lib.hid k6
 have K7 := Lib.hid k7
 have K8 := Lib.hid k8
 have K9 := Lib.hid k9
 have K10 := Lib.hid k10
 clear k1 k2 k3 k4 k5 k6 k7 k8 k9 k10
 have HE := Lib.hid he
 clear he
 obtain ⟨v1, ev1⟩ : ∃ v, v = w.alloc (A16 y) := ⟨_, rfl⟩
 have bv1 := bnw ev1
 have sv1 := bsz ev1
 obtain ⟨g2, eg2⟩ : ∃ g, g = w.heap.size := ⟨_, rfl⟩
 have o2 : O16 v1 w.heap.size g2 y := by rw [eg2, ev1]; exact O16.new (Nat.le_refl _) y
 have hc := bv1
 have hs1 := hc.size
 obtain ⟨v2, ev2⟩ : ∃ v, v = v1.alloc (Z48) := ⟨_, rfl⟩
 have bv2 := bnw ev2
 have sv2 := bsz ev2
 obtain ⟨g4, eg4⟩ : ∃ g, g = v1.heap.size := ⟨_, rfl⟩
 have o4 : OwnF v2 v1.heap.size 70 (some ⟨g4, 0, none⟩) 48 48 (fun _ => .int .i64 0) := by rw [eg4, ev2]; exact z48_new (Nat.le_refl _)
 have n4_2 : g4 ≠ g2 := by have := OwnF.lt o2; omega
 replace o2 := o2.keep bv2
 replace hc := bnx hc bv2
 replace o4 := o4.mono hs1
 have hs2 := hc.size
 go_enter Tryz.func78, Tryz.ntmps78
 go_upto_region 1 with fail
 rw [← ev1, ← ev2]
 rw [show Value.pointer (some ⟨w.heap.size, 0, none⟩) = .pointer (some ⟨g2, 0, none⟩) by rw [eg2]]
 rw [show Value.pointer (some ⟨w.heap.size + 1, 0, none⟩) = .pointer (some ⟨g4, 0, none⟩) by rw [eg4, sv1]]
 clear ev1 bv1 sv1 ev2 bv2 sv2 eg2 eg4 hs1 hs2
 go_wp2_with (first | ((with_reducible refine fl_load o2 ?_ ?_); rfl))
 go_at_call 82
 refine (K1.out _).mono ?_
 rintro e y3 ⟨rfl, h0⟩
 replace o2 := O16.keep o2 h0
 replace o4 := OwnF.keep o4 h0
 replace hc := bnx hc h0
 clear h0
 have on0 : O16 (y3.alloc Z16) y3.heap.size y3.heap.size 0 := O16.zero (own_Z16 (Nat.le_refl _))
 have hl2 := OwnF.lt o2
 have hl4 := OwnF.lt o4
 have o6 := (on0.put yy).mono hc.size
 have hbz := ((Below.refl _ y3).alloc (Nat.le_refl _) Z16).trans (on0.below yy)
 replace o2 := O16.keep o2 hbz
 replace o4 := OwnF.keep o4 hbz
 replace hc := bnx hc hbz
 clear hbz
 go_upto_region 2 with ((with_reducible refine fl_store on0 yy ?_ ?_ ?_); rfl; rfl)
 obtain ⟨y4, ev⟩ : ∃ v, v = set16w (y3.alloc Z16) y3.heap.size yy := ⟨_, rfl⟩
 obtain ⟨g6, eg⟩ : ∃ g, g = y3.heap.size := ⟨_, rfl⟩
 rw [← ev] at o2 o4 o6 hc ⊢
 rw [← eg] at o6 ⊢
 have n6_2 : g6 ≠ g2 := by omega
 have n6_4 : g6 ≠ g4 := by omega
 clear hl2 hl4
 clear ev eg on0
 refine wp_region_box 17 [some 13, some 14, some 15, some 16, some 17, some 18, some 19, some 20, some 21, some 22, some 23, some 12, some 24, some 25, some 7, none, some 8] [.val (fv yy), .val (fv n1), .val (fv s), .val (fv n1), .val (fv D), .val (fv yy), .val (fv dy), .val (fv dn), .val (fv iv), .val (fv un), .val (.tuple #[fv r, .bool true]), .val (.tuple #[fv r, .bool true]), .val (fv r), .val (.bool true), .box 68 16, .holds 14 68 16 (dv16 r), .val (.bool true)] y4.heap.size (fun wz => Below y4.heap.size y4 wz) (by kernel_rfl) (by kernel_rfl)
  (fun _ _ h _ hb => h.trans hb) ((Below.refl _ _).drew) (Nat.le_refl _) (fun u => by simp only [List.filterMap_cons, List.filterMap_nil, id, puts, List.foldl_cons, List.foldl_nil]; go_simp; exact rfl) ?_ ?_
 ·simp only [List.take_succ_cons, List.take_zero]
  refine .cons (fun u w L hL hS hBw hd => ?_) ?_
  ·exact GB.run 13 rfl (fv yy) rfl (run_fload rfl rfl (o6.keep hS)) rfl rfl
  refine .cons (fun u w L hL hS hBw hd => ?_) ?_
  ·refine GB.call 14 rfl 83 #[.int .i64 1] rfl (by go_simp) rfl ((K2.out w).mono ?_)
   rintro e w' ⟨rfl, hb⟩
   exact ⟨_, rfl, rfl, hb⟩
  refine .cons (fun u w L hL hS hBw hd => ?_) ?_
  ·have d13 : u 13 = fv yy := depB hd 0 rfl
   rw [d13]
   have d14 : u 14 = fv n1 := depB hd 1 rfl
   rw [d14]
   refine GB.call 15 rfl 111 #[fv yy, fv n1] rfl (by go_simp) rfl ((K3.out w).mono ?_)
   rintro e w' ⟨rfl, hb⟩
   exact ⟨_, rfl, rfl, hb⟩
  refine .cons (fun u w L hL hS hBw hd => ?_) ?_
  ·refine GB.call 16 rfl 83 #[.int .i64 1] rfl (by go_simp) rfl ((K2.out w).mono ?_)
   rintro e w' ⟨rfl, hb⟩
   exact ⟨_, rfl, rfl, hb⟩
  refine .cons (fun u w L hL hS hBw hd => ?_) ?_
  ·refine GB.call 17 rfl 80 #[] rfl (by go_simp) rfl ((K4.out w).mono ?_)
   rintro e w' ⟨rfl, hb⟩
   exact ⟨_, rfl, rfl, hb⟩
  refine .cons (fun u w L hL hS hBw hd => ?_) ?_
  ·exact GB.run 18 rfl (fv yy) rfl (run_fload rfl rfl (o6.keep hS)) rfl rfl
  refine .cons (fun u w L hL hS hBw hd => ?_) ?_
  ·have d17 : u 17 = fv D := depB hd 4 rfl
   rw [d17]
   have d18 : u 18 = fv yy := depB hd 5 rfl
   rw [d18]
   refine GB.call 19 rfl 82 #[fv D, fv yy] rfl (by go_simp) rfl ((K5.out w).mono ?_)
   rintro e w' ⟨rfl, hb⟩
   exact ⟨_, rfl, rfl, hb⟩
  refine .cons (fun u w L hL hS hBw hd => ?_) ?_
  ·have d16 : u 16 = fv n1 := depB hd 3 rfl
   rw [d16]
   have d19 : u 19 = fv dy := depB hd 6 rfl
   rw [d19]
   refine GB.call 20 rfl 112 #[fv n1, fv dy] rfl (by go_simp) rfl ((K6.out w).mono ?_)
   rintro e w' ⟨rfl, hb⟩
   exact ⟨_, rfl, rfl, hb⟩
  refine .cons (fun u w L hL hS hBw hd => ?_) ?_
  ·have d20 : u 20 = fv dn := depB hd 7 rfl
   rw [d20]
   refine GB.call 21 rfl 84 #[fv dn] rfl (by go_simp) rfl ((K7.out w).mono ?_)
   rintro e w' ⟨rfl, hb⟩
   exact ⟨_, rfl, rfl, hb⟩
  refine .cons (fun u w L hL hS hBw hd => ?_) ?_
  ·have d15 : u 15 = fv s := depB hd 2 rfl
   rw [d15]
   have d21 : u 21 = fv iv := depB hd 8 rfl
   rw [d21]
   refine GB.call 22 rfl 82 #[fv s, fv iv] rfl (by go_simp) rfl ((K8.out w).mono ?_)
   rintro e w' ⟨rfl, hb⟩
   exact ⟨_, rfl, rfl, hb⟩
  refine .cons (fun u w L hL hS hBw hd => ?_) ?_
  ·have d22 : u 22 = fv un := depB hd 9 rfl
   rw [d22]
   refine GB.call 23 rfl 110 #[fv un] rfl (by go_simp) rfl ((K9.out w).mono ?_)
   rintro e w' ⟨rfl, hb⟩
   exact ⟨_, rfl, rfl, hb⟩
  refine .cons (fun u w L hL hS hBw hd => ?_) ?_
  ·have d23 : u 23 = .tuple #[fv r, .bool true] := depB hd 10 rfl
   rw [d23]
   exact GB.run 12 rfl (.tuple #[fv r, .bool true]) rfl (by go_simp) rfl rfl
  refine .cons (fun u w L hL hS hBw hd => ?_) ?_
  ·have d12 : u 12 = .tuple #[fv r, .bool true] := depB hd 11 rfl
   rw [d12]
   exact GB.run 24 rfl (fv r) rfl (by go_simp) rfl rfl
  refine .cons (fun u w L hL hS hBw hd => ?_) ?_
  ·have d12 : u 12 = .tuple #[fv r, .bool true] := depB hd 11 rfl
   rw [d12]
   exact GB.run 25 rfl (.bool true) rfl (by go_simp) rfl rfl
  refine .cons (fun u w L hL hS hBw hd => ?_) ?_
  ·exact GB.alloc 7 rfl rfl #[.int .i64 0, .int .i64 0, .int .i64 0, .int .i64 0, .int .i64 0, .int .i64 0, .int .i64 0, .int .i64 0, .int .i64 0, .int .i64 0, .int .i64 0, .int .i64 0, .int .i64 0, .int .i64 0, .int .i64 0, .int .i64 0] 68 16 (fun _ => .int .i64 0) rfl rfl (by go_simp) hBw (by decide) rfl
  refine .cons (fun u w L hL hS hBw hd => ?_) ?_
  ·have d24 : u 24 = fv r := depB hd 12 rfl
   obtain ⟨g, fg, e7, o7⟩ : (Fact.box 68 16).ok y4.heap.size [some 13, some 14, some 15, some 16, some 17, some 18, some 19, some 20, some 21, some 22, some 23, some 12, some 24, some 25, some 7, none, some 8] 14 u w L := depB hd 14 rfl
   exact GB.store rfl 14 g 68 16 (dv16 r) rfl rfl rfl e7 (run_fstore rfl (by exact e7) (by exact d24) o7) (only16 w g r) (put16 o7 r)
  refine .cons (fun u w L hL hS hBw hd => ?_) ?_
  ·have d25 : u 25 = .bool true := depB hd 13 rfl
   rw [d25]
   exact GB.run 8 rfl (.bool true) rfl (by go_simp) rfl rfl
  exact ObsB.nil
 intro uy5 y5 hS hd
 obtain ⟨g7, eg7, o7⟩ : (Fact.holds 14 68 16 (dv16 r)).ok y4.heap.size [some 13, some 14, some 15, some 16, some 17, some 18, some 19, some 20, some 21, some 22, some 23, some 12, some 24, some 25, some 7, none, some 8] 15 uy5 y5 (fun _ => true) := hd 15 (by decide)
 replace eg7 : uy5 7 = .pointer (some ⟨g7, 0, none⟩) := eg7
 replace o7 : O16 y5 y4.heap.size g7 r := o7
 have n7_2 : g7 ≠ g2 := by have := OwnF.ge o7; have := OwnF.lt o2; omega
 have n7_4 : g7 ≠ g4 := by have := OwnF.ge o7; have := OwnF.lt o4; omega
 have n7_6 : g7 ≠ g6 := by have := OwnF.ge o7; have := OwnF.lt o6; omega
 replace o7 := o7.mono hc.size
 replace o2 := O16.keep o2 hS
 replace o4 := OwnF.keep o4 hS
 replace o6 := O16.keep o6 hS
 replace hc := bnx hc hS
 have d8 : uy5 8 = .bool true := hd 16 (by decide)
 rw [eg7, d8]
 clear hS hd eg7 d8
 simp only [List.drop_succ_cons, List.drop_zero]
 go_upto_region 3 with fail
 refine wp_region_inv 10 [26, 27, 28, 29, 30, 31, 32, 33, 34, 35] [.val (.bool true), .val (.bool false), .val (.bool false), .val (fv r), .val (fv n0), .val (.bool true), .val (.bool true), .val (.int .i64 b), .val (.bool false), .val (.bool false)] (fun wz => Below y5.heap.size y5 wz) (by kernel_rfl) (by kernel_rfl) (fun wz wz' hz hb => bnx hz hb) ((Below.refl _ _).drew) (fun u => by simp only [puts, List.foldl_cons, List.foldl_nil]; go_simp; exact rfl) ?_ ?_
 ·simp only [List.take_succ_cons, List.take_zero]
  refine .cons (fun u w hS hd => ?_) ?_
  ·exact Gv.run (.bool true) rfl (by go_simp) rfl
  refine .cons (fun u w hS hd => ?_) ?_
  ·have d26 : u 26 = .bool true := dep hd 0 rfl
   rw [d26]
   exact Gv.run (.bool false) rfl (by go_simp) rfl
  refine .cons (fun u w hS hd => ?_) ?_
  ·have d27 : u 27 = .bool false := dep hd 1 rfl
   rw [d27]
   exact Gv.run (.bool false) rfl (by go_simp) rfl
  refine .cons (fun u w hS hd => ?_) ?_
  ·have d28 : u 28 = .bool false := dep hd 2 rfl
   rw [d28]
   exact Gv.run (fv r) (by rfl) (run_fload rfl rfl (o7.keep hS)) rfl
  refine .cons (fun u w hS hd => ?_) ?_
  ·have d28 : u 28 = .bool false := dep hd 2 rfl
   rw [d28]
   refine Gv.call 83 #[.int .i64 0] rfl (by go_simp) ((K10.out w).mono ?_)
   rintro e w' ⟨rfl, hb⟩
   exact ⟨_, rfl, rfl, hb⟩
  refine .cons (fun u w hS hd => ?_) ?_
  ·have d28 : u 28 = .bool false := dep hd 2 rfl
   rw [d28]
   have d29 : u 29 = fv r := dep hd 3 rfl
   rw [d29]
   have d30 : u 30 = fv n0 := dep hd 4 rfl
   rw [d30]
   exact Gv.run (.bool true) rfl (run_eqF rfl rfl rfl hbr hb0 (decide_eq_true HE.out) w) rfl
  refine .cons (fun u w hS hd => ?_) ?_
  ·have d28 : u 28 = .bool false := dep hd 2 rfl
   rw [d28]
   have d31 : u 31 = .bool true := dep hd 5 rfl
   rw [d31]
   exact Gv.run (.bool true) rfl (by go_simp) rfl
  refine .cons (fun u w hS hd => ?_) ?_
  ·have d32 : u 32 = .bool true := dep hd 6 rfl
   rw [d32]
   exact Gv.run (.int .i64 b) rfl (by go_simp) rfl
  refine .cons (fun u w hS hd => ?_) ?_
  ·have d32 : u 32 = .bool true := dep hd 6 rfl
   rw [d32]
   have d33 : u 33 = .int .i64 b := dep hd 7 rfl
   rw [d33]
   exact Gv.run (.bool false) rfl (by have hq : (b == 1) = false := beq_eq_false_iff_ne.2 hb; go_simp) rfl
  refine .cons (fun u w hS hd => ?_) ?_
  ·have d28 : u 28 = .bool false := dep hd 2 rfl
   rw [d28]
   have d32 : u 32 = .bool true := dep hd 6 rfl
   rw [d32]
   have d34 : u 34 = .bool false := dep hd 8 rfl
   rw [d34]
   exact Gv.run (.bool false) rfl (by go_simp) rfl
  exact Obs.nil
 intro uy6 y6 hS hd
 have d28 : uy6 28 = .bool false := hd 2 (by decide)
 have d35 : uy6 35 = .bool false := hd 9 (by decide)
 rw [d28, d35]
 replace o2 := O16.keep o2 hS
 replace o4 := OwnF.keep o4 hS
 replace o6 := O16.keep o6 hS
 replace o7 := O16.keep o7 hS
 replace hc := bnx hc hS
 clear hS hd d28 d35
 simp only [List.drop_succ_cons, List.drop_zero]
 have hb1 : (b == 1) = false := beq_eq_false_iff_ne.2 hb
 go_upto_region 7 with fail
 refine wp_region_inv 4 [42, 43, 44, 45] [.val (fv r), .val (fv y), .val (fv n1), .val (t3v ⟨r, y, n1⟩)] (fun wz => Below y6.heap.size y6 wz) (by kernel_rfl) (by kernel_rfl) (fun wz wz' hz hb => bnx hz hb) ((Below.refl _ _).drew) (fun u => by simp only [puts, List.foldl_cons, List.foldl_nil]; go_simp; exact rfl) ?_ ?_
 ·simp only [List.take_succ_cons, List.take_zero]
  refine .cons (fun u w hS hd => ?_) ?_
  ·exact Gv.run (fv r) rfl (run_fload rfl rfl (o7.keep hS)) rfl
  refine .cons (fun u w hS hd => ?_) ?_
  ·exact Gv.run (fv y) rfl (run_fload rfl rfl (o2.keep hS)) rfl
  refine .cons (fun u w hS hd => ?_) ?_
  ·refine Gv.call 83 #[.int .i64 1] rfl (by go_simp) ((K2.out w).mono ?_)
   rintro e w' ⟨rfl, hb⟩
   exact ⟨_, rfl, rfl, hb⟩
  refine .cons (fun u w hS hd => ?_) ?_
  ·have d42 : u 42 = fv r := dep hd 0 rfl
   rw [d42]
   have d43 : u 43 = fv y := dep hd 1 rfl
   rw [d43]
   have d44 : u 44 = fv n1 := dep hd 2 rfl
   rw [d44]
   exact Gv.run (t3v ⟨r, y, n1⟩) rfl (run_Pbuild rfl rfl rfl rfl) rfl
  exact Obs.nil
 intro uy7 y7 hS hd
 have d45 : uy7 45 = t3v ⟨r, y, n1⟩ := hd 3 (by decide)
 rw [d45]
 replace o2 := O16.keep o2 hS
 replace o4 := OwnF.keep o4 hS
 replace o6 := O16.keep o6 hS
 replace o7 := O16.keep o7 hS
 replace hc := bnx hc hS
 clear hS hd d45
 simp only [List.drop_succ_cons, List.drop_zero]
 have hfb := Lib.hid (hc.trans (t3_below o4 (⟨r, y, n1⟩)))
 have HR := Lib.hid (t3_put o4 (⟨r, y, n1⟩))
 go_wp2_with ((with_reducible refine t3_store o4 (⟨r, y, n1⟩) ?_ ?_ ?_); rfl; rfl)
 exact bodyPost_ret (t3_res2 Tryz.results78 _ HR.out rfl rfl) rfl ⟨rfl, hfb.out⟩
end
end Go.Proofs.YtkbkalhcdbklkaaGreatDoor
