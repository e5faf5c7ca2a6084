/-
  The document's Point of bytes (layer 8). By an AI agent. (and more)
-/
import Derived.Test.YtkbkalhcdbklkaaGreatDoorE14
import Derived.Test.YtkbkalhcdbklkaaGreatDoorJ16
import Derived.Test.YtkbkalhcdbklkaaGreatDoorJ23
import Derived.Test.YtkbkalhcdbklkaaGreatDoorJ03
import Derived.Test.YtkbkalhcdbklkaaGreatDoorJ23
import Derived.Test.YtkbkalhcdbklkaaGreatDoorJ16
namespace Go.Proofs.YtkbkalhcdbklkaaGreatDoor
section
open Go Go.RowKit
set_option maxRecDepth 20000
def decX (n : Nat) : Nat := if decE n = 0 then wxN (n % 2 ^ 255) (n / 2 ^ 255) else 0
def decY (n : Nat) : Nat := if decE n = 0 then n % 2 ^ 255 else 0
theorem dec_good {n : Nat} (h : decE n = 0) (hn : n / 2 ^ 255 < 2) : decT n = ⟨decX n, decY n, 1⟩ ∧ decX n < P25 ∧ decY n < P25 ∧ onN (decX n) (decY n) = true ∧ decX n % 2 = n / 2 ^ 255 := by
 have hd := h
 unfold decX decY
 rw [if_pos h, if_pos h]
 unfold decE at hd
 by_cases h1 : n % 2 ^ 255 < P25
 ·rw [if_pos h1] at hd
  by_cases h2 : wokN (n % 2 ^ 255) (n / 2 ^ 255) = true
  ·obtain ⟨a, b, c⟩ := wok_on h1 hn h2
   refine ⟨?_, c, h1, a, b⟩
   unfold decT withN
   rw [if_pos h1, if_pos h2]
  ·rw [if_neg h2] at hd
   exact absurd hd (by decide)
 ·rw [if_neg h1] at hd
  exact absurd hd (by decide)
theorem built_T0 : Tryz.prog.built 60 [] = some #[.int .u64 (wd 0 0 : Int), .int .u64 (wd 0 1 : Int), .int .u64 (wd 0 2 : Int), .int .u64 (wd 0 3 : Int), .int .u64 (wd 0 0 : Int), .int .u64 (wd 0 1 : Int), .int .u64 (wd 0 2 : Int), .int .u64 (wd 0 3 : Int)] := by kernel_rfl
theorem T_zero {ops : Array Oper} {rest : List Oper} {a : Act} {w : World} {Q : Exit → Act → World → Prop} {dst : Option Nat} {tp : TypeId} {ps : String} {af : Array Edge} (h : wpList Tryz.prog ops Q rest (a.put dst (prv 0 0)) w) : wpList Tryz.prog ops Q (⟨dst, .build 60 #[], tp, ps, af, none⟩ :: rest) a w := by
 have hb := run_build (P := Tryz.prog) w 60 #[] _ built_T0
 refine wpList_plain rfl fun K hK => ?_
 unfold Oper.wp execOp
 simp only [List.map_toArray, List.map_nil, Sem.run_bind, hb, Result.andThen_ok, Sem.run_pure]
 exact hK _ _ h
section
attribute [local irreducible] wd by8 d16 set16w fl rl setA t3f set8p set4w ivN mlN decT decE decX decY
end
end
section
open Go Go.RowKit
section
attribute [local irreducible] wd by8 fl rl setA sf taf set8p set4w ed2
set_option maxRecDepth 20000
set_option maxHeartbeats 6400000 in
theorem cOn_a {x y : Nat}
  (k1 : ∀ w, Calls Tryz.prog 67 #[nv x] w fun e w' => e = .returned (.bool false) ∧ Below w.heap.size w w')
  (w : World) : Calls Tryz.prog 70 #[prv x y] w fun e w' => e = .returned (.bool false) ∧ Below w.heap.size w w' := by
 have K1 := Lib.hid k1
 clear k1
 obtain ⟨v1, ev1⟩ : ∃ v, v = w.alloc (A8p x y) := ⟨_, rfl⟩
 have bv1 := bnw ev1
 have sv1 := bsz ev1
 obtain ⟨g1, eg1⟩ : ∃ g, g = w.heap.size := ⟨_, rfl⟩
 have o1 : O8 v1 w.heap.size g1 x y := by rw [eg1, ev1]; exact O8.new (Nat.le_refl _) x y
 have hc := bv1
 have hs1 := hc.size
 go_enter Tryz.func70, Tryz.ntmps70
 go_upto_region 1 with fail
 rw [← ev1]
 rw [show Value.pointer (some ⟨w.heap.size, 0, none⟩) = .pointer (some ⟨g1, 0, none⟩) by rw [eg1]]
 clear ev1 bv1 sv1 eg1 hs1
 refine wp_region_obs 9 [5, 6, 7, 8, 9, 10, 11, 12, 13] [.val (.pointer (some ⟨g1, 0, none⟩)), .val (nv x), .val (.bool false), .val (.bool true), .val (.bool true), .val (undef), .val (undef), .val (undef), .val (undef)] (fun wz => Below v1.heap.size v1 wz) (by kernel_rfl) (fun wz wz' hz hb => bnx hz hb) (Below.refl _ _) (fun u => by simp only [puts, List.foldl_cons, List.foldl_nil]; go_simp; exact rfl) ?_ ?_
 ·simp only [List.take_succ_cons, List.take_zero]
  refine .cons (fun u w hS hd => ?_) ?_
  ·exact Gv.run (.pointer (some ⟨g1, 0, none⟩)) rfl (run_pfield 0 (by decide) rfl rfl) rfl
  refine .cons (fun u w hS hd => ?_) ?_
  ·have d5 : u 5 = .pointer (some ⟨g1, 0, none⟩) := hd 0 (by decide)
   rw [d5]
   exact Gv.run (nv x) rfl (run_xload rfl rfl (O8.keep o1 hS)) rfl
  refine .cons (fun u w hS hd => ?_) ?_
  ·have d6 : u 6 = nv x := hd 1 (by decide)
   rw [d6]
   refine Gv.call 67 #[nv x] rfl (by go_simp) ((K1.out w).mono ?_)
   rintro e w' ⟨rfl, hb⟩
   exact ⟨_, rfl, rfl, hb⟩
  refine .cons (fun u w hS hd => ?_) ?_
  ·have d7 : u 7 = .bool false := hd 2 (by decide)
   rw [d7]
   exact Gv.run (.bool true) rfl (by go_simp) rfl
  refine .cons (fun u w hS hd => ?_) ?_
  ·have d8 : u 8 = .bool true := hd 3 (by decide)
   rw [d8]
   exact Gv.run (.bool true) rfl (by go_simp) rfl
  refine .cons (fun u w hS hd => ?_) ?_
  ·have d9 : u 9 = .bool true := hd 4 (by decide)
   rw [d9]
   exact Gv.skip (by rfl) rfl
  refine .cons (fun u w hS hd => ?_) ?_
  ·have d9 : u 9 = .bool true := hd 4 (by decide)
   rw [d9]
   exact Gv.skip (by rfl) rfl
  refine .cons (fun u w hS hd => ?_) ?_
  ·have d9 : u 9 = .bool true := hd 4 (by decide)
   rw [d9]
   exact Gv.skip (by rfl) rfl
  refine .cons (fun u w hS hd => ?_) ?_
  ·have d9 : u 9 = .bool true := hd 4 (by decide)
   rw [d9]
   exact Gv.skip (by rfl) rfl
  exact ObsS.nil
 intro uy2 y2 hS hd
 have d9 : uy2 9 = .bool true := hd 4 (by decide)
 have d13 : uy2 13 = undef := hd 8 (by decide)
 rw [d9, d13]
 replace o1 := O8.keep o1 hS
 replace hc := bnx hc hS
 clear hS hd d9 d13
 simp only [List.drop_succ_cons, List.drop_zero]
 go_wp2_with fail
 go_ret
 exact ⟨rfl, hc⟩
set_option maxHeartbeats 6400000 in
theorem cOn_b {x y : Nat}
  (k1 : ∀ w, Calls Tryz.prog 67 #[nv x] w fun e w' => e = .returned (.bool true) ∧ Below w.heap.size w w')
  (k2 : ∀ w, Calls Tryz.prog 67 #[nv y] w fun e w' => e = .returned (.bool false) ∧ Below w.heap.size w w')
  (w : World) : Calls Tryz.prog 70 #[prv x y] w fun e w' => e = .returned (.bool false) ∧ Below w.heap.size w w' := by
 have K1 := Lib.hid k1
 have K2 := Lib.hid k2
 clear k1 k2
 obtain ⟨v1, ev1⟩ : ∃ v, v = w.alloc (A8p x y) := ⟨_, rfl⟩
 have bv1 := bnw ev1
 have sv1 := bsz ev1
 obtain ⟨g1, eg1⟩ : ∃ g, g = w.heap.size := ⟨_, rfl⟩
 have o1 : O8 v1 w.heap.size g1 x y := by rw [eg1, ev1]; exact O8.new (Nat.le_refl _) x y
 have hc := bv1
 have hs1 := hc.size
 go_enter Tryz.func70, Tryz.ntmps70
 go_upto_region 1 with fail
 rw [← ev1]
 rw [show Value.pointer (some ⟨w.heap.size, 0, none⟩) = .pointer (some ⟨g1, 0, none⟩) by rw [eg1]]
 clear ev1 bv1 sv1 eg1 hs1
 refine wp_region_obs 9 [5, 6, 7, 8, 9, 10, 11, 12, 13] [.val (.pointer (some ⟨g1, 0, none⟩)), .val (nv x), .val (.bool true), .val (.bool false), .val (.bool false), .val (.pointer (some ⟨g1, 4, none⟩)), .val (nv y), .val (.bool false), .val (.bool true)] (fun wz => Below v1.heap.size v1 wz) (by kernel_rfl) (fun wz wz' hz hb => bnx hz hb) (Below.refl _ _) (fun u => by simp only [puts, List.foldl_cons, List.foldl_nil]; go_simp; exact rfl) ?_ ?_
 ·simp only [List.take_succ_cons, List.take_zero]
  refine .cons (fun u w hS hd => ?_) ?_
  ·exact Gv.run (.pointer (some ⟨g1, 0, none⟩)) rfl (run_pfield 0 (by decide) rfl rfl) rfl
  refine .cons (fun u w hS hd => ?_) ?_
  ·have d5 : u 5 = .pointer (some ⟨g1, 0, none⟩) := hd 0 (by decide)
   rw [d5]
   exact Gv.run (nv x) rfl (run_xload rfl rfl (O8.keep o1 hS)) rfl
  refine .cons (fun u w hS hd => ?_) ?_
  ·have d6 : u 6 = nv x := hd 1 (by decide)
   rw [d6]
   refine Gv.call 67 #[nv x] rfl (by go_simp) ((K1.out w).mono ?_)
   rintro e w' ⟨rfl, hb⟩
   exact ⟨_, rfl, rfl, hb⟩
  refine .cons (fun u w hS hd => ?_) ?_
  ·have d7 : u 7 = .bool true := hd 2 (by decide)
   rw [d7]
   exact Gv.run (.bool false) rfl (by go_simp) rfl
  refine .cons (fun u w hS hd => ?_) ?_
  ·have d8 : u 8 = .bool false := hd 3 (by decide)
   rw [d8]
   exact Gv.run (.bool false) rfl (by go_simp) rfl
  refine .cons (fun u w hS hd => ?_) ?_
  ·have d9 : u 9 = .bool false := hd 4 (by decide)
   rw [d9]
   exact Gv.run (.pointer (some ⟨g1, 4, none⟩)) (by rfl) (run_pfield 1 (by decide) rfl rfl) rfl
  refine .cons (fun u w hS hd => ?_) ?_
  ·have d9 : u 9 = .bool false := hd 4 (by decide)
   rw [d9]
   have d10 : u 10 = .pointer (some ⟨g1, 4, none⟩) := hd 5 (by decide)
   rw [d10]
   exact Gv.run (nv y) (by rfl) (run_zload rfl rfl (O8.keep o1 hS)) rfl
  refine .cons (fun u w hS hd => ?_) ?_
  ·have d9 : u 9 = .bool false := hd 4 (by decide)
   rw [d9]
   have d11 : u 11 = nv y := hd 6 (by decide)
   rw [d11]
   refine Gv.call 67 #[nv y] rfl (by go_simp) ((K2.out w).mono ?_)
   rintro e w' ⟨rfl, hb⟩
   exact ⟨_, rfl, rfl, hb⟩
  refine .cons (fun u w hS hd => ?_) ?_
  ·have d9 : u 9 = .bool false := hd 4 (by decide)
   rw [d9]
   have d12 : u 12 = .bool false := hd 7 (by decide)
   rw [d12]
   exact Gv.run (.bool true) rfl (by go_simp) rfl
  exact ObsS.nil
 intro uy2 y2 hS hd
 have d9 : uy2 9 = .bool false := hd 4 (by decide)
 have d13 : uy2 13 = .bool true := hd 8 (by decide)
 rw [d9, d13]
 replace o1 := O8.keep o1 hS
 replace hc := bnx hc hS
 clear hS hd d9 d13
 simp only [List.drop_succ_cons, List.drop_zero]
 go_wp2_with fail
 go_ret
 exact ⟨rfl, hc⟩
set_option maxHeartbeats 6400000 in
theorem cOn_c {x y xx yy s D xy dx r : Nat} {b : Bool} (hbs : s < W4) (hbr : r < W4) (hq : decide (s = r) = b)
  (k1 : ∀ w, Calls Tryz.prog 67 #[nv x] w fun e w' => e = .returned (.bool true) ∧ Below w.heap.size w w')
  (k2 : ∀ w, Calls Tryz.prog 67 #[nv y] w fun e w' => e = .returned (.bool true) ∧ Below w.heap.size w w')
  (k3 : ∀ w, Calls Tryz.prog 101 #[nv x, nv x] w fun e w' => e = .returned (nv xx) ∧ Below w.heap.size w w')
  (k4 : ∀ w, Calls Tryz.prog 101 #[nv y, nv y] w fun e w' => e = .returned (nv yy) ∧ Below w.heap.size w w')
  (k5 : ∀ w, Calls Tryz.prog 102 #[nv yy, nv xx] w fun e w' => e = .returned (nv s) ∧ Below w.heap.size w w')
  (k6 : ∀ w, Calls Tryz.prog 104 #[] w fun e w' => e = .returned (nv D) ∧ Below w.heap.size w w')
  (k7 : ∀ w, Calls Tryz.prog 101 #[nv xx, nv yy] w fun e w' => e = .returned (nv xy) ∧ Below w.heap.size w w')
  (k8 : ∀ w, Calls Tryz.prog 101 #[nv D, nv xy] w fun e w' => e = .returned (nv dx) ∧ Below w.heap.size w w')
  (k9 : ∀ w, Calls Tryz.prog 103 #[nv 1, nv dx] w fun e w' => e = .returned (nv r) ∧ Below w.heap.size w w')
  (w : World) : Calls Tryz.prog 70 #[prv x y] w fun e w' => e = .returned (.bool b) ∧ Below w.heap.size w w' := by
 have K1 := Lib.hid k1
 have K2 := Lib.hid k2
 have K3 := Lib.hid k3
 have K4 := Lib.hid k4
 have K5 := Lib.hid k5
 have K6 := Lib.hid k6
 have K7 := Lib.hid k7
 have K8 := Lib.hid k8
 have K9 := Lib.hid k9
 clear k1 k2 k3 k4 k5 k6 k7 k8 k9
 obtain ⟨v1, ev1⟩ : ∃ v, v = w.alloc (A8p x y) := ⟨_, rfl⟩
 have bv1 := bnw ev1
 have sv1 := bsz ev1
 obtain ⟨g1, eg1⟩ : ∃ g, g = w.heap.size := ⟨_, rfl⟩
 have o1 : O8 v1 w.heap.size g1 x y := by rw [eg1, ev1]; exact O8.new (Nat.le_refl _) x y
 have hc := bv1
 have hs1 := hc.size
 go_enter Tryz.func70, Tryz.ntmps70
 go_upto_region 1 with fail
 rw [← ev1]
 rw [show Value.pointer (some ⟨w.heap.size, 0, none⟩) = .pointer (some ⟨g1, 0, none⟩) by rw [eg1]]
 clear ev1 bv1 sv1 eg1 hs1
 refine wp_region_obs 9 [5, 6, 7, 8, 9, 10, 11, 12, 13] [.val (.pointer (some ⟨g1, 0, none⟩)), .val (nv x), .val (.bool true), .val (.bool false), .val (.bool false), .val (.pointer (some ⟨g1, 4, none⟩)), .val (nv y), .val (.bool true), .val (.bool false)] (fun wz => Below v1.heap.size v1 wz) (by kernel_rfl) (fun wz wz' hz hb => bnx hz hb) (Below.refl _ _) (fun u => by simp only [puts, List.foldl_cons, List.foldl_nil]; go_simp; exact rfl) ?_ ?_
 ·simp only [List.take_succ_cons, List.take_zero]
  refine .cons (fun u w hS hd => ?_) ?_
  ·exact Gv.run (.pointer (some ⟨g1, 0, none⟩)) rfl (run_pfield 0 (by decide) rfl rfl) rfl
  refine .cons (fun u w hS hd => ?_) ?_
  ·have d5 : u 5 = .pointer (some ⟨g1, 0, none⟩) := hd 0 (by decide)
   rw [d5]
   exact Gv.run (nv x) rfl (run_xload rfl rfl (O8.keep o1 hS)) rfl
  refine .cons (fun u w hS hd => ?_) ?_
  ·have d6 : u 6 = nv x := hd 1 (by decide)
   rw [d6]
   refine Gv.call 67 #[nv x] rfl (by go_simp) ((K1.out w).mono ?_)
   rintro e w' ⟨rfl, hb⟩
   exact ⟨_, rfl, rfl, hb⟩
  refine .cons (fun u w hS hd => ?_) ?_
  ·have d7 : u 7 = .bool true := hd 2 (by decide)
   rw [d7]
   exact Gv.run (.bool false) rfl (by go_simp) rfl
  refine .cons (fun u w hS hd => ?_) ?_
  ·have d8 : u 8 = .bool false := hd 3 (by decide)
   rw [d8]
   exact Gv.run (.bool false) rfl (by go_simp) rfl
  refine .cons (fun u w hS hd => ?_) ?_
  ·have d9 : u 9 = .bool false := hd 4 (by decide)
   rw [d9]
   exact Gv.run (.pointer (some ⟨g1, 4, none⟩)) (by rfl) (run_pfield 1 (by decide) rfl rfl) rfl
  refine .cons (fun u w hS hd => ?_) ?_
  ·have d9 : u 9 = .bool false := hd 4 (by decide)
   rw [d9]
   have d10 : u 10 = .pointer (some ⟨g1, 4, none⟩) := hd 5 (by decide)
   rw [d10]
   exact Gv.run (nv y) (by rfl) (run_zload rfl rfl (O8.keep o1 hS)) rfl
  refine .cons (fun u w hS hd => ?_) ?_
  ·have d9 : u 9 = .bool false := hd 4 (by decide)
   rw [d9]
   have d11 : u 11 = nv y := hd 6 (by decide)
   rw [d11]
   refine Gv.call 67 #[nv y] rfl (by go_simp) ((K2.out w).mono ?_)
   rintro e w' ⟨rfl, hb⟩
   exact ⟨_, rfl, rfl, hb⟩
  refine .cons (fun u w hS hd => ?_) ?_
  ·have d9 : u 9 = .bool false := hd 4 (by decide)
   rw [d9]
   have d12 : u 12 = .bool true := hd 7 (by decide)
   rw [d12]
   exact Gv.run (.bool false) rfl (by go_simp) rfl
  exact ObsS.nil
 intro uy2 y2 hS hd
 have d9 : uy2 9 = .bool false := hd 4 (by decide)
 have d13 : uy2 13 = .bool false := hd 8 (by decide)
 rw [d9, d13]
 replace o1 := O8.keep o1 hS
 replace hc := bnx hc hS
 clear hS hd d9 d13
 simp only [List.drop_succ_cons, List.drop_zero]
 go_upto_region 3 with fail
 refine wp_region_box 14 [some 15, some 16, some 17, some 18, some 19, some 20, some 21, some 22, some 23, some 24, some 3, some 4, none, none] [.val (.pointer (some ⟨g1, 0, none⟩)), .val (nv x), .val (.pointer (some ⟨g1, 0, none⟩)), .val (nv x), .val (nv xx), .val (.pointer (some ⟨g1, 4, none⟩)), .val (nv y), .val (.pointer (some ⟨g1, 4, none⟩)), .val (nv y), .val (nv yy), .box 35 4, .box 35 4, .holds 10 35 4 (wv xx), .holds 11 35 4 (wv yy)] y2.heap.size (fun wz => Below y2.heap.size y2 wz) (by kernel_rfl) (by kernel_rfl)
  (fun _ _ h _ hb => h.trans hb) ((Below.refl _ _).drew) (Nat.le_refl _) (fun u => by simp only [List.filterMap_cons, List.filterMap_nil, id, puts, List.foldl_cons, List.foldl_nil]; go_simp; exact rfl) ?_ ?_
 ·simp only [List.take_succ_cons, List.take_zero]
  refine .cons (fun u w L hL hS hBw hd => ?_) ?_
  ·exact GB.run 15 rfl (.pointer (some ⟨g1, 0, none⟩)) rfl (run_pfield 0 (by decide) rfl rfl) rfl rfl
  refine .cons (fun u w L hL hS hBw hd => ?_) ?_
  ·have d15 : u 15 = .pointer (some ⟨g1, 0, none⟩) := depB hd 0 rfl
   rw [d15]
   exact GB.run 16 rfl (nv x) rfl (run_xload rfl rfl (O8.keep o1 hS)) rfl rfl
  refine .cons (fun u w L hL hS hBw hd => ?_) ?_
  ·exact GB.run 17 rfl (.pointer (some ⟨g1, 0, none⟩)) rfl (run_pfield 0 (by decide) rfl rfl) rfl rfl
  refine .cons (fun u w L hL hS hBw hd => ?_) ?_
  ·have d17 : u 17 = .pointer (some ⟨g1, 0, none⟩) := depB hd 2 rfl
   rw [d17]
   exact GB.run 18 rfl (nv x) rfl (run_xload rfl rfl (O8.keep o1 hS)) rfl rfl
  refine .cons (fun u w L hL hS hBw hd => ?_) ?_
  ·have d16 : u 16 = nv x := depB hd 1 rfl
   rw [d16]
   have d18 : u 18 = nv x := depB hd 3 rfl
   rw [d18]
   refine GB.call 19 rfl 101 #[nv x, nv x] rfl (by go_simp) rfl ((K3.out w).mono ?_)
   rintro e w' ⟨rfl, hb⟩
   exact ⟨_, rfl, rfl, hb⟩
  refine .cons (fun u w L hL hS hBw hd => ?_) ?_
  ·exact GB.run 20 rfl (.pointer (some ⟨g1, 4, none⟩)) rfl (run_pfield 1 (by decide) rfl rfl) rfl rfl
  refine .cons (fun u w L hL hS hBw hd => ?_) ?_
  ·have d20 : u 20 = .pointer (some ⟨g1, 4, none⟩) := depB hd 5 rfl
   rw [d20]
   exact GB.run 21 rfl (nv y) rfl (run_zload rfl rfl (O8.keep o1 hS)) rfl rfl
  refine .cons (fun u w L hL hS hBw hd => ?_) ?_
  ·exact GB.run 22 rfl (.pointer (some ⟨g1, 4, none⟩)) rfl (run_pfield 1 (by decide) rfl rfl) rfl rfl
  refine .cons (fun u w L hL hS hBw hd => ?_) ?_
  ·have d22 : u 22 = .pointer (some ⟨g1, 4, none⟩) := depB hd 7 rfl
   rw [d22]
   exact GB.run 23 rfl (nv y) rfl (run_zload rfl rfl (O8.keep o1 hS)) rfl rfl
  refine .cons (fun u w L hL hS hBw hd => ?_) ?_
  ·have d21 : u 21 = nv y := depB hd 6 rfl
   rw [d21]
   have d23 : u 23 = nv y := depB hd 8 rfl
   rw [d23]
   refine GB.call 24 rfl 101 #[nv y, nv y] rfl (by go_simp) rfl ((K4.out w).mono ?_)
   rintro e w' ⟨rfl, hb⟩
   exact ⟨_, rfl, rfl, hb⟩
  refine .cons (fun u w L hL hS hBw hd => ?_) ?_
  ·exact GB.alloc 3 rfl rfl #[.int .u64 0, .int .u64 0, .int .u64 0, .int .u64 0] 35 4 (fun _ => .int .u64 0) rfl rfl (by go_simp) hBw (by decide) rfl
  refine .cons (fun u w L hL hS hBw hd => ?_) ?_
  ·exact GB.alloc 4 rfl rfl #[.int .u64 0, .int .u64 0, .int .u64 0, .int .u64 0] 35 4 (fun _ => .int .u64 0) rfl rfl (by go_simp) hBw (by decide) rfl
  refine .cons (fun u w L hL hS hBw hd => ?_) ?_
  ·have d19 : u 19 = nv xx := depB hd 4 rfl
   obtain ⟨g, fg, e3, o3⟩ : (Fact.box 35 4).ok y2.heap.size [some 15, some 16, some 17, some 18, some 19, some 20, some 21, some 22, some 23, some 24, some 3, some 4, none, none] 10 u w L := depB hd 10 rfl
   exact GB.store rfl 10 g 35 4 (wv xx) rfl rfl rfl e3 (run_nstore rfl (by exact e3) (by exact d19) o3) (only4 w g xx) (put4o o3 xx)
  refine .cons (fun u w L hL hS hBw hd => ?_) ?_
  ·have d24 : u 24 = nv yy := depB hd 9 rfl
   obtain ⟨g, fg, e4, o4⟩ : (Fact.box 35 4).ok y2.heap.size [some 15, some 16, some 17, some 18, some 19, some 20, some 21, some 22, some 23, some 24, some 3, some 4, none, none] 11 u w L := depB hd 11 rfl
   exact GB.store rfl 11 g 35 4 (wv yy) rfl rfl rfl e4 (run_nstore rfl (by exact e4) (by exact d24) o4) (only4 w g yy) (put4o o4 yy)
  exact ObsB.nil
 intro uy3 y3 hS hd
 obtain ⟨g3, eg3, o3⟩ : (Fact.holds 10 35 4 (wv xx)).ok y2.heap.size [some 15, some 16, some 17, some 18, some 19, some 20, some 21, some 22, some 23, some 24, some 3, some 4, none, none] 12 uy3 y3 (fun _ => true) := hd 12 (by decide)
 replace eg3 : uy3 3 = .pointer (some ⟨g3, 0, none⟩) := eg3
 replace o3 : O4 y3 y2.heap.size g3 xx := o3
 replace o3 := o3.mono hc.size
 obtain ⟨g4, eg4, o4⟩ : (Fact.holds 11 35 4 (wv yy)).ok y2.heap.size [some 15, some 16, some 17, some 18, some 19, some 20, some 21, some 22, some 23, some 24, some 3, some 4, none, none] 13 uy3 y3 (fun _ => true) := hd 13 (by decide)
 replace eg4 : uy3 4 = .pointer (some ⟨g4, 0, none⟩) := eg4
 replace o4 : O4 y3 y2.heap.size g4 yy := o4
 replace o4 := o4.mono hc.size
 replace o1 := O8.keep o1 hS
 replace hc := bnx hc hS
 rw [eg3, eg4]
 clear hS hd eg3 eg4
 simp only [List.drop_succ_cons, List.drop_zero]
 go_upto_region 4 with fail
 refine wp_region_inv 11 [25, 26, 27, 28, 29, 30, 31, 32, 33, 34, 35] [.val (nv yy), .val (nv xx), .val (nv s), .val (nv 1), .val (nv D), .val (nv xx), .val (nv yy), .val (nv xy), .val (nv dx), .val (nv r), .val (.bool b)] (fun wz => Below y3.heap.size y3 wz) (by kernel_rfl) (by kernel_rfl) (fun wz wz' hz hb => bnx hz hb) ((Below.refl _ _).drew) (fun u => by simp only [puts, List.foldl_cons, List.foldl_nil]; go_simp; exact rfl) ?_ ?_
 ·simp only [List.take_succ_cons, List.take_zero]
  refine .cons (fun u w hS hd => ?_) ?_
  ·exact Gv.run (nv yy) rfl (run_nload rfl rfl (O4.keep o4 hS)) rfl
  refine .cons (fun u w hS hd => ?_) ?_
  ·exact Gv.run (nv xx) rfl (run_nload rfl rfl (O4.keep o3 hS)) rfl
  refine .cons (fun u w hS hd => ?_) ?_
  ·have d25 : u 25 = nv yy := dep hd 0 rfl
   rw [d25]
   have d26 : u 26 = nv xx := dep hd 1 rfl
   rw [d26]
   refine Gv.call 102 #[nv yy, nv xx] rfl (by go_simp) ((K5.out w).mono ?_)
   rintro e w' ⟨rfl, hb⟩
   exact ⟨_, rfl, rfl, hb⟩
  refine .cons (fun u w hS hd => ?_) ?_
  ·exact Gv.run (nv 1) rfl (run_one rfl w) rfl
  refine .cons (fun u w hS hd => ?_) ?_
  ·refine Gv.call 104 #[] rfl (by go_simp) ((K6.out w).mono ?_)
   rintro e w' ⟨rfl, hb⟩
   exact ⟨_, rfl, rfl, hb⟩
  refine .cons (fun u w hS hd => ?_) ?_
  ·exact Gv.run (nv xx) rfl (run_nload rfl rfl (O4.keep o3 hS)) rfl
  refine .cons (fun u w hS hd => ?_) ?_
  ·exact Gv.run (nv yy) rfl (run_nload rfl rfl (O4.keep o4 hS)) rfl
  refine .cons (fun u w hS hd => ?_) ?_
  ·have d30 : u 30 = nv xx := dep hd 5 rfl
   rw [d30]
   have d31 : u 31 = nv yy := dep hd 6 rfl
   rw [d31]
   refine Gv.call 101 #[nv xx, nv yy] rfl (by go_simp) ((K7.out w).mono ?_)
   rintro e w' ⟨rfl, hb⟩
   exact ⟨_, rfl, rfl, hb⟩
  refine .cons (fun u w hS hd => ?_) ?_
  ·have d29 : u 29 = nv D := dep hd 4 rfl
   rw [d29]
   have d32 : u 32 = nv xy := dep hd 7 rfl
   rw [d32]
   refine Gv.call 101 #[nv D, nv xy] rfl (by go_simp) ((K8.out w).mono ?_)
   rintro e w' ⟨rfl, hb⟩
   exact ⟨_, rfl, rfl, hb⟩
  refine .cons (fun u w hS hd => ?_) ?_
  ·have d28 : u 28 = nv 1 := dep hd 3 rfl
   rw [d28]
   have d33 : u 33 = nv dx := dep hd 8 rfl
   rw [d33]
   refine Gv.call 103 #[nv 1, nv dx] rfl (by go_simp) ((K9.out w).mono ?_)
   rintro e w' ⟨rfl, hb⟩
   exact ⟨_, rfl, rfl, hb⟩
  refine .cons (fun u w hS hd => ?_) ?_
  ·have d27 : u 27 = nv s := dep hd 2 rfl
   rw [d27]
   have d34 : u 34 = nv r := dep hd 9 rfl
   rw [d34]
   exact Gv.run (.bool b) rfl (run_eq4 rfl rfl rfl hbs hbr hq w) rfl
  exact Obs.nil
 intro uy4 y4 hS hd
 have d35 : uy4 35 = .bool b := hd 10 (by decide)
 rw [d35]
 replace o1 := O8.keep o1 hS
 replace o3 := O4.keep o3 hS
 replace o4 := O4.keep o4 hS
 replace hc := bnx hc hS
 clear hS hd d35
 simp only [List.drop_succ_cons, List.drop_zero]
 go_wp2_with fail
 go_ret
 exact ⟨rfl, hc⟩
set_option maxHeartbeats 6400000 in
theorem cNeg_b {x y n : Nat}
  (k1 : ∀ w, Calls Tryz.prog 70 #[prv x y] w fun e w' => e = .returned (.bool true) ∧ Below w.heap.size w w')
  (k2 : ∀ w, Calls Tryz.prog 69 #[nv x] w fun e w' => e = .returned (nv n) ∧ Below w.heap.size w w')
  (w : World) : Calls Tryz.prog 65 #[prv x y] w fun e w' => e = .returned (.tuple #[prv n y, .int .i64 0]) ∧ Below w.heap.size w w' := by
 have K1 := Lib.hid k1
 have K2 := Lib.hid k2
 clear k1 k2
 obtain ⟨v1, ev1⟩ : ∃ v, v = w.alloc (A8p x y) := ⟨_, rfl⟩
 have bv1 := bnw ev1
 have sv1 := bsz ev1
 obtain ⟨g1, eg1⟩ : ∃ g, g = w.heap.size := ⟨_, rfl⟩
 have o1 : O8 v1 w.heap.size g1 x y := by rw [eg1, ev1]; exact O8.new (Nat.le_refl _) x y
 have hc := bv1
 have hs1 := hc.size
 obtain ⟨v2, ev2⟩ : ∃ v, v = v1.alloc (Z8p) := ⟨_, rfl⟩
 have bv2 := bnw ev2
 have sv2 := bsz ev2
 obtain ⟨g2, eg2⟩ : ∃ g, g = v1.heap.size := ⟨_, rfl⟩
 have o2 : O8 v2 v1.heap.size g2 0 0 := by rw [eg2, ev2]; exact O8.newz (Nat.le_refl _)
 replace o1 := o1.keep bv2
 replace hc := bnx hc bv2
 replace o2 := o2.mono hs1
 have hs2 := hc.size
 go_enter Tryz.func65, Tryz.ntmps65
 go_upto_region 1 with fail
 rw [← ev1, ← ev2]
 rw [show Value.pointer (some ⟨w.heap.size, 0, none⟩) = .pointer (some ⟨g1, 0, none⟩) by rw [eg1]]
 rw [show Value.pointer (some ⟨w.heap.size + 1, 0, none⟩) = .pointer (some ⟨g2, 0, none⟩) by rw [eg2, sv1]]
 clear ev1 bv1 sv1 ev2 bv2 sv2 eg1 eg2 hs1 hs2
 go_wp2_with (first | ((with_reducible refine p_load o1 ?_ ?_); rfl) | ((with_reducible refine p_load o2 ?_ ?_); rfl))
 go_at_call 70
 refine (K1.out _).mono ?_
 rintro e y3 ⟨rfl, h0⟩
 replace o1 := O8.keep o1 h0
 replace o2 := O8.keep o2 h0
 replace hc := bnx hc h0
 clear h0
 go_upto_region 3 with fail
 refine wp_region_inv 6 [8, 9, 10, 11, 12, 13] [.val (.pointer (some ⟨g1, 0, none⟩)), .val (nv x), .val (nv n), .val (.pointer (some ⟨g1, 4, none⟩)), .val (nv y), .val (prv n y)] (fun wz => Below y3.heap.size y3 wz) (by kernel_rfl) (by kernel_rfl) (fun wz wz' hz hb => bnx hz hb) ((Below.refl _ _).drew) (fun u => by simp only [puts, List.foldl_cons, List.foldl_nil]; go_simp; exact rfl) ?_ ?_
 ·simp only [List.take_succ_cons, List.take_zero]
  refine .cons (fun u w hS hd => ?_) ?_
  ·exact Gv.run (.pointer (some ⟨g1, 0, none⟩)) rfl (run_pfield 0 (by decide) rfl rfl) rfl
  refine .cons (fun u w hS hd => ?_) ?_
  ·have d8 : u 8 = .pointer (some ⟨g1, 0, none⟩) := dep hd 0 rfl
   rw [d8]
   exact Gv.run (nv x) rfl (run_xload rfl rfl (O8.keep o1 hS)) rfl
  refine .cons (fun u w hS hd => ?_) ?_
  ·have d9 : u 9 = nv x := dep hd 1 rfl
   rw [d9]
   refine Gv.call 69 #[nv x] rfl (by go_simp) ((K2.out w).mono ?_)
   rintro e w' ⟨rfl, hb⟩
   exact ⟨_, rfl, rfl, hb⟩
  refine .cons (fun u w hS hd => ?_) ?_
  ·exact Gv.run (.pointer (some ⟨g1, 4, none⟩)) rfl (run_pfield 1 (by decide) rfl rfl) rfl
  refine .cons (fun u w hS hd => ?_) ?_
  ·have d11 : u 11 = .pointer (some ⟨g1, 4, none⟩) := dep hd 3 rfl
   rw [d11]
   exact Gv.run (nv y) rfl (run_zload rfl rfl (O8.keep o1 hS)) rfl
  refine .cons (fun u w hS hd => ?_) ?_
  ·have d10 : u 10 = nv n := dep hd 2 rfl
   rw [d10]
   have d12 : u 12 = nv y := dep hd 4 rfl
   rw [d12]
   exact Gv.run (prv n y) rfl (run_Tbuild rfl rfl rfl) rfl
  exact Obs.nil
 intro uy4 y4 hS hd
 have d13 : uy4 13 = prv n y := hd 5 (by decide)
 rw [d13]
 replace o1 := O8.keep o1 hS
 replace o2 := O8.keep o2 hS
 replace hc := bnx hc hS
 clear hS hd d13
 simp only [List.drop_succ_cons, List.drop_zero]
 have hfb := Lib.hid (hc.trans (o2.below n y))
 have HR := Lib.hid (o2.put n y)
 go_wp2_with ((with_reducible refine p_store o2 n y ?_ ?_ ?_); rfl; rfl)
 exact bodyPost_ret (pres2 Tryz.results65 _ HR.out rfl rfl) rfl ⟨rfl, hfb.out⟩
end
end
section
open Go Go.RowKit
theorem W4_o1 : 1 < W4 := ltW P25_one
section
variable {w : World} {B g : Nat} {ops : Array Oper} {rest : List Oper} {a : Act} {Q : Exit → Act → World → Prop} {dst : Option Nat} {tp : TypeId} {ps : String} {af : Array Edge} {x y : Operand}
theorem ta_load1 {s n f h b : Sp} (o : OTa w B g ⟨s, n, f, h, b⟩) (hx : a.eval x = .pointer (some ⟨g, 0, none⟩)) (hh : wpList Tryz.prog ops Q rest (a.put dst (sv s)) w) : wpList Tryz.prog ops Q (⟨dst, .load 98 x, tp, ps, af, none⟩ :: rest) a w := ta_load0 o hx hh
theorem gN_load (h : G8 w) (hx : a.eval x = .pointer (some ⟨0, 0, none⟩)) (hh : wpList Tryz.prog ops Q rest (a.put dst (prv 0 1)) w) : wpList Tryz.prog ops Q (⟨dst, .load 60 x, tp, ps, af, none⟩ :: rest) a w :=
 read_to (prv 0 1) rfl (run_gN rfl hx h) hh
end
section
attribute [local irreducible] wd by8 fl rl setA sf taf set8p set4w ed2
set_option maxRecDepth 20000
set_option maxHeartbeats 6400000 in
theorem cBoth_c {i j x y m n a b : Nat} {n0 p q r : Sp} {Sx : Sp → Prop}
  (k1 : ∀ w, Calls Tryz.prog 70 #[prv x y] w fun e w' => e = .returned (.bool true) ∧ Below w.heap.size w w')
  (k2 : ∀ w, Calls Tryz.prog 70 #[prv m n] w fun e w' => e = .returned (.bool true) ∧ Below w.heap.size w w')
  (k3 : ∀ w, Calls Tryz.prog 71 #[prv 0 1] w fun e w' => e = .returned (sv n0) ∧ Below w.heap.size w w')
  (k4 : ∀ w, Calls Tryz.prog 71 #[prv x y] w fun e w' => e = .returned (sv p) ∧ Below w.heap.size w w')
  (k5 : ∀ w, Calls Tryz.prog 71 #[prv m n] w fun e w' => e = .returned (sv q) ∧ Below w.heap.size w w')
  (k6 : ∀ w, G8 w → Calls Tryz.prog 72 #[sv p, sv q] w fun e w' => e = .returned (sv r) ∧ Below w.heap.size w w')
  (ke : ∀ (B g : Nat) (v : World), (∀ v', Below B v v' → G8 v') → OTa v B g (⟨n0, n0, p, q, r⟩) → Calls Tryz.prog 73 #[nv i, nv j, .func (.func 74) #[.pointer (some ⟨g, 0, none⟩)] #[]] v fun e v' => e = .returned (.tuple #[]) ∧ (∃ s : Sp, Sx s ∧ OTa v' B g ⟨s, n0, p, q, r⟩) ∧ Oth B g v v')
  (kf : ∀ s : Sp, Sx s → ∀ w, Calls Tryz.prog 75 #[sv s] w fun e w' => e = .returned (prv a b) ∧ Below w.heap.size w w')
  (w : World) (hG : G8 w) : Calls Tryz.prog 34 #[nv i, prv x y, nv j, prv m n] w fun e w' => e = .returned (.tuple #[prv a b, .int .i64 0]) ∧ Below w.heap.size w w' := by
 have KE := Lib.hid ke
 have KF := Lib.hid kf
 have HG0 := Lib.hid hG
 have hmf : ∀ (fn : Fn) (first cap : Array Value) (w : World), (Instr.makeFunc fn first cap).run Tryz.prog w = .ok (.func fn first cap) w := fun _ _ _ _ => rfl
 clear ke kf
 have K1 := Lib.hid k1
 have K2 := Lib.hid k2
 have K3 := Lib.hid k3
 have K4 := Lib.hid k4
 have K5 := Lib.hid k5
 have K6 := Lib.hid k6
 clear k1 k2 k3 k4 k5 k6
 have HG := Lib.hid hG
 clear hG
 obtain ⟨v1, ev1⟩ : ∃ v, v = w.alloc (A4 i) := ⟨_, rfl⟩
 have bv1 := bnw ev1
 have sv1 := bsz ev1
 obtain ⟨g4, eg4⟩ : ∃ g, g = w.heap.size := ⟨_, rfl⟩
 have o4 : O4 v1 w.heap.size g4 i := by rw [eg4, ev1]; exact O4.new (Nat.le_refl _) i
 have hc := bv1
 have hs1 := hc.size
 obtain ⟨v2, ev2⟩ : ∃ v, v = v1.alloc (A8p x y) := ⟨_, rfl⟩
 have bv2 := bnw ev2
 have sv2 := bsz ev2
 obtain ⟨g5, eg5⟩ : ∃ g, g = v1.heap.size := ⟨_, rfl⟩
 have o5 : O8 v2 v1.heap.size g5 x y := by rw [eg5, ev2]; exact O8.new (Nat.le_refl _) x y
 have n5_4 : g5 ≠ g4 := by have := OwnF.lt o4; omega
 replace o4 := o4.keep bv2
 replace hc := bnx hc bv2
 replace o5 := o5.mono hs1
 have hs2 := hc.size
 obtain ⟨v3, ev3⟩ : ∃ v, v = v2.alloc (A4 j) := ⟨_, rfl⟩
 have bv3 := bnw ev3
 have sv3 := bsz ev3
 obtain ⟨g6, eg6⟩ : ∃ g, g = v2.heap.size := ⟨_, rfl⟩
 have o6 : O4 v3 v2.heap.size g6 j := by rw [eg6, ev3]; exact O4.new (Nat.le_refl _) j
 have n6_4 : g6 ≠ g4 := by have := OwnF.lt o4; omega
 have n6_5 : g6 ≠ g5 := by have := OwnF.lt o5; omega
 replace o4 := o4.keep bv3
 replace o5 := o5.keep bv3
 replace hc := bnx hc bv3
 replace o6 := o6.mono hs2
 have hs3 := hc.size
 obtain ⟨v4, ev4⟩ : ∃ v, v = v3.alloc (A8p m n) := ⟨_, rfl⟩
 have bv4 := bnw ev4
 have sv4 := bsz ev4
 obtain ⟨g7, eg7⟩ : ∃ g, g = v3.heap.size := ⟨_, rfl⟩
 have o7 : O8 v4 v3.heap.size g7 m n := by rw [eg7, ev4]; exact O8.new (Nat.le_refl _) m n
 have n7_4 : g7 ≠ g4 := by have := OwnF.lt o4; omega
 have n7_5 : g7 ≠ g5 := by have := OwnF.lt o5; omega
 have n7_6 : g7 ≠ g6 := by have := OwnF.lt o6; omega
 replace o4 := o4.keep bv4
 replace o5 := o5.keep bv4
 replace o6 := o6.keep bv4
 replace hc := bnx hc bv4
 replace o7 := o7.mono hs3
 have hs4 := hc.size
 obtain ⟨v5, ev5⟩ : ∃ v, v = v4.alloc (Z8p) := ⟨_, rfl⟩
 have bv5 := bnw ev5
 have sv5 := bsz ev5
 obtain ⟨g8, eg8⟩ : ∃ g, g = v4.heap.size := ⟨_, rfl⟩
 have o8 : O8 v5 v4.heap.size g8 0 0 := by rw [eg8, ev5]; exact O8.newz (Nat.le_refl _)
 have n8_4 : g8 ≠ g4 := by have := OwnF.lt o4; omega
 have n8_5 : g8 ≠ g5 := by have := OwnF.lt o5; omega
 have n8_6 : g8 ≠ g6 := by have := OwnF.lt o6; omega
 have n8_7 : g8 ≠ g7 := by have := OwnF.lt o7; omega
 replace o4 := o4.keep bv5
 replace o5 := o5.keep bv5
 replace o6 := o6.keep bv5
 replace o7 := o7.keep bv5
 replace hc := bnx hc bv5
 replace o8 := o8.mono hs4
 have hs5 := hc.size
 unfold nv
 go_enter Tryz.func34, Tryz.ntmps34
 go_upto_region 1 with fail
 rw [← ev1, ← ev2, ← ev3, ← ev4, ← ev5]
 rw [show Value.pointer (some ⟨w.heap.size, 0, none⟩) = .pointer (some ⟨g4, 0, none⟩) by rw [eg4]]
 rw [show Value.pointer (some ⟨w.heap.size + 1, 0, none⟩) = .pointer (some ⟨g5, 0, none⟩) by rw [eg5, sv1]]
 rw [show Value.pointer (some ⟨w.heap.size + 2, 0, none⟩) = .pointer (some ⟨g6, 0, none⟩) by rw [eg6, sv2, sv1]]
 rw [show Value.pointer (some ⟨w.heap.size + 3, 0, none⟩) = .pointer (some ⟨g7, 0, none⟩) by rw [eg7, sv3, sv2, sv1]]
 rw [show Value.pointer (some ⟨w.heap.size + 4, 0, none⟩) = .pointer (some ⟨g8, 0, none⟩) by rw [eg8, sv4, sv3, sv2, sv1]]
 clear ev1 bv1 sv1 ev2 bv2 sv2 ev3 bv3 sv3 ev4 bv4 sv4 ev5 bv5 sv5 eg4 eg5 eg6 eg7 eg8 hs1 hs2 hs3 hs4 hs5
 replace HG := Lib.hid (HG.out.next hc)
 refine wp_region_obs 7 [14, 15, 16, 17, 18, 19, 20] [.val (prv x y), .val (.bool true), .val (.bool false), .val (.bool false), .val (prv m n), .val (.bool true), .val (.bool false)] (fun wz => Below v5.heap.size v5 wz) (by kernel_rfl) (fun wz wz' hz hb => bnx hz hb) (Below.refl _ _) (fun u => by simp only [puts, List.foldl_cons, List.foldl_nil]; go_simp; exact rfl) ?_ ?_
 ·simp only [List.take_succ_cons, List.take_zero]
  refine .cons (fun u w hS hd => ?_) ?_
  ·exact Gv.run (prv x y) rfl (run_pload rfl rfl (O8.keep o5 hS)) rfl
  refine .cons (fun u w hS hd => ?_) ?_
  ·have d14 : u 14 = prv x y := hd 0 (by decide)
   rw [d14]
   refine Gv.call 70 #[prv x y] rfl (by go_simp) ((K1.out w).mono ?_)
   rintro e w' ⟨rfl, hb⟩
   exact ⟨_, rfl, rfl, hb⟩
  refine .cons (fun u w hS hd => ?_) ?_
  ·have d15 : u 15 = .bool true := hd 1 (by decide)
   rw [d15]
   exact Gv.run (.bool false) rfl (by go_simp) rfl
  refine .cons (fun u w hS hd => ?_) ?_
  ·have d16 : u 16 = .bool false := hd 2 (by decide)
   rw [d16]
   exact Gv.run (.bool false) rfl (by go_simp) rfl
  refine .cons (fun u w hS hd => ?_) ?_
  ·have d17 : u 17 = .bool false := hd 3 (by decide)
   rw [d17]
   exact Gv.run (prv m n) (by rfl) (run_pload rfl rfl (O8.keep o7 hS)) rfl
  refine .cons (fun u w hS hd => ?_) ?_
  ·have d17 : u 17 = .bool false := hd 3 (by decide)
   rw [d17]
   have d18 : u 18 = prv m n := hd 4 (by decide)
   rw [d18]
   refine Gv.call 70 #[prv m n] rfl (by go_simp) ((K2.out w).mono ?_)
   rintro e w' ⟨rfl, hb⟩
   exact ⟨_, rfl, rfl, hb⟩
  refine .cons (fun u w hS hd => ?_) ?_
  ·have d17 : u 17 = .bool false := hd 3 (by decide)
   rw [d17]
   have d19 : u 19 = .bool true := hd 5 (by decide)
   rw [d19]
   exact Gv.run (.bool false) rfl (by go_simp) rfl
  exact ObsS.nil
 intro uy6 y6 hS hd
 have d17 : uy6 17 = .bool false := hd 3 (by decide)
 have d20 : uy6 20 = .bool false := hd 6 (by decide)
 rw [d17, d20]
 replace o4 := O4.keep o4 hS
 replace o5 := O8.keep o5 hS
 replace o6 := O4.keep o6 hS
 replace o7 := O8.keep o7 hS
 replace o8 := O8.keep o8 hS
 replace HG := Lib.hid (HG.out.next hS)
 replace hc := bnx hc hS
 clear hS hd d17 d20
 simp only [List.drop_succ_cons, List.drop_zero]
 go_upto_region 3 with fail
 refine wp_region_box 12 [some 23, some 24, some 25, some 26, some 27, some 28, some 10, some 11, some 12, none, none, none] [.val (prv 0 1), .val (sv n0), .val (prv x y), .val (sv p), .val (prv m n), .val (sv q), .box 98 16, .box 98 16, .box 98 16, .holds 6 98 16 (sf n0), .holds 7 98 16 (sf p), .holds 8 98 16 (sf q)] y6.heap.size (fun wz => Below y6.heap.size y6 wz) (by kernel_rfl) (by kernel_rfl)
  (fun _ _ h _ hb => h.trans hb) ((Below.refl _ _).drew) (Nat.le_refl _) (fun u => by simp only [List.filterMap_cons, List.filterMap_nil, id, puts, List.foldl_cons, List.foldl_nil]; go_simp; exact rfl) ?_ ?_
 ·simp only [List.take_succ_cons, List.take_zero]
  refine .cons (fun u w L hL hS hBw hd => ?_) ?_
  ·exact GB.run 23 rfl (prv 0 1) rfl (run_gN rfl rfl (HG.out.next hS)) rfl rfl
  refine .cons (fun u w L hL hS hBw hd => ?_) ?_
  ·have d23 : u 23 = prv 0 1 := depB hd 0 rfl
   rw [d23]
   refine GB.call 24 rfl 71 #[prv 0 1] rfl (by go_simp) rfl ((K3.out w).mono ?_)
   rintro e w' ⟨rfl, hb⟩
   exact ⟨_, rfl, rfl, hb⟩
  refine .cons (fun u w L hL hS hBw hd => ?_) ?_
  ·exact GB.run 25 rfl (prv x y) rfl (run_pload rfl rfl (O8.keep o5 hS)) rfl rfl
  refine .cons (fun u w L hL hS hBw hd => ?_) ?_
  ·have d25 : u 25 = prv x y := depB hd 2 rfl
   rw [d25]
   refine GB.call 26 rfl 71 #[prv x y] rfl (by go_simp) rfl ((K4.out w).mono ?_)
   rintro e w' ⟨rfl, hb⟩
   exact ⟨_, rfl, rfl, hb⟩
  refine .cons (fun u w L hL hS hBw hd => ?_) ?_
  ·exact GB.run 27 rfl (prv m n) rfl (run_pload rfl rfl (O8.keep o7 hS)) rfl rfl
  refine .cons (fun u w L hL hS hBw hd => ?_) ?_
  ·have d27 : u 27 = prv m n := depB hd 4 rfl
   rw [d27]
   refine GB.call 28 rfl 71 #[prv m n] rfl (by go_simp) rfl ((K5.out w).mono ?_)
   rintro e w' ⟨rfl, hb⟩
   exact ⟨_, rfl, rfl, hb⟩
  refine .cons (fun u w L hL hS hBw hd => ?_) ?_
  ·exact GB.alloc 10 rfl rfl #[.int .u64 0, .int .u64 0, .int .u64 0, .int .u64 0, .int .u64 0, .int .u64 0, .int .u64 0, .int .u64 0, .int .u64 0, .int .u64 0, .int .u64 0, .int .u64 0, .int .u64 0, .int .u64 0, .int .u64 0, .int .u64 0] 98 16 (fun _ => .int .u64 0) rfl rfl (by go_simp) hBw (by decide) rfl
  refine .cons (fun u w L hL hS hBw hd => ?_) ?_
  ·exact GB.alloc 11 rfl rfl #[.int .u64 0, .int .u64 0, .int .u64 0, .int .u64 0, .int .u64 0, .int .u64 0, .int .u64 0, .int .u64 0, .int .u64 0, .int .u64 0, .int .u64 0, .int .u64 0, .int .u64 0, .int .u64 0, .int .u64 0, .int .u64 0] 98 16 (fun _ => .int .u64 0) rfl rfl (by go_simp) hBw (by decide) rfl
  refine .cons (fun u w L hL hS hBw hd => ?_) ?_
  ·exact GB.alloc 12 rfl rfl #[.int .u64 0, .int .u64 0, .int .u64 0, .int .u64 0, .int .u64 0, .int .u64 0, .int .u64 0, .int .u64 0, .int .u64 0, .int .u64 0, .int .u64 0, .int .u64 0, .int .u64 0, .int .u64 0, .int .u64 0, .int .u64 0] 98 16 (fun _ => .int .u64 0) rfl rfl (by go_simp) hBw (by decide) rfl
  refine .cons (fun u w L hL hS hBw hd => ?_) ?_
  ·have d24 : u 24 = sv n0 := depB hd 1 rfl
   obtain ⟨g, fg, e10, o10⟩ : (Fact.box 98 16).ok y6.heap.size [some 23, some 24, some 25, some 26, some 27, some 28, some 10, some 11, some 12, none, none, none] 6 u w L := depB hd 6 rfl
   exact GB.store rfl 6 g 98 16 (sf n0) rfl rfl rfl e10 (run_sstore rfl (by exact e10) (by exact d24) o10) (s_only w g n0) (sput o10 n0)
  refine .cons (fun u w L hL hS hBw hd => ?_) ?_
  ·have d26 : u 26 = sv p := depB hd 3 rfl
   obtain ⟨g, fg, e11, o11⟩ : (Fact.box 98 16).ok y6.heap.size [some 23, some 24, some 25, some 26, some 27, some 28, some 10, some 11, some 12, none, none, none] 7 u w L := depB hd 7 rfl
   exact GB.store rfl 7 g 98 16 (sf p) rfl rfl rfl e11 (run_sstore rfl (by exact e11) (by exact d26) o11) (s_only w g p) (sput o11 p)
  refine .cons (fun u w L hL hS hBw hd => ?_) ?_
  ·have d28 : u 28 = sv q := depB hd 5 rfl
   obtain ⟨g, fg, e12, o12⟩ : (Fact.box 98 16).ok y6.heap.size [some 23, some 24, some 25, some 26, some 27, some 28, some 10, some 11, some 12, none, none, none] 8 u w L := depB hd 8 rfl
   exact GB.store rfl 8 g 98 16 (sf q) rfl rfl rfl e12 (run_sstore rfl (by exact e12) (by exact d28) o12) (s_only w g q) (sput o12 q)
  exact ObsB.nil
 intro uy7 y7 hS hd
 obtain ⟨g10, eg10, o10⟩ : (Fact.holds 6 98 16 (sf n0)).ok y6.heap.size [some 23, some 24, some 25, some 26, some 27, some 28, some 10, some 11, some 12, none, none, none] 9 uy7 y7 (fun _ => true) := hd 9 (by decide)
 replace eg10 : uy7 10 = .pointer (some ⟨g10, 0, none⟩) := eg10
 replace o10 : OS y7 y6.heap.size g10 n0 := o10
 have n10_4 : g10 ≠ g4 := by have := OwnF.ge o10; have := OwnF.lt o4; omega
 have n10_5 : g10 ≠ g5 := by have := OwnF.ge o10; have := OwnF.lt o5; omega
 have n10_6 : g10 ≠ g6 := by have := OwnF.ge o10; have := OwnF.lt o6; omega
 have n10_7 : g10 ≠ g7 := by have := OwnF.ge o10; have := OwnF.lt o7; omega
 have n10_8 : g10 ≠ g8 := by have := OwnF.ge o10; have := OwnF.lt o8; omega
 replace o10 := o10.mono hc.size
 obtain ⟨g11, eg11, o11⟩ : (Fact.holds 7 98 16 (sf p)).ok y6.heap.size [some 23, some 24, some 25, some 26, some 27, some 28, some 10, some 11, some 12, none, none, none] 10 uy7 y7 (fun _ => true) := hd 10 (by decide)
 replace eg11 : uy7 11 = .pointer (some ⟨g11, 0, none⟩) := eg11
 replace o11 : OS y7 y6.heap.size g11 p := o11
 have n11_4 : g11 ≠ g4 := by have := OwnF.ge o11; have := OwnF.lt o4; omega
 have n11_5 : g11 ≠ g5 := by have := OwnF.ge o11; have := OwnF.lt o5; omega
 have n11_6 : g11 ≠ g6 := by have := OwnF.ge o11; have := OwnF.lt o6; omega
 have n11_7 : g11 ≠ g7 := by have := OwnF.ge o11; have := OwnF.lt o7; omega
 have n11_8 : g11 ≠ g8 := by have := OwnF.ge o11; have := OwnF.lt o8; omega
 replace o11 := o11.mono hc.size
 obtain ⟨g12, eg12, o12⟩ : (Fact.holds 8 98 16 (sf q)).ok y6.heap.size [some 23, some 24, some 25, some 26, some 27, some 28, some 10, some 11, some 12, none, none, none] 11 uy7 y7 (fun _ => true) := hd 11 (by decide)
 replace eg12 : uy7 12 = .pointer (some ⟨g12, 0, none⟩) := eg12
 replace o12 : OS y7 y6.heap.size g12 q := o12
 have n12_4 : g12 ≠ g4 := by have := OwnF.ge o12; have := OwnF.lt o4; omega
 have n12_5 : g12 ≠ g5 := by have := OwnF.ge o12; have := OwnF.lt o5; omega
 have n12_6 : g12 ≠ g6 := by have := OwnF.ge o12; have := OwnF.lt o6; omega
 have n12_7 : g12 ≠ g7 := by have := OwnF.ge o12; have := OwnF.lt o7; omega
 have n12_8 : g12 ≠ g8 := by have := OwnF.ge o12; have := OwnF.lt o8; omega
 replace o12 := o12.mono hc.size
 replace o4 := O4.keep o4 hS
 replace o5 := O8.keep o5 hS
 replace o6 := O4.keep o6 hS
 replace o7 := O8.keep o7 hS
 replace o8 := O8.keep o8 hS
 replace HG := Lib.hid (HG.out.next hS)
 replace hc := bnx hc hS
 rw [eg10, eg11, eg12]
 clear hS hd eg10 eg11 eg12
 simp only [List.drop_succ_cons, List.drop_zero]
 go_upto_region 4 with fail
 refine wp_region_box 10 [some 29, some 30, some 31, some 32, some 33, some 34, some 35, some 36, some 13, none] [.val (sv n0), .val (sv n0), .val (sv p), .val (sv q), .val (sv p), .val (sv q), .val (sv r), .val (tav (⟨n0, n0, p, q, r⟩)), .box 102 80, .holds 8 102 80 (taf (⟨n0, n0, p, q, r⟩))] y7.heap.size (fun wz => Below y7.heap.size y7 wz) (by kernel_rfl) (by kernel_rfl)
  (fun _ _ h _ hb => h.trans hb) ((Below.refl _ _).drew) (Nat.le_refl _) (fun u => by simp only [List.filterMap_cons, List.filterMap_nil, id, puts, List.foldl_cons, List.foldl_nil]; go_simp; exact rfl) ?_ ?_
 ·simp only [List.take_succ_cons, List.take_zero]
  refine .cons (fun u w L hL hS hBw hd => ?_) ?_
  ·exact GB.run 29 rfl (sv n0) rfl (run_Sload rfl rfl (OS.keep o10 hS)) rfl rfl
  refine .cons (fun u w L hL hS hBw hd => ?_) ?_
  ·exact GB.run 30 rfl (sv n0) rfl (run_Sload rfl rfl (OS.keep o10 hS)) rfl rfl
  refine .cons (fun u w L hL hS hBw hd => ?_) ?_
  ·exact GB.run 31 rfl (sv p) rfl (run_Sload rfl rfl (OS.keep o11 hS)) rfl rfl
  refine .cons (fun u w L hL hS hBw hd => ?_) ?_
  ·exact GB.run 32 rfl (sv q) rfl (run_Sload rfl rfl (OS.keep o12 hS)) rfl rfl
  refine .cons (fun u w L hL hS hBw hd => ?_) ?_
  ·exact GB.run 33 rfl (sv p) rfl (run_Sload rfl rfl (OS.keep o11 hS)) rfl rfl
  refine .cons (fun u w L hL hS hBw hd => ?_) ?_
  ·exact GB.run 34 rfl (sv q) rfl (run_Sload rfl rfl (OS.keep o12 hS)) rfl rfl
  refine .cons (fun u w L hL hS hBw hd => ?_) ?_
  ·have d33 : u 33 = sv p := depB hd 4 rfl
   rw [d33]
   have d34 : u 34 = sv q := depB hd 5 rfl
   rw [d34]
   refine GB.call 35 rfl 72 #[sv p, sv q] rfl (by go_simp) rfl ((K6.out w (HG.out.next hS)).mono ?_)
   rintro e w' ⟨rfl, hb⟩
   exact ⟨_, rfl, rfl, hb⟩
  refine .cons (fun u w L hL hS hBw hd => ?_) ?_
  ·have d29 : u 29 = sv n0 := depB hd 0 rfl
   rw [d29]
   have d30 : u 30 = sv n0 := depB hd 1 rfl
   rw [d30]
   have d31 : u 31 = sv p := depB hd 2 rfl
   rw [d31]
   have d32 : u 32 = sv q := depB hd 3 rfl
   rw [d32]
   have d35 : u 35 = sv r := depB hd 6 rfl
   rw [d35]
   exact GB.run 36 rfl (tav (⟨n0, n0, p, q, r⟩)) rfl (run_Tabuild rfl rfl rfl rfl rfl rfl) rfl rfl
  refine .cons (fun u w L hL hS hBw hd => ?_) ?_
  ·exact GB.alloc 13 rfl rfl Tryz.zeroCells102 102 80 (fun _ => .int .u64 0) rfl rfl (by go_simp) hBw (by decide) rfl
  refine .cons (fun u w L hL hS hBw hd => ?_) ?_
  ·have d36 : u 36 = tav (⟨n0, n0, p, q, r⟩) := depB hd 7 rfl
   obtain ⟨g, fg, e13, o13⟩ : (Fact.box 102 80).ok y7.heap.size [some 29, some 30, some 31, some 32, some 33, some 34, some 35, some 36, some 13, none] 8 u w L := depB hd 8 rfl
   exact GB.store rfl 8 g 102 80 (taf (⟨n0, n0, p, q, r⟩)) rfl rfl rfl e13 (run_tastore rfl (by exact e13) (by exact d36) o13) (ta_only w g (⟨n0, n0, p, q, r⟩)) (taput o13 (⟨n0, n0, p, q, r⟩))
  exact ObsB.nil
 intro uy8 y8 hS hd
 obtain ⟨g13, eg13, o13⟩ : (Fact.holds 8 102 80 (taf (⟨n0, n0, p, q, r⟩))).ok y7.heap.size [some 29, some 30, some 31, some 32, some 33, some 34, some 35, some 36, some 13, none] 9 uy8 y8 (fun _ => true) := hd 9 (by decide)
 replace eg13 : uy8 13 = .pointer (some ⟨g13, 0, none⟩) := eg13
 replace o13 : OTa y8 y7.heap.size g13 (⟨n0, n0, p, q, r⟩) := o13
 have n13_4 : g13 ≠ g4 := by have := OwnF.ge o13; have := OwnF.lt o4; omega
 have n13_5 : g13 ≠ g5 := by have := OwnF.ge o13; have := OwnF.lt o5; omega
 have n13_6 : g13 ≠ g6 := by have := OwnF.ge o13; have := OwnF.lt o6; omega
 have n13_7 : g13 ≠ g7 := by have := OwnF.ge o13; have := OwnF.lt o7; omega
 have n13_8 : g13 ≠ g8 := by have := OwnF.ge o13; have := OwnF.lt o8; omega
 have n13_10 : g13 ≠ g10 := by have := OwnF.ge o13; have := OwnF.lt o10; omega
 have n13_11 : g13 ≠ g11 := by have := OwnF.ge o13; have := OwnF.lt o11; omega
 have n13_12 : g13 ≠ g12 := by have := OwnF.ge o13; have := OwnF.lt o12; omega
 replace o13 := o13.mono hc.size
 replace o4 := O4.keep o4 hS
 replace o5 := O8.keep o5 hS
 replace o6 := O4.keep o6 hS
 replace o7 := O8.keep o7 hS
 replace o8 := O8.keep o8 hS
 replace o10 := OS.keep o10 hS
 replace o11 := OS.keep o11 hS
 replace o12 := OS.keep o12 hS
 replace HG := Lib.hid (HG.out.next hS)
 replace hc := bnx hc hS
 rw [eg13]
 clear hS hd eg13
 simp only [List.drop_succ_cons, List.drop_zero]
 go_wp2_with (first | ((with_reducible refine n_load o4 ?_ ?_); rfl) | ((with_reducible refine p_load o5 ?_ ?_); rfl) | ((with_reducible refine n_load o6 ?_ ?_); rfl) | ((with_reducible refine p_load o7 ?_ ?_); rfl) | ((with_reducible refine p_load o8 ?_ ?_); rfl) | ((with_reducible refine s_load o10 ?_ ?_); rfl) | ((with_reducible refine sz_load o10 ?_ ?_); rfl) | ((with_reducible refine s_load o11 ?_ ?_); rfl) | ((with_reducible refine sz_load o11 ?_ ?_); rfl) | ((with_reducible refine s_load o12 ?_ ?_); rfl) | ((with_reducible refine sz_load o12 ?_ ?_); rfl))
 go_at_call 73
 refine (KE.out w.heap.size g13 _ (fun v' hv => HG0.out.next (hc.trans hv)) o13).mono ?_
 rintro e v9 ⟨rfl, ⟨s, hs, oT⟩, hO⟩
 replace o8 : O8 v9 w.heap.size g8 0 0 := hO.1 _ _ _ _ _ _ (Ne.symm n13_8) o8
 replace hc := hc.trans hO.2.1
 have KS := Lib.hid (KF.out s hs)
 clear hO o4 o5 o6 o7 o10 o11 o12 o13 hs
 go_wp2_with ((with_reducible refine ta_load1 oT ?_ ?_); rfl)
 go_at_call 75
 refine (KS.out _).mono ?_
 rintro e v10 ⟨rfl, h0⟩
 replace o8 := o8.keep h0
 replace hc := bnx hc h0
 clear h0 oT
 have hfb := Lib.hid (hc.trans (o8.below a b))
 have HR := Lib.hid (o8.put a b)
 go_wp2_with (first | ((with_reducible refine p_store o8 a b ?_ ?_ ?_); rfl; rfl))
 exact bodyPost_ret (pres2 Tryz.results34 _ HR.out rfl rfl) rfl ⟨rfl, hfb.out⟩
set_option maxHeartbeats 6400000 in
theorem cMult_gen {i x y a b : Nat} {er : Int}
  (k1 : ∀ w, G8 w → Calls Tryz.prog 34 #[nv i, prv x y, lit4 0 0 0 0, prv 0 1] w fun e w' => e = .returned (.tuple #[prv a b, .int .i64 er]) ∧ Below w.heap.size w w')
  (w : World) (hG : G8 w) : Calls Tryz.prog 51 #[nv i, prv x y] w fun e w' => e = .returned (.tuple #[prv a b, .int .i64 er]) ∧ Below w.heap.size w w' := by
 have K1 := Lib.hid k1
 clear k1
 have HG := Lib.hid hG
 clear hG
 obtain ⟨v1, ev1⟩ : ∃ v, v = w.alloc (A4 i) := ⟨_, rfl⟩
 have bv1 := bnw ev1
 have sv1 := bsz ev1
 obtain ⟨g2, eg2⟩ : ∃ g, g = w.heap.size := ⟨_, rfl⟩
 have o2 : O4 v1 w.heap.size g2 i := by rw [eg2, ev1]; exact O4.new (Nat.le_refl _) i
 have hc := bv1
 have hs1 := hc.size
 obtain ⟨v2, ev2⟩ : ∃ v, v = v1.alloc (A8p x y) := ⟨_, rfl⟩
 have bv2 := bnw ev2
 have sv2 := bsz ev2
 obtain ⟨g3, eg3⟩ : ∃ g, g = v1.heap.size := ⟨_, rfl⟩
 have o3 : O8 v2 v1.heap.size g3 x y := by rw [eg3, ev2]; exact O8.new (Nat.le_refl _) x y
 replace o2 := o2.keep bv2
 replace hc := bnx hc bv2
 replace o3 := o3.mono hs1
 have hs2 := hc.size
 obtain ⟨v3, ev3⟩ : ∃ v, v = v2.alloc (Z8p) := ⟨_, rfl⟩
 have bv3 := bnw ev3
 have sv3 := bsz ev3
 obtain ⟨g4, eg4⟩ : ∃ g, g = v2.heap.size := ⟨_, rfl⟩
 have o4 : O8 v3 v2.heap.size g4 0 0 := by rw [eg4, ev3]; exact O8.newz (Nat.le_refl _)
 replace o2 := o2.keep bv3
 replace o3 := o3.keep bv3
 replace hc := bnx hc bv3
 replace o4 := o4.mono hs2
 have hs3 := hc.size
 unfold nv
 go_enter Tryz.func51, Tryz.ntmps51
 go_upto_region 1 with fail
 rw [← ev1, ← ev2, ← ev3]
 rw [show Value.pointer (some ⟨w.heap.size, 0, none⟩) = .pointer (some ⟨g2, 0, none⟩) by rw [eg2]]
 rw [show Value.pointer (some ⟨w.heap.size + 1, 0, none⟩) = .pointer (some ⟨g3, 0, none⟩) by rw [eg3, sv1]]
 rw [show Value.pointer (some ⟨w.heap.size + 2, 0, none⟩) = .pointer (some ⟨g4, 0, none⟩) by rw [eg4, sv2, sv1]]
 clear ev1 bv1 sv1 ev2 bv2 sv2 ev3 bv3 sv3 eg2 eg3 eg4 hs1 hs2 hs3
 replace HG := Lib.hid (HG.out.next hc)
 go_wp2_with (first | ((with_reducible refine n_load o2 ?_ ?_); rfl) | ((with_reducible refine p_load o3 ?_ ?_); rfl) | ((with_reducible refine p_load o4 ?_ ?_); rfl) | ((with_reducible refine gN_load HG.out ?_ ?_); rfl))
 go_at_call 34
 refine (K1.out _ HG.out).mono ?_
 rintro e y4 ⟨rfl, h0⟩
 replace o2 := O4.keep o2 h0
 replace o3 := O8.keep o3 h0
 replace o4 := O8.keep o4 h0
 replace HG := Lib.hid (HG.out.next h0)
 replace hc := bnx hc h0
 clear h0
 have hfb := Lib.hid (hc.trans (o4.below a b))
 have HR := Lib.hid (o4.put a b)
 go_wp2_with (first | ((with_reducible refine p_store o4 a b ?_ ?_ ?_); rfl; rfl))
 exact bodyPost_ret (pres2 Tryz.results51 _ HR.out rfl rfl) rfl ⟨rfl, hfb.out⟩
set_option maxHeartbeats 6400000 in
theorem cSmall_b {x y a b : Nat} {r : Nat → Sp} {b_ : Bool} (hA : a < W4) (hB : b < W4) (hq : (decide (a = 0) && decide (b = 1)) = b_)
  (k1 : ∀ w, Calls Tryz.prog 70 #[prv x y] w fun e w' => e = .returned (.bool true) ∧ Below w.heap.size w w')
  (k2 : ∀ w, Calls Tryz.prog 71 #[prv x y] w fun e w' => e = .returned (sv (r 0)) ∧ Below w.heap.size w w')
  (k4 : ∀ w, Calls Tryz.prog 75 #[sv (r 3)] w fun e w' => e = .returned (prv a b) ∧ Below w.heap.size w w')
  (k3 : ∀ k, k < 3 → ∀ w, G8 w → Calls Tryz.prog 72 #[sv (r k), sv (r k)] w fun e w' => e = .returned (sv (r (k + 1))) ∧ Below w.heap.size w w')
  (w : World) (hG : G8 w) : Calls Tryz.prog 64 #[prv x y] w fun e w' => e = .returned (.bool b_) ∧ Below w.heap.size w w' := by
 have K3 := Lib.hid k3
 have HG0 := Lib.hid hG
 clear k3
 have K1 := Lib.hid k1
 have K2 := Lib.hid k2
 have K4 := Lib.hid k4
 clear k1 k2 k4
 have HG := Lib.hid hG
 clear hG
 obtain ⟨v1, ev1⟩ : ∃ v, v = w.alloc (A8p x y) := ⟨_, rfl⟩
 have bv1 := bnw ev1
 have sv1 := bsz ev1
 obtain ⟨g1, eg1⟩ : ∃ g, g = w.heap.size := ⟨_, rfl⟩
 have o1 : O8 v1 w.heap.size g1 x y := by rw [eg1, ev1]; exact O8.new (Nat.le_refl _) x y
 have hc := bv1
 have hs1 := hc.size
 go_enter Tryz.func64, Tryz.ntmps64
 go_upto_region 1 with fail
 rw [← ev1]
 rw [show Value.pointer (some ⟨w.heap.size, 0, none⟩) = .pointer (some ⟨g1, 0, none⟩) by rw [eg1]]
 clear ev1 bv1 sv1 eg1 hs1
 replace HG := Lib.hid (HG.out.next hc)
 go_wp2_with (first | ((with_reducible refine p_load o1 ?_ ?_); rfl))
 go_at_call 70
 refine (K1.out _).mono ?_
 rintro e y2 ⟨rfl, h0⟩
 replace o1 := O8.keep o1 h0
 replace HG := Lib.hid (HG.out.next h0)
 replace hc := bnx hc h0
 clear h0
 go_wp2_with (first | ((with_reducible refine p_load o1 ?_ ?_); rfl))
 go_at_call 71
 refine (K2.out _).mono ?_
 rintro e y3 ⟨rfl, h0⟩
 replace o1 := O8.keep o1 h0
 replace HG := Lib.hid (HG.out.next h0)
 replace hc := bnx hc h0
 clear h0
 have on0 := zS_new (w := y3) (Nat.le_refl _)
 have o3 := (s_put on0 (r 0)).mono hc.size
 have hbz := ((Below.refl _ y3).alloc (Nat.le_refl _) ZS).trans (s_below on0 (r 0))
 replace o1 := O8.keep o1 hbz
 replace HG := Lib.hid (HG.out.next hbz)
 replace hc := bnx hc hbz
 clear hbz
 go_upto_region 4 with (first | ((with_reducible refine s_store on0 (r 0) ?_ ?_ ?_); rfl; rfl))
 obtain ⟨y4, ev⟩ : ∃ v, v = setA (y3.alloc ZS) y3.heap.size 0 16 (sf (r 0)) := ⟨_, rfl⟩
 obtain ⟨g3, eg⟩ : ∃ g, g = y3.heap.size := ⟨_, rfl⟩
 rw [← ev] at o1 o3 hc ⊢
 have HG2 : G8 y4 := by rw [ev]; exact HG.out
 replace HG := Lib.hid HG2
 clear HG2
 rw [← eg] at o3 ⊢
 clear ev eg on0
 clear o1
 go_wp2_with fail
 go_loopw [9] (fun i wr => ∃ k : Nat, k ≤ 3 ∧ i = .int .i64 k ∧ OS wr w.heap.size g3 (r k) ∧ Below w.heap.size w wr)
  (fun i _ => 3 - (intOf i).toNat)
 case atStart => exact ⟨0, by omega, rfl, o3, hc⟩
 case round =>
  clear o3 hc HG
  obtain ⟨k, hk, rfl, o3, hc⟩ := hrel
  by_cases hlt : k < 3
  ·have g1 : (k : Int) < 3 := by omega
   go_wp2_with (first | ((with_reducible refine s_load o3 ?_ ?_); rfl))
   go_at_call 72
   refine (K3.out k hlt _ (HG0.out.next hc)).mono ?_
   rintro e v8 ⟨rfl, h0⟩
   replace o3 := o3.keep h0
   replace hc := bnx hc h0
   clear h0
   have hfb := Lib.hid (hc.trans (s_below o3 (r (k + 1))))
   have HR := Lib.hid (s_put o3 (r (k + 1)))
   have o3' : OwnF v8 w.heap.size 98 (some ⟨g3, 0, none⟩) 16 16 (sf (r k)) := o3
   go_wp2_with ((with_reducible refine s_store o3' (r (k + 1)) ?_ ?_ ?_); rfl; rfl)
   go_roundw
   case rel => exact ⟨k + 1, by omega, by go_num, HR.out, hfb.out⟩
   case measure => simp [intOf]; omega
  ·obtain rfl : k = 3 := by omega
   go_upto_region 8 with fail
   have HG := Lib.hid (HG0.out.next hc)
   refine wp_region_inv 4 [15, 16, 17, 18] [.val (sv (r 3)), .val (prv a b), .val (prv 0 1), .val (.bool b_)] (fun wz => Below wr.heap.size wr wz) (by kernel_rfl) (by kernel_rfl) (fun wz wz' hz hb => bnx hz hb) ((Below.refl _ _).drew) (fun u => by simp only [puts, List.foldl_cons, List.foldl_nil]; go_simp; exact rfl) ?_ ?_
   ·simp only [List.take_succ_cons, List.take_zero]
    refine .cons (fun u w hS hd => ?_) ?_
    ·exact Gv.run (sv (r 3)) rfl (run_Sload rfl rfl (OS.keep o3 hS)) rfl
    refine .cons (fun u w hS hd => ?_) ?_
    ·have d15 : u 15 = sv (r 3) := dep hd 0 rfl
     rw [d15]
     refine Gv.call 75 #[sv (r 3)] rfl (by go_simp) ((K4.out w).mono ?_)
     rintro e w' ⟨rfl, hb⟩
     exact ⟨_, rfl, rfl, hb⟩
    refine .cons (fun u w hS hd => ?_) ?_
    ·exact Gv.run (prv 0 1) rfl (run_gN rfl rfl (HG.out.next hS)) rfl
    refine .cons (fun u w hS hd => ?_) ?_
    ·have d16 : u 16 = prv a b := dep hd 1 rfl
     rw [d16]
     have d17 : u 17 = prv 0 1 := dep hd 2 rfl
     rw [d17]
     exact Gv.run (.bool b_) rfl (run_eqT rfl rfl rfl hA hB W4_pos W4_o1 hq w) rfl
    exact Obs.nil
   intro uy5 y5 hS hd
   have d18 : uy5 18 = .bool b_ := hd 3 (by decide)
   rw [d18]
   replace o3 := OS.keep o3 hS
   replace HG := Lib.hid (HG.out.next hS)
   replace hc := bnx hc hS
   clear hS hd d18
   simp only [List.drop_succ_cons, List.drop_zero]
   go_wp2_with fail
   go_ret
   exact ⟨rfl, hc⟩
end
end
end Go.Proofs.YtkbkalhcdbklkaaGreatDoor
