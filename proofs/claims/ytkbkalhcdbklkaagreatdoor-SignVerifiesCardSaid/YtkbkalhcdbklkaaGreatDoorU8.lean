/-
  The code's across, Encode (layer 8), over letters. Written by tools/gen_u6.py. By an AI agent.
-/
import Derived.Test.YtkbkalhcdbklkaaGreatDoorJ18
namespace Go.Proofs.YtkbkalhcdbklkaaGreatDoor
open Go Go.RowKit
theorem nres2 {fn : Func} {p q : Tmp} (h : fn.results = #[.cell p 35, .tmp q]) (tmps : Array Value) {w : World} {B g x : Nat} (o : O4 w B g x) (hp : tmps.getD p undef = .pointer (some ⟨g, 0, none⟩)) {v : Value} (hv : tmps.getD q undef = v) : (results fn tmps).run Tryz.prog w = .ok (.tuple #[nv x, v]) w := by
 subst hv
 have hp' : tmps[p]?.getD undef = .pointer (some ⟨g, 0, none⟩) := by simpa using hp
 obtain ⟨c0, c1, c2, c3⟩ := o.c4
 simp only [results, h]
 simp [Result.andThen, hp', asAddr, go_sem, c0, c1, c2, c3]
theorem O4.set3 {w : World} {B g y z : Nat} (h : O4 w B g y) (hz : ∀ k, k < 3 → wd z k = wd y k) : O4 (w.setCell ⟨g, 3, none⟩ (.int .u64 (wd z 3 : Int))) B g z := by
 refine OwnF.congr (OwnF.set_ h 3 _) fun k hk => ?_
 by_cases h3 : k = 3
 ·subst h3; rfl
 ·rw [if_neg h3]
  unfold wv
  rw [hz k (by omega)]
section
variable {w : World} {B g : Nat} {ops : Array Oper} {rest : List Oper} {a : Act} {Q : Exit → Act → World → Prop} {dst : Option Nat} {tp : TypeId} {ps : String} {af : Array Edge} {x : Operand}
theorem z_load {m n : Nat} (o : O8 w B g m n) (hx : a.eval x = .pointer (some ⟨g, 4, none⟩)) (h : wpList Tryz.prog ops Q rest (a.put dst (nv n)) w) : wpList Tryz.prog ops Q (⟨dst, .load 35 x, tp, ps, af, none⟩ :: rest) a w :=
 read_to (nv n) rfl (run_zload rfl hx o) h
end
section
attribute [local irreducible] wd by8 fl rl setA sf taf set8p set4w ed2
set_option maxRecDepth 20000
set_option maxHeartbeats 6400000 in
theorem across_gen {y yy a1 D dy a2 iv m r : Nat} {th : Bool}
  (k1 : ∀ w, Calls Tryz.prog 101 #[nv y, nv y] w fun e w' => e = .returned (nv yy) ∧ Below w.heap.size w w')
  (k2 : ∀ w, Calls Tryz.prog 102 #[nv yy, nv 1] w fun e w' => e = .returned (nv a1) ∧ Below w.heap.size w w')
  (k3 : ∀ w, Calls Tryz.prog 104 #[] w fun e w' => e = .returned (nv D) ∧ Below w.heap.size w w')
  (k4 : ∀ w, Calls Tryz.prog 101 #[nv D, nv yy] w fun e w' => e = .returned (nv dy) ∧ Below w.heap.size w w')
  (k5 : ∀ w, Calls Tryz.prog 103 #[nv dy, nv 1] w fun e w' => e = .returned (nv a2) ∧ Below w.heap.size w w')
  (k6 : ∀ w, Calls Tryz.prog 106 #[nv a2] w fun e w' => e = .returned (nv iv) ∧ Below w.heap.size w w')
  (k7 : ∀ w, Calls Tryz.prog 101 #[nv a1, nv iv] w fun e w' => e = .returned (nv m) ∧ Below w.heap.size w w')
  (k8 : ∀ w, Glb w → Calls Tryz.prog 105 #[nv m] w fun e w' => e = .returned (.tuple #[nv r, .bool th]) ∧ Below w.heap.size w w')
  (w : World) (hG : Glb w) : Calls Tryz.prog 68 #[nv y] w fun e w' => e = .returned (.tuple #[nv r, .bool th]) ∧ Below w.heap.size w w' := by
 have K1 := Lib.hid k1
 have K2 := Lib.hid k2
 have K3 := Lib.hid k3
 have K4 := Lib.hid k4
 have K5 := Lib.hid k5
 have K6 := Lib.hid k6
 have K7 := Lib.hid k7
 have K8 := Lib.hid k8
 clear k1 k2 k3 k4 k5 k6 k7 k8
 obtain ⟨v1, ev1⟩ : ∃ v, v = w.alloc (A4 y) := ⟨_, rfl⟩
 have bv1 := bnw ev1
 have sv1 := bsz ev1
 obtain ⟨g1, eg1⟩ : ∃ g, g = w.heap.size := ⟨_, rfl⟩
 have o1 : O4 v1 w.heap.size g1 y := by rw [eg1, ev1]; exact O4.new (Nat.le_refl _) y
 have hc := bv1
 have hs1 := hc.size
 obtain ⟨v2, ev2⟩ : ∃ v, v = v1.alloc (Z4) := ⟨_, rfl⟩
 have bv2 := bnw ev2
 have sv2 := bsz ev2
 obtain ⟨g2, eg2⟩ : ∃ g, g = v1.heap.size := ⟨_, rfl⟩
 have o2 : O4 v2 v1.heap.size g2 0 := by rw [eg2, ev2]; exact O4.newz (Nat.le_refl _)
 replace o1 := o1.keep bv2
 replace hc := bnx hc bv2
 replace o2 := o2.mono hs1
 have hs2 := hc.size
 unfold nv
 go_enter Tryz.func68, Tryz.ntmps68
 go_upto_region 1 with fail
 rw [← ev1, ← ev2]
 rw [show Value.pointer (some ⟨w.heap.size, 0, none⟩) = .pointer (some ⟨g1, 0, none⟩) by rw [eg1]]
 rw [show Value.pointer (some ⟨w.heap.size + 1, 0, none⟩) = .pointer (some ⟨g2, 0, none⟩) by rw [eg2, sv1]]
 clear ev1 bv1 sv1 ev2 bv2 sv2 eg1 eg2 hs1 hs2
 have HGR := Lib.hid (hG.next hc)
 refine wp_region_obs 4 [8, 9, 10, 11] [.val (nv 1), .val (nv y), .val (nv y), .val (nv yy)] (fun wz => Below v2.heap.size v2 wz) (by kernel_rfl) (fun wz wz' hz hb => bnx hz hb) (Below.refl _ _) (fun u => by simp only [puts, List.foldl_cons, List.foldl_nil]; go_simp; exact rfl) ?_ ?_
 ·simp only [List.take_succ_cons, List.take_zero]
  refine .cons (fun u w hS hd => ?_) ?_
  ·exact Gv.run (nv 1) rfl (run_one rfl w) rfl
  refine .cons (fun u w hS hd => ?_) ?_
  ·exact Gv.run (nv y) rfl (run_nload rfl rfl (O4.keep o1 hS)) rfl
  refine .cons (fun u w hS hd => ?_) ?_
  ·exact Gv.run (nv y) rfl (run_nload rfl rfl (O4.keep o1 hS)) rfl
  refine .cons (fun u w hS hd => ?_) ?_
  ·have d9 : u 9 = nv y := hd 1 (by decide)
   rw [d9]
   have d10 : u 10 = nv y := hd 2 (by decide)
   rw [d10]
   refine Gv.call 101 #[nv y, nv y] rfl (by go_simp) ((K1.out w).mono ?_)
   rintro e w' ⟨rfl, hb⟩
   exact ⟨_, rfl, rfl, hb⟩
  exact ObsS.nil
 intro uy3 y3 hS hd
 have d8 : uy3 8 = nv 1 := hd 0 (by decide)
 have d11 : uy3 11 = nv yy := hd 3 (by decide)
 rw [d8, d11]
 replace o1 := O4.keep o1 hS
 replace o2 := O4.keep o2 hS
 replace hc := bnx hc hS
 replace HGR := Lib.hid (HGR.out.next hS)
 clear hS hd d8 d11
 simp only [List.drop_succ_cons, List.drop_zero]
 have on4 := O4.newz (w := y3) (Nat.le_refl _)
 have on4b := on4.alloc Z4
 have on5 := O4.newz (w := y3.alloc Z4) (B := y3.heap.size) (by simp)
 rw [show (y3.alloc Z4).heap.size = y3.heap.size + 1 by simp] at on5
 have on5b := on5.other (g' := y3.heap.size) (by omega) 1
 have hq := ((Below.refl _ y3).alloc (Nat.le_refl _) Z4).alloc (by simp) Z4
 have hbz := (hq.trans (on4b.below 1)).trans (on5b.below yy)
 have o4 := ((on4b.put 1).other (g' := y3.heap.size + 1) (by omega) yy).mono hc.size
 have o5 := (on5b.put yy).mono hc.size
 replace o1 := o1.keep hbz
 replace o2 := o2.keep hbz
 replace hc := bnx hc hbz
 replace HGR := Lib.hid (HGR.out.next hbz)
 clear hbz hq
 go_upto_region 2 with (first | ((with_reducible refine n_store on4b 1 ?_ ?_ ?_); rfl; rfl) | ((with_reducible refine n_store on5b yy ?_ ?_ ?_); rfl; rfl))
 obtain ⟨v8, ev⟩ : ∃ v, v = set4w (set4w ((y3.alloc Z4).alloc Z4) y3.heap.size 1) (y3.heap.size + 1) yy := ⟨_, rfl⟩
 obtain ⟨g4, eg⟩ : ∃ g, g = y3.heap.size := ⟨_, rfl⟩
 obtain ⟨g5, eg'⟩ : ∃ g, g = g4 + 1 := ⟨_, rfl⟩
 rw [← ev] at o1 o2 o4 o5 hc HGR ⊢
 rw [← eg] at o4 o5 ⊢
 rw [← eg'] at o5 ⊢
 clear ev eg eg' on4 on4b on5 on5b
 refine wp_region_box 12 [some 12, some 13, some 14, some 15, some 16, some 17, some 18, some 19, some 6, some 7, none, none] [.val (nv yy), .val (nv 1), .val (nv a1), .val (nv D), .val (nv yy), .val (nv dy), .val (nv 1), .val (nv a2), .box 35 4, .box 35 4, .holds 8 35 4 (wv a1), .holds 9 35 4 (wv a2)] v8.heap.size (fun wz => Below v8.heap.size v8 wz) (by kernel_rfl) (by kernel_rfl)
  (fun _ _ h _ hb => h.trans hb) ((Below.refl _ _).drew) (Nat.le_refl _) (fun u => by simp only [List.filterMap_cons, List.filterMap_nil, id, puts, List.foldl_cons, List.foldl_nil]; go_simp; exact rfl) ?_ ?_
 ·simp only [List.take_succ_cons, List.take_zero]
  refine .cons (fun u w L hL hS hBw hd => ?_) ?_
  ·exact GB.run 12 rfl (nv yy) rfl (run_nload rfl rfl (O4.keep o5 hS)) rfl rfl
  refine .cons (fun u w L hL hS hBw hd => ?_) ?_
  ·exact GB.run 13 rfl (nv 1) rfl (run_nload rfl rfl (O4.keep o4 hS)) rfl rfl
  refine .cons (fun u w L hL hS hBw hd => ?_) ?_
  ·have d12 : u 12 = nv yy := depB hd 0 rfl
   rw [d12]
   have d13 : u 13 = nv 1 := depB hd 1 rfl
   rw [d13]
   refine GB.call 14 rfl 102 #[nv yy, nv 1] rfl (by go_simp) rfl ((K2.out w).mono ?_)
   rintro e w' ⟨rfl, hb⟩
   exact ⟨_, rfl, rfl, hb⟩
  refine .cons (fun u w L hL hS hBw hd => ?_) ?_
  ·refine GB.call 15 rfl 104 #[] rfl (by go_simp) rfl ((K3.out w).mono ?_)
   rintro e w' ⟨rfl, hb⟩
   exact ⟨_, rfl, rfl, hb⟩
  refine .cons (fun u w L hL hS hBw hd => ?_) ?_
  ·exact GB.run 16 rfl (nv yy) rfl (run_nload rfl rfl (O4.keep o5 hS)) rfl rfl
  refine .cons (fun u w L hL hS hBw hd => ?_) ?_
  ·have d15 : u 15 = nv D := depB hd 3 rfl
   rw [d15]
   have d16 : u 16 = nv yy := depB hd 4 rfl
   rw [d16]
   refine GB.call 17 rfl 101 #[nv D, nv yy] rfl (by go_simp) rfl ((K4.out w).mono ?_)
   rintro e w' ⟨rfl, hb⟩
   exact ⟨_, rfl, rfl, hb⟩
  refine .cons (fun u w L hL hS hBw hd => ?_) ?_
  ·exact GB.run 18 rfl (nv 1) rfl (run_nload rfl rfl (O4.keep o4 hS)) rfl rfl
  refine .cons (fun u w L hL hS hBw hd => ?_) ?_
  ·have d17 : u 17 = nv dy := depB hd 5 rfl
   rw [d17]
   have d18 : u 18 = nv 1 := depB hd 6 rfl
   rw [d18]
   refine GB.call 19 rfl 103 #[nv dy, nv 1] rfl (by go_simp) rfl ((K5.out w).mono ?_)
   rintro e w' ⟨rfl, hb⟩
   exact ⟨_, rfl, rfl, hb⟩
  refine .cons (fun u w L hL hS hBw hd => ?_) ?_
  ·exact GB.alloc 6 rfl rfl #[.int .u64 0, .int .u64 0, .int .u64 0, .int .u64 0] 35 4 (fun _ => .int .u64 0) rfl rfl (by go_simp) hBw (by decide) rfl
  refine .cons (fun u w L hL hS hBw hd => ?_) ?_
  ·exact GB.alloc 7 rfl rfl #[.int .u64 0, .int .u64 0, .int .u64 0, .int .u64 0] 35 4 (fun _ => .int .u64 0) rfl rfl (by go_simp) hBw (by decide) rfl
  refine .cons (fun u w L hL hS hBw hd => ?_) ?_
  ·have d14 : u 14 = nv a1 := depB hd 2 rfl
   obtain ⟨g, fg, e6, o6⟩ : (Fact.box 35 4).ok v8.heap.size [some 12, some 13, some 14, some 15, some 16, some 17, some 18, some 19, some 6, some 7, none, none] 8 u w L := depB hd 8 rfl
   exact GB.store rfl 8 g 35 4 (wv a1) rfl rfl rfl e6 (run_nstore rfl (by exact e6) (by exact d14) o6) (only4 w g a1) (put4o o6 a1)
  refine .cons (fun u w L hL hS hBw hd => ?_) ?_
  ·have d19 : u 19 = nv a2 := depB hd 7 rfl
   obtain ⟨g, fg, e7, o7⟩ : (Fact.box 35 4).ok v8.heap.size [some 12, some 13, some 14, some 15, some 16, some 17, some 18, some 19, some 6, some 7, none, none] 9 u w L := depB hd 9 rfl
   exact GB.store rfl 9 g 35 4 (wv a2) rfl rfl rfl e7 (run_nstore rfl (by exact e7) (by exact d19) o7) (only4 w g a2) (put4o o7 a2)
  exact ObsB.nil
 intro uy4 y4 hS hd
 obtain ⟨g6, eg6, o6⟩ : (Fact.holds 8 35 4 (wv a1)).ok v8.heap.size [some 12, some 13, some 14, some 15, some 16, some 17, some 18, some 19, some 6, some 7, none, none] 10 uy4 y4 (fun _ => true) := hd 10 (by decide)
 replace eg6 : uy4 6 = .pointer (some ⟨g6, 0, none⟩) := eg6
 replace o6 : O4 y4 v8.heap.size g6 a1 := o6
 replace o6 := o6.mono hc.size
 obtain ⟨g7, eg7, o7⟩ : (Fact.holds 9 35 4 (wv a2)).ok v8.heap.size [some 12, some 13, some 14, some 15, some 16, some 17, some 18, some 19, some 6, some 7, none, none] 11 uy4 y4 (fun _ => true) := hd 11 (by decide)
 replace eg7 : uy4 7 = .pointer (some ⟨g7, 0, none⟩) := eg7
 replace o7 : O4 y4 v8.heap.size g7 a2 := o7
 replace o7 := o7.mono hc.size
 replace o1 := O4.keep o1 hS
 replace o2 := O4.keep o2 hS
 replace o4 := O4.keep o4 hS
 replace o5 := O4.keep o5 hS
 replace hc := bnx hc hS
 replace HGR := Lib.hid (HGR.out.next hS)
 rw [eg6, eg7]
 clear hS hd eg6 eg7
 simp only [List.drop_succ_cons, List.drop_zero]
 go_upto_region 3 with fail
 refine wp_region_inv 7 [20, 21, 22, 23, 24, 25, 26] [.val (nv a1), .val (nv a2), .val (nv iv), .val (nv m), .val (.tuple #[nv r, .bool th]), .val (nv r), .val (.bool th)] (fun wz => Below y4.heap.size y4 wz) (by kernel_rfl) (by kernel_rfl) (fun wz wz' hz hb => bnx hz hb) ((Below.refl _ _).drew) (fun u => by simp only [puts, List.foldl_cons, List.foldl_nil]; go_simp; exact rfl) ?_ ?_
 ·simp only [List.take_succ_cons, List.take_zero]
  refine .cons (fun u w hS hd => ?_) ?_
  ·exact Gv.run (nv a1) rfl (run_nload rfl rfl (O4.keep o6 hS)) rfl
  refine .cons (fun u w hS hd => ?_) ?_
  ·exact Gv.run (nv a2) rfl (run_nload rfl rfl (O4.keep o7 hS)) rfl
  refine .cons (fun u w hS hd => ?_) ?_
  ·have d21 : u 21 = nv a2 := dep hd 1 rfl
   rw [d21]
   refine Gv.call 106 #[nv a2] rfl (by go_simp) ((K6.out w).mono ?_)
   rintro e w' ⟨rfl, hb⟩
   exact ⟨_, rfl, rfl, hb⟩
  refine .cons (fun u w hS hd => ?_) ?_
  ·have d20 : u 20 = nv a1 := dep hd 0 rfl
   rw [d20]
   have d22 : u 22 = nv iv := dep hd 2 rfl
   rw [d22]
   refine Gv.call 101 #[nv a1, nv iv] rfl (by go_simp) ((K7.out w).mono ?_)
   rintro e w' ⟨rfl, hb⟩
   exact ⟨_, rfl, rfl, hb⟩
  refine .cons (fun u w hS hd => ?_) ?_
  ·have d23 : u 23 = nv m := dep hd 3 rfl
   rw [d23]
   refine Gv.call 105 #[nv m] rfl (by go_simp) ((K8.out w (HGR.out.next hS)).mono ?_)
   rintro e w' ⟨rfl, hb⟩
   exact ⟨_, rfl, rfl, hb⟩
  refine .cons (fun u w hS hd => ?_) ?_
  ·have d24 : u 24 = .tuple #[nv r, .bool th] := dep hd 4 rfl
   rw [d24]
   exact Gv.run (nv r) rfl (by go_simp) rfl
  refine .cons (fun u w hS hd => ?_) ?_
  ·have d24 : u 24 = .tuple #[nv r, .bool th] := dep hd 4 rfl
   rw [d24]
   exact Gv.run (.bool th) rfl (by go_simp) rfl
  exact Obs.nil
 intro uy5 y5 hS hd
 have d25 : uy5 25 = nv r := hd 5 (by decide)
 have d26 : uy5 26 = .bool th := hd 6 (by decide)
 rw [d25, d26]
 replace o1 := O4.keep o1 hS
 replace o2 := O4.keep o2 hS
 replace o4 := O4.keep o4 hS
 replace o5 := O4.keep o5 hS
 replace o6 := O4.keep o6 hS
 replace o7 := O4.keep o7 hS
 replace hc := bnx hc hS
 replace HGR := Lib.hid (HGR.out.next hS)
 clear hS hd d25 d26
 simp only [List.drop_succ_cons, List.drop_zero]
 have hfb := Lib.hid (hc.trans (o2.below r))
 have HR := Lib.hid (o2.put r)
 go_wp2_with ((with_reducible refine n_store o2 r ?_ ?_ ?_); rfl; rfl)
 exact bodyPost_ret (nres2 Tryz.results68 _ HR.out rfl rfl) rfl ⟨rfl, hfb.out⟩
set_option maxHeartbeats 6400000 in
theorem cEncode_b0 {x y z : Nat} {L : List UInt8} (hor : bits .or .u64 (wd y 3 : Int) 0 = (wd z 3 : Int)) (hz : ∀ k, k < 3 → wd z k = wd y k)
  (k1 : ∀ w, Calls Tryz.prog 70 #[prv x y] w fun e w' => e = .returned (.bool true) ∧ Below w.heap.size w w')
  (k2 : ∀ w, Calls Tryz.prog 66 #[nv x, .int .i64 0] w fun e w' => e = .returned (.int .u64 0) ∧ Below w.heap.size w w')
  (kb : ∀ w, Calls Tryz.prog 56 #[nv z] w fun e w' => ∃ A c, e = .returned (.slice A 32 c) ∧ Own w' w.heap.size 5 A c L ∧ Below w.heap.size w w')
  (w : World) : Calls Tryz.prog 52 #[prv x y] w fun e w' => ∃ A c, e = .returned (.tuple #[.slice A 32 c, .int .i64 0]) ∧ Own w' w.heap.size 5 A c L ∧ Below w.heap.size w w' := by
 have HOR := Lib.hid hor
 have HZ := Lib.hid hz
 have KB := Lib.hid kb
 clear hor hz kb
 have K1 := Lib.hid k1
 have K2 := Lib.hid k2
 clear k1 k2
 obtain ⟨v1, ev1⟩ : ∃ v, v = w.alloc (A8p x y) := ⟨_, rfl⟩
 have bv1 := bnw ev1
 have sv1 := bsz ev1
 obtain ⟨g1, eg1⟩ : ∃ g, g = w.heap.size := ⟨_, rfl⟩
 have o1 : O8 v1 w.heap.size g1 x y := by rw [eg1, ev1]; exact O8.new (Nat.le_refl _) x y
 have hc := bv1
 have hs1 := hc.size
 go_enter Tryz.func52, Tryz.ntmps52
 go_upto_region 1 with fail
 rw [← ev1]
 rw [show Value.pointer (some ⟨w.heap.size, 0, none⟩) = .pointer (some ⟨g1, 0, none⟩) by rw [eg1]]
 clear ev1 bv1 sv1 eg1 hs1
 go_wp2_with (first | ((with_reducible refine p_load o1 ?_ ?_); rfl))
 go_at_call 70
 refine (K1.out _).mono ?_
 rintro e y2 ⟨rfl, h0⟩
 replace o1 := O8.keep o1 h0
 replace hc := bnx hc h0
 clear h0
 have oq1 := o1
 have on0 := O4.newz (w := y2) (Nat.le_refl _)
 have o4 := (on0.put y).mono hc.size
 have hbz := ((Below.refl _ y2).alloc (Nat.le_refl _) Z4).trans (on0.below y)
 replace o1 := O8.keep o1 hbz
 replace hc := bnx hc hbz
 clear hbz
 go_upto_region 4 with (first | ((with_reducible refine z_load oq1 ?_ ?_); rfl) | ((with_reducible refine n_store on0 y ?_ ?_ ?_); rfl; rfl))
 obtain ⟨y3, ev⟩ : ∃ v, v = set4w (y2.alloc Z4) y2.heap.size y := ⟨_, rfl⟩
 obtain ⟨g4, eg⟩ : ∃ g, g = y2.heap.size := ⟨_, rfl⟩
 rw [← ev] at o1 o4 hc ⊢
 rw [← eg] at o4 ⊢
 clear ev eg on0
 clear oq1
 refine wp_region_inv 8 [10, 11, 12, 13, 14, 15, 16, 17] [.val (.pointer (some ⟨g4, 3, none⟩)), .val (.int .u64 (wd y 3 : Int)), .val (.pointer (some ⟨g1, 0, none⟩)), .val (nv x), .val (.int .u64 0), .val (.int .u64 0), .val (.int .u64 (wd z 3 : Int)), .val (.pointer (some ⟨g4, 3, none⟩))] (fun wz => Below y3.heap.size y3 wz) (by kernel_rfl) (by kernel_rfl) (fun wz wz' hz hb => bnx hz hb) ((Below.refl _ _).drew) (fun u => by simp only [puts, List.foldl_cons, List.foldl_nil]; go_simp; exact rfl) ?_ ?_
 ·simp only [List.take_succ_cons, List.take_zero]
  refine .cons (fun u w hS hd => ?_) ?_
  ·exact Gv.run (.pointer (some ⟨g4, 3, none⟩)) rfl (by go_simp) rfl
  refine .cons (fun u w hS hd => ?_) ?_
  ·have d10 : u 10 = .pointer (some ⟨g4, 3, none⟩) := dep hd 0 rfl
   rw [d10]
   obtain ⟨c0, c1, c2, c3⟩ := (O4.keep o4 hS).c4
   exact Gv.run (.int .u64 (wd y 3 : Int)) rfl (by go_simp) rfl
  refine .cons (fun u w hS hd => ?_) ?_
  ·exact Gv.run (.pointer (some ⟨g1, 0, none⟩)) rfl (run_pfield 0 (by decide) rfl rfl) rfl
  refine .cons (fun u w hS hd => ?_) ?_
  ·have d12 : u 12 = .pointer (some ⟨g1, 0, none⟩) := dep hd 2 rfl
   rw [d12]
   exact Gv.run (nv x) rfl (run_xload rfl rfl (O8.keep o1 hS)) rfl
  refine .cons (fun u w hS hd => ?_) ?_
  ·have d13 : u 13 = nv x := dep hd 3 rfl
   rw [d13]
   refine Gv.call 66 #[nv x, .int .i64 0] rfl (by go_simp) ((K2.out w).mono ?_)
   rintro e w' ⟨rfl, hb⟩
   exact ⟨_, rfl, rfl, hb⟩
  refine .cons (fun u w hS hd => ?_) ?_
  ·have d14 : u 14 = .int .u64 0 := dep hd 4 rfl
   rw [d14]
   have hw : IntKind.u64.wrap 0 = 0 := by decide
   exact Gv.run (.int .u64 0) rfl (by go_simp) rfl
  refine .cons (fun u w hS hd => ?_) ?_
  ·have d11 : u 11 = .int .u64 (wd y 3 : Int) := dep hd 1 rfl
   rw [d11]
   have d15 : u 15 = .int .u64 0 := dep hd 5 rfl
   rw [d15]
   have hor := HOR.out
   exact Gv.run (.int .u64 (wd z 3 : Int)) rfl (by go_simp) rfl
  refine .cons (fun u w hS hd => ?_) ?_
  ·exact Gv.run (.pointer (some ⟨g4, 3, none⟩)) rfl (by go_simp) rfl
  exact Obs.nil
 intro uy4 y4 hS hd
 have d16 : uy4 16 = .int .u64 (wd z 3 : Int) := hd 6 (by decide)
 have d17 : uy4 17 = .pointer (some ⟨g4, 3, none⟩) := hd 7 (by decide)
 rw [d16, d17]
 replace o1 := O8.keep o1 hS
 replace o4 := O4.keep o4 hS
 replace hc := bnx hc hS
 clear hS hd d16 d17
 simp only [List.drop_succ_cons, List.drop_zero]
 obtain ⟨c0, c1, c2, c3⟩ := o4.c4
 obtain ⟨f0, f1, f2, f3⟩ := o4.f4
 go_upto_region 5 with fail
 clear c0 c1 c2 c3 f0 f1 f2 f3
 have hb4 : Below w.heap.size y4 (y4.setCell ⟨g4, 3, none⟩ (.int .u64 (wd z 3 : Int))) := (Below.refl _ _).setCell (p := ⟨g4, 3, none⟩) o4.ge _
 replace hc := hc.trans hb4
 replace o4 := o4.set3 HZ.out
 clear o1 hb4
 go_wp2_with ((with_reducible refine n_load o4 ?_ ?_); rfl)
 go_at_call 56
 refine (KB.out _).mono ?_
 rintro e v8 ⟨A, c, rfl, R, h0⟩
 replace R := R.mono hc.size
 replace hc := bnx hc h0
 go_wp2_with fail
 go_returns
 exact ⟨_, _, rfl, R, hc⟩
set_option maxHeartbeats 6400000 in
theorem cEncode_b1 {x y z : Nat} {L : List UInt8} (hor : bits .or .u64 (wd y 3 : Int) 9223372036854775808 = (wd z 3 : Int)) (hz : ∀ k, k < 3 → wd z k = wd y k)
  (k1 : ∀ w, Calls Tryz.prog 70 #[prv x y] w fun e w' => e = .returned (.bool true) ∧ Below w.heap.size w w')
  (k2 : ∀ w, Calls Tryz.prog 66 #[nv x, .int .i64 0] w fun e w' => e = .returned (.int .u64 1) ∧ Below w.heap.size w w')
  (kb : ∀ w, Calls Tryz.prog 56 #[nv z] w fun e w' => ∃ A c, e = .returned (.slice A 32 c) ∧ Own w' w.heap.size 5 A c L ∧ Below w.heap.size w w')
  (w : World) : Calls Tryz.prog 52 #[prv x y] w fun e w' => ∃ A c, e = .returned (.tuple #[.slice A 32 c, .int .i64 0]) ∧ Own w' w.heap.size 5 A c L ∧ Below w.heap.size w w' := by
 have HOR := Lib.hid hor
 have HZ := Lib.hid hz
 have KB := Lib.hid kb
 clear hor hz kb
 have K1 := Lib.hid k1
 have K2 := Lib.hid k2
 clear k1 k2
 obtain ⟨v1, ev1⟩ : ∃ v, v = w.alloc (A8p x y) := ⟨_, rfl⟩
 have bv1 := bnw ev1
 have sv1 := bsz ev1
 obtain ⟨g1, eg1⟩ : ∃ g, g = w.heap.size := ⟨_, rfl⟩
 have o1 : O8 v1 w.heap.size g1 x y := by rw [eg1, ev1]; exact O8.new (Nat.le_refl _) x y
 have hc := bv1
 have hs1 := hc.size
 go_enter Tryz.func52, Tryz.ntmps52
 go_upto_region 1 with fail
 rw [← ev1]
 rw [show Value.pointer (some ⟨w.heap.size, 0, none⟩) = .pointer (some ⟨g1, 0, none⟩) by rw [eg1]]
 clear ev1 bv1 sv1 eg1 hs1
 go_wp2_with (first | ((with_reducible refine p_load o1 ?_ ?_); rfl))
 go_at_call 70
 refine (K1.out _).mono ?_
 rintro e y2 ⟨rfl, h0⟩
 replace o1 := O8.keep o1 h0
 replace hc := bnx hc h0
 clear h0
 have oq1 := o1
 have on0 := O4.newz (w := y2) (Nat.le_refl _)
 have o4 := (on0.put y).mono hc.size
 have hbz := ((Below.refl _ y2).alloc (Nat.le_refl _) Z4).trans (on0.below y)
 replace o1 := O8.keep o1 hbz
 replace hc := bnx hc hbz
 clear hbz
 go_upto_region 4 with (first | ((with_reducible refine z_load oq1 ?_ ?_); rfl) | ((with_reducible refine n_store on0 y ?_ ?_ ?_); rfl; rfl))
 obtain ⟨y3, ev⟩ : ∃ v, v = set4w (y2.alloc Z4) y2.heap.size y := ⟨_, rfl⟩
 obtain ⟨g4, eg⟩ : ∃ g, g = y2.heap.size := ⟨_, rfl⟩
 rw [← ev] at o1 o4 hc ⊢
 rw [← eg] at o4 ⊢
 clear ev eg on0
 clear oq1
 refine wp_region_inv 8 [10, 11, 12, 13, 14, 15, 16, 17] [.val (.pointer (some ⟨g4, 3, none⟩)), .val (.int .u64 (wd y 3 : Int)), .val (.pointer (some ⟨g1, 0, none⟩)), .val (nv x), .val (.int .u64 1), .val (.int .u64 9223372036854775808), .val (.int .u64 (wd z 3 : Int)), .val (.pointer (some ⟨g4, 3, none⟩))] (fun wz => Below y3.heap.size y3 wz) (by kernel_rfl) (by kernel_rfl) (fun wz wz' hz hb => bnx hz hb) ((Below.refl _ _).drew) (fun u => by simp only [puts, List.foldl_cons, List.foldl_nil]; go_simp; exact rfl) ?_ ?_
 ·simp only [List.take_succ_cons, List.take_zero]
  refine .cons (fun u w hS hd => ?_) ?_
  ·exact Gv.run (.pointer (some ⟨g4, 3, none⟩)) rfl (by go_simp) rfl
  refine .cons (fun u w hS hd => ?_) ?_
  ·have d10 : u 10 = .pointer (some ⟨g4, 3, none⟩) := dep hd 0 rfl
   rw [d10]
   obtain ⟨c0, c1, c2, c3⟩ := (O4.keep o4 hS).c4
   exact Gv.run (.int .u64 (wd y 3 : Int)) rfl (by go_simp) rfl
  refine .cons (fun u w hS hd => ?_) ?_
  ·exact Gv.run (.pointer (some ⟨g1, 0, none⟩)) rfl (run_pfield 0 (by decide) rfl rfl) rfl
  refine .cons (fun u w hS hd => ?_) ?_
  ·have d12 : u 12 = .pointer (some ⟨g1, 0, none⟩) := dep hd 2 rfl
   rw [d12]
   exact Gv.run (nv x) rfl (run_xload rfl rfl (O8.keep o1 hS)) rfl
  refine .cons (fun u w hS hd => ?_) ?_
  ·have d13 : u 13 = nv x := dep hd 3 rfl
   rw [d13]
   refine Gv.call 66 #[nv x, .int .i64 0] rfl (by go_simp) ((K2.out w).mono ?_)
   rintro e w' ⟨rfl, hb⟩
   exact ⟨_, rfl, rfl, hb⟩
  refine .cons (fun u w hS hd => ?_) ?_
  ·have d14 : u 14 = .int .u64 1 := dep hd 4 rfl
   rw [d14]
   have hw : IntKind.u64.wrap 9223372036854775808 = 9223372036854775808 := by decide
   exact Gv.run (.int .u64 9223372036854775808) rfl (by go_simp) rfl
  refine .cons (fun u w hS hd => ?_) ?_
  ·have d11 : u 11 = .int .u64 (wd y 3 : Int) := dep hd 1 rfl
   rw [d11]
   have d15 : u 15 = .int .u64 9223372036854775808 := dep hd 5 rfl
   rw [d15]
   have hor := HOR.out
   exact Gv.run (.int .u64 (wd z 3 : Int)) rfl (by go_simp) rfl
  refine .cons (fun u w hS hd => ?_) ?_
  ·exact Gv.run (.pointer (some ⟨g4, 3, none⟩)) rfl (by go_simp) rfl
  exact Obs.nil
 intro uy4 y4 hS hd
 have d16 : uy4 16 = .int .u64 (wd z 3 : Int) := hd 6 (by decide)
 have d17 : uy4 17 = .pointer (some ⟨g4, 3, none⟩) := hd 7 (by decide)
 rw [d16, d17]
 replace o1 := O8.keep o1 hS
 replace o4 := O4.keep o4 hS
 replace hc := bnx hc hS
 clear hS hd d16 d17
 simp only [List.drop_succ_cons, List.drop_zero]
 obtain ⟨c0, c1, c2, c3⟩ := o4.c4
 obtain ⟨f0, f1, f2, f3⟩ := o4.f4
 go_upto_region 5 with fail
 clear c0 c1 c2 c3 f0 f1 f2 f3
 have hb4 : Below w.heap.size y4 (y4.setCell ⟨g4, 3, none⟩ (.int .u64 (wd z 3 : Int))) := (Below.refl _ _).setCell (p := ⟨g4, 3, none⟩) o4.ge _
 replace hc := hc.trans hb4
 replace o4 := o4.set3 HZ.out
 clear o1 hb4
 go_wp2_with ((with_reducible refine n_load o4 ?_ ?_); rfl)
 go_at_call 56
 refine (KB.out _).mono ?_
 rintro e v8 ⟨A, c, rfl, R, h0⟩
 replace R := R.mono hc.size
 replace hc := bnx hc h0
 go_wp2_with fail
 go_returns
 exact ⟨_, _, rfl, R, hc⟩
end
end Go.Proofs.YtkbkalhcdbklkaaGreatDoor
