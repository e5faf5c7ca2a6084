/-
  The code's pick, put (layer 8), over letters. Written by tools/gen_u4.py. By an AI agent. (and more)
-/
import Derived.Test.YtkbkalhcdbklkaaGreatDoorU3
import Derived.Test.YtkbkalhcdbklkaaGreatDoorJ16
namespace Go.Proofs.YtkbkalhcdbklkaaGreatDoor
section
open Go Go.RowKit
def Oth (B g : Nat) (w w' : World) : Prop := (∀ B' h e n c f, h ≠ g → OwnF w B' e (some ⟨h, 0, none⟩) c n f → OwnF w' B' e (some ⟨h, 0, none⟩) c n f) ∧ Below B w w' ∧ w.heap.size ≤ w'.heap.size
theorem Oth.refl (B g : Nat) (w : World) : Oth B g w w := ⟨fun _ _ _ _ _ _ _ h => h, Below.refl _ _, Nat.le_refl _⟩
theorem Oth.of_below {B g : Nat} {w w' : World} (hB : B ≤ w.heap.size) (h : Below w.heap.size w w') : Oth B g w w' := ⟨fun _ _ _ _ _ _ _ o => OwnF.keep o h, h.mono hB, h.size⟩
theorem Oth.only {B g : Nat} {w w' w'' : World} (h : Oth B g w w') (hg : B ≤ g) (ho : Only g w' w'') : Oth B g w w'' := ⟨fun _ _ _ _ _ _ hk o => OwnF.only (h.1 _ _ _ _ _ _ hk o) ho (Ne.symm hk), h.2.1.trans (ho.below hg), by rw [ho.size]; exact h.2.2⟩
theorem Oth.trans {B g : Nat} {w w' w'' : World} (h : Oth B g w w') (k : Oth B g w' w'') : Oth B g w w'' := ⟨fun _ _ _ _ _ _ hk o => k.1 _ _ _ _ _ _ hk (h.1 _ _ _ _ _ _ hk o), h.2.1.trans k.2.1, Nat.le_trans h.2.2 k.2.2⟩
section
attribute [local irreducible] wd by8 fl rl setA sf taf set8p set4w ed2
set_option maxRecDepth 20000
set_option maxHeartbeats 6400000 in
theorem pick_gen {i : Nat} {p q r : Sp}
  (kx : ∀ w, Calls Tryz.prog 132 #[.int .u64 (i : Int), nv p.x, nv q.x] w fun e w' => e = .returned (nv r.x) ∧ Below w.heap.size w w')
  (ky : ∀ w, Calls Tryz.prog 132 #[.int .u64 (i : Int), nv p.y, nv q.y] w fun e w' => e = .returned (nv r.y) ∧ Below w.heap.size w w')
  (kz : ∀ w, Calls Tryz.prog 132 #[.int .u64 (i : Int), nv p.z, nv q.z] w fun e w' => e = .returned (nv r.z) ∧ Below w.heap.size w w')
  (kt : ∀ w, Calls Tryz.prog 132 #[.int .u64 (i : Int), nv p.t, nv q.t] w fun e w' => e = .returned (nv r.t) ∧ Below w.heap.size w w')
  (w : World) : Calls Tryz.prog 107 #[.int .u64 (i : Int), sv p, sv q] w fun e w' => e = .returned (sv r) ∧ Below w.heap.size w w' := by
 have Kx := Lib.hid kx
 have Ky := Lib.hid ky
 have Kz := Lib.hid kz
 have Kt := Lib.hid kt
 clear kx ky kz kt
 obtain ⟨v1, ev1⟩ : ∃ v, v = w.alloc (AS p) := ⟨_, rfl⟩
 have bv1 := bnw ev1
 have sv1 := bsz ev1
 obtain ⟨g4, eg4⟩ : ∃ g, g = w.heap.size := ⟨_, rfl⟩
 have o4 : OS v1 w.heap.size g4 p := by rw [eg4, ev1]; exact OS.new (Nat.le_refl _) p
 have hc := bv1
 have hs1 := hc.size
 obtain ⟨v2, ev2⟩ : ∃ v, v = v1.alloc (AS q) := ⟨_, rfl⟩
 have bv2 := bnw ev2
 have sv2 := bsz ev2
 obtain ⟨g5, eg5⟩ : ∃ g, g = v1.heap.size := ⟨_, rfl⟩
 have o5 : OS v2 v1.heap.size g5 q := by rw [eg5, ev2]; exact OS.new (Nat.le_refl _) q
 replace o4 := o4.keep bv2
 replace hc := bnx hc bv2
 replace o5 := o5.mono hs1
 have hs2 := hc.size
 obtain ⟨v3, ev3⟩ : ∃ v, v = v2.alloc (ZS) := ⟨_, rfl⟩
 have bv3 := bnw ev3
 have sv3 := bsz ev3
 obtain ⟨g6, eg6⟩ : ∃ g, g = v2.heap.size := ⟨_, rfl⟩
 have o6 : OwnF v3 v2.heap.size 98 (some ⟨g6, 0, none⟩) 16 16 (fun _ => .int .u64 0) := by rw [eg6, ev3]; exact zS_new (Nat.le_refl _)
 replace o4 := o4.keep bv3
 replace o5 := o5.keep bv3
 replace hc := bnx hc bv3
 replace o6 := o6.mono hs2
 have hs3 := hc.size
 go_enter Tryz.func107, Tryz.ntmps107
 go_upto_region 1 with fail
 rw [← ev1, ← ev2, ← ev3]
 rw [show Value.pointer (some ⟨w.heap.size, 0, none⟩) = .pointer (some ⟨g4, 0, none⟩) by rw [eg4]]
 rw [show Value.pointer (some ⟨w.heap.size + 1, 0, none⟩) = .pointer (some ⟨g5, 0, none⟩) by rw [eg5, sv1]]
 rw [show Value.pointer (some ⟨w.heap.size + 2, 0, none⟩) = .pointer (some ⟨g6, 0, none⟩) by rw [eg6, sv2, sv1]]
 clear ev1 bv1 sv1 ev2 bv2 sv2 ev3 bv3 sv3 eg4 eg5 eg6 hs1 hs2 hs3
 refine wp_region_inv 25 [7, 8, 9, 10, 11, 12, 13, 14, 15, 16, 17, 18, 19, 20, 21, 22, 23, 24, 25, 26, 27, 28, 29, 30, 31] [.val (.int .u64 (i : Int)), .val (.pointer (some ⟨g4, 0, none⟩)), .val (nv p.x), .val (.pointer (some ⟨g5, 0, none⟩)), .val (nv q.x), .val (nv r.x), .val (.int .u64 (i : Int)), .val (.pointer (some ⟨g4, 4, none⟩)), .val (nv p.y), .val (.pointer (some ⟨g5, 4, none⟩)), .val (nv q.y), .val (nv r.y), .val (.int .u64 (i : Int)), .val (.pointer (some ⟨g4, 8, none⟩)), .val (nv p.z), .val (.pointer (some ⟨g5, 8, none⟩)), .val (nv q.z), .val (nv r.z), .val (.int .u64 (i : Int)), .val (.pointer (some ⟨g4, 12, none⟩)), .val (nv p.t), .val (.pointer (some ⟨g5, 12, none⟩)), .val (nv q.t), .val (nv r.t), .val (sv ⟨r.x, r.y, r.z, r.t⟩)] (fun wz => Below v3.heap.size v3 wz) (by kernel_rfl) (by kernel_rfl) (fun wz wz' hz hb => bnx hz hb) ((Below.refl _ _).drew) (fun u => by simp only [puts, List.foldl_cons, List.foldl_nil]; go_simp; exact rfl) ?_ ?_
 ·simp only [List.take_succ_cons, List.take_zero]
  refine .cons (fun u w hS hd => ?_) ?_
  ·exact Gv.run (.int .u64 (i : Int)) rfl (by go_simp) rfl
  refine .cons (fun u w hS hd => ?_) ?_
  ·exact Gv.run (.pointer (some ⟨g4, 0, none⟩)) rfl (run_Sfield 0 (by decide) rfl rfl) rfl
  refine .cons (fun u w hS hd => ?_) ?_
  ·have d8 : u 8 = .pointer (some ⟨g4, 0, none⟩) := dep hd 1 rfl
   rw [d8]
   exact Gv.run (nv p.x) rfl (run_Sx rfl rfl (OS.keep o4 hS)) rfl
  refine .cons (fun u w hS hd => ?_) ?_
  ·exact Gv.run (.pointer (some ⟨g5, 0, none⟩)) rfl (run_Sfield 0 (by decide) rfl rfl) rfl
  refine .cons (fun u w hS hd => ?_) ?_
  ·have d10 : u 10 = .pointer (some ⟨g5, 0, none⟩) := dep hd 3 rfl
   rw [d10]
   exact Gv.run (nv q.x) rfl (run_Sx rfl rfl (OS.keep o5 hS)) rfl
  refine .cons (fun u w hS hd => ?_) ?_
  ·have d7 : u 7 = .int .u64 (i : Int) := dep hd 0 rfl
   rw [d7]
   have d9 : u 9 = nv p.x := dep hd 2 rfl
   rw [d9]
   have d11 : u 11 = nv q.x := dep hd 4 rfl
   rw [d11]
   refine Gv.call 132 #[.int .u64 (i : Int), nv p.x, nv q.x] rfl (by go_simp) ((Kx.out w).mono ?_)
   rintro e w' ⟨rfl, hb⟩
   exact ⟨_, rfl, rfl, hb⟩
  refine .cons (fun u w hS hd => ?_) ?_
  ·exact Gv.run (.int .u64 (i : Int)) rfl (by go_simp) rfl
  refine .cons (fun u w hS hd => ?_) ?_
  ·exact Gv.run (.pointer (some ⟨g4, 4, none⟩)) rfl (run_Sfield 1 (by decide) rfl rfl) rfl
  refine .cons (fun u w hS hd => ?_) ?_
  ·have d14 : u 14 = .pointer (some ⟨g4, 4, none⟩) := dep hd 7 rfl
   rw [d14]
   exact Gv.run (nv p.y) rfl (run_Sy rfl rfl (OS.keep o4 hS)) rfl
  refine .cons (fun u w hS hd => ?_) ?_
  ·exact Gv.run (.pointer (some ⟨g5, 4, none⟩)) rfl (run_Sfield 1 (by decide) rfl rfl) rfl
  refine .cons (fun u w hS hd => ?_) ?_
  ·have d16 : u 16 = .pointer (some ⟨g5, 4, none⟩) := dep hd 9 rfl
   rw [d16]
   exact Gv.run (nv q.y) rfl (run_Sy rfl rfl (OS.keep o5 hS)) rfl
  refine .cons (fun u w hS hd => ?_) ?_
  ·have d13 : u 13 = .int .u64 (i : Int) := dep hd 6 rfl
   rw [d13]
   have d15 : u 15 = nv p.y := dep hd 8 rfl
   rw [d15]
   have d17 : u 17 = nv q.y := dep hd 10 rfl
   rw [d17]
   refine Gv.call 132 #[.int .u64 (i : Int), nv p.y, nv q.y] rfl (by go_simp) ((Ky.out w).mono ?_)
   rintro e w' ⟨rfl, hb⟩
   exact ⟨_, rfl, rfl, hb⟩
  refine .cons (fun u w hS hd => ?_) ?_
  ·exact Gv.run (.int .u64 (i : Int)) rfl (by go_simp) rfl
  refine .cons (fun u w hS hd => ?_) ?_
  ·exact Gv.run (.pointer (some ⟨g4, 8, none⟩)) rfl (run_Sfield 2 (by decide) rfl rfl) rfl
  refine .cons (fun u w hS hd => ?_) ?_
  ·have d20 : u 20 = .pointer (some ⟨g4, 8, none⟩) := dep hd 13 rfl
   rw [d20]
   exact Gv.run (nv p.z) rfl (run_Sz rfl rfl (OS.keep o4 hS)) rfl
  refine .cons (fun u w hS hd => ?_) ?_
  ·exact Gv.run (.pointer (some ⟨g5, 8, none⟩)) rfl (run_Sfield 2 (by decide) rfl rfl) rfl
  refine .cons (fun u w hS hd => ?_) ?_
  ·have d22 : u 22 = .pointer (some ⟨g5, 8, none⟩) := dep hd 15 rfl
   rw [d22]
   exact Gv.run (nv q.z) rfl (run_Sz rfl rfl (OS.keep o5 hS)) rfl
  refine .cons (fun u w hS hd => ?_) ?_
  ·have d19 : u 19 = .int .u64 (i : Int) := dep hd 12 rfl
   rw [d19]
   have d21 : u 21 = nv p.z := dep hd 14 rfl
   rw [d21]
   have d23 : u 23 = nv q.z := dep hd 16 rfl
   rw [d23]
   refine Gv.call 132 #[.int .u64 (i : Int), nv p.z, nv q.z] rfl (by go_simp) ((Kz.out w).mono ?_)
   rintro e w' ⟨rfl, hb⟩
   exact ⟨_, rfl, rfl, hb⟩
  refine .cons (fun u w hS hd => ?_) ?_
  ·exact Gv.run (.int .u64 (i : Int)) rfl (by go_simp) rfl
  refine .cons (fun u w hS hd => ?_) ?_
  ·exact Gv.run (.pointer (some ⟨g4, 12, none⟩)) rfl (run_Sfield 3 (by decide) rfl rfl) rfl
  refine .cons (fun u w hS hd => ?_) ?_
  ·have d26 : u 26 = .pointer (some ⟨g4, 12, none⟩) := dep hd 19 rfl
   rw [d26]
   exact Gv.run (nv p.t) rfl (run_St rfl rfl (OS.keep o4 hS)) rfl
  refine .cons (fun u w hS hd => ?_) ?_
  ·exact Gv.run (.pointer (some ⟨g5, 12, none⟩)) rfl (run_Sfield 3 (by decide) rfl rfl) rfl
  refine .cons (fun u w hS hd => ?_) ?_
  ·have d28 : u 28 = .pointer (some ⟨g5, 12, none⟩) := dep hd 21 rfl
   rw [d28]
   exact Gv.run (nv q.t) rfl (run_St rfl rfl (OS.keep o5 hS)) rfl
  refine .cons (fun u w hS hd => ?_) ?_
  ·have d25 : u 25 = .int .u64 (i : Int) := dep hd 18 rfl
   rw [d25]
   have d27 : u 27 = nv p.t := dep hd 20 rfl
   rw [d27]
   have d29 : u 29 = nv q.t := dep hd 22 rfl
   rw [d29]
   refine Gv.call 132 #[.int .u64 (i : Int), nv p.t, nv q.t] rfl (by go_simp) ((Kt.out w).mono ?_)
   rintro e w' ⟨rfl, hb⟩
   exact ⟨_, rfl, rfl, hb⟩
  refine .cons (fun u w hS hd => ?_) ?_
  ·have d12 : u 12 = nv r.x := dep hd 5 rfl
   rw [d12]
   have d18 : u 18 = nv r.y := dep hd 11 rfl
   rw [d18]
   have d24 : u 24 = nv r.z := dep hd 17 rfl
   rw [d24]
   have d30 : u 30 = nv r.t := dep hd 23 rfl
   rw [d30]
   exact Gv.run (sv ⟨r.x, r.y, r.z, r.t⟩) rfl (run_Sbuild rfl rfl rfl rfl rfl) rfl
  exact Obs.nil
 intro uy4 y4 hS hd
 have d31 : uy4 31 = sv ⟨r.x, r.y, r.z, r.t⟩ := hd 24 (by decide)
 rw [d31]
 replace o4 := OS.keep o4 hS
 replace o5 := OS.keep o5 hS
 replace o6 := OwnF.keep o6 hS
 replace hc := bnx hc hS
 clear hS hd d31
 simp only [List.drop_succ_cons, List.drop_zero]
 have hfb := Lib.hid (hc.trans (s_below o6 (r)))
 have HR := Lib.hid (s_put o6 (r))
 go_wp2_with ((with_reducible refine s_store o6 (r) ?_ ?_ ?_); rfl; rfl)
 exact bodyPost_ret (s_res Tryz.results107 _ HR.out rfl) rfl ⟨rfl, hfb.out⟩
set_option maxHeartbeats 6400000 in
theorem put_gen {B g i j : Nat} {t : Ta} {a1 a2 a3 a4 a5 : Sp}
  (k1 : ∀ w, Calls Tryz.prog 107 #[.int .u64 (i : Int), sv t.n, sv t.f] w fun e w' => e = .returned (sv a1) ∧ Below w.heap.size w w')
  (k2 : ∀ w, Calls Tryz.prog 107 #[.int .u64 (i : Int), sv t.h, sv t.b] w fun e w' => e = .returned (sv a2) ∧ Below w.heap.size w w')
  (k3 : ∀ w, Calls Tryz.prog 107 #[.int .u64 (j : Int), sv a1, sv a2] w fun e w' => e = .returned (sv a3) ∧ Below w.heap.size w w')
  (k4 : ∀ w, G8 w → Calls Tryz.prog 72 #[sv t.s, sv t.s] w fun e w' => e = .returned (sv a4) ∧ Below w.heap.size w w')
  (k5 : ∀ w, G8 w → Calls Tryz.prog 72 #[sv a4, sv a3] w fun e w' => e = .returned (sv a5) ∧ Below w.heap.size w w')
  (v0 : World) (hG : G8 v0) (hT : OTa v0 B g t) : Calls Tryz.prog 74 #[.pointer (some ⟨g, 0, none⟩), .int .u64 (i : Int), .int .u64 (j : Int)] v0 fun e w' => e = .returned (.tuple #[]) ∧ OTa w' B g ⟨a5, t.n, t.f, t.h, t.b⟩ ∧ Oth B g v0 w' := by
 have K1 := Lib.hid k1
 have K2 := Lib.hid k2
 have K3 := Lib.hid k3
 have K4 := Lib.hid k4
 have K5 := Lib.hid k5
 clear k1 k2 k3 k4 k5
 have HG := Lib.hid hG
 have HL := Lib.hid hT.lt
 have HT := Lib.hid hT
 clear hG hT
 go_enter Tryz.func74, Tryz.ntmps74
 go_upto_region 0 with fail
 have hc : Below v0.heap.size v0 v0 := Below.refl _ _
 refine wp_region_box 24 [some 7, some 8, some 9, some 10, some 11, some 12, some 13, some 14, some 15, some 16, some 17, some 18, some 19, some 20, some 21, some 22, some 23, some 24, some 25, some 26, some 27, some 28, some 6, none] [.val (.int .u64 (j : Int)), .val (.int .u64 (i : Int)), .val (.pointer (some ⟨g, 0, none⟩)), .val (.pointer (some ⟨g, 0, none⟩)), .val (.pointer (some ⟨g, 16, none⟩)), .val (sv t.n), .val (.pointer (some ⟨g, 0, none⟩)), .val (.pointer (some ⟨g, 0, none⟩)), .val (.pointer (some ⟨g, 32, none⟩)), .val (sv t.f), .val (sv a1), .val (.int .u64 (i : Int)), .val (.pointer (some ⟨g, 0, none⟩)), .val (.pointer (some ⟨g, 0, none⟩)), .val (.pointer (some ⟨g, 48, none⟩)), .val (sv t.h), .val (.pointer (some ⟨g, 0, none⟩)), .val (.pointer (some ⟨g, 0, none⟩)), .val (.pointer (some ⟨g, 64, none⟩)), .val (sv t.b), .val (sv a2), .val (sv a3), .box 98 16, .holds 22 98 16 (sf a3)] v0.heap.size (fun wz => Below v0.heap.size v0 wz) (by kernel_rfl) (by kernel_rfl)
  (fun _ _ h _ hb => h.trans hb) ((Below.refl _ _).drew) (Nat.le_refl _) (fun u => by simp only [List.filterMap_cons, List.filterMap_nil, id, puts, List.foldl_cons, List.foldl_nil]; go_simp; exact rfl) ?_ ?_
 ·simp only [List.take_succ_cons, List.take_zero]
  refine .cons (fun u w L hL hS hBw hd => ?_) ?_
  ·exact GB.run 7 rfl (.int .u64 (j : Int)) rfl (by go_simp) rfl rfl
  refine .cons (fun u w L hL hS hBw hd => ?_) ?_
  ·exact GB.run 8 rfl (.int .u64 (i : Int)) rfl (by go_simp) rfl rfl
  refine .cons (fun u w L hL hS hBw hd => ?_) ?_
  ·exact GB.run 9 rfl (.pointer (some ⟨g, 0, none⟩)) rfl (by go_simp) rfl rfl
  refine .cons (fun u w L hL hS hBw hd => ?_) ?_
  ·have d9 : u 9 = .pointer (some ⟨g, 0, none⟩) := depB hd 2 rfl
   rw [d9]
   exact GB.run 10 rfl (.pointer (some ⟨g, 0, none⟩)) rfl (by go_simp) rfl rfl
  refine .cons (fun u w L hL hS hBw hd => ?_) ?_
  ·have d10 : u 10 = .pointer (some ⟨g, 0, none⟩) := depB hd 3 rfl
   rw [d10]
   exact GB.run 11 rfl (.pointer (some ⟨g, 16, none⟩)) rfl (run_Tafield 1 (by decide) rfl rfl) rfl rfl
  refine .cons (fun u w L hL hS hBw hd => ?_) ?_
  ·have d11 : u 11 = .pointer (some ⟨g, 16, none⟩) := depB hd 4 rfl
   rw [d11]
   exact GB.run 12 rfl (sv t.n) rfl (run_Ta 1 (by decide) rfl rfl (HT.out.keep hS)) rfl rfl
  refine .cons (fun u w L hL hS hBw hd => ?_) ?_
  ·exact GB.run 13 rfl (.pointer (some ⟨g, 0, none⟩)) rfl (by go_simp) rfl rfl
  refine .cons (fun u w L hL hS hBw hd => ?_) ?_
  ·have d13 : u 13 = .pointer (some ⟨g, 0, none⟩) := depB hd 6 rfl
   rw [d13]
   exact GB.run 14 rfl (.pointer (some ⟨g, 0, none⟩)) rfl (by go_simp) rfl rfl
  refine .cons (fun u w L hL hS hBw hd => ?_) ?_
  ·have d14 : u 14 = .pointer (some ⟨g, 0, none⟩) := depB hd 7 rfl
   rw [d14]
   exact GB.run 15 rfl (.pointer (some ⟨g, 32, none⟩)) rfl (run_Tafield 2 (by decide) rfl rfl) rfl rfl
  refine .cons (fun u w L hL hS hBw hd => ?_) ?_
  ·have d15 : u 15 = .pointer (some ⟨g, 32, none⟩) := depB hd 8 rfl
   rw [d15]
   exact GB.run 16 rfl (sv t.f) rfl (run_Ta 2 (by decide) rfl rfl (HT.out.keep hS)) rfl rfl
  refine .cons (fun u w L hL hS hBw hd => ?_) ?_
  ·have d8 : u 8 = .int .u64 (i : Int) := depB hd 1 rfl
   rw [d8]
   have d12 : u 12 = sv t.n := depB hd 5 rfl
   rw [d12]
   have d16 : u 16 = sv t.f := depB hd 9 rfl
   rw [d16]
   refine GB.call 17 rfl 107 #[.int .u64 (i : Int), sv t.n, sv t.f] rfl (by go_simp) rfl ((K1.out w).mono ?_)
   rintro e w' ⟨rfl, hb⟩
   exact ⟨_, rfl, rfl, hb⟩
  refine .cons (fun u w L hL hS hBw hd => ?_) ?_
  ·exact GB.run 18 rfl (.int .u64 (i : Int)) rfl (by go_simp) rfl rfl
  refine .cons (fun u w L hL hS hBw hd => ?_) ?_
  ·exact GB.run 19 rfl (.pointer (some ⟨g, 0, none⟩)) rfl (by go_simp) rfl rfl
  refine .cons (fun u w L hL hS hBw hd => ?_) ?_
  ·have d19 : u 19 = .pointer (some ⟨g, 0, none⟩) := depB hd 12 rfl
   rw [d19]
   exact GB.run 20 rfl (.pointer (some ⟨g, 0, none⟩)) rfl (by go_simp) rfl rfl
  refine .cons (fun u w L hL hS hBw hd => ?_) ?_
  ·have d20 : u 20 = .pointer (some ⟨g, 0, none⟩) := depB hd 13 rfl
   rw [d20]
   exact GB.run 21 rfl (.pointer (some ⟨g, 48, none⟩)) rfl (run_Tafield 3 (by decide) rfl rfl) rfl rfl
  refine .cons (fun u w L hL hS hBw hd => ?_) ?_
  ·have d21 : u 21 = .pointer (some ⟨g, 48, none⟩) := depB hd 14 rfl
   rw [d21]
   exact GB.run 22 rfl (sv t.h) rfl (run_Ta 3 (by decide) rfl rfl (HT.out.keep hS)) rfl rfl
  refine .cons (fun u w L hL hS hBw hd => ?_) ?_
  ·exact GB.run 23 rfl (.pointer (some ⟨g, 0, none⟩)) rfl (by go_simp) rfl rfl
  refine .cons (fun u w L hL hS hBw hd => ?_) ?_
  ·have d23 : u 23 = .pointer (some ⟨g, 0, none⟩) := depB hd 16 rfl
   rw [d23]
   exact GB.run 24 rfl (.pointer (some ⟨g, 0, none⟩)) rfl (by go_simp) rfl rfl
  refine .cons (fun u w L hL hS hBw hd => ?_) ?_
  ·have d24 : u 24 = .pointer (some ⟨g, 0, none⟩) := depB hd 17 rfl
   rw [d24]
   exact GB.run 25 rfl (.pointer (some ⟨g, 64, none⟩)) rfl (run_Tafield 4 (by decide) rfl rfl) rfl rfl
  refine .cons (fun u w L hL hS hBw hd => ?_) ?_
  ·have d25 : u 25 = .pointer (some ⟨g, 64, none⟩) := depB hd 18 rfl
   rw [d25]
   exact GB.run 26 rfl (sv t.b) rfl (run_Ta 4 (by decide) rfl rfl (HT.out.keep hS)) rfl rfl
  refine .cons (fun u w L hL hS hBw hd => ?_) ?_
  ·have d18 : u 18 = .int .u64 (i : Int) := depB hd 11 rfl
   rw [d18]
   have d22 : u 22 = sv t.h := depB hd 15 rfl
   rw [d22]
   have d26 : u 26 = sv t.b := depB hd 19 rfl
   rw [d26]
   refine GB.call 27 rfl 107 #[.int .u64 (i : Int), sv t.h, sv t.b] rfl (by go_simp) rfl ((K2.out w).mono ?_)
   rintro e w' ⟨rfl, hb⟩
   exact ⟨_, rfl, rfl, hb⟩
  refine .cons (fun u w L hL hS hBw hd => ?_) ?_
  ·have d7 : u 7 = .int .u64 (j : Int) := depB hd 0 rfl
   rw [d7]
   have d17 : u 17 = sv a1 := depB hd 10 rfl
   rw [d17]
   have d27 : u 27 = sv a2 := depB hd 20 rfl
   rw [d27]
   refine GB.call 28 rfl 107 #[.int .u64 (j : Int), sv a1, sv a2] rfl (by go_simp) rfl ((K3.out w).mono ?_)
   rintro e w' ⟨rfl, hb⟩
   exact ⟨_, rfl, rfl, hb⟩
  refine .cons (fun u w L hL hS hBw hd => ?_) ?_
  ·exact GB.alloc 6 rfl rfl #[.int .u64 0, .int .u64 0, .int .u64 0, .int .u64 0, .int .u64 0, .int .u64 0, .int .u64 0, .int .u64 0, .int .u64 0, .int .u64 0, .int .u64 0, .int .u64 0, .int .u64 0, .int .u64 0, .int .u64 0, .int .u64 0] 98 16 (fun _ => .int .u64 0) rfl rfl (by go_simp) hBw (by decide) rfl
  refine .cons (fun u w L hL hS hBw hd => ?_) ?_
  ·have d28 : u 28 = sv a3 := depB hd 21 rfl
   obtain ⟨g, fg, e6, o6⟩ : (Fact.box 98 16).ok v0.heap.size [some 7, some 8, some 9, some 10, some 11, some 12, some 13, some 14, some 15, some 16, some 17, some 18, some 19, some 20, some 21, some 22, some 23, some 24, some 25, some 26, some 27, some 28, some 6, none] 22 u w L := depB hd 22 rfl
   exact GB.store rfl 22 g 98 16 (sf a3) rfl rfl rfl e6 (run_sstore rfl (by exact e6) (by exact d28) o6) (s_only w g a3) (sput o6 a3)
  exact ObsB.nil
 intro uy1 y1 hS hd
 obtain ⟨g6, eg6, o6⟩ : (Fact.holds 22 98 16 (sf a3)).ok v0.heap.size [some 7, some 8, some 9, some 10, some 11, some 12, some 13, some 14, some 15, some 16, some 17, some 18, some 19, some 20, some 21, some 22, some 23, some 24, some 25, some 26, some 27, some 28, some 6, none] 23 uy1 y1 (fun _ => true) := hd 23 (by decide)
 replace eg6 : uy1 6 = .pointer (some ⟨g6, 0, none⟩) := eg6
 replace o6 : OS y1 v0.heap.size g6 a3 := o6
 replace o6 := o6.mono hc.size
 replace HG := Lib.hid (HG.out.next hS)
 replace hc := bnx hc hS
 rw [eg6]
 replace HT := Lib.hid (HT.out.keep hS)
 clear hS hd eg6
 simp only [List.drop_succ_cons, List.drop_zero]
 go_upto_region 1 with fail
 refine wp_region_inv 12 [29, 30, 31, 32, 33, 34, 35, 36, 37, 38, 39, 40] [.val (.pointer (some ⟨g, 0, none⟩)), .val (.pointer (some ⟨g, 0, none⟩)), .val (.pointer (some ⟨g, 0, none⟩)), .val (.pointer (some ⟨g, 0, none⟩)), .val (sv t.s), .val (.pointer (some ⟨g, 0, none⟩)), .val (.pointer (some ⟨g, 0, none⟩)), .val (.pointer (some ⟨g, 0, none⟩)), .val (sv t.s), .val (sv a4), .val (sv a3), .val (sv a5)] (fun wz => Below y1.heap.size y1 wz) (by kernel_rfl) (by kernel_rfl) (fun wz wz' hz hb => bnx hz hb) ((Below.refl _ _).drew) (fun u => by simp only [puts, List.foldl_cons, List.foldl_nil]; go_simp; exact rfl) ?_ ?_
 ·simp only [List.take_succ_cons, List.take_zero]
  refine .cons (fun u w hS hd => ?_) ?_
  ·exact Gv.run (.pointer (some ⟨g, 0, none⟩)) rfl (by go_simp) rfl
  refine .cons (fun u w hS hd => ?_) ?_
  ·exact Gv.run (.pointer (some ⟨g, 0, none⟩)) rfl (by go_simp) rfl
  refine .cons (fun u w hS hd => ?_) ?_
  ·have d30 : u 30 = .pointer (some ⟨g, 0, none⟩) := dep hd 1 rfl
   rw [d30]
   exact Gv.run (.pointer (some ⟨g, 0, none⟩)) rfl (by go_simp) rfl
  refine .cons (fun u w hS hd => ?_) ?_
  ·have d31 : u 31 = .pointer (some ⟨g, 0, none⟩) := dep hd 2 rfl
   rw [d31]
   exact Gv.run (.pointer (some ⟨g, 0, none⟩)) rfl (run_Tafield 0 (by decide) rfl rfl) rfl
  refine .cons (fun u w hS hd => ?_) ?_
  ·have d32 : u 32 = .pointer (some ⟨g, 0, none⟩) := dep hd 3 rfl
   rw [d32]
   exact Gv.run (sv t.s) rfl (run_Ta 0 (by decide) rfl rfl (HT.out.keep hS)) rfl
  refine .cons (fun u w hS hd => ?_) ?_
  ·exact Gv.run (.pointer (some ⟨g, 0, none⟩)) rfl (by go_simp) rfl
  refine .cons (fun u w hS hd => ?_) ?_
  ·have d34 : u 34 = .pointer (some ⟨g, 0, none⟩) := dep hd 5 rfl
   rw [d34]
   exact Gv.run (.pointer (some ⟨g, 0, none⟩)) rfl (by go_simp) rfl
  refine .cons (fun u w hS hd => ?_) ?_
  ·have d35 : u 35 = .pointer (some ⟨g, 0, none⟩) := dep hd 6 rfl
   rw [d35]
   exact Gv.run (.pointer (some ⟨g, 0, none⟩)) rfl (run_Tafield 0 (by decide) rfl rfl) rfl
  refine .cons (fun u w hS hd => ?_) ?_
  ·have d36 : u 36 = .pointer (some ⟨g, 0, none⟩) := dep hd 7 rfl
   rw [d36]
   exact Gv.run (sv t.s) rfl (run_Ta 0 (by decide) rfl rfl (HT.out.keep hS)) rfl
  refine .cons (fun u w hS hd => ?_) ?_
  ·have d33 : u 33 = sv t.s := dep hd 4 rfl
   rw [d33]
   have d37 : u 37 = sv t.s := dep hd 8 rfl
   rw [d37]
   refine Gv.call 72 #[sv t.s, sv t.s] rfl (by go_simp) ((K4.out w (HG.out.next hS)).mono ?_)
   rintro e w' ⟨rfl, hb⟩
   exact ⟨_, rfl, rfl, hb⟩
  refine .cons (fun u w hS hd => ?_) ?_
  ·exact Gv.run (sv a3) rfl (run_Sload rfl rfl (OS.keep o6 hS)) rfl
  refine .cons (fun u w hS hd => ?_) ?_
  ·have d38 : u 38 = sv a4 := dep hd 9 rfl
   rw [d38]
   have d39 : u 39 = sv a3 := dep hd 10 rfl
   rw [d39]
   refine Gv.call 72 #[sv a4, sv a3] rfl (by go_simp) ((K5.out w (HG.out.next hS)).mono ?_)
   rintro e w' ⟨rfl, hb⟩
   exact ⟨_, rfl, rfl, hb⟩
  exact Obs.nil
 intro uy2 y2 hS hd
 have d29 : uy2 29 = .pointer (some ⟨g, 0, none⟩) := hd 0 (by decide)
 have d40 : uy2 40 = sv a5 := hd 11 (by decide)
 rw [d29, d40]
 replace o6 := OS.keep o6 hS
 replace HG := Lib.hid (HG.out.next hS)
 replace hc := bnx hc hS
 replace HT := Lib.hid (HT.out.keep hS)
 clear hS hd d29 d40
 simp only [List.drop_succ_cons, List.drop_zero]
 have hq := HT.out
 have HF := Lib.hid ((Oth.of_below (B := B) (g := g) (Nat.le_trans hq.ge (Nat.le_of_lt HL.out)) hc).only hq.ge (s_only _ g a5))
 have HR := Lib.hid (hq.put0 a5)
 go_wp2_with ((with_reducible refine ta_store0 hq a5 ?_ ?_ ?_); rfl; rfl)
 go_returns
 exact ⟨rfl, HR.out, HF.out⟩
end
end
section
open Go Go.RowKit
theorem l_ed : lit4 8496970652267935907 31536524315187371 10144147576115030168 5909686906226998899 = nv ed := by kernel_rfl
theorem l_bx : lit4 14507833142362363162 7578651490590762930 13881468655802702940 2407515759118799870 = nv bx := by kernel_rfl
theorem l_by : lit4 7378697629483820632 7378697629483820646 7378697629483820646 7378697629483820646 = nv by_ := by kernel_rfl
theorem T_two {ops : Array Oper} {rest : List Oper} {a : Act} {w : World} {Q : Exit → Act → World → Prop} {dst : Option Nat} {tp : TypeId} {ps : String} {af : Array Edge} {s0 s1 : Operand} (x z : Nat) (h0 : a.eval s0 = nv x) (h1 : a.eval s1 = nv z) (h : wpList Tryz.prog ops Q rest (a.put dst (prv x z)) w) : wpList Tryz.prog ops Q (⟨dst, .build 60 #[(0, s0), (1, s1)], tp, ps, af, none⟩ :: rest) a w :=
 read_to (prv x z) rfl (run_Tbuild rfl h0 h1) h
section
attribute [local irreducible] wd by8 fl rl setA sf taf set8p set4w ed2 bt
set_option maxRecDepth 20000
theorem cD_any (w : World) : Calls Tryz.prog 104 #[] w fun e w' => e = .returned (nv ed) ∧ Below w.heap.size w w' := by
 obtain ⟨v1, ev1⟩ : ∃ v, v = w.alloc (Z4) := ⟨_, rfl⟩
 have bv1 := bnw ev1
 have sv1 := bsz ev1
 obtain ⟨g0, eg0⟩ : ∃ g, g = w.heap.size := ⟨_, rfl⟩
 have o0 : O4 v1 w.heap.size g0 0 := by rw [eg0, ev1]; exact O4.newz (Nat.le_refl _)
 have hc := bv1
 have hs1 := hc.size
 go_enter Tryz.func104, Tryz.ntmps104
 go_upto_region 1 with fail
 rw [← ev1]
 rw [show Value.pointer (some ⟨w.heap.size, 0, none⟩) = .pointer (some ⟨g0, 0, none⟩) by rw [eg0]]
 clear ev1 bv1 sv1 eg0 hs1
 have hfb := Lib.hid (hc.trans (o0.below ed))
 have HR := Lib.hid (o0.put ed)
 go_wp2_with ((with_reducible refine n_store o0 ed ?_ ?_ ?_); rfl; exact l_ed)
 exact bodyPost_ret (nres Tryz.results104 _ HR.out rfl) rfl ⟨rfl, hfb.out⟩
theorem cBase_any (w : World) : Calls Tryz.prog 35 #[] w fun e w' => e = .returned (prv bx by_) ∧ Below w.heap.size w w' := by
 obtain ⟨v1, ev1⟩ : ∃ v, v = w.alloc (Z8p) := ⟨_, rfl⟩
 have bv1 := bnw ev1
 have sv1 := bsz ev1
 obtain ⟨g0, eg0⟩ : ∃ g, g = w.heap.size := ⟨_, rfl⟩
 have o0 : O8 v1 w.heap.size g0 0 0 := by rw [eg0, ev1]; exact O8.newz (Nat.le_refl _)
 have hc := bv1
 have hs1 := hc.size
 go_enter Tryz.func35, Tryz.ntmps35
 go_upto_region 1 with fail
 rw [← ev1]
 rw [show Value.pointer (some ⟨w.heap.size, 0, none⟩) = .pointer (some ⟨g0, 0, none⟩) by rw [eg0]]
 clear ev1 bv1 sv1 eg0 hs1
 have hfb := Lib.hid (hc.trans (o0.below bx by_))
 have HR := Lib.hid (o0.put bx by_)
 go_wp2_with (first | ((with_reducible refine T_two bx by_ ?_ ?_ ?_); exact l_bx; exact l_by) | ((with_reducible refine p_store o0 bx by_ ?_ ?_ ?_); rfl; rfl))
 exact bodyPost_ret (pres Tryz.results35 _ HR.out rfl) rfl ⟨rfl, hfb.out⟩
set_option maxHeartbeats 6400000 in
theorem each_any {B g a b : Nat} {t : Ta} {p q : Pt E25} (ha : a < W4) (hb : b < W4) (h4 : t.of4 p q) (h0 : t.s.ok) (h1 : t.s.of (Pt.nought E25)) (w : World) (hG : ∀ v, Below B w v → G8 v) (hT : OTa w B g t)
  (kp : ∀ (s : Sp) (i j : Nat) (w : World), s.ok → i < 2 → j < 2 → G8 w → OTa w B g ⟨s, t.n, t.f, t.h, t.b⟩ → Calls Tryz.prog 74 #[.pointer (some ⟨g, 0, none⟩), .int .u64 (i : Int), .int .u64 (j : Int)] w fun e w' => e = .returned (.tuple #[]) ∧ OTa w' B g ⟨Sp.plus (Sp.plus s s) (t.pick i j), t.n, t.f, t.h, t.b⟩ ∧ Oth B g w w') :
  Calls Tryz.prog 73 #[nv a, nv b, .func (.func 74) #[.pointer (some ⟨g, 0, none⟩)] #[]] w fun e w' => e = .returned (.tuple #[]) ∧ (∃ s : Sp, (s.ok ∧ s.of ((p.mul a).add (q.mul b))) ∧ OTa w' B g ⟨s, t.n, t.f, t.h, t.b⟩) ∧ Oth B g w w' := by
 have hg := hT.lt
 have hB : B ≤ w.heap.size := Nat.le_trans hT.ge (Nat.le_of_lt hg)
 have s1 : (w.alloc (A4 a)).heap.size = w.heap.size + 1 := by simp
 have oa := (O4.new (w := w) (Nat.le_refl _) a).alloc (A4 b)
 have ob := O4.new (w := w.alloc (A4 a)) (B := w.heap.size) (by omega) b
 have hc := (((Below.refl _ w).alloc (Nat.le_refl _) (A4 a)).alloc (by omega) (A4 b))
 rw [s1] at ob
 have oT := hT.keep hc
 have hO : Oth B g w ((w.alloc (A4 a)).alloc (A4 b)) := Oth.of_below hB hc
 have HB := Lib.hid hB
 have HGT := Lib.hid hg
 have H4 := Lib.hid h4
 have HA := Lib.hid ha
 have HBB := Lib.hid hb
 have HG := Lib.hid hG
 have KP := Lib.hid kp
 have hst : ∃ s : Sp, (s.ok ∧ s.of ((p.mul (a / 2 ^ (256 - 0))).add (q.mul (b / 2 ^ (256 - 0))))) ∧ OTa ((w.alloc (A4 a)).alloc (A4 b)) B g ⟨s, t.n, t.f, t.h, t.b⟩ := ⟨t.s, ⟨h0, by rw [hi_zero ha, hi_zero hb]; show t.s.of ((Pt.nought E25).add (Pt.nought E25)); rw [Pt.add_nought]; exact h1⟩, oT⟩
 clear s1 hc oT hT hg hB ha hb h4 h0 h1 hG kp
 unfold nv
 go_enter Tryz.func73, Tryz.ntmps73
 go_wp2_with fail
 go_loopw [8] (fun i wr => ∃ k : Nat, k ≤ 256 ∧ i = .int .i64 k ∧ O4 wr w.heap.size w.heap.size a ∧ O4 wr w.heap.size (w.heap.size + 1) b ∧ (∃ s : Sp, (s.ok ∧ s.of ((p.mul (a / 2 ^ (256 - k))).add (q.mul (b / 2 ^ (256 - k))))) ∧ OTa wr B g ⟨s, t.n, t.f, t.h, t.b⟩) ∧ Oth B g w wr)
  (fun i _ => 256 - (intOf i).toNat)
 case atStart => exact ⟨0, by omega, rfl, oa, ob, hst, hO⟩
 case round =>
  clear oa ob hst hO
  obtain ⟨k, hk, rfl, oa, ob, ⟨s, ⟨hs1, hs2⟩, oT⟩, hO⟩ := hrel
  have HS := Lib.hid hs1
  have HS2 := Lib.hid hs2
  clear hs1 hs2
  by_cases hlt : k < 256
  ·have g1 : (k : Int) < 256 := by omega
   obtain ⟨m, hm⟩ : ∃ m, m = 255 - k := ⟨_, rfl⟩
   have g2 : IntKind.i64.wrap (255 - (k : Int)) = (m : Int) := by rw [IntKind.wrap_i64]; omega
   have HM := Lib.hid (show m < 256 by omega)
   have HME := Lib.hid hm
   clear hm
   go_upto_region 5 with fail
   refine wp_region_inv 7 [13, 14, 15, 16, 17, 18, 19] [.val (.func (.func 74) #[.pointer (some ⟨g, 0, none⟩)] #[]), .val (nv a), .val (.int .i64 (m : Int)), .val (.int .u64 (bt a m : Int)), .val (nv b), .val (.int .i64 (m : Int)), .val (.int .u64 (bt b m : Int))] (fun wz => Below wr.heap.size wr wz) (by kernel_rfl) (by kernel_rfl) (fun wz wz' hz hb => bnx hz hb) ((Below.refl _ _).drew) (fun u => by simp only [puts, List.foldl_cons, List.foldl_nil]; go_simp; exact rfl) ?_ ?_
   ·simp only [List.take_succ_cons, List.take_zero]
    refine .cons (fun u w hS hd => ?_) ?_
    ·exact Gv.run (.func (.func 74) #[.pointer (some ⟨g, 0, none⟩)] #[]) rfl (by go_simp) rfl
    refine .cons (fun u w hS hd => ?_) ?_
    ·exact Gv.run (nv a) rfl (run_nload rfl rfl (O4.keep oa hS)) rfl
    refine .cons (fun u w hS hd => ?_) ?_
    ·exact Gv.run (.int .i64 (m : Int)) rfl (by go_simp) rfl
    refine .cons (fun u w hS hd => ?_) ?_
    ·have d14 : u 14 = nv a := dep hd 1 rfl
     rw [d14]
     have d15 : u 15 = .int .i64 (m : Int) := dep hd 2 rfl
     rw [d15]
     refine Gv.call 66 #[nv a, .int .i64 (m : Int)] rfl (by go_simp) ((bit_in a m HM.out w).mono ?_)
     rintro e w' ⟨rfl, hb⟩
     exact ⟨_, rfl, rfl, hb⟩
    refine .cons (fun u w hS hd => ?_) ?_
    ·exact Gv.run (nv b) rfl (run_nload rfl rfl (O4.keep ob hS)) rfl
    refine .cons (fun u w hS hd => ?_) ?_
    ·exact Gv.run (.int .i64 (m : Int)) rfl (by go_simp) rfl
    refine .cons (fun u w hS hd => ?_) ?_
    ·have d17 : u 17 = nv b := dep hd 4 rfl
     rw [d17]
     have d18 : u 18 = .int .i64 (m : Int) := dep hd 5 rfl
     rw [d18]
     refine Gv.call 66 #[nv b, .int .i64 (m : Int)] rfl (by go_simp) ((bit_in b m HM.out w).mono ?_)
     rintro e w' ⟨rfl, hb⟩
     exact ⟨_, rfl, rfl, hb⟩
    exact Obs.nil
   intro uy1 y1 hS hd
   have d13 : uy1 13 = .func (.func 74) #[.pointer (some ⟨g, 0, none⟩)] #[] := hd 0 (by decide)
   have d16 : uy1 16 = .int .u64 (bt a m : Int) := hd 3 (by decide)
   have d19 : uy1 19 = .int .u64 (bt b m : Int) := hd 6 (by decide)
   rw [d13, d16, d19]
   replace oa := O4.keep oa hS
   replace ob := O4.keep ob hS
   replace oT := oT.keep hS
   replace hO := hO.trans (Oth.of_below (Nat.le_trans HB.out hO.2.2) hS)
   clear hS hd d13 d16 d19
   simp only [List.drop_succ_cons, List.drop_zero]
   go_wp2_with fail
   go_at_call 74
   refine (KP.out s (bt a m) (bt b m) _ HS.out (by unfold bt; exact Nat.mod_lt _ (by decide)) (by unfold bt; exact Nat.mod_lt _ (by decide)) (HG.out _ hO.2.1) oT).mono ?_
   rintro r v2 ⟨rfl, o2, hO2⟩
   have hpk := H4.out.pick (i := bt a m) (j := bt b m) (by unfold bt; exact Nat.mod_lt _ (by decide)) (by unfold bt; exact Nat.mod_lt _ (by decide))
   have hn := Sp.plus_of (Sp.plus_ok s s) hpk.1 (Sp.plus_of HS.out HS.out HS2.out HS2.out) hpk.2
   rw [Pt.step2, HME.out, ← hi_succ hlt, ← hi_succ hlt, ← HME.out] at hn
   have HN := Lib.hid hn
   have hgt := HGT.out
   replace oa := hO2.1 _ _ _ _ _ _ (by omega) oa
   replace ob := hO2.1 _ _ _ _ _ _ (by omega) ob
   replace hO := hO.trans hO2
   clear hO2 hpk hn hgt
   go_wp2_with fail
   go_roundw
   case rel => exact ⟨k + 1, by omega, by go_num, oa, ob, ⟨_, ⟨Sp.plus_ok _ _, HN.out⟩, o2⟩, hO⟩
   case measure => simp [intOf]; omega
  ·obtain rfl : k = 256 := by omega
   have h2 := HS2.out
   rw [hi_end, hi_end] at h2
   have H2 := Lib.hid h2
   clear h2
   go_wp2_with fail
   go_returns
   exact ⟨rfl, ⟨s, ⟨HS.out, H2.out⟩, oT⟩, hO⟩
end
end
end Go.Proofs.YtkbkalhcdbklkaaGreatDoor
