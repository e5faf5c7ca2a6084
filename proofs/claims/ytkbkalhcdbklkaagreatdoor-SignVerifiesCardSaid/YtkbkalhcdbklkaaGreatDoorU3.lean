/-
  The code's lift, flat, add (layer 8), over letters. Written by tools/gen_u3.py. By an AI agent.
-/
import Derived.Test.YtkbkalhcdbklkaaGreatDoorJ07
namespace Go.Proofs.YtkbkalhcdbklkaaGreatDoor
open Go Go.RowKit
theorem lit4_one : Value.agg #[.int .u64 1, .int .u64 0, .int .u64 0, .int .u64 0] = nv 1 := by kernel_rfl
theorem built_one : Tryz.prog.built 35 [(0, .int .u64 1)] = some #[.int .u64 1, .int .u64 0, .int .u64 0, .int .u64 0] := by kernel_rfl
theorem run_one {o : Oper} {a : Act} (ho : o.op = .build 35 #[(0, .const (.int .u64 1))]) (w : World) : (execOp a.eval o).run Tryz.prog w = .ok (.value (nv 1)) w := by
 have h := run_build (P := Tryz.prog) w 35 #[(0, .int .u64 1)] _ built_one
 rw [← lit4_one]
 unfold execOp
 simp only [ho, List.map_toArray, List.map_cons, List.map_nil, Act.eval, Sem.run_bind, h, Result.andThen_ok, Sem.run_pure]
section
attribute [local irreducible] wd by8 fl rl setA sf set8p set4w ed2
set_option maxRecDepth 20000
set_option maxHeartbeats 6400000 in
theorem lift_gen {x y t : Nat}
  (k1 : ∀ w, Calls Tryz.prog 101 #[nv x, nv y] w fun e w' => e = .returned (nv t) ∧ Below w.heap.size w w')
  (w : World) : Calls Tryz.prog 71 #[prv x y] w fun e w' => e = .returned (sv ⟨x, y, 1, t⟩) ∧ Below w.heap.size w w' := by
 have K1 := Lib.hid k1
 clear k1
 obtain ⟨v1, ev1⟩ : ∃ v, v = w.alloc (A8p x y) := ⟨_, rfl⟩
 have bv1 := bnw ev1
 have sv1 := bsz ev1
 obtain ⟨g1, eg1⟩ : ∃ g, g = w.heap.size := ⟨_, rfl⟩
 have o1 : O8 v1 w.heap.size g1 x y := by rw [eg1, ev1]; exact O8.new (Nat.le_refl _) x y
 have hc := bv1
 have hs1 := hc.size
 obtain ⟨v2, ev2⟩ : ∃ v, v = v1.alloc (ZS) := ⟨_, rfl⟩
 have bv2 := bnw ev2
 have sv2 := bsz ev2
 obtain ⟨g2, eg2⟩ : ∃ g, g = v1.heap.size := ⟨_, rfl⟩
 have o2 : OwnF v2 v1.heap.size 98 (some ⟨g2, 0, none⟩) 16 16 (fun _ => .int .u64 0) := by rw [eg2, ev2]; exact zS_new (Nat.le_refl _)
 replace o1 := o1.keep bv2
 replace hc := bnx hc bv2
 replace o2 := o2.mono hs1
 have hs2 := hc.size
 go_enter Tryz.func71, Tryz.ntmps71
 go_upto_region 1 with fail
 rw [← ev1, ← ev2]
 rw [show Value.pointer (some ⟨w.heap.size, 0, none⟩) = .pointer (some ⟨g1, 0, none⟩) by rw [eg1]]
 rw [show Value.pointer (some ⟨w.heap.size + 1, 0, none⟩) = .pointer (some ⟨g2, 0, none⟩) by rw [eg2, sv1]]
 clear ev1 bv1 sv1 ev2 bv2 sv2 eg1 eg2 hs1 hs2
 refine wp_region_inv 11 [3, 4, 5, 6, 7, 8, 9, 10, 11, 12, 13] [.val (.pointer (some ⟨g1, 0, none⟩)), .val (nv x), .val (.pointer (some ⟨g1, 4, none⟩)), .val (nv y), .val (nv 1), .val (.pointer (some ⟨g1, 0, none⟩)), .val (nv x), .val (.pointer (some ⟨g1, 4, none⟩)), .val (nv y), .val (nv t), .val (sv ⟨x, y, 1, t⟩)] (fun wz => Below v2.heap.size v2 wz) (by kernel_rfl) (by kernel_rfl) (fun wz wz' hz hb => bnx hz hb) ((Below.refl _ _).drew) (fun u => by simp only [puts, List.foldl_cons, List.foldl_nil]; go_simp; exact rfl) ?_ ?_
 ·simp only [List.take_succ_cons, List.take_zero]
  refine .cons (fun u w hS hd => ?_) ?_
  ·exact Gv.run (.pointer (some ⟨g1, 0, none⟩)) rfl (run_pfield 0 (by decide) rfl rfl) rfl
  refine .cons (fun u w hS hd => ?_) ?_
  ·have d3 : u 3 = .pointer (some ⟨g1, 0, none⟩) := dep hd 0 rfl
   rw [d3]
   exact Gv.run (nv x) rfl (run_xload rfl rfl (O8.keep o1 hS)) rfl
  refine .cons (fun u w hS hd => ?_) ?_
  ·exact Gv.run (.pointer (some ⟨g1, 4, none⟩)) rfl (run_pfield 1 (by decide) rfl rfl) rfl
  refine .cons (fun u w hS hd => ?_) ?_
  ·have d5 : u 5 = .pointer (some ⟨g1, 4, none⟩) := dep hd 2 rfl
   rw [d5]
   exact Gv.run (nv y) rfl (run_zload rfl rfl (O8.keep o1 hS)) rfl
  refine .cons (fun u w hS hd => ?_) ?_
  ·exact Gv.run (nv 1) rfl (run_one rfl w) rfl
  refine .cons (fun u w hS hd => ?_) ?_
  ·exact Gv.run (.pointer (some ⟨g1, 0, none⟩)) rfl (run_pfield 0 (by decide) rfl rfl) rfl
  refine .cons (fun u w hS hd => ?_) ?_
  ·have d8 : u 8 = .pointer (some ⟨g1, 0, none⟩) := dep hd 5 rfl
   rw [d8]
   exact Gv.run (nv x) rfl (run_xload rfl rfl (O8.keep o1 hS)) rfl
  refine .cons (fun u w hS hd => ?_) ?_
  ·exact Gv.run (.pointer (some ⟨g1, 4, none⟩)) rfl (run_pfield 1 (by decide) rfl rfl) rfl
  refine .cons (fun u w hS hd => ?_) ?_
  ·have d10 : u 10 = .pointer (some ⟨g1, 4, none⟩) := dep hd 7 rfl
   rw [d10]
   exact Gv.run (nv y) rfl (run_zload rfl rfl (O8.keep o1 hS)) rfl
  refine .cons (fun u w hS hd => ?_) ?_
  ·have d9 : u 9 = nv x := dep hd 6 rfl
   rw [d9]
   have d11 : u 11 = nv y := dep hd 8 rfl
   rw [d11]
   refine Gv.call 101 #[nv x, nv y] rfl (by go_simp) ((K1.out w).mono ?_)
   rintro e w' ⟨rfl, hb⟩
   exact ⟨_, rfl, rfl, hb⟩
  refine .cons (fun u w hS hd => ?_) ?_
  ·have d4 : u 4 = nv x := dep hd 1 rfl
   rw [d4]
   have d6 : u 6 = nv y := dep hd 3 rfl
   rw [d6]
   have d7 : u 7 = nv 1 := dep hd 4 rfl
   rw [d7]
   have d12 : u 12 = nv t := dep hd 9 rfl
   rw [d12]
   exact Gv.run (sv ⟨x, y, 1, t⟩) rfl (run_Sbuild rfl rfl rfl rfl rfl) rfl
  exact Obs.nil
 intro uy3 y3 hS hd
 have d13 : uy3 13 = sv ⟨x, y, 1, t⟩ := hd 10 (by decide)
 rw [d13]
 replace o1 := O8.keep o1 hS
 replace o2 := OwnF.keep o2 hS
 replace hc := bnx hc hS
 clear hS hd d13
 simp only [List.drop_succ_cons, List.drop_zero]
 have hfb := Lib.hid (hc.trans (s_below o2 (⟨x, y, 1, t⟩)))
 have HR := Lib.hid (s_put o2 (⟨x, y, 1, t⟩))
 go_wp2_with ((with_reducible refine s_store o2 (⟨x, y, 1, t⟩) ?_ ?_ ?_); rfl; rfl)
 exact bodyPost_ret (s_res Tryz.results71 _ HR.out rfl) rfl ⟨rfl, hfb.out⟩
set_option maxHeartbeats 6400000 in
theorem flat_gen {s : Sp} {iv a b : Nat}
  (k1 : ∀ w, Calls Tryz.prog 106 #[nv s.z] w fun e w' => e = .returned (nv iv) ∧ Below w.heap.size w w')
  (k2 : ∀ w, Calls Tryz.prog 101 #[nv s.x, nv iv] w fun e w' => e = .returned (nv a) ∧ Below w.heap.size w w')
  (k3 : ∀ w, Calls Tryz.prog 101 #[nv s.y, nv iv] w fun e w' => e = .returned (nv b) ∧ Below w.heap.size w w')
  (w : World) : Calls Tryz.prog 75 #[sv s] w fun e w' => e = .returned (prv a b) ∧ Below w.heap.size w w' := by
 have K1 := Lib.hid k1
 have K2 := Lib.hid k2
 have K3 := Lib.hid k3
 clear k1 k2 k3
 obtain ⟨v1, ev1⟩ : ∃ v, v = w.alloc (AS s) := ⟨_, rfl⟩
 have bv1 := bnw ev1
 have sv1 := bsz ev1
 obtain ⟨g1, eg1⟩ : ∃ g, g = w.heap.size := ⟨_, rfl⟩
 have o1 : OS v1 w.heap.size g1 s := by rw [eg1, ev1]; exact OS.new (Nat.le_refl _) s
 have hc := bv1
 have hs1 := hc.size
 obtain ⟨v2, ev2⟩ : ∃ v, v = v1.alloc (Z8p) := ⟨_, rfl⟩
 have bv2 := bnw ev2
 have sv2 := bsz ev2
 obtain ⟨g2, eg2⟩ : ∃ g, g = v1.heap.size := ⟨_, rfl⟩
 have o2 : O8 v2 v1.heap.size g2 0 0 := by rw [eg2, ev2]; exact O8.newz (Nat.le_refl _)
 replace o1 := o1.keep bv2
 replace hc := bnx hc bv2
 replace o2 := o2.mono hs1
 have hs2 := hc.size
 go_enter Tryz.func75, Tryz.ntmps75
 go_upto_region 1 with fail
 rw [← ev1, ← ev2]
 rw [show Value.pointer (some ⟨w.heap.size, 0, none⟩) = .pointer (some ⟨g1, 0, none⟩) by rw [eg1]]
 rw [show Value.pointer (some ⟨w.heap.size + 1, 0, none⟩) = .pointer (some ⟨g2, 0, none⟩) by rw [eg2, sv1]]
 clear ev1 bv1 sv1 ev2 bv2 sv2 eg1 eg2 hs1 hs2
 go_wp2_with (first | ((with_reducible refine s_load o1 ?_ ?_); rfl) | ((with_reducible refine sz_load o1 ?_ ?_); rfl) | ((with_reducible refine p_load o2 ?_ ?_); rfl))
 go_at_call 106
 refine (K1.out _).mono ?_
 rintro e y3 ⟨rfl, h0⟩
 replace o1 := OS.keep o1 h0
 replace o2 := O8.keep o2 h0
 replace hc := bnx hc h0
 clear h0
 have on0 := O4.newz (w := y3) (Nat.le_refl _)
 have o3 := (on0.put iv).mono hc.size
 have hbz := ((Below.refl _ y3).alloc (Nat.le_refl _) Z4).trans (on0.below iv)
 replace o1 := OS.keep o1 hbz
 replace o2 := O8.keep o2 hbz
 replace hc := bnx hc hbz
 clear hbz
 go_upto_region 2 with (first | ((with_reducible refine n_store on0 iv ?_ ?_ ?_); rfl; rfl))
 obtain ⟨y4, ev⟩ : ∃ v, v = set4w (y3.alloc Z4) y3.heap.size iv := ⟨_, rfl⟩
 obtain ⟨g3, eg⟩ : ∃ g, g = y3.heap.size := ⟨_, rfl⟩
 rw [← ev] at o1 o2 o3 hc ⊢
 rw [← eg] at o3 ⊢
 clear ev eg on0
 refine wp_region_inv 9 [7, 8, 9, 10, 11, 12, 13, 14, 15] [.val (.pointer (some ⟨g1, 0, none⟩)), .val (nv s.x), .val (nv iv), .val (nv a), .val (.pointer (some ⟨g1, 4, none⟩)), .val (nv s.y), .val (nv iv), .val (nv b), .val (prv a b)] (fun wz => Below y4.heap.size y4 wz) (by kernel_rfl) (by kernel_rfl) (fun wz wz' hz hb => bnx hz hb) ((Below.refl _ _).drew) (fun u => by simp only [puts, List.foldl_cons, List.foldl_nil]; go_simp; exact rfl) ?_ ?_
 ·simp only [List.take_succ_cons, List.take_zero]
  refine .cons (fun u w hS hd => ?_) ?_
  ·exact Gv.run (.pointer (some ⟨g1, 0, none⟩)) rfl (run_Sfield 0 (by decide) rfl rfl) rfl
  refine .cons (fun u w hS hd => ?_) ?_
  ·have d7 : u 7 = .pointer (some ⟨g1, 0, none⟩) := dep hd 0 rfl
   rw [d7]
   exact Gv.run (nv s.x) rfl (run_Sx rfl rfl (OS.keep o1 hS)) rfl
  refine .cons (fun u w hS hd => ?_) ?_
  ·exact Gv.run (nv iv) rfl (run_nload rfl rfl (O4.keep o3 hS)) rfl
  refine .cons (fun u w hS hd => ?_) ?_
  ·have d8 : u 8 = nv s.x := dep hd 1 rfl
   rw [d8]
   have d9 : u 9 = nv iv := dep hd 2 rfl
   rw [d9]
   refine Gv.call 101 #[nv s.x, nv iv] rfl (by go_simp) ((K2.out w).mono ?_)
   rintro e w' ⟨rfl, hb⟩
   exact ⟨_, rfl, rfl, hb⟩
  refine .cons (fun u w hS hd => ?_) ?_
  ·exact Gv.run (.pointer (some ⟨g1, 4, none⟩)) rfl (run_Sfield 1 (by decide) rfl rfl) rfl
  refine .cons (fun u w hS hd => ?_) ?_
  ·have d11 : u 11 = .pointer (some ⟨g1, 4, none⟩) := dep hd 4 rfl
   rw [d11]
   exact Gv.run (nv s.y) rfl (run_Sy rfl rfl (OS.keep o1 hS)) rfl
  refine .cons (fun u w hS hd => ?_) ?_
  ·exact Gv.run (nv iv) rfl (run_nload rfl rfl (O4.keep o3 hS)) rfl
  refine .cons (fun u w hS hd => ?_) ?_
  ·have d12 : u 12 = nv s.y := dep hd 5 rfl
   rw [d12]
   have d13 : u 13 = nv iv := dep hd 6 rfl
   rw [d13]
   refine Gv.call 101 #[nv s.y, nv iv] rfl (by go_simp) ((K3.out w).mono ?_)
   rintro e w' ⟨rfl, hb⟩
   exact ⟨_, rfl, rfl, hb⟩
  refine .cons (fun u w hS hd => ?_) ?_
  ·have d10 : u 10 = nv a := dep hd 3 rfl
   rw [d10]
   have d14 : u 14 = nv b := dep hd 7 rfl
   rw [d14]
   exact Gv.run (prv a b) rfl (run_Tbuild rfl rfl rfl) rfl
  exact Obs.nil
 intro uy5 y5 hS hd
 have d15 : uy5 15 = prv a b := hd 8 (by decide)
 rw [d15]
 replace o1 := OS.keep o1 hS
 replace o2 := O8.keep o2 hS
 replace o3 := O4.keep o3 hS
 replace hc := bnx hc hS
 clear hS hd d15
 simp only [List.drop_succ_cons, List.drop_zero]
 have hfb := Lib.hid (hc.trans (o2.below a b))
 have HR := Lib.hid (o2.put a b)
 go_wp2_with ((with_reducible refine p_store o2 a b ?_ ?_ ?_); rfl; rfl)
 exact bodyPost_ret (pres Tryz.results75 _ HR.out rfl) rfl ⟨rfl, hfb.out⟩
set_option maxHeartbeats 6400000 in
theorem add_gen {p q : Sp} {i1 i2 ls i3 i4 mo i5 wh i6 be x1 y1 ox oy X Y Z T : Nat}
  (k1 : ∀ w, Calls Tryz.prog 102 #[nv p.y, nv p.x] w fun e w' => e = .returned (nv i1) ∧ Below w.heap.size w w')
  (k2 : ∀ w, Calls Tryz.prog 102 #[nv q.y, nv q.x] w fun e w' => e = .returned (nv i2) ∧ Below w.heap.size w w')
  (k3 : ∀ w, Calls Tryz.prog 101 #[nv i1, nv i2] w fun e w' => e = .returned (nv ls) ∧ Below w.heap.size w w')
  (k4 : ∀ w, Calls Tryz.prog 103 #[nv p.y, nv p.x] w fun e w' => e = .returned (nv i3) ∧ Below w.heap.size w w')
  (k5 : ∀ w, Calls Tryz.prog 103 #[nv q.y, nv q.x] w fun e w' => e = .returned (nv i4) ∧ Below w.heap.size w w')
  (k6 : ∀ w, Calls Tryz.prog 101 #[nv i3, nv i4] w fun e w' => e = .returned (nv mo) ∧ Below w.heap.size w w')
  (k7 : ∀ w, Calls Tryz.prog 103 #[nv p.z, nv p.z] w fun e w' => e = .returned (nv i5) ∧ Below w.heap.size w w')
  (k8 : ∀ w, Calls Tryz.prog 101 #[nv i5, nv q.z] w fun e w' => e = .returned (nv wh) ∧ Below w.heap.size w w')
  (k9 : ∀ w, Calls Tryz.prog 101 #[nv p.t, nv q.t] w fun e w' => e = .returned (nv i6) ∧ Below w.heap.size w w')
  (k10 : ∀ w, Calls Tryz.prog 101 #[nv i6, nv ed2] w fun e w' => e = .returned (nv be) ∧ Below w.heap.size w w')
  (k11 : ∀ w, Calls Tryz.prog 102 #[nv mo, nv ls] w fun e w' => e = .returned (nv x1) ∧ Below w.heap.size w w')
  (k12 : ∀ w, Calls Tryz.prog 103 #[nv mo, nv ls] w fun e w' => e = .returned (nv y1) ∧ Below w.heap.size w w')
  (k13 : ∀ w, Calls Tryz.prog 103 #[nv wh, nv be] w fun e w' => e = .returned (nv ox) ∧ Below w.heap.size w w')
  (k14 : ∀ w, Calls Tryz.prog 102 #[nv wh, nv be] w fun e w' => e = .returned (nv oy) ∧ Below w.heap.size w w')
  (k15 : ∀ w, Calls Tryz.prog 101 #[nv x1, nv oy] w fun e w' => e = .returned (nv X) ∧ Below w.heap.size w w')
  (k16 : ∀ w, Calls Tryz.prog 101 #[nv y1, nv ox] w fun e w' => e = .returned (nv Y) ∧ Below w.heap.size w w')
  (k17 : ∀ w, Calls Tryz.prog 101 #[nv ox, nv oy] w fun e w' => e = .returned (nv Z) ∧ Below w.heap.size w w')
  (k18 : ∀ w, Calls Tryz.prog 101 #[nv x1, nv y1] w fun e w' => e = .returned (nv T) ∧ Below w.heap.size w w')
  (w : World) (hG : G8 w) : Calls Tryz.prog 72 #[sv p, sv q] w fun e w' => e = .returned (sv ⟨X, Y, Z, T⟩) ∧ Below w.heap.size w w' := by
 have K1 := Lib.hid k1
 have K2 := Lib.hid k2
 have K3 := Lib.hid k3
 have K4 := Lib.hid k4
 have K5 := Lib.hid k5
 have K6 := Lib.hid k6
 have K7 := Lib.hid k7
 have K8 := Lib.hid k8
 have K9 := Lib.hid k9
 have K10 := Lib.hid k10
 have K11 := Lib.hid k11
 have K12 := Lib.hid k12
 have K13 := Lib.hid k13
 have K14 := Lib.hid k14
 have K15 := Lib.hid k15
 have K16 := Lib.hid k16
 have K17 := Lib.hid k17
 have K18 := Lib.hid k18
 clear k1 k2 k3 k4 k5 k6 k7 k8 k9 k10 k11 k12 k13 k14 k15 k16 k17 k18
 have HG := Lib.hid hG
 clear hG
 obtain ⟨v1, ev1⟩ : ∃ v, v = w.alloc (AS p) := ⟨_, rfl⟩
 have bv1 := bnw ev1
 have sv1 := bsz ev1
 obtain ⟨g2, eg2⟩ : ∃ g, g = w.heap.size := ⟨_, rfl⟩
 have o2 : OS v1 w.heap.size g2 p := by rw [eg2, ev1]; exact OS.new (Nat.le_refl _) p
 have hc := bv1
 have hs1 := hc.size
 obtain ⟨v2, ev2⟩ : ∃ v, v = v1.alloc (AS q) := ⟨_, rfl⟩
 have bv2 := bnw ev2
 have sv2 := bsz ev2
 obtain ⟨g3, eg3⟩ : ∃ g, g = v1.heap.size := ⟨_, rfl⟩
 have o3 : OS v2 v1.heap.size g3 q := by rw [eg3, ev2]; exact OS.new (Nat.le_refl _) q
 replace o2 := o2.keep bv2
 replace hc := bnx hc bv2
 replace o3 := o3.mono hs1
 have hs2 := hc.size
 obtain ⟨v3, ev3⟩ : ∃ v, v = v2.alloc (ZS) := ⟨_, rfl⟩
 have bv3 := bnw ev3
 have sv3 := bsz ev3
 obtain ⟨g4, eg4⟩ : ∃ g, g = v2.heap.size := ⟨_, rfl⟩
 have o4 : OwnF v3 v2.heap.size 98 (some ⟨g4, 0, none⟩) 16 16 (fun _ => .int .u64 0) := by rw [eg4, ev3]; exact zS_new (Nat.le_refl _)
 replace o2 := o2.keep bv3
 replace o3 := o3.keep bv3
 replace hc := bnx hc bv3
 replace o4 := o4.mono hs2
 have hs3 := hc.size
 go_enter Tryz.func72, Tryz.ntmps72
 go_upto_region 1 with fail
 rw [← ev1, ← ev2, ← ev3]
 rw [show Value.pointer (some ⟨w.heap.size, 0, none⟩) = .pointer (some ⟨g2, 0, none⟩) by rw [eg2]]
 rw [show Value.pointer (some ⟨w.heap.size + 1, 0, none⟩) = .pointer (some ⟨g3, 0, none⟩) by rw [eg3, sv1]]
 rw [show Value.pointer (some ⟨w.heap.size + 2, 0, none⟩) = .pointer (some ⟨g4, 0, none⟩) by rw [eg4, sv2, sv1]]
 clear ev1 bv1 sv1 ev2 bv2 sv2 ev3 bv3 sv3 eg2 eg3 eg4 hs1 hs2 hs3
 replace HG := Lib.hid (HG.out.next hc)
 refine wp_region_box 13 [some 13, some 14, some 15, some 16, some 17, some 18, some 19, some 20, some 21, some 22, some 23, some 5, none] [.val (.pointer (some ⟨g2, 4, none⟩)), .val (nv p.y), .val (.pointer (some ⟨g2, 0, none⟩)), .val (nv p.x), .val (nv i1), .val (.pointer (some ⟨g3, 4, none⟩)), .val (nv q.y), .val (.pointer (some ⟨g3, 0, none⟩)), .val (nv q.x), .val (nv i2), .val (nv ls), .box 35 4, .holds 11 35 4 (wv ls)] v3.heap.size (fun wz => Below v3.heap.size v3 wz) (by kernel_rfl) (by kernel_rfl)
  (fun _ _ h _ hb => h.trans hb) ((Below.refl _ _).drew) (Nat.le_refl _) (fun u => by simp only [List.filterMap_cons, List.filterMap_nil, id, puts, List.foldl_cons, List.foldl_nil]; go_simp; exact rfl) ?_ ?_
 ·simp only [List.take_succ_cons, List.take_zero]
  refine .cons (fun u w L hL hS hBw hd => ?_) ?_
  ·exact GB.run 13 rfl (.pointer (some ⟨g2, 4, none⟩)) rfl (run_Sfield 1 (by decide) rfl rfl) rfl rfl
  refine .cons (fun u w L hL hS hBw hd => ?_) ?_
  ·have d13 : u 13 = .pointer (some ⟨g2, 4, none⟩) := depB hd 0 rfl
   rw [d13]
   exact GB.run 14 rfl (nv p.y) rfl (run_Sy rfl rfl (OS.keep o2 hS)) rfl rfl
  refine .cons (fun u w L hL hS hBw hd => ?_) ?_
  ·exact GB.run 15 rfl (.pointer (some ⟨g2, 0, none⟩)) rfl (run_Sfield 0 (by decide) rfl rfl) rfl rfl
  refine .cons (fun u w L hL hS hBw hd => ?_) ?_
  ·have d15 : u 15 = .pointer (some ⟨g2, 0, none⟩) := depB hd 2 rfl
   rw [d15]
   exact GB.run 16 rfl (nv p.x) rfl (run_Sx rfl rfl (OS.keep o2 hS)) rfl rfl
  refine .cons (fun u w L hL hS hBw hd => ?_) ?_
  ·have d14 : u 14 = nv p.y := depB hd 1 rfl
   rw [d14]
   have d16 : u 16 = nv p.x := depB hd 3 rfl
   rw [d16]
   refine GB.call 17 rfl 102 #[nv p.y, nv p.x] rfl (by go_simp) rfl ((K1.out w).mono ?_)
   rintro e w' ⟨rfl, hb⟩
   exact ⟨_, rfl, rfl, hb⟩
  refine .cons (fun u w L hL hS hBw hd => ?_) ?_
  ·exact GB.run 18 rfl (.pointer (some ⟨g3, 4, none⟩)) rfl (run_Sfield 1 (by decide) rfl rfl) rfl rfl
  refine .cons (fun u w L hL hS hBw hd => ?_) ?_
  ·have d18 : u 18 = .pointer (some ⟨g3, 4, none⟩) := depB hd 5 rfl
   rw [d18]
   exact GB.run 19 rfl (nv q.y) rfl (run_Sy rfl rfl (OS.keep o3 hS)) rfl rfl
  refine .cons (fun u w L hL hS hBw hd => ?_) ?_
  ·exact GB.run 20 rfl (.pointer (some ⟨g3, 0, none⟩)) rfl (run_Sfield 0 (by decide) rfl rfl) rfl rfl
  refine .cons (fun u w L hL hS hBw hd => ?_) ?_
  ·have d20 : u 20 = .pointer (some ⟨g3, 0, none⟩) := depB hd 7 rfl
   rw [d20]
   exact GB.run 21 rfl (nv q.x) rfl (run_Sx rfl rfl (OS.keep o3 hS)) rfl rfl
  refine .cons (fun u w L hL hS hBw hd => ?_) ?_
  ·have d19 : u 19 = nv q.y := depB hd 6 rfl
   rw [d19]
   have d21 : u 21 = nv q.x := depB hd 8 rfl
   rw [d21]
   refine GB.call 22 rfl 102 #[nv q.y, nv q.x] rfl (by go_simp) rfl ((K2.out w).mono ?_)
   rintro e w' ⟨rfl, hb⟩
   exact ⟨_, rfl, rfl, hb⟩
  refine .cons (fun u w L hL hS hBw hd => ?_) ?_
  ·have d17 : u 17 = nv i1 := depB hd 4 rfl
   rw [d17]
   have d22 : u 22 = nv i2 := depB hd 9 rfl
   rw [d22]
   refine GB.call 23 rfl 101 #[nv i1, nv i2] rfl (by go_simp) rfl ((K3.out w).mono ?_)
   rintro e w' ⟨rfl, hb⟩
   exact ⟨_, rfl, rfl, hb⟩
  refine .cons (fun u w L hL hS hBw hd => ?_) ?_
  ·exact GB.alloc 5 rfl rfl #[.int .u64 0, .int .u64 0, .int .u64 0, .int .u64 0] 35 4 (fun _ => .int .u64 0) rfl rfl (by go_simp) hBw (by decide) rfl
  refine .cons (fun u w L hL hS hBw hd => ?_) ?_
  ·have d23 : u 23 = nv ls := depB hd 10 rfl
   obtain ⟨g, fg, e5, o5⟩ : (Fact.box 35 4).ok v3.heap.size [some 13, some 14, some 15, some 16, some 17, some 18, some 19, some 20, some 21, some 22, some 23, some 5, none] 11 u w L := depB hd 11 rfl
   exact GB.store rfl 11 g 35 4 (wv ls) rfl rfl rfl e5 (run_nstore rfl (by exact e5) (by exact d23) o5) (only4 w g ls) (put4o o5 ls)
  exact ObsB.nil
 intro uy4 y4 hS hd
 obtain ⟨g5, eg5, o5⟩ : (Fact.holds 11 35 4 (wv ls)).ok v3.heap.size [some 13, some 14, some 15, some 16, some 17, some 18, some 19, some 20, some 21, some 22, some 23, some 5, none] 12 uy4 y4 (fun _ => true) := hd 12 (by decide)
 replace eg5 : uy4 5 = .pointer (some ⟨g5, 0, none⟩) := eg5
 replace o5 : O4 y4 v3.heap.size g5 ls := o5
 replace o5 := o5.mono hc.size
 replace o2 := OS.keep o2 hS
 replace o3 := OS.keep o3 hS
 replace o4 := OwnF.keep o4 hS
 replace HG := Lib.hid (HG.out.next hS)
 replace hc := bnx hc hS
 rw [eg5]
 clear hS hd eg5
 simp only [List.drop_succ_cons, List.drop_zero]
 go_upto_region 2 with fail
 refine wp_region_box 13 [some 24, some 25, some 26, some 27, some 28, some 29, some 30, some 31, some 32, some 33, some 34, some 6, none] [.val (.pointer (some ⟨g2, 4, none⟩)), .val (nv p.y), .val (.pointer (some ⟨g2, 0, none⟩)), .val (nv p.x), .val (nv i3), .val (.pointer (some ⟨g3, 4, none⟩)), .val (nv q.y), .val (.pointer (some ⟨g3, 0, none⟩)), .val (nv q.x), .val (nv i4), .val (nv mo), .box 35 4, .holds 11 35 4 (wv mo)] y4.heap.size (fun wz => Below y4.heap.size y4 wz) (by kernel_rfl) (by kernel_rfl)
  (fun _ _ h _ hb => h.trans hb) ((Below.refl _ _).drew) (Nat.le_refl _) (fun u => by simp only [List.filterMap_cons, List.filterMap_nil, id, puts, List.foldl_cons, List.foldl_nil]; go_simp; exact rfl) ?_ ?_
 ·simp only [List.take_succ_cons, List.take_zero]
  refine .cons (fun u w L hL hS hBw hd => ?_) ?_
  ·exact GB.run 24 rfl (.pointer (some ⟨g2, 4, none⟩)) rfl (run_Sfield 1 (by decide) rfl rfl) rfl rfl
  refine .cons (fun u w L hL hS hBw hd => ?_) ?_
  ·have d24 : u 24 = .pointer (some ⟨g2, 4, none⟩) := depB hd 0 rfl
   rw [d24]
   exact GB.run 25 rfl (nv p.y) rfl (run_Sy rfl rfl (OS.keep o2 hS)) rfl rfl
  refine .cons (fun u w L hL hS hBw hd => ?_) ?_
  ·exact GB.run 26 rfl (.pointer (some ⟨g2, 0, none⟩)) rfl (run_Sfield 0 (by decide) rfl rfl) rfl rfl
  refine .cons (fun u w L hL hS hBw hd => ?_) ?_
  ·have d26 : u 26 = .pointer (some ⟨g2, 0, none⟩) := depB hd 2 rfl
   rw [d26]
   exact GB.run 27 rfl (nv p.x) rfl (run_Sx rfl rfl (OS.keep o2 hS)) rfl rfl
  refine .cons (fun u w L hL hS hBw hd => ?_) ?_
  ·have d25 : u 25 = nv p.y := depB hd 1 rfl
   rw [d25]
   have d27 : u 27 = nv p.x := depB hd 3 rfl
   rw [d27]
   refine GB.call 28 rfl 103 #[nv p.y, nv p.x] rfl (by go_simp) rfl ((K4.out w).mono ?_)
   rintro e w' ⟨rfl, hb⟩
   exact ⟨_, rfl, rfl, hb⟩
  refine .cons (fun u w L hL hS hBw hd => ?_) ?_
  ·exact GB.run 29 rfl (.pointer (some ⟨g3, 4, none⟩)) rfl (run_Sfield 1 (by decide) rfl rfl) rfl rfl
  refine .cons (fun u w L hL hS hBw hd => ?_) ?_
  ·have d29 : u 29 = .pointer (some ⟨g3, 4, none⟩) := depB hd 5 rfl
   rw [d29]
   exact GB.run 30 rfl (nv q.y) rfl (run_Sy rfl rfl (OS.keep o3 hS)) rfl rfl
  refine .cons (fun u w L hL hS hBw hd => ?_) ?_
  ·exact GB.run 31 rfl (.pointer (some ⟨g3, 0, none⟩)) rfl (run_Sfield 0 (by decide) rfl rfl) rfl rfl
  refine .cons (fun u w L hL hS hBw hd => ?_) ?_
  ·have d31 : u 31 = .pointer (some ⟨g3, 0, none⟩) := depB hd 7 rfl
   rw [d31]
   exact GB.run 32 rfl (nv q.x) rfl (run_Sx rfl rfl (OS.keep o3 hS)) rfl rfl
  refine .cons (fun u w L hL hS hBw hd => ?_) ?_
  ·have d30 : u 30 = nv q.y := depB hd 6 rfl
   rw [d30]
   have d32 : u 32 = nv q.x := depB hd 8 rfl
   rw [d32]
   refine GB.call 33 rfl 103 #[nv q.y, nv q.x] rfl (by go_simp) rfl ((K5.out w).mono ?_)
   rintro e w' ⟨rfl, hb⟩
   exact ⟨_, rfl, rfl, hb⟩
  refine .cons (fun u w L hL hS hBw hd => ?_) ?_
  ·have d28 : u 28 = nv i3 := depB hd 4 rfl
   rw [d28]
   have d33 : u 33 = nv i4 := depB hd 9 rfl
   rw [d33]
   refine GB.call 34 rfl 101 #[nv i3, nv i4] rfl (by go_simp) rfl ((K6.out w).mono ?_)
   rintro e w' ⟨rfl, hb⟩
   exact ⟨_, rfl, rfl, hb⟩
  refine .cons (fun u w L hL hS hBw hd => ?_) ?_
  ·exact GB.alloc 6 rfl rfl #[.int .u64 0, .int .u64 0, .int .u64 0, .int .u64 0] 35 4 (fun _ => .int .u64 0) rfl rfl (by go_simp) hBw (by decide) rfl
  refine .cons (fun u w L hL hS hBw hd => ?_) ?_
  ·have d34 : u 34 = nv mo := depB hd 10 rfl
   obtain ⟨g, fg, e6, o6⟩ : (Fact.box 35 4).ok y4.heap.size [some 24, some 25, some 26, some 27, some 28, some 29, some 30, some 31, some 32, some 33, some 34, some 6, none] 11 u w L := depB hd 11 rfl
   exact GB.store rfl 11 g 35 4 (wv mo) rfl rfl rfl e6 (run_nstore rfl (by exact e6) (by exact d34) o6) (only4 w g mo) (put4o o6 mo)
  exact ObsB.nil
 intro uy5 y5 hS hd
 obtain ⟨g6, eg6, o6⟩ : (Fact.holds 11 35 4 (wv mo)).ok y4.heap.size [some 24, some 25, some 26, some 27, some 28, some 29, some 30, some 31, some 32, some 33, some 34, some 6, none] 12 uy5 y5 (fun _ => true) := hd 12 (by decide)
 replace eg6 : uy5 6 = .pointer (some ⟨g6, 0, none⟩) := eg6
 replace o6 : O4 y5 y4.heap.size g6 mo := o6
 replace o6 := o6.mono hc.size
 replace o2 := OS.keep o2 hS
 replace o3 := OS.keep o3 hS
 replace o4 := OwnF.keep o4 hS
 replace o5 := O4.keep o5 hS
 replace HG := Lib.hid (HG.out.next hS)
 replace hc := bnx hc hS
 rw [eg6]
 clear hS hd eg6
 simp only [List.drop_succ_cons, List.drop_zero]
 go_upto_region 3 with fail
 refine wp_region_box 10 [some 35, some 36, some 37, some 38, some 39, some 40, some 41, some 42, some 7, none] [.val (.pointer (some ⟨g2, 8, none⟩)), .val (nv p.z), .val (.pointer (some ⟨g2, 8, none⟩)), .val (nv p.z), .val (nv i5), .val (.pointer (some ⟨g3, 8, none⟩)), .val (nv q.z), .val (nv wh), .box 35 4, .holds 8 35 4 (wv wh)] y5.heap.size (fun wz => Below y5.heap.size y5 wz) (by kernel_rfl) (by kernel_rfl)
  (fun _ _ h _ hb => h.trans hb) ((Below.refl _ _).drew) (Nat.le_refl _) (fun u => by simp only [List.filterMap_cons, List.filterMap_nil, id, puts, List.foldl_cons, List.foldl_nil]; go_simp; exact rfl) ?_ ?_
 ·simp only [List.take_succ_cons, List.take_zero]
  refine .cons (fun u w L hL hS hBw hd => ?_) ?_
  ·exact GB.run 35 rfl (.pointer (some ⟨g2, 8, none⟩)) rfl (run_Sfield 2 (by decide) rfl rfl) rfl rfl
  refine .cons (fun u w L hL hS hBw hd => ?_) ?_
  ·have d35 : u 35 = .pointer (some ⟨g2, 8, none⟩) := depB hd 0 rfl
   rw [d35]
   exact GB.run 36 rfl (nv p.z) rfl (run_Sz rfl rfl (OS.keep o2 hS)) rfl rfl
  refine .cons (fun u w L hL hS hBw hd => ?_) ?_
  ·exact GB.run 37 rfl (.pointer (some ⟨g2, 8, none⟩)) rfl (run_Sfield 2 (by decide) rfl rfl) rfl rfl
  refine .cons (fun u w L hL hS hBw hd => ?_) ?_
  ·have d37 : u 37 = .pointer (some ⟨g2, 8, none⟩) := depB hd 2 rfl
   rw [d37]
   exact GB.run 38 rfl (nv p.z) rfl (run_Sz rfl rfl (OS.keep o2 hS)) rfl rfl
  refine .cons (fun u w L hL hS hBw hd => ?_) ?_
  ·have d36 : u 36 = nv p.z := depB hd 1 rfl
   rw [d36]
   have d38 : u 38 = nv p.z := depB hd 3 rfl
   rw [d38]
   refine GB.call 39 rfl 103 #[nv p.z, nv p.z] rfl (by go_simp) rfl ((K7.out w).mono ?_)
   rintro e w' ⟨rfl, hb⟩
   exact ⟨_, rfl, rfl, hb⟩
  refine .cons (fun u w L hL hS hBw hd => ?_) ?_
  ·exact GB.run 40 rfl (.pointer (some ⟨g3, 8, none⟩)) rfl (run_Sfield 2 (by decide) rfl rfl) rfl rfl
  refine .cons (fun u w L hL hS hBw hd => ?_) ?_
  ·have d40 : u 40 = .pointer (some ⟨g3, 8, none⟩) := depB hd 5 rfl
   rw [d40]
   exact GB.run 41 rfl (nv q.z) rfl (run_Sz rfl rfl (OS.keep o3 hS)) rfl rfl
  refine .cons (fun u w L hL hS hBw hd => ?_) ?_
  ·have d39 : u 39 = nv i5 := depB hd 4 rfl
   rw [d39]
   have d41 : u 41 = nv q.z := depB hd 6 rfl
   rw [d41]
   refine GB.call 42 rfl 101 #[nv i5, nv q.z] rfl (by go_simp) rfl ((K8.out w).mono ?_)
   rintro e w' ⟨rfl, hb⟩
   exact ⟨_, rfl, rfl, hb⟩
  refine .cons (fun u w L hL hS hBw hd => ?_) ?_
  ·exact GB.alloc 7 rfl rfl #[.int .u64 0, .int .u64 0, .int .u64 0, .int .u64 0] 35 4 (fun _ => .int .u64 0) rfl rfl (by go_simp) hBw (by decide) rfl
  refine .cons (fun u w L hL hS hBw hd => ?_) ?_
  ·have d42 : u 42 = nv wh := depB hd 7 rfl
   obtain ⟨g, fg, e7, o7⟩ : (Fact.box 35 4).ok y5.heap.size [some 35, some 36, some 37, some 38, some 39, some 40, some 41, some 42, some 7, none] 8 u w L := depB hd 8 rfl
   exact GB.store rfl 8 g 35 4 (wv wh) rfl rfl rfl e7 (run_nstore rfl (by exact e7) (by exact d42) o7) (only4 w g wh) (put4o o7 wh)
  exact ObsB.nil
 intro uy6 y6 hS hd
 obtain ⟨g7, eg7, o7⟩ : (Fact.holds 8 35 4 (wv wh)).ok y5.heap.size [some 35, some 36, some 37, some 38, some 39, some 40, some 41, some 42, some 7, none] 9 uy6 y6 (fun _ => true) := hd 9 (by decide)
 replace eg7 : uy6 7 = .pointer (some ⟨g7, 0, none⟩) := eg7
 replace o7 : O4 y6 y5.heap.size g7 wh := o7
 replace o7 := o7.mono hc.size
 replace o2 := OS.keep o2 hS
 replace o3 := OS.keep o3 hS
 replace o4 := OwnF.keep o4 hS
 replace o5 := O4.keep o5 hS
 replace o6 := O4.keep o6 hS
 replace HG := Lib.hid (HG.out.next hS)
 replace hc := bnx hc hS
 rw [eg7]
 clear hS hd eg7
 simp only [List.drop_succ_cons, List.drop_zero]
 go_upto_region 4 with fail
 refine wp_region_box 9 [some 43, some 44, some 45, some 46, some 47, some 48, some 49, some 8, none] [.val (.pointer (some ⟨g2, 12, none⟩)), .val (nv p.t), .val (.pointer (some ⟨g3, 12, none⟩)), .val (nv q.t), .val (nv i6), .val (nv ed2), .val (nv be), .box 35 4, .holds 7 35 4 (wv be)] y6.heap.size (fun wz => Below y6.heap.size y6 wz) (by kernel_rfl) (by kernel_rfl)
  (fun _ _ h _ hb => h.trans hb) ((Below.refl _ _).drew) (Nat.le_refl _) (fun u => by simp only [List.filterMap_cons, List.filterMap_nil, id, puts, List.foldl_cons, List.foldl_nil]; go_simp; exact rfl) ?_ ?_
 ·simp only [List.take_succ_cons, List.take_zero]
  refine .cons (fun u w L hL hS hBw hd => ?_) ?_
  ·exact GB.run 43 rfl (.pointer (some ⟨g2, 12, none⟩)) rfl (run_Sfield 3 (by decide) rfl rfl) rfl rfl
  refine .cons (fun u w L hL hS hBw hd => ?_) ?_
  ·have d43 : u 43 = .pointer (some ⟨g2, 12, none⟩) := depB hd 0 rfl
   rw [d43]
   exact GB.run 44 rfl (nv p.t) rfl (run_St rfl rfl (OS.keep o2 hS)) rfl rfl
  refine .cons (fun u w L hL hS hBw hd => ?_) ?_
  ·exact GB.run 45 rfl (.pointer (some ⟨g3, 12, none⟩)) rfl (run_Sfield 3 (by decide) rfl rfl) rfl rfl
  refine .cons (fun u w L hL hS hBw hd => ?_) ?_
  ·have d45 : u 45 = .pointer (some ⟨g3, 12, none⟩) := depB hd 2 rfl
   rw [d45]
   exact GB.run 46 rfl (nv q.t) rfl (run_St rfl rfl (OS.keep o3 hS)) rfl rfl
  refine .cons (fun u w L hL hS hBw hd => ?_) ?_
  ·have d44 : u 44 = nv p.t := depB hd 1 rfl
   rw [d44]
   have d46 : u 46 = nv q.t := depB hd 3 rfl
   rw [d46]
   refine GB.call 47 rfl 101 #[nv p.t, nv q.t] rfl (by go_simp) rfl ((K9.out w).mono ?_)
   rintro e w' ⟨rfl, hb⟩
   exact ⟨_, rfl, rfl, hb⟩
  refine .cons (fun u w L hL hS hBw hd => ?_) ?_
  ·exact GB.run 48 rfl (nv ed2) rfl (run_gD rfl rfl (HG.out.next hS)) rfl rfl
  refine .cons (fun u w L hL hS hBw hd => ?_) ?_
  ·have d47 : u 47 = nv i6 := depB hd 4 rfl
   rw [d47]
   have d48 : u 48 = nv ed2 := depB hd 5 rfl
   rw [d48]
   refine GB.call 49 rfl 101 #[nv i6, nv ed2] rfl (by go_simp) rfl ((K10.out w).mono ?_)
   rintro e w' ⟨rfl, hb⟩
   exact ⟨_, rfl, rfl, hb⟩
  refine .cons (fun u w L hL hS hBw hd => ?_) ?_
  ·exact GB.alloc 8 rfl rfl #[.int .u64 0, .int .u64 0, .int .u64 0, .int .u64 0] 35 4 (fun _ => .int .u64 0) rfl rfl (by go_simp) hBw (by decide) rfl
  refine .cons (fun u w L hL hS hBw hd => ?_) ?_
  ·have d49 : u 49 = nv be := depB hd 6 rfl
   obtain ⟨g, fg, e8, o8⟩ : (Fact.box 35 4).ok y6.heap.size [some 43, some 44, some 45, some 46, some 47, some 48, some 49, some 8, none] 7 u w L := depB hd 7 rfl
   exact GB.store rfl 7 g 35 4 (wv be) rfl rfl rfl e8 (run_nstore rfl (by exact e8) (by exact d49) o8) (only4 w g be) (put4o o8 be)
  exact ObsB.nil
 intro uy7 y7 hS hd
 obtain ⟨g8, eg8, o8⟩ : (Fact.holds 7 35 4 (wv be)).ok y6.heap.size [some 43, some 44, some 45, some 46, some 47, some 48, some 49, some 8, none] 8 uy7 y7 (fun _ => true) := hd 8 (by decide)
 replace eg8 : uy7 8 = .pointer (some ⟨g8, 0, none⟩) := eg8
 replace o8 : O4 y7 y6.heap.size g8 be := o8
 replace o8 := o8.mono hc.size
 replace o2 := OS.keep o2 hS
 replace o3 := OS.keep o3 hS
 replace o4 := OwnF.keep o4 hS
 replace o5 := O4.keep o5 hS
 replace o6 := O4.keep o6 hS
 replace o7 := O4.keep o7 hS
 replace HG := Lib.hid (HG.out.next hS)
 replace hc := bnx hc hS
 rw [eg8]
 clear hS hd eg8
 simp only [List.drop_succ_cons, List.drop_zero]
 go_upto_region 5 with fail
 refine wp_region_box 10 [some 50, some 51, some 52, some 53, some 54, some 55, some 9, some 10, none, none] [.val (nv mo), .val (nv ls), .val (nv x1), .val (nv mo), .val (nv ls), .val (nv y1), .box 35 4, .box 35 4, .holds 6 35 4 (wv x1), .holds 7 35 4 (wv y1)] y7.heap.size (fun wz => Below y7.heap.size y7 wz) (by kernel_rfl) (by kernel_rfl)
  (fun _ _ h _ hb => h.trans hb) ((Below.refl _ _).drew) (Nat.le_refl _) (fun u => by simp only [List.filterMap_cons, List.filterMap_nil, id, puts, List.foldl_cons, List.foldl_nil]; go_simp; exact rfl) ?_ ?_
 ·simp only [List.take_succ_cons, List.take_zero]
  refine .cons (fun u w L hL hS hBw hd => ?_) ?_
  ·exact GB.run 50 rfl (nv mo) rfl (run_nload rfl rfl (O4.keep o6 hS)) rfl rfl
  refine .cons (fun u w L hL hS hBw hd => ?_) ?_
  ·exact GB.run 51 rfl (nv ls) rfl (run_nload rfl rfl (O4.keep o5 hS)) rfl rfl
  refine .cons (fun u w L hL hS hBw hd => ?_) ?_
  ·have d50 : u 50 = nv mo := depB hd 0 rfl
   rw [d50]
   have d51 : u 51 = nv ls := depB hd 1 rfl
   rw [d51]
   refine GB.call 52 rfl 102 #[nv mo, nv ls] rfl (by go_simp) rfl ((K11.out w).mono ?_)
   rintro e w' ⟨rfl, hb⟩
   exact ⟨_, rfl, rfl, hb⟩
  refine .cons (fun u w L hL hS hBw hd => ?_) ?_
  ·exact GB.run 53 rfl (nv mo) rfl (run_nload rfl rfl (O4.keep o6 hS)) rfl rfl
  refine .cons (fun u w L hL hS hBw hd => ?_) ?_
  ·exact GB.run 54 rfl (nv ls) rfl (run_nload rfl rfl (O4.keep o5 hS)) rfl rfl
  refine .cons (fun u w L hL hS hBw hd => ?_) ?_
  ·have d53 : u 53 = nv mo := depB hd 3 rfl
   rw [d53]
   have d54 : u 54 = nv ls := depB hd 4 rfl
   rw [d54]
   refine GB.call 55 rfl 103 #[nv mo, nv ls] rfl (by go_simp) rfl ((K12.out w).mono ?_)
   rintro e w' ⟨rfl, hb⟩
   exact ⟨_, rfl, rfl, hb⟩
  refine .cons (fun u w L hL hS hBw hd => ?_) ?_
  ·exact GB.alloc 9 rfl rfl #[.int .u64 0, .int .u64 0, .int .u64 0, .int .u64 0] 35 4 (fun _ => .int .u64 0) rfl rfl (by go_simp) hBw (by decide) rfl
  refine .cons (fun u w L hL hS hBw hd => ?_) ?_
  ·exact GB.alloc 10 rfl rfl #[.int .u64 0, .int .u64 0, .int .u64 0, .int .u64 0] 35 4 (fun _ => .int .u64 0) rfl rfl (by go_simp) hBw (by decide) rfl
  refine .cons (fun u w L hL hS hBw hd => ?_) ?_
  ·have d52 : u 52 = nv x1 := depB hd 2 rfl
   obtain ⟨g, fg, e9, o9⟩ : (Fact.box 35 4).ok y7.heap.size [some 50, some 51, some 52, some 53, some 54, some 55, some 9, some 10, none, none] 6 u w L := depB hd 6 rfl
   exact GB.store rfl 6 g 35 4 (wv x1) rfl rfl rfl e9 (run_nstore rfl (by exact e9) (by exact d52) o9) (only4 w g x1) (put4o o9 x1)
  refine .cons (fun u w L hL hS hBw hd => ?_) ?_
  ·have d55 : u 55 = nv y1 := depB hd 5 rfl
   obtain ⟨g, fg, e10, o10⟩ : (Fact.box 35 4).ok y7.heap.size [some 50, some 51, some 52, some 53, some 54, some 55, some 9, some 10, none, none] 7 u w L := depB hd 7 rfl
   exact GB.store rfl 7 g 35 4 (wv y1) rfl rfl rfl e10 (run_nstore rfl (by exact e10) (by exact d55) o10) (only4 w g y1) (put4o o10 y1)
  exact ObsB.nil
 intro uy8 y8 hS hd
 obtain ⟨g9, eg9, o9⟩ : (Fact.holds 6 35 4 (wv x1)).ok y7.heap.size [some 50, some 51, some 52, some 53, some 54, some 55, some 9, some 10, none, none] 8 uy8 y8 (fun _ => true) := hd 8 (by decide)
 replace eg9 : uy8 9 = .pointer (some ⟨g9, 0, none⟩) := eg9
 replace o9 : O4 y8 y7.heap.size g9 x1 := o9
 replace o9 := o9.mono hc.size
 obtain ⟨g10, eg10, o10⟩ : (Fact.holds 7 35 4 (wv y1)).ok y7.heap.size [some 50, some 51, some 52, some 53, some 54, some 55, some 9, some 10, none, none] 9 uy8 y8 (fun _ => true) := hd 9 (by decide)
 replace eg10 : uy8 10 = .pointer (some ⟨g10, 0, none⟩) := eg10
 replace o10 : O4 y8 y7.heap.size g10 y1 := o10
 replace o10 := o10.mono hc.size
 replace o2 := OS.keep o2 hS
 replace o3 := OS.keep o3 hS
 replace o4 := OwnF.keep o4 hS
 replace o5 := O4.keep o5 hS
 replace o6 := O4.keep o6 hS
 replace o7 := O4.keep o7 hS
 replace o8 := O4.keep o8 hS
 replace HG := Lib.hid (HG.out.next hS)
 replace hc := bnx hc hS
 rw [eg9, eg10]
 clear hS hd eg9 eg10
 simp only [List.drop_succ_cons, List.drop_zero]
 go_upto_region 6 with fail
 refine wp_region_box 10 [some 56, some 57, some 58, some 59, some 60, some 61, some 11, some 12, none, none] [.val (nv wh), .val (nv be), .val (nv ox), .val (nv wh), .val (nv be), .val (nv oy), .box 35 4, .box 35 4, .holds 6 35 4 (wv ox), .holds 7 35 4 (wv oy)] y8.heap.size (fun wz => Below y8.heap.size y8 wz) (by kernel_rfl) (by kernel_rfl)
  (fun _ _ h _ hb => h.trans hb) ((Below.refl _ _).drew) (Nat.le_refl _) (fun u => by simp only [List.filterMap_cons, List.filterMap_nil, id, puts, List.foldl_cons, List.foldl_nil]; go_simp; exact rfl) ?_ ?_
 ·simp only [List.take_succ_cons, List.take_zero]
  refine .cons (fun u w L hL hS hBw hd => ?_) ?_
  ·exact GB.run 56 rfl (nv wh) rfl (run_nload rfl rfl (O4.keep o7 hS)) rfl rfl
  refine .cons (fun u w L hL hS hBw hd => ?_) ?_
  ·exact GB.run 57 rfl (nv be) rfl (run_nload rfl rfl (O4.keep o8 hS)) rfl rfl
  refine .cons (fun u w L hL hS hBw hd => ?_) ?_
  ·have d56 : u 56 = nv wh := depB hd 0 rfl
   rw [d56]
   have d57 : u 57 = nv be := depB hd 1 rfl
   rw [d57]
   refine GB.call 58 rfl 103 #[nv wh, nv be] rfl (by go_simp) rfl ((K13.out w).mono ?_)
   rintro e w' ⟨rfl, hb⟩
   exact ⟨_, rfl, rfl, hb⟩
  refine .cons (fun u w L hL hS hBw hd => ?_) ?_
  ·exact GB.run 59 rfl (nv wh) rfl (run_nload rfl rfl (O4.keep o7 hS)) rfl rfl
  refine .cons (fun u w L hL hS hBw hd => ?_) ?_
  ·exact GB.run 60 rfl (nv be) rfl (run_nload rfl rfl (O4.keep o8 hS)) rfl rfl
  refine .cons (fun u w L hL hS hBw hd => ?_) ?_
  ·have d59 : u 59 = nv wh := depB hd 3 rfl
   rw [d59]
   have d60 : u 60 = nv be := depB hd 4 rfl
   rw [d60]
   refine GB.call 61 rfl 102 #[nv wh, nv be] rfl (by go_simp) rfl ((K14.out w).mono ?_)
   rintro e w' ⟨rfl, hb⟩
   exact ⟨_, rfl, rfl, hb⟩
  refine .cons (fun u w L hL hS hBw hd => ?_) ?_
  ·exact GB.alloc 11 rfl rfl #[.int .u64 0, .int .u64 0, .int .u64 0, .int .u64 0] 35 4 (fun _ => .int .u64 0) rfl rfl (by go_simp) hBw (by decide) rfl
  refine .cons (fun u w L hL hS hBw hd => ?_) ?_
  ·exact GB.alloc 12 rfl rfl #[.int .u64 0, .int .u64 0, .int .u64 0, .int .u64 0] 35 4 (fun _ => .int .u64 0) rfl rfl (by go_simp) hBw (by decide) rfl
  refine .cons (fun u w L hL hS hBw hd => ?_) ?_
  ·have d58 : u 58 = nv ox := depB hd 2 rfl
   obtain ⟨g, fg, e11, o11⟩ : (Fact.box 35 4).ok y8.heap.size [some 56, some 57, some 58, some 59, some 60, some 61, some 11, some 12, none, none] 6 u w L := depB hd 6 rfl
   exact GB.store rfl 6 g 35 4 (wv ox) rfl rfl rfl e11 (run_nstore rfl (by exact e11) (by exact d58) o11) (only4 w g ox) (put4o o11 ox)
  refine .cons (fun u w L hL hS hBw hd => ?_) ?_
  ·have d61 : u 61 = nv oy := depB hd 5 rfl
   obtain ⟨g, fg, e12, o12⟩ : (Fact.box 35 4).ok y8.heap.size [some 56, some 57, some 58, some 59, some 60, some 61, some 11, some 12, none, none] 7 u w L := depB hd 7 rfl
   exact GB.store rfl 7 g 35 4 (wv oy) rfl rfl rfl e12 (run_nstore rfl (by exact e12) (by exact d61) o12) (only4 w g oy) (put4o o12 oy)
  exact ObsB.nil
 intro uy9 y9 hS hd
 obtain ⟨g11, eg11, o11⟩ : (Fact.holds 6 35 4 (wv ox)).ok y8.heap.size [some 56, some 57, some 58, some 59, some 60, some 61, some 11, some 12, none, none] 8 uy9 y9 (fun _ => true) := hd 8 (by decide)
 replace eg11 : uy9 11 = .pointer (some ⟨g11, 0, none⟩) := eg11
 replace o11 : O4 y9 y8.heap.size g11 ox := o11
 replace o11 := o11.mono hc.size
 obtain ⟨g12, eg12, o12⟩ : (Fact.holds 7 35 4 (wv oy)).ok y8.heap.size [some 56, some 57, some 58, some 59, some 60, some 61, some 11, some 12, none, none] 9 uy9 y9 (fun _ => true) := hd 9 (by decide)
 replace eg12 : uy9 12 = .pointer (some ⟨g12, 0, none⟩) := eg12
 replace o12 : O4 y9 y8.heap.size g12 oy := o12
 replace o12 := o12.mono hc.size
 replace o2 := OS.keep o2 hS
 replace o3 := OS.keep o3 hS
 replace o4 := OwnF.keep o4 hS
 replace o5 := O4.keep o5 hS
 replace o6 := O4.keep o6 hS
 replace o7 := O4.keep o7 hS
 replace o8 := O4.keep o8 hS
 replace o9 := O4.keep o9 hS
 replace o10 := O4.keep o10 hS
 replace HG := Lib.hid (HG.out.next hS)
 replace hc := bnx hc hS
 rw [eg11, eg12]
 clear hS hd eg11 eg12
 simp only [List.drop_succ_cons, List.drop_zero]
 go_upto_region 7 with fail
 refine wp_region_inv 13 [62, 63, 64, 65, 66, 67, 68, 69, 70, 71, 72, 73, 74] [.val (nv x1), .val (nv oy), .val (nv X), .val (nv y1), .val (nv ox), .val (nv Y), .val (nv ox), .val (nv oy), .val (nv Z), .val (nv x1), .val (nv y1), .val (nv T), .val (sv ⟨X, Y, Z, T⟩)] (fun wz => Below y9.heap.size y9 wz) (by kernel_rfl) (by kernel_rfl) (fun wz wz' hz hb => bnx hz hb) ((Below.refl _ _).drew) (fun u => by simp only [puts, List.foldl_cons, List.foldl_nil]; go_simp; exact rfl) ?_ ?_
 ·simp only [List.take_succ_cons, List.take_zero]
  refine .cons (fun u w hS hd => ?_) ?_
  ·exact Gv.run (nv x1) rfl (run_nload rfl rfl (O4.keep o9 hS)) rfl
  refine .cons (fun u w hS hd => ?_) ?_
  ·exact Gv.run (nv oy) rfl (run_nload rfl rfl (O4.keep o12 hS)) rfl
  refine .cons (fun u w hS hd => ?_) ?_
  ·have d62 : u 62 = nv x1 := dep hd 0 rfl
   rw [d62]
   have d63 : u 63 = nv oy := dep hd 1 rfl
   rw [d63]
   refine Gv.call 101 #[nv x1, nv oy] rfl (by go_simp) ((K15.out w).mono ?_)
   rintro e w' ⟨rfl, hb⟩
   exact ⟨_, rfl, rfl, hb⟩
  refine .cons (fun u w hS hd => ?_) ?_
  ·exact Gv.run (nv y1) rfl (run_nload rfl rfl (O4.keep o10 hS)) rfl
  refine .cons (fun u w hS hd => ?_) ?_
  ·exact Gv.run (nv ox) rfl (run_nload rfl rfl (O4.keep o11 hS)) rfl
  refine .cons (fun u w hS hd => ?_) ?_
  ·have d65 : u 65 = nv y1 := dep hd 3 rfl
   rw [d65]
   have d66 : u 66 = nv ox := dep hd 4 rfl
   rw [d66]
   refine Gv.call 101 #[nv y1, nv ox] rfl (by go_simp) ((K16.out w).mono ?_)
   rintro e w' ⟨rfl, hb⟩
   exact ⟨_, rfl, rfl, hb⟩
  refine .cons (fun u w hS hd => ?_) ?_
  ·exact Gv.run (nv ox) rfl (run_nload rfl rfl (O4.keep o11 hS)) rfl
  refine .cons (fun u w hS hd => ?_) ?_
  ·exact Gv.run (nv oy) rfl (run_nload rfl rfl (O4.keep o12 hS)) rfl
  refine .cons (fun u w hS hd => ?_) ?_
  ·have d68 : u 68 = nv ox := dep hd 6 rfl
   rw [d68]
   have d69 : u 69 = nv oy := dep hd 7 rfl
   rw [d69]
   refine Gv.call 101 #[nv ox, nv oy] rfl (by go_simp) ((K17.out w).mono ?_)
   rintro e w' ⟨rfl, hb⟩
   exact ⟨_, rfl, rfl, hb⟩
  refine .cons (fun u w hS hd => ?_) ?_
  ·exact Gv.run (nv x1) rfl (run_nload rfl rfl (O4.keep o9 hS)) rfl
  refine .cons (fun u w hS hd => ?_) ?_
  ·exact Gv.run (nv y1) rfl (run_nload rfl rfl (O4.keep o10 hS)) rfl
  refine .cons (fun u w hS hd => ?_) ?_
  ·have d71 : u 71 = nv x1 := dep hd 9 rfl
   rw [d71]
   have d72 : u 72 = nv y1 := dep hd 10 rfl
   rw [d72]
   refine Gv.call 101 #[nv x1, nv y1] rfl (by go_simp) ((K18.out w).mono ?_)
   rintro e w' ⟨rfl, hb⟩
   exact ⟨_, rfl, rfl, hb⟩
  refine .cons (fun u w hS hd => ?_) ?_
  ·have d64 : u 64 = nv X := dep hd 2 rfl
   rw [d64]
   have d67 : u 67 = nv Y := dep hd 5 rfl
   rw [d67]
   have d70 : u 70 = nv Z := dep hd 8 rfl
   rw [d70]
   have d73 : u 73 = nv T := dep hd 11 rfl
   rw [d73]
   exact Gv.run (sv ⟨X, Y, Z, T⟩) rfl (run_Sbuild rfl rfl rfl rfl rfl) rfl
  exact Obs.nil
 intro uy10 y10 hS hd
 have d74 : uy10 74 = sv ⟨X, Y, Z, T⟩ := hd 12 (by decide)
 rw [d74]
 replace o2 := OS.keep o2 hS
 replace o3 := OS.keep o3 hS
 replace o4 := OwnF.keep o4 hS
 replace o5 := O4.keep o5 hS
 replace o6 := O4.keep o6 hS
 replace o7 := O4.keep o7 hS
 replace o8 := O4.keep o8 hS
 replace o9 := O4.keep o9 hS
 replace o10 := O4.keep o10 hS
 replace o11 := O4.keep o11 hS
 replace o12 := O4.keep o12 hS
 replace HG := Lib.hid (HG.out.next hS)
 replace hc := bnx hc hS
 clear hS hd d74
 simp only [List.drop_succ_cons, List.drop_zero]
 have hfb := Lib.hid (hc.trans (s_below o4 (⟨X, Y, Z, T⟩)))
 have HR := Lib.hid (s_put o4 (⟨X, Y, Z, T⟩))
 go_wp2_with ((with_reducible refine s_store o4 (⟨X, Y, Z, T⟩) ?_ ?_ ?_); rfl; rfl)
 exact bodyPost_ret (s_res Tryz.results72 _ HR.out rfl) rfl ⟨rfl, hfb.out⟩
end
end Go.Proofs.YtkbkalhcdbklkaaGreatDoor
