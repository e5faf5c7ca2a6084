/-
  Layer 8's laws CurveIs, CurveSmalls over contracts. Written by tools/gen_e17.py. By an AI agent.
-/
import Derived.Test.YtckdifcelgooeaaDoorE16
import Derived.Test.YtckdifcelgooeaaDoorTB
import Derived.Test.YtckdifcelgooeaaDoorTB
namespace Go.Proofs.YtckdifcelgooeaaDoor
open Go Go.RowKit
section
attribute [local irreducible] wd by8 d16 set16w fl rl setA t3f set8p set4w
set_option maxRecDepth 20000
set_option maxHeartbeats 6400000 in
theorem is_gen {G : World → Prop} (hGn : ∀ w w', G w → Below w.heap.size w w' → G w') {x y d D X Y : Nat} {t : Tr} {q : Bool} (hdW : d < W4) (hX : X < W4) (hY : Y < W4) (hdq : decide (d = d) = true) (hXX : (decide (X = X) && decide (Y = Y)) = true)
    (k1 : ∀ w, G w → Calls Tryd.prog 12 #[prv x y] w fun e w' => e = .returned (.bool q) ∧ Below w.heap.size w w')
    (k2 : ∀ w, Calls Tryd.prog 13 #[prv x y] w fun e w' => e = .returned (.bool q) ∧ Below w.heap.size w w')
    (k3 : ∀ w, G w → Calls Tryd.prog 14 #[] w fun e w' => e = .returned (nv d) ∧ Below w.heap.size w w')
    (k4 : ∀ w, Calls Tryd.prog 15 #[] w fun e w' => e = .returned (fv D) ∧ Below w.heap.size w w')
    (k5 : ∀ w, Calls Tryd.prog 16 #[fv D] w fun e w' => e = .returned (nv d) ∧ Below w.heap.size w w')
    (k6 : ∀ w, G w → Calls Tryd.prog 17 #[] w fun e w' => e = .returned (prv X Y) ∧ Below w.heap.size w w')
    (k7 : ∀ w, Calls Tryd.prog 18 #[] w fun e w' => e = .returned (t3v t) ∧ Below w.heap.size w w')
    (k8 : ∀ w, Calls Tryd.prog 19 #[t3v t] w fun e w' => e = .returned (prv X Y) ∧ Below w.heap.size w w')
    (k9 : ∀ w, G w → Calls Tryd.prog 20 #[] w fun e w' => e = .returned (.bool true) ∧ Below w.heap.size w w')
    (w : World) (hG : G w) : Calls Tryd.prog 3 #[prv x y] w fun e w' => e = .returned (.bool true) ∧ Below w.heap.size w w' := by
  have K1 := Lib.hid k1
  have K2 := Lib.hid k2
  have K3 := Lib.hid k3
  have K4 := Lib.hid k4
  have K5 := Lib.hid k5
  have K6 := Lib.hid k6
  have K7 := Lib.hid k7
  have K8 := Lib.hid k8
  have K9 := Lib.hid k9
  have GN := Lib.hid hGn
  have HG := Lib.hid hG
  clear hGn hG k1 k2 k3 k4 k5 k6 k7 k8 k9
  obtain ⟨v1, ev1⟩ : ∃ v, v = w.alloc (A8p x y) := ⟨_, rfl⟩
  have bv1 : Below w.heap.size w v1 := by rw [ev1]; exact (Below.refl _ _).alloc (Nat.le_refl _) _
  have sv1 : v1.heap.size = w.heap.size + 1 := by rw [ev1]; simp
  obtain ⟨g1, eg1⟩ : ∃ g, g = w.heap.size := ⟨_, rfl⟩
  have o1 : O8 v1 w.heap.size g1 x y := by rw [eg1, ev1]; exact O8.new (Nat.le_refl _) x y
  have hc := bv1
  have hs1 := hc.size
  go_enter Tryd.func3, Tryd.ntmps3
  go_upto_region 1 with fail
  rw [← ev1]
  rw [show Value.pointer (some ⟨w.heap.size, 0, none⟩) = .pointer (some ⟨g1, 0, none⟩) by rw [eg1]]
  clear ev1 bv1 sv1 eg1 hs1
  replace HG := Lib.hid (GN.out _ _ HG.out hc)
  refine wp_region_inv 20 [3, 4, 5, 6, 7, 8, 9, 10, 11, 12, 13, 14, 15, 16, 17, 18, 19, 20, 21, 22] [.val (prv x y), .val (.bool q), .val (prv x y), .val (.bool q), .val (.bool true), .val (.bool true), .val (nv d), .val (fv D), .val (nv d), .val (.bool true), .val (.bool true), .val (.bool true), .val (prv X Y), .val (t3v t), .val (prv X Y), .val (.bool true), .val (.bool true), .val (.bool true), .val (.bool true), .val (.bool true)] (fun wz => Below v1.heap.size v1 wz) (by kernel_rfl) (by kernel_rfl) (fun wz wz' hz hb => hz.trans (hb.mono hz.size)) ((Below.refl _ _).drew) (fun u => by simp only [puts, List.foldl_cons, List.foldl_nil]; go_simp; exact rfl) ?_ ?_
  · simp only [List.take_succ_cons, List.take_zero]
    refine Obs.cons (fun u w hS hd => ?_) ?_
    · exact Gv.run (prv x y) rfl (run_pload rfl rfl (O8.keep o1 hS)) rfl
    refine Obs.cons (fun u w hS hd => ?_) ?_
    · have d3 : u 3 = prv x y := dep hd 0 rfl
      rw [d3]
      refine Gv.call 12 #[prv x y] rfl (by go_simp) ((K1.out w (GN.out _ _ HG.out hS)).mono ?_)
      rintro e w' ⟨rfl, hb⟩
      exact ⟨_, rfl, rfl, hb⟩
    refine Obs.cons (fun u w hS hd => ?_) ?_
    · exact Gv.run (prv x y) rfl (run_pload rfl rfl (O8.keep o1 hS)) rfl
    refine Obs.cons (fun u w hS hd => ?_) ?_
    · have d5 : u 5 = prv x y := dep hd 2 rfl
      rw [d5]
      refine Gv.call 13 #[prv x y] rfl (by go_simp) ((K2.out w).mono ?_)
      rintro e w' ⟨rfl, hb⟩
      exact ⟨_, rfl, rfl, hb⟩
    refine Obs.cons (fun u w hS hd => ?_) ?_
    · have d4 : u 4 = .bool q := dep hd 1 rfl
      rw [d4]
      have d6 : u 6 = .bool q := dep hd 3 rfl
      rw [d6]
      exact Gv.run (.bool true) rfl (by go_simp) rfl
    refine Obs.cons (fun u w hS hd => ?_) ?_
    · have d7 : u 7 = .bool true := dep hd 4 rfl
      rw [d7]
      exact Gv.run (.bool true) rfl (by go_simp) rfl
    refine Obs.cons (fun u w hS hd => ?_) ?_
    · have d8 : u 8 = .bool true := dep hd 5 rfl
      rw [d8]
      refine Gv.call 14 #[] rfl (by go_simp) ((K3.out w (GN.out _ _ HG.out hS)).mono ?_)
      rintro e w' ⟨rfl, hb⟩
      exact ⟨_, rfl, rfl, hb⟩
    refine Obs.cons (fun u w hS hd => ?_) ?_
    · have d8 : u 8 = .bool true := dep hd 5 rfl
      rw [d8]
      refine Gv.call 15 #[] rfl (by go_simp) ((K4.out w).mono ?_)
      rintro e w' ⟨rfl, hb⟩
      exact ⟨_, rfl, rfl, hb⟩
    refine Obs.cons (fun u w hS hd => ?_) ?_
    · have d8 : u 8 = .bool true := dep hd 5 rfl
      rw [d8]
      have d10 : u 10 = fv D := dep hd 7 rfl
      rw [d10]
      refine Gv.call 16 #[fv D] rfl (by go_simp) ((K5.out w).mono ?_)
      rintro e w' ⟨rfl, hb⟩
      exact ⟨_, rfl, rfl, hb⟩
    refine Obs.cons (fun u w hS hd => ?_) ?_
    · have d8 : u 8 = .bool true := dep hd 5 rfl
      rw [d8]
      have d9 : u 9 = nv d := dep hd 6 rfl
      rw [d9]
      have d11 : u 11 = nv d := dep hd 8 rfl
      rw [d11]
      exact Gv.run (.bool true) rfl (run_eq4 rfl rfl rfl hdW hdW hdq w) rfl
    refine Obs.cons (fun u w hS hd => ?_) ?_
    · have d8 : u 8 = .bool true := dep hd 5 rfl
      rw [d8]
      have d12 : u 12 = .bool true := dep hd 9 rfl
      rw [d12]
      exact Gv.run (.bool true) rfl (by go_simp) rfl
    refine Obs.cons (fun u w hS hd => ?_) ?_
    · have d13 : u 13 = .bool true := dep hd 10 rfl
      rw [d13]
      exact Gv.run (.bool true) rfl (by go_simp) rfl
    refine Obs.cons (fun u w hS hd => ?_) ?_
    · have d14 : u 14 = .bool true := dep hd 11 rfl
      rw [d14]
      refine Gv.call 17 #[] rfl (by go_simp) ((K6.out w (GN.out _ _ HG.out hS)).mono ?_)
      rintro e w' ⟨rfl, hb⟩
      exact ⟨_, rfl, rfl, hb⟩
    refine Obs.cons (fun u w hS hd => ?_) ?_
    · have d14 : u 14 = .bool true := dep hd 11 rfl
      rw [d14]
      refine Gv.call 18 #[] rfl (by go_simp) ((K7.out w).mono ?_)
      rintro e w' ⟨rfl, hb⟩
      exact ⟨_, rfl, rfl, hb⟩
    refine Obs.cons (fun u w hS hd => ?_) ?_
    · have d14 : u 14 = .bool true := dep hd 11 rfl
      rw [d14]
      have d16 : u 16 = t3v t := dep hd 13 rfl
      rw [d16]
      refine Gv.call 19 #[t3v t] rfl (by go_simp) ((K8.out w).mono ?_)
      rintro e w' ⟨rfl, hb⟩
      exact ⟨_, rfl, rfl, hb⟩
    refine Obs.cons (fun u w hS hd => ?_) ?_
    · have d14 : u 14 = .bool true := dep hd 11 rfl
      rw [d14]
      have d15 : u 15 = prv X Y := dep hd 12 rfl
      rw [d15]
      have d17 : u 17 = prv X Y := dep hd 14 rfl
      rw [d17]
      exact Gv.run (.bool true) (by rfl) (run_eqT rfl rfl rfl hX hY hX hY hXX w) rfl
    refine Obs.cons (fun u w hS hd => ?_) ?_
    · have d14 : u 14 = .bool true := dep hd 11 rfl
      rw [d14]
      have d18 : u 18 = .bool true := dep hd 15 rfl
      rw [d18]
      exact Gv.run (.bool true) rfl (by go_simp) rfl
    refine Obs.cons (fun u w hS hd => ?_) ?_
    · have d19 : u 19 = .bool true := dep hd 16 rfl
      rw [d19]
      exact Gv.run (.bool true) rfl (by go_simp) rfl
    refine Obs.cons (fun u w hS hd => ?_) ?_
    · have d20 : u 20 = .bool true := dep hd 17 rfl
      rw [d20]
      refine Gv.call 20 #[] rfl (by go_simp) ((K9.out w (GN.out _ _ HG.out hS)).mono ?_)
      rintro e w' ⟨rfl, hb⟩
      exact ⟨_, rfl, rfl, hb⟩
    refine Obs.cons (fun u w hS hd => ?_) ?_
    · have d20 : u 20 = .bool true := dep hd 17 rfl
      rw [d20]
      have d21 : u 21 = .bool true := dep hd 18 rfl
      rw [d21]
      exact Gv.run (.bool true) rfl (by go_simp) rfl
    exact Obs.nil
  intro uy2 y2 hS hd
  have d22 : uy2 22 = .bool true := hd 19 (by decide)
  rw [d22]
  replace o1 := O8.keep o1 hS
  replace hc := hc.trans (hS.mono hc.size)
  clear hS hd d22
  simp only [List.drop_succ_cons, List.drop_zero]
  go_wp2_with fail
  go_ret
  exact ⟨rfl, hc⟩
set_option maxHeartbeats 6400000 in
theorem smalls_a {G : World → Prop} (hGn : ∀ w w', G w → Below w.heap.size w w' → G w') {x y : Nat} 
    (k1 : ∀ w, G w → Calls Tryd.prog 21 #[prv x y] w fun e w' => e = .returned (.bool false) ∧ Below w.heap.size w w')
    (k2 : ∀ w, Calls Tryd.prog 13 #[prv x y] w fun e w' => e = .returned (.bool false) ∧ Below w.heap.size w w')
    (k9 : ∀ w, G w → Calls Tryd.prog 20 #[] w fun e w' => e = .returned (.bool true) ∧ Below w.heap.size w w')
    (w : World) (hG : G w) : Calls Tryd.prog 4 #[prv x y] w fun e w' => e = .returned (.bool true) ∧ Below w.heap.size w w' := by
  have K1 := Lib.hid k1
  have K2 := Lib.hid k2
  have K9 := Lib.hid k9
  have GN := Lib.hid hGn
  have HG := Lib.hid hG
  clear hGn hG k1 k2 k9
  obtain ⟨v1, ev1⟩ : ∃ v, v = w.alloc (A8p x y) := ⟨_, rfl⟩
  have bv1 : Below w.heap.size w v1 := by rw [ev1]; exact (Below.refl _ _).alloc (Nat.le_refl _) _
  have sv1 : v1.heap.size = w.heap.size + 1 := by rw [ev1]; simp
  obtain ⟨g1, eg1⟩ : ∃ g, g = w.heap.size := ⟨_, rfl⟩
  have o1 : O8 v1 w.heap.size g1 x y := by rw [eg1, ev1]; exact O8.new (Nat.le_refl _) x y
  have hc := bv1
  have hs1 := hc.size
  go_enter Tryd.func4, Tryd.ntmps4
  go_upto_region 1 with fail
  rw [← ev1]
  rw [show Value.pointer (some ⟨w.heap.size, 0, none⟩) = .pointer (some ⟨g1, 0, none⟩) by rw [eg1]]
  clear ev1 bv1 sv1 eg1 hs1
  replace HG := Lib.hid (GN.out _ _ HG.out hc)
  refine wp_region_inv 13 [3, 4, 5, 6, 7, 8, 9, 10, 11, 12, 13, 14, 15] [.val (prv x y), .val (.bool false), .val (prv x y), .val (.bool false), .val (.bool false), .val (undef), .val (undef), .val (undef), .val (.bool false), .val (.bool true), .val (.bool true), .val (.bool true), .val (.bool true)] (fun wz => Below v1.heap.size v1 wz) (by kernel_rfl) (by kernel_rfl) (fun wz wz' hz hb => hz.trans (hb.mono hz.size)) ((Below.refl _ _).drew) (fun u => by simp only [puts, List.foldl_cons, List.foldl_nil]; go_simp; exact rfl) ?_ ?_
  · simp only [List.take_succ_cons, List.take_zero]
    refine Obs.cons (fun u w hS hd => ?_) ?_
    · exact Gv.run (prv x y) rfl (run_pload rfl rfl (O8.keep o1 hS)) rfl
    refine Obs.cons (fun u w hS hd => ?_) ?_
    · have d3 : u 3 = prv x y := dep hd 0 rfl
      rw [d3]
      refine Gv.call 21 #[prv x y] rfl (by go_simp) ((K1.out w (GN.out _ _ HG.out hS)).mono ?_)
      rintro e w' ⟨rfl, hb⟩
      exact ⟨_, rfl, rfl, hb⟩
    refine Obs.cons (fun u w hS hd => ?_) ?_
    · exact Gv.run (prv x y) rfl (run_pload rfl rfl (O8.keep o1 hS)) rfl
    refine Obs.cons (fun u w hS hd => ?_) ?_
    · have d5 : u 5 = prv x y := dep hd 2 rfl
      rw [d5]
      refine Gv.call 13 #[prv x y] rfl (by go_simp) ((K2.out w).mono ?_)
      rintro e w' ⟨rfl, hb⟩
      exact ⟨_, rfl, rfl, hb⟩
    refine Obs.cons (fun u w hS hd => ?_) ?_
    · have d6 : u 6 = .bool false := dep hd 3 rfl
      rw [d6]
      exact Gv.run (.bool false) rfl (by go_simp) rfl
    refine Obs.cons (fun u w hS hd => ?_) ?_
    · have d7 : u 7 = .bool false := dep hd 4 rfl
      rw [d7]
      exact Gv.skip (by rfl) rfl
    refine Obs.cons (fun u w hS hd => ?_) ?_
    · have d7 : u 7 = .bool false := dep hd 4 rfl
      rw [d7]
      exact Gv.skip (by rfl) rfl
    refine Obs.cons (fun u w hS hd => ?_) ?_
    · have d7 : u 7 = .bool false := dep hd 4 rfl
      rw [d7]
      exact Gv.skip (by rfl) rfl
    refine Obs.cons (fun u w hS hd => ?_) ?_
    · have d7 : u 7 = .bool false := dep hd 4 rfl
      rw [d7]
      have d10 : u 10 = undef := dep hd 7 rfl
      rw [d10]
      exact Gv.run (.bool false) rfl (by go_simp) rfl
    refine Obs.cons (fun u w hS hd => ?_) ?_
    · have d4 : u 4 = .bool false := dep hd 1 rfl
      rw [d4]
      have d11 : u 11 = .bool false := dep hd 8 rfl
      rw [d11]
      exact Gv.run (.bool true) rfl (by go_simp) rfl
    refine Obs.cons (fun u w hS hd => ?_) ?_
    · have d12 : u 12 = .bool true := dep hd 9 rfl
      rw [d12]
      exact Gv.run (.bool true) rfl (by go_simp) rfl
    refine Obs.cons (fun u w hS hd => ?_) ?_
    · have d13 : u 13 = .bool true := dep hd 10 rfl
      rw [d13]
      refine Gv.call 20 #[] rfl (by go_simp) ((K9.out w (GN.out _ _ HG.out hS)).mono ?_)
      rintro e w' ⟨rfl, hb⟩
      exact ⟨_, rfl, rfl, hb⟩
    refine Obs.cons (fun u w hS hd => ?_) ?_
    · have d13 : u 13 = .bool true := dep hd 10 rfl
      rw [d13]
      have d14 : u 14 = .bool true := dep hd 11 rfl
      rw [d14]
      exact Gv.run (.bool true) rfl (by go_simp) rfl
    exact Obs.nil
  intro uy2 y2 hS hd
  have d15 : uy2 15 = .bool true := hd 12 (by decide)
  rw [d15]
  replace o1 := O8.keep o1 hS
  replace hc := hc.trans (hS.mono hc.size)
  clear hS hd d15
  simp only [List.drop_succ_cons, List.drop_zero]
  go_wp2_with fail
  go_ret
  exact ⟨rfl, hc⟩
set_option maxHeartbeats 6400000 in
theorem smalls_b {G : World → Prop} (hGn : ∀ w w', G w → Below w.heap.size w w' → G w') {x y : Nat} {t : Tr} {q : Bool}
    (k1 : ∀ w, G w → Calls Tryd.prog 21 #[prv x y] w fun e w' => e = .returned (.bool q) ∧ Below w.heap.size w w')
    (k2 : ∀ w, Calls Tryd.prog 13 #[prv x y] w fun e w' => e = .returned (.bool true) ∧ Below w.heap.size w w')
    (k9 : ∀ w, G w → Calls Tryd.prog 20 #[] w fun e w' => e = .returned (.bool true) ∧ Below w.heap.size w w')
    (k3 : ∀ w, Calls Tryd.prog 23 #[prv x y] w fun e w' => e = .returned (t3v t) ∧ Below w.heap.size w w')
    (k4 : ∀ w, Calls Tryd.prog 22 #[t3v t] w fun e w' => e = .returned (.bool q) ∧ Below w.heap.size w w')
    (w : World) (hG : G w) : Calls Tryd.prog 4 #[prv x y] w fun e w' => e = .returned (.bool true) ∧ Below w.heap.size w w' := by
  have K1 := Lib.hid k1
  have K2 := Lib.hid k2
  have K9 := Lib.hid k9
  have K3 := Lib.hid k3
  have K4 := Lib.hid k4
  have GN := Lib.hid hGn
  have HG := Lib.hid hG
  clear hGn hG k1 k2 k9 k3 k4
  obtain ⟨v1, ev1⟩ : ∃ v, v = w.alloc (A8p x y) := ⟨_, rfl⟩
  have bv1 : Below w.heap.size w v1 := by rw [ev1]; exact (Below.refl _ _).alloc (Nat.le_refl _) _
  have sv1 : v1.heap.size = w.heap.size + 1 := by rw [ev1]; simp
  obtain ⟨g1, eg1⟩ : ∃ g, g = w.heap.size := ⟨_, rfl⟩
  have o1 : O8 v1 w.heap.size g1 x y := by rw [eg1, ev1]; exact O8.new (Nat.le_refl _) x y
  have hc := bv1
  have hs1 := hc.size
  go_enter Tryd.func4, Tryd.ntmps4
  go_upto_region 1 with fail
  rw [← ev1]
  rw [show Value.pointer (some ⟨w.heap.size, 0, none⟩) = .pointer (some ⟨g1, 0, none⟩) by rw [eg1]]
  clear ev1 bv1 sv1 eg1 hs1
  replace HG := Lib.hid (GN.out _ _ HG.out hc)
  refine wp_region_inv 13 [3, 4, 5, 6, 7, 8, 9, 10, 11, 12, 13, 14, 15] [.val (prv x y), .val (.bool q), .val (prv x y), .val (.bool true), .val (.bool true), .val (prv x y), .val (t3v t), .val (.bool q), .val (.bool q), .val (.bool true), .val (.bool true), .val (.bool true), .val (.bool true)] (fun wz => Below v1.heap.size v1 wz) (by kernel_rfl) (by kernel_rfl) (fun wz wz' hz hb => hz.trans (hb.mono hz.size)) ((Below.refl _ _).drew) (fun u => by simp only [puts, List.foldl_cons, List.foldl_nil]; go_simp; exact rfl) ?_ ?_
  · simp only [List.take_succ_cons, List.take_zero]
    refine Obs.cons (fun u w hS hd => ?_) ?_
    · exact Gv.run (prv x y) rfl (run_pload rfl rfl (O8.keep o1 hS)) rfl
    refine Obs.cons (fun u w hS hd => ?_) ?_
    · have d3 : u 3 = prv x y := dep hd 0 rfl
      rw [d3]
      refine Gv.call 21 #[prv x y] rfl (by go_simp) ((K1.out w (GN.out _ _ HG.out hS)).mono ?_)
      rintro e w' ⟨rfl, hb⟩
      exact ⟨_, rfl, rfl, hb⟩
    refine Obs.cons (fun u w hS hd => ?_) ?_
    · exact Gv.run (prv x y) rfl (run_pload rfl rfl (O8.keep o1 hS)) rfl
    refine Obs.cons (fun u w hS hd => ?_) ?_
    · have d5 : u 5 = prv x y := dep hd 2 rfl
      rw [d5]
      refine Gv.call 13 #[prv x y] rfl (by go_simp) ((K2.out w).mono ?_)
      rintro e w' ⟨rfl, hb⟩
      exact ⟨_, rfl, rfl, hb⟩
    refine Obs.cons (fun u w hS hd => ?_) ?_
    · have d6 : u 6 = .bool true := dep hd 3 rfl
      rw [d6]
      exact Gv.run (.bool true) rfl (by go_simp) rfl
    refine Obs.cons (fun u w hS hd => ?_) ?_
    · have d7 : u 7 = .bool true := dep hd 4 rfl
      rw [d7]
      exact Gv.run (prv x y) (by rfl) (run_pload rfl rfl (O8.keep o1 hS)) rfl
    refine Obs.cons (fun u w hS hd => ?_) ?_
    · have d7 : u 7 = .bool true := dep hd 4 rfl
      rw [d7]
      have d8 : u 8 = prv x y := dep hd 5 rfl
      rw [d8]
      refine Gv.call 23 #[prv x y] rfl (by go_simp) ((K3.out w).mono ?_)
      rintro e w' ⟨rfl, hb⟩
      exact ⟨_, rfl, rfl, hb⟩
    refine Obs.cons (fun u w hS hd => ?_) ?_
    · have d7 : u 7 = .bool true := dep hd 4 rfl
      rw [d7]
      have d9 : u 9 = t3v t := dep hd 6 rfl
      rw [d9]
      refine Gv.call 22 #[t3v t] rfl (by go_simp) ((K4.out w).mono ?_)
      rintro e w' ⟨rfl, hb⟩
      exact ⟨_, rfl, rfl, hb⟩
    refine Obs.cons (fun u w hS hd => ?_) ?_
    · have d7 : u 7 = .bool true := dep hd 4 rfl
      rw [d7]
      have d10 : u 10 = .bool q := dep hd 7 rfl
      rw [d10]
      exact Gv.run (.bool q) rfl (by go_simp) rfl
    refine Obs.cons (fun u w hS hd => ?_) ?_
    · have d4 : u 4 = .bool q := dep hd 1 rfl
      rw [d4]
      have d11 : u 11 = .bool q := dep hd 8 rfl
      rw [d11]
      exact Gv.run (.bool true) rfl (by go_simp) rfl
    refine Obs.cons (fun u w hS hd => ?_) ?_
    · have d12 : u 12 = .bool true := dep hd 9 rfl
      rw [d12]
      exact Gv.run (.bool true) rfl (by go_simp) rfl
    refine Obs.cons (fun u w hS hd => ?_) ?_
    · have d13 : u 13 = .bool true := dep hd 10 rfl
      rw [d13]
      refine Gv.call 20 #[] rfl (by go_simp) ((K9.out w (GN.out _ _ HG.out hS)).mono ?_)
      rintro e w' ⟨rfl, hb⟩
      exact ⟨_, rfl, rfl, hb⟩
    refine Obs.cons (fun u w hS hd => ?_) ?_
    · have d13 : u 13 = .bool true := dep hd 10 rfl
      rw [d13]
      have d14 : u 14 = .bool true := dep hd 11 rfl
      rw [d14]
      exact Gv.run (.bool true) rfl (by go_simp) rfl
    exact Obs.nil
  intro uy2 y2 hS hd
  have d15 : uy2 15 = .bool true := hd 12 (by decide)
  rw [d15]
  replace o1 := O8.keep o1 hS
  replace hc := hc.trans (hS.mono hc.size)
  clear hS hd d15
  simp only [List.drop_succ_cons, List.drop_zero]
  go_wp2_with fail
  go_ret
  exact ⟨rfl, hc⟩
end
end Go.Proofs.YtckdifcelgooeaaDoor
