/-
  Layer 8's CurveAdds over contracts. Written by tools/gen_e18.py. By an AI agent.
-/
import Derived.Test.YtckdifcelgooeaaDoorE16
import Derived.Test.YtckdifcelgooeaaDoorTB
import Derived.Test.YtckdifcelgooeaaDoorTB
import Derived.Test.YtckdifcelgooeaaDoorSeq
namespace Go.Proofs.YtckdifcelgooeaaDoor
open Go Go.RowKit
section
attribute [local irreducible] wd by8 d16 set16w fl rl setA t3f set8p set4w
set_option maxRecDepth 20000
theorem W4_one : 1 < W4 := lt_W P25_one
set_option maxHeartbeats 6400000 in
theorem adds_a {G : World → Prop} (hGn : ∀ w w', G w → Below w.heap.size w w' → G w') {x y m n : Nat}
    (k1 : ∀ w, G w → Calls Tryd.prog 24 #[prv x y, prv m n] w fun e w' => e = .returned (.tuple #[prv 0 0, .int .i64 7]) ∧ Below w.heap.size w w')
    (k2 : ∀ w, G w → Calls Tryd.prog 25 #[prv x y] w fun e w' => e = .returned (.tuple #[prv 0 0, .int .i64 7]) ∧ Below w.heap.size w w')
    (k3 : ∀ w, Calls Tryd.prog 13 #[prv x y] w fun e w' => e = .returned (.bool false) ∧ Below w.heap.size w w')
    (k9 : ∀ w, G w → Calls Tryd.prog 20 #[] w fun e w' => e = .returned (.bool true) ∧ Below w.heap.size w w')
    (w : World) (hG : G w) : Calls Tryd.prog 5 #[prv x y, prv m n] w fun e w' => e = .returned (.bool true) ∧ Below w.heap.size w w' := by
  have K1 := Lib.hid k1
  have K2 := Lib.hid k2
  have K3 := Lib.hid k3
  have K9 := Lib.hid k9
  have GN := Lib.hid hGn
  have HG := Lib.hid hG
  clear hGn hG k1 k2 k3 k9
  obtain ⟨v1, ev1⟩ : ∃ v, v = w.alloc (A8p x y) := ⟨_, rfl⟩
  have bv1 : Below w.heap.size w v1 := by rw [ev1]; exact (Below.refl _ _).alloc (Nat.le_refl _) _
  have sv1 : v1.heap.size = w.heap.size + 1 := by rw [ev1]; simp
  obtain ⟨g2, eg2⟩ : ∃ g, g = w.heap.size := ⟨_, rfl⟩
  have o2 : O8 v1 w.heap.size g2 x y := by rw [eg2, ev1]; exact O8.new (Nat.le_refl _) x y
  have hc := bv1
  have hs1 := hc.size
  obtain ⟨v2, ev2⟩ : ∃ v, v = v1.alloc (A8p m n) := ⟨_, rfl⟩
  have bv2 : Below v1.heap.size v1 v2 := by rw [ev2]; exact (Below.refl _ _).alloc (Nat.le_refl _) _
  have sv2 : v2.heap.size = v1.heap.size + 1 := by rw [ev2]; simp
  obtain ⟨g3, eg3⟩ : ∃ g, g = v1.heap.size := ⟨_, rfl⟩
  have o3 : O8 v2 v1.heap.size g3 m n := by rw [eg3, ev2]; exact O8.new (Nat.le_refl _) m n
  replace o2 := o2.keep bv2
  replace hc := hc.trans (bv2.mono hc.size)
  replace o3 := o3.mono hs1
  have hs2 := hc.size
  go_enter Tryd.func5, Tryd.ntmps5
  go_upto_region 1 with fail
  rw [← ev1, ← ev2]
  rw [show Value.pointer (some ⟨w.heap.size, 0, none⟩) = .pointer (some ⟨g2, 0, none⟩) by rw [eg2]]
  rw [show Value.pointer (some ⟨w.heap.size + 1, 0, none⟩) = .pointer (some ⟨g3, 0, none⟩) by rw [eg3, sv1]]
  clear ev1 bv1 sv1 ev2 bv2 sv2 eg2 eg3 hs1 hs2
  replace HG := Lib.hid (GN.out _ _ HG.out hc)
  go_wp2_with (first | ((with_reducible refine p_load o2 ?_ ?_); rfl) | ((with_reducible refine p_load o3 ?_ ?_); rfl))
  go_at_call 24
  refine (K1.out _ HG.out).mono ?_
  rintro e y3 ⟨rfl, h0⟩
  replace o2 := O8.keep o2 h0
  replace o3 := O8.keep o3 h0
  replace HG := Lib.hid (GN.out _ _ HG.out h0)
  replace hc := hc.trans (h0.mono hc.size)
  clear h0
  have on0 := O8.newz (w := y3) (Nat.le_refl _)
  have o5 := (on0.put 0 0).mono hc.size
  have hbz := ((Below.refl _ y3).alloc (Nat.le_refl _) Z8p).trans (on0.below 0 0)
  replace o2 := O8.keep o2 hbz
  replace o3 := O8.keep o3 hbz
  replace HG := Lib.hid (GN.out _ _ HG.out hbz)
  replace hc := hc.trans (hbz.mono hc.size)
  clear hbz
  go_upto_region 2 with ((with_reducible refine p_store on0 0 0 ?_ ?_ ?_); rfl; rfl)
  obtain ⟨y4, ev⟩ : ∃ v, v = set8p (y3.alloc Z8p) y3.heap.size 0 0 := ⟨_, rfl⟩
  obtain ⟨g5, eg⟩ : ∃ g, g = y3.heap.size := ⟨_, rfl⟩
  rw [← ev] at o2 o3 o5 hc ⊢
  have HG2 : G y4 := by rw [ev]; exact HG.out
  replace HG := Lib.hid HG2
  clear HG2
  rw [← eg] at o5 ⊢
  clear ev eg on0
  go_wp2_with (first | ((with_reducible refine p_load o2 ?_ ?_); rfl) | ((with_reducible refine p_load o3 ?_ ?_); rfl) | ((with_reducible refine p_load o5 ?_ ?_); rfl))
  go_at_call 25
  refine (K2.out _ HG.out).mono ?_
  rintro e y5 ⟨rfl, h0⟩
  replace o2 := O8.keep o2 h0
  replace o3 := O8.keep o3 h0
  replace o5 := O8.keep o5 h0
  replace HG := Lib.hid (GN.out _ _ HG.out h0)
  replace hc := hc.trans (h0.mono hc.size)
  clear h0
  have on0 := O8.newz (w := y5) (Nat.le_refl _)
  have o7 := (on0.put 0 0).mono hc.size
  have hbz := ((Below.refl _ y5).alloc (Nat.le_refl _) Z8p).trans (on0.below 0 0)
  replace o2 := O8.keep o2 hbz
  replace o3 := O8.keep o3 hbz
  replace o5 := O8.keep o5 hbz
  replace HG := Lib.hid (GN.out _ _ HG.out hbz)
  replace hc := hc.trans (hbz.mono hc.size)
  clear hbz
  go_upto_region 3 with ((with_reducible refine p_store on0 0 0 ?_ ?_ ?_); rfl; rfl)
  obtain ⟨y6, ev⟩ : ∃ v, v = set8p (y5.alloc Z8p) y5.heap.size 0 0 := ⟨_, rfl⟩
  obtain ⟨g7, eg⟩ : ∃ g, g = y5.heap.size := ⟨_, rfl⟩
  rw [← ev] at o2 o3 o5 o7 hc ⊢
  have HG2 : G y6 := by rw [ev]; exact HG.out
  replace HG := Lib.hid HG2
  clear HG2
  rw [← eg] at o7 ⊢
  clear ev eg on0
  go_wp2_with (first | ((with_reducible refine p_load o2 ?_ ?_); rfl) | ((with_reducible refine p_load o3 ?_ ?_); rfl) | ((with_reducible refine p_load o5 ?_ ?_); rfl) | ((with_reducible refine p_load o7 ?_ ?_); rfl))
  go_at_call 13
  refine (K3.out _).mono ?_
  rintro e y7 ⟨rfl, h0⟩
  replace o2 := O8.keep o2 h0
  replace o3 := O8.keep o3 h0
  replace o5 := O8.keep o5 h0
  replace o7 := O8.keep o7 h0
  replace HG := Lib.hid (GN.out _ _ HG.out h0)
  replace hc := hc.trans (h0.mono hc.size)
  clear h0
  go_upto_region 4 with fail
  refine wp_region_obs 19 [25, 26, 27, 28, 29, 30, 31, 32, 33, 34, 35, 36, 37, 38, 39, 40, 41, 42, 43] [.val (prv 0 0), .val (prv 0 0), .val (.bool true), .val (.bool true), .val (.int .i64 7), .val (.bool true), .val (.bool true), .val (.bool true), .val (prv 0 0), .val (prv 0 0), .val (.bool true), .val (.bool true), .val (.bool true), .val (.int .i64 7), .val (.bool true), .val (.bool true), .val (.bool true), .val (.bool true), .val (.bool true)] (fun wz => Below y7.heap.size y7 wz) (by kernel_rfl) (fun wz wz' hz hb => hz.trans (hb.mono hz.size)) (Below.refl _ _) (fun u => by simp only [puts, List.foldl_cons, List.foldl_nil]; go_simp; exact rfl) ?_ ?_
  · simp only [List.take_succ_cons, List.take_zero]
    refine ObsS.cons (fun u w hS hd => ?_) ?_
    · exact Gv.run (prv 0 0) rfl (run_pload rfl rfl (O8.keep o5 hS)) rfl
    refine ObsS.cons (fun u w hS hd => ?_) ?_
    · exact Gv.run (prv 0 0) rfl (run_T0 rfl w) rfl
    refine ObsS.cons (fun u w hS hd => ?_) ?_
    · have d25 : u 25 = prv 0 0 := hd 0 (by decide)
      rw [d25]
      have d26 : u 26 = prv 0 0 := hd 1 (by decide)
      rw [d26]
      exact Gv.run (.bool true) rfl (run_eqT rfl rfl rfl W4_pos W4_pos W4_pos W4_pos (by decide) w) rfl
    refine ObsS.cons (fun u w hS hd => ?_) ?_
    · have d27 : u 27 = .bool true := hd 2 (by decide)
      rw [d27]
      exact Gv.run (.bool true) rfl (by go_simp) rfl
    refine ObsS.cons (fun u w hS hd => ?_) ?_
    · have d28 : u 28 = .bool true := hd 3 (by decide)
      rw [d28]
      exact Gv.run (.int .i64 7) rfl (by go_simp) rfl
    refine ObsS.cons (fun u w hS hd => ?_) ?_
    · have d28 : u 28 = .bool true := hd 3 (by decide)
      rw [d28]
      have d29 : u 29 = .int .i64 7 := hd 4 (by decide)
      rw [d29]
      exact Gv.run (.bool true) rfl (by go_simp) rfl
    refine ObsS.cons (fun u w hS hd => ?_) ?_
    · have d28 : u 28 = .bool true := hd 3 (by decide)
      rw [d28]
      have d30 : u 30 = .bool true := hd 5 (by decide)
      rw [d30]
      exact Gv.run (.bool true) rfl (by go_simp) rfl
    refine ObsS.cons (fun u w hS hd => ?_) ?_
    · have d31 : u 31 = .bool true := hd 6 (by decide)
      rw [d31]
      exact Gv.run (.bool true) rfl (by go_simp) rfl
    refine ObsS.cons (fun u w hS hd => ?_) ?_
    · have d32 : u 32 = .bool true := hd 7 (by decide)
      rw [d32]
      exact Gv.run (prv 0 0) (by rfl) (run_pload rfl rfl (O8.keep o7 hS)) rfl
    refine ObsS.cons (fun u w hS hd => ?_) ?_
    · have d32 : u 32 = .bool true := hd 7 (by decide)
      rw [d32]
      exact Gv.run (prv 0 0) (by rfl) (run_T0 rfl w) rfl
    refine ObsS.cons (fun u w hS hd => ?_) ?_
    · have d32 : u 32 = .bool true := hd 7 (by decide)
      rw [d32]
      have d33 : u 33 = prv 0 0 := hd 8 (by decide)
      rw [d33]
      have d34 : u 34 = prv 0 0 := hd 9 (by decide)
      rw [d34]
      exact Gv.run (.bool true) (by rfl) (run_eqT rfl rfl rfl W4_pos W4_pos W4_pos W4_pos (by decide) w) rfl
    refine ObsS.cons (fun u w hS hd => ?_) ?_
    · have d32 : u 32 = .bool true := hd 7 (by decide)
      rw [d32]
      have d35 : u 35 = .bool true := hd 10 (by decide)
      rw [d35]
      exact Gv.run (.bool true) rfl (by go_simp) rfl
    refine ObsS.cons (fun u w hS hd => ?_) ?_
    · have d36 : u 36 = .bool true := hd 11 (by decide)
      rw [d36]
      exact Gv.run (.bool true) rfl (by go_simp) rfl
    refine ObsS.cons (fun u w hS hd => ?_) ?_
    · have d37 : u 37 = .bool true := hd 12 (by decide)
      rw [d37]
      exact Gv.run (.int .i64 7) rfl (by go_simp) rfl
    refine ObsS.cons (fun u w hS hd => ?_) ?_
    · have d37 : u 37 = .bool true := hd 12 (by decide)
      rw [d37]
      have d38 : u 38 = .int .i64 7 := hd 13 (by decide)
      rw [d38]
      exact Gv.run (.bool true) rfl (by go_simp) rfl
    refine ObsS.cons (fun u w hS hd => ?_) ?_
    · have d37 : u 37 = .bool true := hd 12 (by decide)
      rw [d37]
      have d39 : u 39 = .bool true := hd 14 (by decide)
      rw [d39]
      exact Gv.run (.bool true) rfl (by go_simp) rfl
    refine ObsS.cons (fun u w hS hd => ?_) ?_
    · have d40 : u 40 = .bool true := hd 15 (by decide)
      rw [d40]
      exact Gv.run (.bool true) rfl (by go_simp) rfl
    refine ObsS.cons (fun u w hS hd => ?_) ?_
    · have d41 : u 41 = .bool true := hd 16 (by decide)
      rw [d41]
      refine Gv.call 20 #[] rfl (by go_simp) ((K9.out w (GN.out _ _ HG.out hS)).mono ?_)
      rintro e w' ⟨rfl, hb⟩
      exact ⟨_, rfl, rfl, hb⟩
    refine ObsS.cons (fun u w hS hd => ?_) ?_
    · have d41 : u 41 = .bool true := hd 16 (by decide)
      rw [d41]
      have d42 : u 42 = .bool true := hd 17 (by decide)
      rw [d42]
      exact Gv.run (.bool true) rfl (by go_simp) rfl
    exact ObsS.nil
  intro uy8 y8 hS hd
  have d43 : uy8 43 = .bool true := hd 18 (by decide)
  rw [d43]
  replace o2 := O8.keep o2 hS
  replace o3 := O8.keep o3 hS
  replace o5 := O8.keep o5 hS
  replace o7 := O8.keep o7 hS
  replace HG := Lib.hid (GN.out _ _ HG.out hS)
  replace hc := hc.trans (hS.mono hc.size)
  clear hS hd d43
  simp only [List.drop_succ_cons, List.drop_zero]
  go_wp2_with fail
  go_ret
  exact ⟨rfl, hc⟩
set_option maxHeartbeats 6400000 in
theorem adds_b {G : World → Prop} (hGn : ∀ w w', G w → Below w.heap.size w w' → G w') {x y m n nx : Nat} (hyW : y < W4)
    (k1 : ∀ w, G w → Calls Tryd.prog 24 #[prv x y, prv m n] w fun e w' => e = .returned (.tuple #[prv 0 0, .int .i64 7]) ∧ Below w.heap.size w w')
    (k2 : ∀ w, G w → Calls Tryd.prog 25 #[prv x y] w fun e w' => e = .returned (.tuple #[prv nx y, .int .i64 0]) ∧ Below w.heap.size w w')
    (k3 : ∀ w, Calls Tryd.prog 13 #[prv x y] w fun e w' => e = .returned (.bool true) ∧ Below w.heap.size w w')
    (k4 : ∀ w, G w → Calls Tryd.prog 24 #[prv x y, prv nx y] w fun e w' => e = .returned (.tuple #[prv 0 1, .int .i64 0]) ∧ Below w.heap.size w w')
    (k5 : ∀ w, Calls Tryd.prog 13 #[prv nx y] w fun e w' => e = .returned (.bool true) ∧ Below w.heap.size w w')
    (k6 : ∀ w, Calls Tryd.prog 26 #[] w fun e w' => e = .returned (prv 0 1) ∧ Below w.heap.size w w')
    (k7 : ∀ w, Calls Tryd.prog 13 #[prv m n] w fun e w' => e = .returned (.bool false) ∧ Below w.heap.size w w')
    (k9 : ∀ w, G w → Calls Tryd.prog 20 #[] w fun e w' => e = .returned (.bool true) ∧ Below w.heap.size w w')
    (w : World) (hG : G w) : Calls Tryd.prog 5 #[prv x y, prv m n] w fun e w' => e = .returned (.bool true) ∧ Below w.heap.size w w' := by
  have K1 := Lib.hid k1
  have K2 := Lib.hid k2
  have K3 := Lib.hid k3
  have K4 := Lib.hid k4
  have K5 := Lib.hid k5
  have K6 := Lib.hid k6
  have K7 := Lib.hid k7
  have K9 := Lib.hid k9
  have GN := Lib.hid hGn
  have HG := Lib.hid hG
  clear hGn hG k1 k2 k3 k4 k5 k6 k7 k9
  obtain ⟨v1, ev1⟩ : ∃ v, v = w.alloc (A8p x y) := ⟨_, rfl⟩
  have bv1 : Below w.heap.size w v1 := by rw [ev1]; exact (Below.refl _ _).alloc (Nat.le_refl _) _
  have sv1 : v1.heap.size = w.heap.size + 1 := by rw [ev1]; simp
  obtain ⟨g2, eg2⟩ : ∃ g, g = w.heap.size := ⟨_, rfl⟩
  have o2 : O8 v1 w.heap.size g2 x y := by rw [eg2, ev1]; exact O8.new (Nat.le_refl _) x y
  have hc := bv1
  have hs1 := hc.size
  obtain ⟨v2, ev2⟩ : ∃ v, v = v1.alloc (A8p m n) := ⟨_, rfl⟩
  have bv2 : Below v1.heap.size v1 v2 := by rw [ev2]; exact (Below.refl _ _).alloc (Nat.le_refl _) _
  have sv2 : v2.heap.size = v1.heap.size + 1 := by rw [ev2]; simp
  obtain ⟨g3, eg3⟩ : ∃ g, g = v1.heap.size := ⟨_, rfl⟩
  have o3 : O8 v2 v1.heap.size g3 m n := by rw [eg3, ev2]; exact O8.new (Nat.le_refl _) m n
  replace o2 := o2.keep bv2
  replace hc := hc.trans (bv2.mono hc.size)
  replace o3 := o3.mono hs1
  have hs2 := hc.size
  go_enter Tryd.func5, Tryd.ntmps5
  go_upto_region 1 with fail
  rw [← ev1, ← ev2]
  rw [show Value.pointer (some ⟨w.heap.size, 0, none⟩) = .pointer (some ⟨g2, 0, none⟩) by rw [eg2]]
  rw [show Value.pointer (some ⟨w.heap.size + 1, 0, none⟩) = .pointer (some ⟨g3, 0, none⟩) by rw [eg3, sv1]]
  clear ev1 bv1 sv1 ev2 bv2 sv2 eg2 eg3 hs1 hs2
  replace HG := Lib.hid (GN.out _ _ HG.out hc)
  go_wp2_with (first | ((with_reducible refine p_load o2 ?_ ?_); rfl) | ((with_reducible refine p_load o3 ?_ ?_); rfl))
  go_at_call 24
  refine (K1.out _ HG.out).mono ?_
  rintro e y3 ⟨rfl, h0⟩
  replace o2 := O8.keep o2 h0
  replace o3 := O8.keep o3 h0
  replace HG := Lib.hid (GN.out _ _ HG.out h0)
  replace hc := hc.trans (h0.mono hc.size)
  clear h0
  have on0 := O8.newz (w := y3) (Nat.le_refl _)
  have o5 := (on0.put 0 0).mono hc.size
  have hbz := ((Below.refl _ y3).alloc (Nat.le_refl _) Z8p).trans (on0.below 0 0)
  replace o2 := O8.keep o2 hbz
  replace o3 := O8.keep o3 hbz
  replace HG := Lib.hid (GN.out _ _ HG.out hbz)
  replace hc := hc.trans (hbz.mono hc.size)
  clear hbz
  go_upto_region 2 with ((with_reducible refine p_store on0 0 0 ?_ ?_ ?_); rfl; rfl)
  obtain ⟨y4, ev⟩ : ∃ v, v = set8p (y3.alloc Z8p) y3.heap.size 0 0 := ⟨_, rfl⟩
  obtain ⟨g5, eg⟩ : ∃ g, g = y3.heap.size := ⟨_, rfl⟩
  rw [← ev] at o2 o3 o5 hc ⊢
  have HG2 : G y4 := by rw [ev]; exact HG.out
  replace HG := Lib.hid HG2
  clear HG2
  rw [← eg] at o5 ⊢
  clear ev eg on0
  go_wp2_with (first | ((with_reducible refine p_load o2 ?_ ?_); rfl) | ((with_reducible refine p_load o3 ?_ ?_); rfl) | ((with_reducible refine p_load o5 ?_ ?_); rfl))
  go_at_call 25
  refine (K2.out _ HG.out).mono ?_
  rintro e y5 ⟨rfl, h0⟩
  replace o2 := O8.keep o2 h0
  replace o3 := O8.keep o3 h0
  replace o5 := O8.keep o5 h0
  replace HG := Lib.hid (GN.out _ _ HG.out h0)
  replace hc := hc.trans (h0.mono hc.size)
  clear h0
  have on0 := O8.newz (w := y5) (Nat.le_refl _)
  have o7 := (on0.put nx y).mono hc.size
  have hbz := ((Below.refl _ y5).alloc (Nat.le_refl _) Z8p).trans (on0.below nx y)
  replace o2 := O8.keep o2 hbz
  replace o3 := O8.keep o3 hbz
  replace o5 := O8.keep o5 hbz
  replace HG := Lib.hid (GN.out _ _ HG.out hbz)
  replace hc := hc.trans (hbz.mono hc.size)
  clear hbz
  go_upto_region 3 with ((with_reducible refine p_store on0 nx y ?_ ?_ ?_); rfl; rfl)
  obtain ⟨y6, ev⟩ : ∃ v, v = set8p (y5.alloc Z8p) y5.heap.size nx y := ⟨_, rfl⟩
  obtain ⟨g7, eg⟩ : ∃ g, g = y5.heap.size := ⟨_, rfl⟩
  rw [← ev] at o2 o3 o5 o7 hc ⊢
  have HG2 : G y6 := by rw [ev]; exact HG.out
  replace HG := Lib.hid HG2
  clear HG2
  rw [← eg] at o7 ⊢
  clear ev eg on0
  go_wp2_with (first | ((with_reducible refine p_load o2 ?_ ?_); rfl) | ((with_reducible refine p_load o3 ?_ ?_); rfl) | ((with_reducible refine p_load o5 ?_ ?_); rfl) | ((with_reducible refine p_load o7 ?_ ?_); rfl))
  go_at_call 13
  refine (K3.out _).mono ?_
  rintro e y7 ⟨rfl, h0⟩
  replace o2 := O8.keep o2 h0
  replace o3 := O8.keep o3 h0
  replace o5 := O8.keep o5 h0
  replace o7 := O8.keep o7 h0
  replace HG := Lib.hid (GN.out _ _ HG.out h0)
  replace hc := hc.trans (h0.mono hc.size)
  clear h0
  go_wp2_with (first | ((with_reducible refine p_load o2 ?_ ?_); rfl) | ((with_reducible refine p_load o3 ?_ ?_); rfl) | ((with_reducible refine p_load o5 ?_ ?_); rfl) | ((with_reducible refine p_load o7 ?_ ?_); rfl))
  go_at_call 24
  refine (K4.out _ HG.out).mono ?_
  rintro e y8 ⟨rfl, h0⟩
  replace o2 := O8.keep o2 h0
  replace o3 := O8.keep o3 h0
  replace o5 := O8.keep o5 h0
  replace o7 := O8.keep o7 h0
  replace HG := Lib.hid (GN.out _ _ HG.out h0)
  replace hc := hc.trans (h0.mono hc.size)
  clear h0
  have on0 := O8.newz (w := y8) (Nat.le_refl _)
  have o9 := (on0.put 0 1).mono hc.size
  have hbz := ((Below.refl _ y8).alloc (Nat.le_refl _) Z8p).trans (on0.below 0 1)
  replace o2 := O8.keep o2 hbz
  replace o3 := O8.keep o3 hbz
  replace o5 := O8.keep o5 hbz
  replace o7 := O8.keep o7 hbz
  replace HG := Lib.hid (GN.out _ _ HG.out hbz)
  replace hc := hc.trans (hbz.mono hc.size)
  clear hbz
  go_upto_region 6 with ((with_reducible refine p_store on0 0 1 ?_ ?_ ?_); rfl; rfl)
  obtain ⟨y9, ev⟩ : ∃ v, v = set8p (y8.alloc Z8p) y8.heap.size 0 1 := ⟨_, rfl⟩
  obtain ⟨g9, eg⟩ : ∃ g, g = y8.heap.size := ⟨_, rfl⟩
  rw [← ev] at o2 o3 o5 o7 o9 hc ⊢
  have HG2 : G y9 := by rw [ev]; exact HG.out
  replace HG := Lib.hid HG2
  clear HG2
  rw [← eg] at o9 ⊢
  clear ev eg on0
  refine wp_region_inv 22 [50, 51, 52, 53, 54, 55, 56, 57, 58, 59, 60, 61, 62, 63, 64, 65, 66, 67, 68, 69, 70, 71] [.val (.int .i64 0), .val (.bool false), .val (.bool false), .val (prv nx y), .val (.bool true), .val (.bool false), .val (.bool false), .val (.bool false), .val (.pointer (some ⟨g7, 4, none⟩)), .val (nv y), .val (.pointer (some ⟨g2, 4, none⟩)), .val (nv y), .val (.bool false), .val (.bool false), .val (.bool false), .val (prv 0 1), .val (prv 0 1), .val (.bool false), .val (.bool false), .val (.bool false), .val (.int .i64 0), .val (.bool false)] (fun wz => Below y9.heap.size y9 wz) (by kernel_rfl) (by kernel_rfl) (fun wz wz' hz hb => hz.trans (hb.mono hz.size)) ((Below.refl _ _).drew) (fun u => by simp only [puts, List.foldl_cons, List.foldl_nil]; go_simp; exact rfl) ?_ ?_
  · simp only [List.take_succ_cons, List.take_zero]
    refine Obs.cons (fun u w hS hd => ?_) ?_
    · exact Gv.run (.int .i64 0) rfl (by go_simp) rfl
    refine Obs.cons (fun u w hS hd => ?_) ?_
    · have d50 : u 50 = .int .i64 0 := dep hd 0 rfl
      rw [d50]
      exact Gv.run (.bool false) rfl (by go_simp) rfl
    refine Obs.cons (fun u w hS hd => ?_) ?_
    · have d51 : u 51 = .bool false := dep hd 1 rfl
      rw [d51]
      exact Gv.run (.bool false) rfl (by go_simp) rfl
    refine Obs.cons (fun u w hS hd => ?_) ?_
    · have d52 : u 52 = .bool false := dep hd 2 rfl
      rw [d52]
      exact Gv.run (prv nx y) (by rfl) (run_pload rfl rfl (O8.keep o7 hS)) rfl
    refine Obs.cons (fun u w hS hd => ?_) ?_
    · have d52 : u 52 = .bool false := dep hd 2 rfl
      rw [d52]
      have d53 : u 53 = prv nx y := dep hd 3 rfl
      rw [d53]
      refine Gv.call 13 #[prv nx y] rfl (by go_simp) ((K5.out w).mono ?_)
      rintro e w' ⟨rfl, hb⟩
      exact ⟨_, rfl, rfl, hb⟩
    refine Obs.cons (fun u w hS hd => ?_) ?_
    · have d52 : u 52 = .bool false := dep hd 2 rfl
      rw [d52]
      have d54 : u 54 = .bool true := dep hd 4 rfl
      rw [d54]
      exact Gv.run (.bool false) rfl (by go_simp) rfl
    refine Obs.cons (fun u w hS hd => ?_) ?_
    · have d52 : u 52 = .bool false := dep hd 2 rfl
      rw [d52]
      have d55 : u 55 = .bool false := dep hd 5 rfl
      rw [d55]
      exact Gv.run (.bool false) rfl (by go_simp) rfl
    refine Obs.cons (fun u w hS hd => ?_) ?_
    · have d56 : u 56 = .bool false := dep hd 6 rfl
      rw [d56]
      exact Gv.run (.bool false) rfl (by go_simp) rfl
    refine Obs.cons (fun u w hS hd => ?_) ?_
    · have d57 : u 57 = .bool false := dep hd 7 rfl
      rw [d57]
      exact Gv.run (.pointer (some ⟨g7, 4, none⟩)) (by rfl) (run_pfield 1 (by decide) rfl rfl) rfl
    refine Obs.cons (fun u w hS hd => ?_) ?_
    · have d57 : u 57 = .bool false := dep hd 7 rfl
      rw [d57]
      have d58 : u 58 = .pointer (some ⟨g7, 4, none⟩) := dep hd 8 rfl
      rw [d58]
      exact Gv.run (nv y) (by rfl) (run_zload rfl rfl (O8.keep o7 hS)) rfl
    refine Obs.cons (fun u w hS hd => ?_) ?_
    · have d57 : u 57 = .bool false := dep hd 7 rfl
      rw [d57]
      exact Gv.run (.pointer (some ⟨g2, 4, none⟩)) (by rfl) (run_pfield 1 (by decide) rfl rfl) rfl
    refine Obs.cons (fun u w hS hd => ?_) ?_
    · have d57 : u 57 = .bool false := dep hd 7 rfl
      rw [d57]
      have d60 : u 60 = .pointer (some ⟨g2, 4, none⟩) := dep hd 10 rfl
      rw [d60]
      exact Gv.run (nv y) (by rfl) (run_zload rfl rfl (O8.keep o2 hS)) rfl
    refine Obs.cons (fun u w hS hd => ?_) ?_
    · have d57 : u 57 = .bool false := dep hd 7 rfl
      rw [d57]
      have d59 : u 59 = nv y := dep hd 9 rfl
      rw [d59]
      have d61 : u 61 = nv y := dep hd 11 rfl
      rw [d61]
      exact Gv.run (.bool false) (by rfl) (run_ne4 rfl rfl rfl hyW hyW (by simp) w) rfl
    refine Obs.cons (fun u w hS hd => ?_) ?_
    · have d57 : u 57 = .bool false := dep hd 7 rfl
      rw [d57]
      have d62 : u 62 = .bool false := dep hd 12 rfl
      rw [d62]
      exact Gv.run (.bool false) rfl (by go_simp) rfl
    refine Obs.cons (fun u w hS hd => ?_) ?_
    · have d63 : u 63 = .bool false := dep hd 13 rfl
      rw [d63]
      exact Gv.run (.bool false) rfl (by go_simp) rfl
    refine Obs.cons (fun u w hS hd => ?_) ?_
    · have d64 : u 64 = .bool false := dep hd 14 rfl
      rw [d64]
      exact Gv.run (prv 0 1) (by rfl) (run_pload rfl rfl (O8.keep o9 hS)) rfl
    refine Obs.cons (fun u w hS hd => ?_) ?_
    · have d64 : u 64 = .bool false := dep hd 14 rfl
      rw [d64]
      refine Gv.call 26 #[] rfl (by go_simp) ((K6.out w).mono ?_)
      rintro e w' ⟨rfl, hb⟩
      exact ⟨_, rfl, rfl, hb⟩
    refine Obs.cons (fun u w hS hd => ?_) ?_
    · have d64 : u 64 = .bool false := dep hd 14 rfl
      rw [d64]
      have d65 : u 65 = prv 0 1 := dep hd 15 rfl
      rw [d65]
      have d66 : u 66 = prv 0 1 := dep hd 16 rfl
      rw [d66]
      exact Gv.run (.bool false) (by rfl) (run_neT rfl rfl rfl W4_pos W4_one W4_pos W4_one (by decide) w) rfl
    refine Obs.cons (fun u w hS hd => ?_) ?_
    · have d64 : u 64 = .bool false := dep hd 14 rfl
      rw [d64]
      have d67 : u 67 = .bool false := dep hd 17 rfl
      rw [d67]
      exact Gv.run (.bool false) rfl (by go_simp) rfl
    refine Obs.cons (fun u w hS hd => ?_) ?_
    · have d68 : u 68 = .bool false := dep hd 18 rfl
      rw [d68]
      exact Gv.run (.bool false) rfl (by go_simp) rfl
    refine Obs.cons (fun u w hS hd => ?_) ?_
    · have d69 : u 69 = .bool false := dep hd 19 rfl
      rw [d69]
      exact Gv.run (.int .i64 0) rfl (by go_simp) rfl
    refine Obs.cons (fun u w hS hd => ?_) ?_
    · have d69 : u 69 = .bool false := dep hd 19 rfl
      rw [d69]
      have d70 : u 70 = .int .i64 0 := dep hd 20 rfl
      rw [d70]
      exact Gv.run (.bool false) rfl (by go_simp) rfl
    exact Obs.nil
  intro uy10 y10 hS hd
  have d69 : uy10 69 = .bool false := hd 19 (by decide)
  have d71 : uy10 71 = .bool false := hd 21 (by decide)
  rw [d69, d71]
  replace o2 := O8.keep o2 hS
  replace o3 := O8.keep o3 hS
  replace o5 := O8.keep o5 hS
  replace o7 := O8.keep o7 hS
  replace o9 := O8.keep o9 hS
  replace HG := Lib.hid (GN.out _ _ HG.out hS)
  replace hc := hc.trans (hS.mono hc.size)
  clear hS hd d69 d71
  simp only [List.drop_succ_cons, List.drop_zero]
  go_wp2_with (first | ((with_reducible refine p_load o2 ?_ ?_); rfl) | ((with_reducible refine p_load o3 ?_ ?_); rfl) | ((with_reducible refine p_load o5 ?_ ?_); rfl) | ((with_reducible refine p_load o7 ?_ ?_); rfl) | ((with_reducible refine p_load o9 ?_ ?_); rfl))
  go_at_call 13
  refine (K7.out _).mono ?_
  rintro e y11 ⟨rfl, h0⟩
  replace o2 := O8.keep o2 h0
  replace o3 := O8.keep o3 h0
  replace o5 := O8.keep o5 h0
  replace o7 := O8.keep o7 h0
  replace o9 := O8.keep o9 h0
  replace HG := Lib.hid (GN.out _ _ HG.out h0)
  replace hc := hc.trans (h0.mono hc.size)
  clear h0
  go_upto_region 9 with fail
  refine wp_region_obs 10 [76, 77, 78, 79, 80, 81, 82, 83, 84, 85] [.val (prv 0 0), .val (prv 0 0), .val (.bool true), .val (.bool true), .val (.int .i64 7), .val (.bool true), .val (.bool true), .val (.bool true), .val (.bool true), .val (.bool true)] (fun wz => Below y11.heap.size y11 wz) (by kernel_rfl) (fun wz wz' hz hb => hz.trans (hb.mono hz.size)) (Below.refl _ _) (fun u => by simp only [puts, List.foldl_cons, List.foldl_nil]; go_simp; exact rfl) ?_ ?_
  · simp only [List.take_succ_cons, List.take_zero]
    refine ObsS.cons (fun u w hS hd => ?_) ?_
    · exact Gv.run (prv 0 0) rfl (run_pload rfl rfl (O8.keep o5 hS)) rfl
    refine ObsS.cons (fun u w hS hd => ?_) ?_
    · exact Gv.run (prv 0 0) rfl (run_T0 rfl w) rfl
    refine ObsS.cons (fun u w hS hd => ?_) ?_
    · have d76 : u 76 = prv 0 0 := hd 0 (by decide)
      rw [d76]
      have d77 : u 77 = prv 0 0 := hd 1 (by decide)
      rw [d77]
      exact Gv.run (.bool true) rfl (run_eqT rfl rfl rfl W4_pos W4_pos W4_pos W4_pos (by decide) w) rfl
    refine ObsS.cons (fun u w hS hd => ?_) ?_
    · have d78 : u 78 = .bool true := hd 2 (by decide)
      rw [d78]
      exact Gv.run (.bool true) rfl (by go_simp) rfl
    refine ObsS.cons (fun u w hS hd => ?_) ?_
    · have d79 : u 79 = .bool true := hd 3 (by decide)
      rw [d79]
      exact Gv.run (.int .i64 7) rfl (by go_simp) rfl
    refine ObsS.cons (fun u w hS hd => ?_) ?_
    · have d79 : u 79 = .bool true := hd 3 (by decide)
      rw [d79]
      have d80 : u 80 = .int .i64 7 := hd 4 (by decide)
      rw [d80]
      exact Gv.run (.bool true) rfl (by go_simp) rfl
    refine ObsS.cons (fun u w hS hd => ?_) ?_
    · have d79 : u 79 = .bool true := hd 3 (by decide)
      rw [d79]
      have d81 : u 81 = .bool true := hd 5 (by decide)
      rw [d81]
      exact Gv.run (.bool true) rfl (by go_simp) rfl
    refine ObsS.cons (fun u w hS hd => ?_) ?_
    · have d82 : u 82 = .bool true := hd 6 (by decide)
      rw [d82]
      exact Gv.run (.bool true) rfl (by go_simp) rfl
    refine ObsS.cons (fun u w hS hd => ?_) ?_
    · have d83 : u 83 = .bool true := hd 7 (by decide)
      rw [d83]
      refine Gv.call 20 #[] rfl (by go_simp) ((K9.out w (GN.out _ _ HG.out hS)).mono ?_)
      rintro e w' ⟨rfl, hb⟩
      exact ⟨_, rfl, rfl, hb⟩
    refine ObsS.cons (fun u w hS hd => ?_) ?_
    · have d83 : u 83 = .bool true := hd 7 (by decide)
      rw [d83]
      have d84 : u 84 = .bool true := hd 8 (by decide)
      rw [d84]
      exact Gv.run (.bool true) rfl (by go_simp) rfl
    exact ObsS.nil
  intro uy12 y12 hS hd
  have d85 : uy12 85 = .bool true := hd 9 (by decide)
  rw [d85]
  replace o2 := O8.keep o2 hS
  replace o3 := O8.keep o3 hS
  replace o5 := O8.keep o5 hS
  replace o7 := O8.keep o7 hS
  replace o9 := O8.keep o9 hS
  replace HG := Lib.hid (GN.out _ _ HG.out hS)
  replace hc := hc.trans (hS.mono hc.size)
  clear hS hd d85
  simp only [List.drop_succ_cons, List.drop_zero]
  go_wp2_with fail
  go_ret
  exact ⟨rfl, hc⟩
set_option maxHeartbeats 6400000 in
theorem adds_c {G : World → Prop} (hGn : ∀ w w', G w → Below w.heap.size w w' → G w') {x y m n nx a b : Nat} {t1 t2 t3 : Tr} (hyW : y < W4) (hA : a < W4) (hB : b < W4)
    (k1 : ∀ w, G w → Calls Tryd.prog 24 #[prv x y, prv m n] w fun e w' => e = .returned (.tuple #[prv a b, .int .i64 0]) ∧ Below w.heap.size w w')
    (k2 : ∀ w, G w → Calls Tryd.prog 25 #[prv x y] w fun e w' => e = .returned (.tuple #[prv nx y, .int .i64 0]) ∧ Below w.heap.size w w')
    (k3 : ∀ w, Calls Tryd.prog 13 #[prv x y] w fun e w' => e = .returned (.bool true) ∧ Below w.heap.size w w')
    (k4 : ∀ w, G w → Calls Tryd.prog 24 #[prv x y, prv nx y] w fun e w' => e = .returned (.tuple #[prv 0 1, .int .i64 0]) ∧ Below w.heap.size w w')
    (k5 : ∀ w, Calls Tryd.prog 13 #[prv nx y] w fun e w' => e = .returned (.bool true) ∧ Below w.heap.size w w')
    (k6 : ∀ w, Calls Tryd.prog 26 #[] w fun e w' => e = .returned (prv 0 1) ∧ Below w.heap.size w w')
    (k7 : ∀ w, Calls Tryd.prog 13 #[prv m n] w fun e w' => e = .returned (.bool true) ∧ Below w.heap.size w w')
    (k9 : ∀ w, G w → Calls Tryd.prog 20 #[] w fun e w' => e = .returned (.bool true) ∧ Below w.heap.size w w')
    (k10 : ∀ w, Calls Tryd.prog 23 #[prv x y] w fun e w' => e = .returned (t3v t1) ∧ Below w.heap.size w w')
    (k11 : ∀ w, Calls Tryd.prog 23 #[prv m n] w fun e w' => e = .returned (t3v t2) ∧ Below w.heap.size w w')
    (k12 : ∀ w, Calls Tryd.prog 27 #[t3v t1, t3v t2] w fun e w' => e = .returned (t3v t3) ∧ Below w.heap.size w w')
    (k13 : ∀ w, Calls Tryd.prog 19 #[t3v t3] w fun e w' => e = .returned (prv a b) ∧ Below w.heap.size w w')
    (w : World) (hG : G w) : Calls Tryd.prog 5 #[prv x y, prv m n] w fun e w' => e = .returned (.bool true) ∧ Below w.heap.size w w' := by
  have K1 := Lib.hid k1
  have K2 := Lib.hid k2
  have K3 := Lib.hid k3
  have K4 := Lib.hid k4
  have K5 := Lib.hid k5
  have K6 := Lib.hid k6
  have K7 := Lib.hid k7
  have K9 := Lib.hid k9
  have K10 := Lib.hid k10
  have K11 := Lib.hid k11
  have K12 := Lib.hid k12
  have K13 := Lib.hid k13
  have GN := Lib.hid hGn
  have HG := Lib.hid hG
  clear hGn hG k1 k2 k3 k4 k5 k6 k7 k9 k10 k11 k12 k13
  obtain ⟨v1, ev1⟩ : ∃ v, v = w.alloc (A8p x y) := ⟨_, rfl⟩
  have bv1 : Below w.heap.size w v1 := by rw [ev1]; exact (Below.refl _ _).alloc (Nat.le_refl _) _
  have sv1 : v1.heap.size = w.heap.size + 1 := by rw [ev1]; simp
  obtain ⟨g2, eg2⟩ : ∃ g, g = w.heap.size := ⟨_, rfl⟩
  have o2 : O8 v1 w.heap.size g2 x y := by rw [eg2, ev1]; exact O8.new (Nat.le_refl _) x y
  have hc := bv1
  have hs1 := hc.size
  obtain ⟨v2, ev2⟩ : ∃ v, v = v1.alloc (A8p m n) := ⟨_, rfl⟩
  have bv2 : Below v1.heap.size v1 v2 := by rw [ev2]; exact (Below.refl _ _).alloc (Nat.le_refl _) _
  have sv2 : v2.heap.size = v1.heap.size + 1 := by rw [ev2]; simp
  obtain ⟨g3, eg3⟩ : ∃ g, g = v1.heap.size := ⟨_, rfl⟩
  have o3 : O8 v2 v1.heap.size g3 m n := by rw [eg3, ev2]; exact O8.new (Nat.le_refl _) m n
  replace o2 := o2.keep bv2
  replace hc := hc.trans (bv2.mono hc.size)
  replace o3 := o3.mono hs1
  have hs2 := hc.size
  go_enter Tryd.func5, Tryd.ntmps5
  go_upto_region 1 with fail
  rw [← ev1, ← ev2]
  rw [show Value.pointer (some ⟨w.heap.size, 0, none⟩) = .pointer (some ⟨g2, 0, none⟩) by rw [eg2]]
  rw [show Value.pointer (some ⟨w.heap.size + 1, 0, none⟩) = .pointer (some ⟨g3, 0, none⟩) by rw [eg3, sv1]]
  clear ev1 bv1 sv1 ev2 bv2 sv2 eg2 eg3 hs1 hs2
  replace HG := Lib.hid (GN.out _ _ HG.out hc)
  go_wp2_with (first | ((with_reducible refine p_load o2 ?_ ?_); rfl) | ((with_reducible refine p_load o3 ?_ ?_); rfl))
  go_at_call 24
  refine (K1.out _ HG.out).mono ?_
  rintro e y3 ⟨rfl, h0⟩
  replace o2 := O8.keep o2 h0
  replace o3 := O8.keep o3 h0
  replace HG := Lib.hid (GN.out _ _ HG.out h0)
  replace hc := hc.trans (h0.mono hc.size)
  clear h0
  have on0 := O8.newz (w := y3) (Nat.le_refl _)
  have o5 := (on0.put a b).mono hc.size
  have hbz := ((Below.refl _ y3).alloc (Nat.le_refl _) Z8p).trans (on0.below a b)
  replace o2 := O8.keep o2 hbz
  replace o3 := O8.keep o3 hbz
  replace HG := Lib.hid (GN.out _ _ HG.out hbz)
  replace hc := hc.trans (hbz.mono hc.size)
  clear hbz
  go_upto_region 2 with ((with_reducible refine p_store on0 a b ?_ ?_ ?_); rfl; rfl)
  obtain ⟨y4, ev⟩ : ∃ v, v = set8p (y3.alloc Z8p) y3.heap.size a b := ⟨_, rfl⟩
  obtain ⟨g5, eg⟩ : ∃ g, g = y3.heap.size := ⟨_, rfl⟩
  rw [← ev] at o2 o3 o5 hc ⊢
  have HG2 : G y4 := by rw [ev]; exact HG.out
  replace HG := Lib.hid HG2
  clear HG2
  rw [← eg] at o5 ⊢
  clear ev eg on0
  go_wp2_with (first | ((with_reducible refine p_load o2 ?_ ?_); rfl) | ((with_reducible refine p_load o3 ?_ ?_); rfl) | ((with_reducible refine p_load o5 ?_ ?_); rfl))
  go_at_call 25
  refine (K2.out _ HG.out).mono ?_
  rintro e y5 ⟨rfl, h0⟩
  replace o2 := O8.keep o2 h0
  replace o3 := O8.keep o3 h0
  replace o5 := O8.keep o5 h0
  replace HG := Lib.hid (GN.out _ _ HG.out h0)
  replace hc := hc.trans (h0.mono hc.size)
  clear h0
  have on0 := O8.newz (w := y5) (Nat.le_refl _)
  have o7 := (on0.put nx y).mono hc.size
  have hbz := ((Below.refl _ y5).alloc (Nat.le_refl _) Z8p).trans (on0.below nx y)
  replace o2 := O8.keep o2 hbz
  replace o3 := O8.keep o3 hbz
  replace o5 := O8.keep o5 hbz
  replace HG := Lib.hid (GN.out _ _ HG.out hbz)
  replace hc := hc.trans (hbz.mono hc.size)
  clear hbz
  go_upto_region 3 with ((with_reducible refine p_store on0 nx y ?_ ?_ ?_); rfl; rfl)
  obtain ⟨y6, ev⟩ : ∃ v, v = set8p (y5.alloc Z8p) y5.heap.size nx y := ⟨_, rfl⟩
  obtain ⟨g7, eg⟩ : ∃ g, g = y5.heap.size := ⟨_, rfl⟩
  rw [← ev] at o2 o3 o5 o7 hc ⊢
  have HG2 : G y6 := by rw [ev]; exact HG.out
  replace HG := Lib.hid HG2
  clear HG2
  rw [← eg] at o7 ⊢
  clear ev eg on0
  go_wp2_with (first | ((with_reducible refine p_load o2 ?_ ?_); rfl) | ((with_reducible refine p_load o3 ?_ ?_); rfl) | ((with_reducible refine p_load o5 ?_ ?_); rfl) | ((with_reducible refine p_load o7 ?_ ?_); rfl))
  go_at_call 13
  refine (K3.out _).mono ?_
  rintro e y7 ⟨rfl, h0⟩
  replace o2 := O8.keep o2 h0
  replace o3 := O8.keep o3 h0
  replace o5 := O8.keep o5 h0
  replace o7 := O8.keep o7 h0
  replace HG := Lib.hid (GN.out _ _ HG.out h0)
  replace hc := hc.trans (h0.mono hc.size)
  clear h0
  go_wp2_with (first | ((with_reducible refine p_load o2 ?_ ?_); rfl) | ((with_reducible refine p_load o3 ?_ ?_); rfl) | ((with_reducible refine p_load o5 ?_ ?_); rfl) | ((with_reducible refine p_load o7 ?_ ?_); rfl))
  go_at_call 24
  refine (K4.out _ HG.out).mono ?_
  rintro e y8 ⟨rfl, h0⟩
  replace o2 := O8.keep o2 h0
  replace o3 := O8.keep o3 h0
  replace o5 := O8.keep o5 h0
  replace o7 := O8.keep o7 h0
  replace HG := Lib.hid (GN.out _ _ HG.out h0)
  replace hc := hc.trans (h0.mono hc.size)
  clear h0
  have on0 := O8.newz (w := y8) (Nat.le_refl _)
  have o9 := (on0.put 0 1).mono hc.size
  have hbz := ((Below.refl _ y8).alloc (Nat.le_refl _) Z8p).trans (on0.below 0 1)
  replace o2 := O8.keep o2 hbz
  replace o3 := O8.keep o3 hbz
  replace o5 := O8.keep o5 hbz
  replace o7 := O8.keep o7 hbz
  replace HG := Lib.hid (GN.out _ _ HG.out hbz)
  replace hc := hc.trans (hbz.mono hc.size)
  clear hbz
  go_upto_region 6 with ((with_reducible refine p_store on0 0 1 ?_ ?_ ?_); rfl; rfl)
  obtain ⟨y9, ev⟩ : ∃ v, v = set8p (y8.alloc Z8p) y8.heap.size 0 1 := ⟨_, rfl⟩
  obtain ⟨g9, eg⟩ : ∃ g, g = y8.heap.size := ⟨_, rfl⟩
  rw [← ev] at o2 o3 o5 o7 o9 hc ⊢
  have HG2 : G y9 := by rw [ev]; exact HG.out
  replace HG := Lib.hid HG2
  clear HG2
  rw [← eg] at o9 ⊢
  clear ev eg on0
  refine wp_region_inv 22 [50, 51, 52, 53, 54, 55, 56, 57, 58, 59, 60, 61, 62, 63, 64, 65, 66, 67, 68, 69, 70, 71] [.val (.int .i64 0), .val (.bool false), .val (.bool false), .val (prv nx y), .val (.bool true), .val (.bool false), .val (.bool false), .val (.bool false), .val (.pointer (some ⟨g7, 4, none⟩)), .val (nv y), .val (.pointer (some ⟨g2, 4, none⟩)), .val (nv y), .val (.bool false), .val (.bool false), .val (.bool false), .val (prv 0 1), .val (prv 0 1), .val (.bool false), .val (.bool false), .val (.bool false), .val (.int .i64 0), .val (.bool false)] (fun wz => Below y9.heap.size y9 wz) (by kernel_rfl) (by kernel_rfl) (fun wz wz' hz hb => hz.trans (hb.mono hz.size)) ((Below.refl _ _).drew) (fun u => by simp only [puts, List.foldl_cons, List.foldl_nil]; go_simp; exact rfl) ?_ ?_
  · simp only [List.take_succ_cons, List.take_zero]
    refine Obs.cons (fun u w hS hd => ?_) ?_
    · exact Gv.run (.int .i64 0) rfl (by go_simp) rfl
    refine Obs.cons (fun u w hS hd => ?_) ?_
    · have d50 : u 50 = .int .i64 0 := dep hd 0 rfl
      rw [d50]
      exact Gv.run (.bool false) rfl (by go_simp) rfl
    refine Obs.cons (fun u w hS hd => ?_) ?_
    · have d51 : u 51 = .bool false := dep hd 1 rfl
      rw [d51]
      exact Gv.run (.bool false) rfl (by go_simp) rfl
    refine Obs.cons (fun u w hS hd => ?_) ?_
    · have d52 : u 52 = .bool false := dep hd 2 rfl
      rw [d52]
      exact Gv.run (prv nx y) (by rfl) (run_pload rfl rfl (O8.keep o7 hS)) rfl
    refine Obs.cons (fun u w hS hd => ?_) ?_
    · have d52 : u 52 = .bool false := dep hd 2 rfl
      rw [d52]
      have d53 : u 53 = prv nx y := dep hd 3 rfl
      rw [d53]
      refine Gv.call 13 #[prv nx y] rfl (by go_simp) ((K5.out w).mono ?_)
      rintro e w' ⟨rfl, hb⟩
      exact ⟨_, rfl, rfl, hb⟩
    refine Obs.cons (fun u w hS hd => ?_) ?_
    · have d52 : u 52 = .bool false := dep hd 2 rfl
      rw [d52]
      have d54 : u 54 = .bool true := dep hd 4 rfl
      rw [d54]
      exact Gv.run (.bool false) rfl (by go_simp) rfl
    refine Obs.cons (fun u w hS hd => ?_) ?_
    · have d52 : u 52 = .bool false := dep hd 2 rfl
      rw [d52]
      have d55 : u 55 = .bool false := dep hd 5 rfl
      rw [d55]
      exact Gv.run (.bool false) rfl (by go_simp) rfl
    refine Obs.cons (fun u w hS hd => ?_) ?_
    · have d56 : u 56 = .bool false := dep hd 6 rfl
      rw [d56]
      exact Gv.run (.bool false) rfl (by go_simp) rfl
    refine Obs.cons (fun u w hS hd => ?_) ?_
    · have d57 : u 57 = .bool false := dep hd 7 rfl
      rw [d57]
      exact Gv.run (.pointer (some ⟨g7, 4, none⟩)) (by rfl) (run_pfield 1 (by decide) rfl rfl) rfl
    refine Obs.cons (fun u w hS hd => ?_) ?_
    · have d57 : u 57 = .bool false := dep hd 7 rfl
      rw [d57]
      have d58 : u 58 = .pointer (some ⟨g7, 4, none⟩) := dep hd 8 rfl
      rw [d58]
      exact Gv.run (nv y) (by rfl) (run_zload rfl rfl (O8.keep o7 hS)) rfl
    refine Obs.cons (fun u w hS hd => ?_) ?_
    · have d57 : u 57 = .bool false := dep hd 7 rfl
      rw [d57]
      exact Gv.run (.pointer (some ⟨g2, 4, none⟩)) (by rfl) (run_pfield 1 (by decide) rfl rfl) rfl
    refine Obs.cons (fun u w hS hd => ?_) ?_
    · have d57 : u 57 = .bool false := dep hd 7 rfl
      rw [d57]
      have d60 : u 60 = .pointer (some ⟨g2, 4, none⟩) := dep hd 10 rfl
      rw [d60]
      exact Gv.run (nv y) (by rfl) (run_zload rfl rfl (O8.keep o2 hS)) rfl
    refine Obs.cons (fun u w hS hd => ?_) ?_
    · have d57 : u 57 = .bool false := dep hd 7 rfl
      rw [d57]
      have d59 : u 59 = nv y := dep hd 9 rfl
      rw [d59]
      have d61 : u 61 = nv y := dep hd 11 rfl
      rw [d61]
      exact Gv.run (.bool false) (by rfl) (run_ne4 rfl rfl rfl hyW hyW (by simp) w) rfl
    refine Obs.cons (fun u w hS hd => ?_) ?_
    · have d57 : u 57 = .bool false := dep hd 7 rfl
      rw [d57]
      have d62 : u 62 = .bool false := dep hd 12 rfl
      rw [d62]
      exact Gv.run (.bool false) rfl (by go_simp) rfl
    refine Obs.cons (fun u w hS hd => ?_) ?_
    · have d63 : u 63 = .bool false := dep hd 13 rfl
      rw [d63]
      exact Gv.run (.bool false) rfl (by go_simp) rfl
    refine Obs.cons (fun u w hS hd => ?_) ?_
    · have d64 : u 64 = .bool false := dep hd 14 rfl
      rw [d64]
      exact Gv.run (prv 0 1) (by rfl) (run_pload rfl rfl (O8.keep o9 hS)) rfl
    refine Obs.cons (fun u w hS hd => ?_) ?_
    · have d64 : u 64 = .bool false := dep hd 14 rfl
      rw [d64]
      refine Gv.call 26 #[] rfl (by go_simp) ((K6.out w).mono ?_)
      rintro e w' ⟨rfl, hb⟩
      exact ⟨_, rfl, rfl, hb⟩
    refine Obs.cons (fun u w hS hd => ?_) ?_
    · have d64 : u 64 = .bool false := dep hd 14 rfl
      rw [d64]
      have d65 : u 65 = prv 0 1 := dep hd 15 rfl
      rw [d65]
      have d66 : u 66 = prv 0 1 := dep hd 16 rfl
      rw [d66]
      exact Gv.run (.bool false) (by rfl) (run_neT rfl rfl rfl W4_pos W4_one W4_pos W4_one (by decide) w) rfl
    refine Obs.cons (fun u w hS hd => ?_) ?_
    · have d64 : u 64 = .bool false := dep hd 14 rfl
      rw [d64]
      have d67 : u 67 = .bool false := dep hd 17 rfl
      rw [d67]
      exact Gv.run (.bool false) rfl (by go_simp) rfl
    refine Obs.cons (fun u w hS hd => ?_) ?_
    · have d68 : u 68 = .bool false := dep hd 18 rfl
      rw [d68]
      exact Gv.run (.bool false) rfl (by go_simp) rfl
    refine Obs.cons (fun u w hS hd => ?_) ?_
    · have d69 : u 69 = .bool false := dep hd 19 rfl
      rw [d69]
      exact Gv.run (.int .i64 0) rfl (by go_simp) rfl
    refine Obs.cons (fun u w hS hd => ?_) ?_
    · have d69 : u 69 = .bool false := dep hd 19 rfl
      rw [d69]
      have d70 : u 70 = .int .i64 0 := dep hd 20 rfl
      rw [d70]
      exact Gv.run (.bool false) rfl (by go_simp) rfl
    exact Obs.nil
  intro uy10 y10 hS hd
  have d69 : uy10 69 = .bool false := hd 19 (by decide)
  have d71 : uy10 71 = .bool false := hd 21 (by decide)
  rw [d69, d71]
  replace o2 := O8.keep o2 hS
  replace o3 := O8.keep o3 hS
  replace o5 := O8.keep o5 hS
  replace o7 := O8.keep o7 hS
  replace o9 := O8.keep o9 hS
  replace HG := Lib.hid (GN.out _ _ HG.out hS)
  replace hc := hc.trans (hS.mono hc.size)
  clear hS hd d69 d71
  simp only [List.drop_succ_cons, List.drop_zero]
  go_wp2_with (first | ((with_reducible refine p_load o2 ?_ ?_); rfl) | ((with_reducible refine p_load o3 ?_ ?_); rfl) | ((with_reducible refine p_load o5 ?_ ?_); rfl) | ((with_reducible refine p_load o7 ?_ ?_); rfl) | ((with_reducible refine p_load o9 ?_ ?_); rfl))
  go_at_call 13
  refine (K7.out _).mono ?_
  rintro e y11 ⟨rfl, h0⟩
  replace o2 := O8.keep o2 h0
  replace o3 := O8.keep o3 h0
  replace o5 := O8.keep o5 h0
  replace o7 := O8.keep o7 h0
  replace o9 := O8.keep o9 h0
  replace HG := Lib.hid (GN.out _ _ HG.out h0)
  replace hc := hc.trans (h0.mono hc.size)
  clear h0
  go_upto_region 10 with fail
  refine wp_region_inv 15 [86, 87, 88, 89, 90, 91, 92, 93, 94, 95, 96, 97, 98, 99, 100] [.val (prv a b), .val (prv x y), .val (t3v t1), .val (prv m n), .val (t3v t2), .val (t3v t3), .val (prv a b), .val (.bool true), .val (.bool true), .val (.int .i64 0), .val (.bool true), .val (.bool true), .val (.bool true), .val (.bool true), .val (.bool true)] (fun wz => Below y11.heap.size y11 wz) (by kernel_rfl) (by kernel_rfl) (fun wz wz' hz hb => hz.trans (hb.mono hz.size)) ((Below.refl _ _).drew) (fun u => by simp only [puts, List.foldl_cons, List.foldl_nil]; go_simp; exact rfl) ?_ ?_
  · simp only [List.take_succ_cons, List.take_zero]
    refine Obs.cons (fun u w hS hd => ?_) ?_
    · exact Gv.run (prv a b) rfl (run_pload rfl rfl (O8.keep o5 hS)) rfl
    refine Obs.cons (fun u w hS hd => ?_) ?_
    · exact Gv.run (prv x y) rfl (run_pload rfl rfl (O8.keep o2 hS)) rfl
    refine Obs.cons (fun u w hS hd => ?_) ?_
    · have d87 : u 87 = prv x y := dep hd 1 rfl
      rw [d87]
      refine Gv.call 23 #[prv x y] rfl (by go_simp) ((K10.out w).mono ?_)
      rintro e w' ⟨rfl, hb⟩
      exact ⟨_, rfl, rfl, hb⟩
    refine Obs.cons (fun u w hS hd => ?_) ?_
    · exact Gv.run (prv m n) rfl (run_pload rfl rfl (O8.keep o3 hS)) rfl
    refine Obs.cons (fun u w hS hd => ?_) ?_
    · have d89 : u 89 = prv m n := dep hd 3 rfl
      rw [d89]
      refine Gv.call 23 #[prv m n] rfl (by go_simp) ((K11.out w).mono ?_)
      rintro e w' ⟨rfl, hb⟩
      exact ⟨_, rfl, rfl, hb⟩
    refine Obs.cons (fun u w hS hd => ?_) ?_
    · have d88 : u 88 = t3v t1 := dep hd 2 rfl
      rw [d88]
      have d90 : u 90 = t3v t2 := dep hd 4 rfl
      rw [d90]
      refine Gv.call 27 #[t3v t1, t3v t2] rfl (by go_simp) ((K12.out w).mono ?_)
      rintro e w' ⟨rfl, hb⟩
      exact ⟨_, rfl, rfl, hb⟩
    refine Obs.cons (fun u w hS hd => ?_) ?_
    · have d91 : u 91 = t3v t3 := dep hd 5 rfl
      rw [d91]
      refine Gv.call 19 #[t3v t3] rfl (by go_simp) ((K13.out w).mono ?_)
      rintro e w' ⟨rfl, hb⟩
      exact ⟨_, rfl, rfl, hb⟩
    refine Obs.cons (fun u w hS hd => ?_) ?_
    · have d86 : u 86 = prv a b := dep hd 0 rfl
      rw [d86]
      have d92 : u 92 = prv a b := dep hd 6 rfl
      rw [d92]
      exact Gv.run (.bool true) rfl (run_eqT rfl rfl rfl hA hB hA hB (by simp) w) rfl
    refine Obs.cons (fun u w hS hd => ?_) ?_
    · have d93 : u 93 = .bool true := dep hd 7 rfl
      rw [d93]
      exact Gv.run (.bool true) rfl (by go_simp) rfl
    refine Obs.cons (fun u w hS hd => ?_) ?_
    · have d94 : u 94 = .bool true := dep hd 8 rfl
      rw [d94]
      exact Gv.run (.int .i64 0) rfl (by go_simp) rfl
    refine Obs.cons (fun u w hS hd => ?_) ?_
    · have d94 : u 94 = .bool true := dep hd 8 rfl
      rw [d94]
      have d95 : u 95 = .int .i64 0 := dep hd 9 rfl
      rw [d95]
      exact Gv.run (.bool true) rfl (by go_simp) rfl
    refine Obs.cons (fun u w hS hd => ?_) ?_
    · have d94 : u 94 = .bool true := dep hd 8 rfl
      rw [d94]
      have d96 : u 96 = .bool true := dep hd 10 rfl
      rw [d96]
      exact Gv.run (.bool true) rfl (by go_simp) rfl
    refine Obs.cons (fun u w hS hd => ?_) ?_
    · have d97 : u 97 = .bool true := dep hd 11 rfl
      rw [d97]
      exact Gv.run (.bool true) rfl (by go_simp) rfl
    refine Obs.cons (fun u w hS hd => ?_) ?_
    · have d98 : u 98 = .bool true := dep hd 12 rfl
      rw [d98]
      refine Gv.call 20 #[] rfl (by go_simp) ((K9.out w (GN.out _ _ HG.out hS)).mono ?_)
      rintro e w' ⟨rfl, hb⟩
      exact ⟨_, rfl, rfl, hb⟩
    refine Obs.cons (fun u w hS hd => ?_) ?_
    · have d98 : u 98 = .bool true := dep hd 12 rfl
      rw [d98]
      have d99 : u 99 = .bool true := dep hd 13 rfl
      rw [d99]
      exact Gv.run (.bool true) rfl (by go_simp) rfl
    exact Obs.nil
  intro uy12 y12 hS hd
  have d100 : uy12 100 = .bool true := hd 14 (by decide)
  rw [d100]
  replace o2 := O8.keep o2 hS
  replace o3 := O8.keep o3 hS
  replace o5 := O8.keep o5 hS
  replace o7 := O8.keep o7 hS
  replace o9 := O8.keep o9 hS
  replace HG := Lib.hid (GN.out _ _ HG.out hS)
  replace hc := hc.trans (hS.mono hc.size)
  clear hS hd d100
  simp only [List.drop_succ_cons, List.drop_zero]
  go_wp2_with fail
  go_ret
  exact ⟨rfl, hc⟩
end
end Go.Proofs.YtckdifcelgooeaaDoor
