/-
  Layer 8's CurveOrder over contracts. Written by tools/gen_e20.py. By an AI agent.
-/
import Derived.Test.YtckdifcelgooeaaDoorE18
namespace Go.Proofs.YtckdifcelgooeaaDoor
open Go Go.RowKit
section
attribute [local irreducible] wd by8 d16 set16w fl rl setA t3f set8p set4w
set_option maxRecDepth 20000
set_option maxHeartbeats 6400000 in
theorem order_a {G : World → Prop} (hGn : ∀ w w', G w → Below w.heap.size w w' → G w') {x y m n i j : Nat}
    (k1 : ∀ w, G w → Calls Tryd.prog 12 #[prv x y] w fun e w' => e = .returned (.bool false) ∧ Below w.heap.size w w')
    (k9 : ∀ w, G w → Calls Tryd.prog 20 #[] w fun e w' => e = .returned (.bool true) ∧ Below w.heap.size w w')
    (w : World) (hG : G w) : Calls Tryd.prog 9 #[prv x y, prv m n, prv i j] w fun e w' => e = .returned (.bool true) ∧ Below w.heap.size w w' := by
  have K1 := Lib.hid k1
  have K9 := Lib.hid k9
  have GN := Lib.hid hGn
  have HG := Lib.hid hG
  clear hGn hG k1 k9
  obtain ⟨v1, ev1⟩ : ∃ v, v = w.alloc (A8p x y) := ⟨_, rfl⟩
  have bv1 : Below w.heap.size w v1 := by rw [ev1]; exact (Below.refl _ _).alloc (Nat.le_refl _) _
  have sv1 : v1.heap.size = w.heap.size + 1 := by rw [ev1]; simp
  obtain ⟨g3, eg3⟩ : ∃ g, g = w.heap.size := ⟨_, rfl⟩
  have o3 : O8 v1 w.heap.size g3 x y := by rw [eg3, ev1]; exact O8.new (Nat.le_refl _) x y
  have hc := bv1
  have hs1 := hc.size
  obtain ⟨v2, ev2⟩ : ∃ v, v = v1.alloc (A8p m n) := ⟨_, rfl⟩
  have bv2 : Below v1.heap.size v1 v2 := by rw [ev2]; exact (Below.refl _ _).alloc (Nat.le_refl _) _
  have sv2 : v2.heap.size = v1.heap.size + 1 := by rw [ev2]; simp
  obtain ⟨g4, eg4⟩ : ∃ g, g = v1.heap.size := ⟨_, rfl⟩
  have o4 : O8 v2 v1.heap.size g4 m n := by rw [eg4, ev2]; exact O8.new (Nat.le_refl _) m n
  replace o3 := o3.keep bv2
  replace hc := hc.trans (bv2.mono hc.size)
  replace o4 := o4.mono hs1
  have hs2 := hc.size
  obtain ⟨v3, ev3⟩ : ∃ v, v = v2.alloc (A8p i j) := ⟨_, rfl⟩
  have bv3 : Below v2.heap.size v2 v3 := by rw [ev3]; exact (Below.refl _ _).alloc (Nat.le_refl _) _
  have sv3 : v3.heap.size = v2.heap.size + 1 := by rw [ev3]; simp
  obtain ⟨g5, eg5⟩ : ∃ g, g = v2.heap.size := ⟨_, rfl⟩
  have o5 : O8 v3 v2.heap.size g5 i j := by rw [eg5, ev3]; exact O8.new (Nat.le_refl _) i j
  replace o3 := o3.keep bv3
  replace o4 := o4.keep bv3
  replace hc := hc.trans (bv3.mono hc.size)
  replace o5 := o5.mono hs2
  have hs3 := hc.size
  go_enter Tryd.func9, Tryd.ntmps9
  go_upto_region 1 with fail
  rw [← ev1, ← ev2, ← ev3]
  rw [show Value.pointer (some ⟨w.heap.size, 0, none⟩) = .pointer (some ⟨g3, 0, none⟩) by rw [eg3]]
  rw [show Value.pointer (some ⟨w.heap.size + 1, 0, none⟩) = .pointer (some ⟨g4, 0, none⟩) by rw [eg4, sv1]]
  rw [show Value.pointer (some ⟨w.heap.size + 2, 0, none⟩) = .pointer (some ⟨g5, 0, none⟩) by rw [eg5, sv2, sv1]]
  clear ev1 bv1 sv1 ev2 bv2 sv2 ev3 bv3 sv3 eg3 eg4 eg5 hs1 hs2 hs3
  replace HG := Lib.hid (GN.out _ _ HG.out hc)
  refine wp_region_obs 12 [19, 20, 21, 22, 23, 24, 25, 26, 27, 28, 29, 30] [.val (prv x y), .val (.bool false), .val (.bool true), .val (.bool true), .val (undef), .val (undef), .val (undef), .val (.bool true), .val (.bool true), .val (undef), .val (undef), .val (undef)] (fun wz => Below v3.heap.size v3 wz) (by kernel_rfl) (fun wz wz' hz hb => hz.trans (hb.mono hz.size)) (Below.refl _ _) (fun u => by simp only [puts, List.foldl_cons, List.foldl_nil]; go_simp; exact rfl) ?_ ?_
  · simp only [List.take_succ_cons, List.take_zero]
    refine ObsS.cons (fun u w hS hd => ?_) ?_
    · exact Gv.run (prv x y) rfl (run_pload rfl rfl (O8.keep o3 hS)) rfl
    refine ObsS.cons (fun u w hS hd => ?_) ?_
    · have d19 : u 19 = prv x y := hd 0 (by decide)
      rw [d19]
      refine Gv.call 12 #[prv x y] rfl (by go_simp) ((K1.out w (GN.out _ _ HG.out hS)).mono ?_)
      rintro e w' ⟨rfl, hb⟩
      exact ⟨_, rfl, rfl, hb⟩
    refine ObsS.cons (fun u w hS hd => ?_) ?_
    · have d20 : u 20 = .bool false := hd 1 (by decide)
      rw [d20]
      exact Gv.run (.bool true) rfl (by go_simp) rfl
    refine ObsS.cons (fun u w hS hd => ?_) ?_
    · have d21 : u 21 = .bool true := hd 2 (by decide)
      rw [d21]
      exact Gv.run (.bool true) rfl (by go_simp) rfl
    refine ObsS.cons (fun u w hS hd => ?_) ?_
    · have d22 : u 22 = .bool true := hd 3 (by decide)
      rw [d22]
      exact Gv.skip (by rfl) rfl
    refine ObsS.cons (fun u w hS hd => ?_) ?_
    · have d22 : u 22 = .bool true := hd 3 (by decide)
      rw [d22]
      exact Gv.skip (by rfl) rfl
    refine ObsS.cons (fun u w hS hd => ?_) ?_
    · have d22 : u 22 = .bool true := hd 3 (by decide)
      rw [d22]
      exact Gv.skip (by rfl) rfl
    refine ObsS.cons (fun u w hS hd => ?_) ?_
    · have d22 : u 22 = .bool true := hd 3 (by decide)
      rw [d22]
      have d25 : u 25 = undef := hd 6 (by decide)
      rw [d25]
      exact Gv.run (.bool true) rfl (by go_simp) rfl
    refine ObsS.cons (fun u w hS hd => ?_) ?_
    · have d26 : u 26 = .bool true := hd 7 (by decide)
      rw [d26]
      exact Gv.run (.bool true) rfl (by go_simp) rfl
    refine ObsS.cons (fun u w hS hd => ?_) ?_
    · have d27 : u 27 = .bool true := hd 8 (by decide)
      rw [d27]
      exact Gv.skip (by rfl) rfl
    refine ObsS.cons (fun u w hS hd => ?_) ?_
    · have d27 : u 27 = .bool true := hd 8 (by decide)
      rw [d27]
      exact Gv.skip (by rfl) rfl
    refine ObsS.cons (fun u w hS hd => ?_) ?_
    · have d27 : u 27 = .bool true := hd 8 (by decide)
      rw [d27]
      exact Gv.skip (by rfl) rfl
    exact ObsS.nil
  intro uy4 y4 hS hd
  have d27 : uy4 27 = .bool true := hd 8 (by decide)
  have d30 : uy4 30 = undef := hd 11 (by decide)
  rw [d27, d30]
  replace o3 := O8.keep o3 hS
  replace o4 := O8.keep o4 hS
  replace o5 := O8.keep o5 hS
  replace HG := Lib.hid (GN.out _ _ HG.out hS)
  replace hc := hc.trans (hS.mono hc.size)
  clear hS hd d27 d30
  simp only [List.drop_succ_cons, List.drop_zero]
  go_wp2_with (first | ((with_reducible refine p_load o3 ?_ ?_); rfl) | ((with_reducible refine p_load o4 ?_ ?_); rfl) | ((with_reducible refine p_load o5 ?_ ?_); rfl))
  go_at_call 20
  refine (K9.out _ HG.out).mono ?_
  rintro e y5 ⟨rfl, h0⟩
  replace o3 := O8.keep o3 h0
  replace o4 := O8.keep o4 h0
  replace o5 := O8.keep o5 h0
  replace HG := Lib.hid (GN.out _ _ HG.out h0)
  replace hc := hc.trans (h0.mono hc.size)
  clear h0
  go_wp2_with fail
  go_ret
  exact ⟨rfl, hc⟩
set_option maxHeartbeats 6400000 in
theorem order_b {G : World → Prop} (hGn : ∀ w w', G w → Below w.heap.size w w' → G w') {x y m n i j : Nat}
    (k1 : ∀ w, G w → Calls Tryd.prog 12 #[prv x y] w fun e w' => e = .returned (.bool true) ∧ Below w.heap.size w w')
    (k2 : ∀ w, G w → Calls Tryd.prog 12 #[prv m n] w fun e w' => e = .returned (.bool false) ∧ Below w.heap.size w w')
    (k9 : ∀ w, G w → Calls Tryd.prog 20 #[] w fun e w' => e = .returned (.bool true) ∧ Below w.heap.size w w')
    (w : World) (hG : G w) : Calls Tryd.prog 9 #[prv x y, prv m n, prv i j] w fun e w' => e = .returned (.bool true) ∧ Below w.heap.size w w' := by
  have K1 := Lib.hid k1
  have K2 := Lib.hid k2
  have K9 := Lib.hid k9
  have GN := Lib.hid hGn
  have HG := Lib.hid hG
  clear hGn hG k1 k2 k9
  obtain ⟨v1, ev1⟩ : ∃ v, v = w.alloc (A8p x y) := ⟨_, rfl⟩
  have bv1 : Below w.heap.size w v1 := by rw [ev1]; exact (Below.refl _ _).alloc (Nat.le_refl _) _
  have sv1 : v1.heap.size = w.heap.size + 1 := by rw [ev1]; simp
  obtain ⟨g3, eg3⟩ : ∃ g, g = w.heap.size := ⟨_, rfl⟩
  have o3 : O8 v1 w.heap.size g3 x y := by rw [eg3, ev1]; exact O8.new (Nat.le_refl _) x y
  have hc := bv1
  have hs1 := hc.size
  obtain ⟨v2, ev2⟩ : ∃ v, v = v1.alloc (A8p m n) := ⟨_, rfl⟩
  have bv2 : Below v1.heap.size v1 v2 := by rw [ev2]; exact (Below.refl _ _).alloc (Nat.le_refl _) _
  have sv2 : v2.heap.size = v1.heap.size + 1 := by rw [ev2]; simp
  obtain ⟨g4, eg4⟩ : ∃ g, g = v1.heap.size := ⟨_, rfl⟩
  have o4 : O8 v2 v1.heap.size g4 m n := by rw [eg4, ev2]; exact O8.new (Nat.le_refl _) m n
  replace o3 := o3.keep bv2
  replace hc := hc.trans (bv2.mono hc.size)
  replace o4 := o4.mono hs1
  have hs2 := hc.size
  obtain ⟨v3, ev3⟩ : ∃ v, v = v2.alloc (A8p i j) := ⟨_, rfl⟩
  have bv3 : Below v2.heap.size v2 v3 := by rw [ev3]; exact (Below.refl _ _).alloc (Nat.le_refl _) _
  have sv3 : v3.heap.size = v2.heap.size + 1 := by rw [ev3]; simp
  obtain ⟨g5, eg5⟩ : ∃ g, g = v2.heap.size := ⟨_, rfl⟩
  have o5 : O8 v3 v2.heap.size g5 i j := by rw [eg5, ev3]; exact O8.new (Nat.le_refl _) i j
  replace o3 := o3.keep bv3
  replace o4 := o4.keep bv3
  replace hc := hc.trans (bv3.mono hc.size)
  replace o5 := o5.mono hs2
  have hs3 := hc.size
  go_enter Tryd.func9, Tryd.ntmps9
  go_upto_region 1 with fail
  rw [← ev1, ← ev2, ← ev3]
  rw [show Value.pointer (some ⟨w.heap.size, 0, none⟩) = .pointer (some ⟨g3, 0, none⟩) by rw [eg3]]
  rw [show Value.pointer (some ⟨w.heap.size + 1, 0, none⟩) = .pointer (some ⟨g4, 0, none⟩) by rw [eg4, sv1]]
  rw [show Value.pointer (some ⟨w.heap.size + 2, 0, none⟩) = .pointer (some ⟨g5, 0, none⟩) by rw [eg5, sv2, sv1]]
  clear ev1 bv1 sv1 ev2 bv2 sv2 ev3 bv3 sv3 eg3 eg4 eg5 hs1 hs2 hs3
  replace HG := Lib.hid (GN.out _ _ HG.out hc)
  refine wp_region_obs 12 [19, 20, 21, 22, 23, 24, 25, 26, 27, 28, 29, 30] [.val (prv x y), .val (.bool true), .val (.bool false), .val (.bool false), .val (prv m n), .val (.bool false), .val (.bool true), .val (.bool true), .val (.bool true), .val (undef), .val (undef), .val (undef)] (fun wz => Below v3.heap.size v3 wz) (by kernel_rfl) (fun wz wz' hz hb => hz.trans (hb.mono hz.size)) (Below.refl _ _) (fun u => by simp only [puts, List.foldl_cons, List.foldl_nil]; go_simp; exact rfl) ?_ ?_
  · simp only [List.take_succ_cons, List.take_zero]
    refine ObsS.cons (fun u w hS hd => ?_) ?_
    · exact Gv.run (prv x y) rfl (run_pload rfl rfl (O8.keep o3 hS)) rfl
    refine ObsS.cons (fun u w hS hd => ?_) ?_
    · have d19 : u 19 = prv x y := hd 0 (by decide)
      rw [d19]
      refine Gv.call 12 #[prv x y] rfl (by go_simp) ((K1.out w (GN.out _ _ HG.out hS)).mono ?_)
      rintro e w' ⟨rfl, hb⟩
      exact ⟨_, rfl, rfl, hb⟩
    refine ObsS.cons (fun u w hS hd => ?_) ?_
    · have d20 : u 20 = .bool true := hd 1 (by decide)
      rw [d20]
      exact Gv.run (.bool false) rfl (by go_simp) rfl
    refine ObsS.cons (fun u w hS hd => ?_) ?_
    · have d21 : u 21 = .bool false := hd 2 (by decide)
      rw [d21]
      exact Gv.run (.bool false) rfl (by go_simp) rfl
    refine ObsS.cons (fun u w hS hd => ?_) ?_
    · have d22 : u 22 = .bool false := hd 3 (by decide)
      rw [d22]
      exact Gv.run (prv m n) (by rfl) (run_pload rfl rfl (O8.keep o4 hS)) rfl
    refine ObsS.cons (fun u w hS hd => ?_) ?_
    · have d22 : u 22 = .bool false := hd 3 (by decide)
      rw [d22]
      have d23 : u 23 = prv m n := hd 4 (by decide)
      rw [d23]
      refine Gv.call 12 #[prv m n] rfl (by go_simp) ((K2.out w (GN.out _ _ HG.out hS)).mono ?_)
      rintro e w' ⟨rfl, hb⟩
      exact ⟨_, rfl, rfl, hb⟩
    refine ObsS.cons (fun u w hS hd => ?_) ?_
    · have d22 : u 22 = .bool false := hd 3 (by decide)
      rw [d22]
      have d24 : u 24 = .bool false := hd 5 (by decide)
      rw [d24]
      exact Gv.run (.bool true) rfl (by go_simp) rfl
    refine ObsS.cons (fun u w hS hd => ?_) ?_
    · have d22 : u 22 = .bool false := hd 3 (by decide)
      rw [d22]
      have d25 : u 25 = .bool true := hd 6 (by decide)
      rw [d25]
      exact Gv.run (.bool true) rfl (by go_simp) rfl
    refine ObsS.cons (fun u w hS hd => ?_) ?_
    · have d26 : u 26 = .bool true := hd 7 (by decide)
      rw [d26]
      exact Gv.run (.bool true) rfl (by go_simp) rfl
    refine ObsS.cons (fun u w hS hd => ?_) ?_
    · have d27 : u 27 = .bool true := hd 8 (by decide)
      rw [d27]
      exact Gv.skip (by rfl) rfl
    refine ObsS.cons (fun u w hS hd => ?_) ?_
    · have d27 : u 27 = .bool true := hd 8 (by decide)
      rw [d27]
      exact Gv.skip (by rfl) rfl
    refine ObsS.cons (fun u w hS hd => ?_) ?_
    · have d27 : u 27 = .bool true := hd 8 (by decide)
      rw [d27]
      exact Gv.skip (by rfl) rfl
    exact ObsS.nil
  intro uy4 y4 hS hd
  have d27 : uy4 27 = .bool true := hd 8 (by decide)
  have d30 : uy4 30 = undef := hd 11 (by decide)
  rw [d27, d30]
  replace o3 := O8.keep o3 hS
  replace o4 := O8.keep o4 hS
  replace o5 := O8.keep o5 hS
  replace HG := Lib.hid (GN.out _ _ HG.out hS)
  replace hc := hc.trans (hS.mono hc.size)
  clear hS hd d27 d30
  simp only [List.drop_succ_cons, List.drop_zero]
  go_wp2_with (first | ((with_reducible refine p_load o3 ?_ ?_); rfl) | ((with_reducible refine p_load o4 ?_ ?_); rfl) | ((with_reducible refine p_load o5 ?_ ?_); rfl))
  go_at_call 20
  refine (K9.out _ HG.out).mono ?_
  rintro e y5 ⟨rfl, h0⟩
  replace o3 := O8.keep o3 h0
  replace o4 := O8.keep o4 h0
  replace o5 := O8.keep o5 h0
  replace HG := Lib.hid (GN.out _ _ HG.out h0)
  replace hc := hc.trans (h0.mono hc.size)
  clear h0
  go_wp2_with fail
  go_ret
  exact ⟨rfl, hc⟩
set_option maxHeartbeats 6400000 in
theorem order_c {G : World → Prop} (hGn : ∀ w w', G w → Below w.heap.size w w' → G w') {x y m n i j : Nat}
    (k1 : ∀ w, G w → Calls Tryd.prog 12 #[prv x y] w fun e w' => e = .returned (.bool true) ∧ Below w.heap.size w w')
    (k2 : ∀ w, G w → Calls Tryd.prog 12 #[prv m n] w fun e w' => e = .returned (.bool true) ∧ Below w.heap.size w w')
    (k3 : ∀ w, G w → Calls Tryd.prog 12 #[prv i j] w fun e w' => e = .returned (.bool false) ∧ Below w.heap.size w w')
    (k9 : ∀ w, G w → Calls Tryd.prog 20 #[] w fun e w' => e = .returned (.bool true) ∧ Below w.heap.size w w')
    (w : World) (hG : G w) : Calls Tryd.prog 9 #[prv x y, prv m n, prv i j] w fun e w' => e = .returned (.bool true) ∧ Below w.heap.size w w' := by
  have K1 := Lib.hid k1
  have K2 := Lib.hid k2
  have K3 := Lib.hid k3
  have K9 := Lib.hid k9
  have GN := Lib.hid hGn
  have HG := Lib.hid hG
  clear hGn hG k1 k2 k3 k9
  obtain ⟨v1, ev1⟩ : ∃ v, v = w.alloc (A8p x y) := ⟨_, rfl⟩
  have bv1 : Below w.heap.size w v1 := by rw [ev1]; exact (Below.refl _ _).alloc (Nat.le_refl _) _
  have sv1 : v1.heap.size = w.heap.size + 1 := by rw [ev1]; simp
  obtain ⟨g3, eg3⟩ : ∃ g, g = w.heap.size := ⟨_, rfl⟩
  have o3 : O8 v1 w.heap.size g3 x y := by rw [eg3, ev1]; exact O8.new (Nat.le_refl _) x y
  have hc := bv1
  have hs1 := hc.size
  obtain ⟨v2, ev2⟩ : ∃ v, v = v1.alloc (A8p m n) := ⟨_, rfl⟩
  have bv2 : Below v1.heap.size v1 v2 := by rw [ev2]; exact (Below.refl _ _).alloc (Nat.le_refl _) _
  have sv2 : v2.heap.size = v1.heap.size + 1 := by rw [ev2]; simp
  obtain ⟨g4, eg4⟩ : ∃ g, g = v1.heap.size := ⟨_, rfl⟩
  have o4 : O8 v2 v1.heap.size g4 m n := by rw [eg4, ev2]; exact O8.new (Nat.le_refl _) m n
  replace o3 := o3.keep bv2
  replace hc := hc.trans (bv2.mono hc.size)
  replace o4 := o4.mono hs1
  have hs2 := hc.size
  obtain ⟨v3, ev3⟩ : ∃ v, v = v2.alloc (A8p i j) := ⟨_, rfl⟩
  have bv3 : Below v2.heap.size v2 v3 := by rw [ev3]; exact (Below.refl _ _).alloc (Nat.le_refl _) _
  have sv3 : v3.heap.size = v2.heap.size + 1 := by rw [ev3]; simp
  obtain ⟨g5, eg5⟩ : ∃ g, g = v2.heap.size := ⟨_, rfl⟩
  have o5 : O8 v3 v2.heap.size g5 i j := by rw [eg5, ev3]; exact O8.new (Nat.le_refl _) i j
  replace o3 := o3.keep bv3
  replace o4 := o4.keep bv3
  replace hc := hc.trans (bv3.mono hc.size)
  replace o5 := o5.mono hs2
  have hs3 := hc.size
  go_enter Tryd.func9, Tryd.ntmps9
  go_upto_region 1 with fail
  rw [← ev1, ← ev2, ← ev3]
  rw [show Value.pointer (some ⟨w.heap.size, 0, none⟩) = .pointer (some ⟨g3, 0, none⟩) by rw [eg3]]
  rw [show Value.pointer (some ⟨w.heap.size + 1, 0, none⟩) = .pointer (some ⟨g4, 0, none⟩) by rw [eg4, sv1]]
  rw [show Value.pointer (some ⟨w.heap.size + 2, 0, none⟩) = .pointer (some ⟨g5, 0, none⟩) by rw [eg5, sv2, sv1]]
  clear ev1 bv1 sv1 ev2 bv2 sv2 ev3 bv3 sv3 eg3 eg4 eg5 hs1 hs2 hs3
  replace HG := Lib.hid (GN.out _ _ HG.out hc)
  refine wp_region_obs 12 [19, 20, 21, 22, 23, 24, 25, 26, 27, 28, 29, 30] [.val (prv x y), .val (.bool true), .val (.bool false), .val (.bool false), .val (prv m n), .val (.bool true), .val (.bool false), .val (.bool false), .val (.bool false), .val (prv i j), .val (.bool false), .val (.bool true)] (fun wz => Below v3.heap.size v3 wz) (by kernel_rfl) (fun wz wz' hz hb => hz.trans (hb.mono hz.size)) (Below.refl _ _) (fun u => by simp only [puts, List.foldl_cons, List.foldl_nil]; go_simp; exact rfl) ?_ ?_
  · simp only [List.take_succ_cons, List.take_zero]
    refine ObsS.cons (fun u w hS hd => ?_) ?_
    · exact Gv.run (prv x y) rfl (run_pload rfl rfl (O8.keep o3 hS)) rfl
    refine ObsS.cons (fun u w hS hd => ?_) ?_
    · have d19 : u 19 = prv x y := hd 0 (by decide)
      rw [d19]
      refine Gv.call 12 #[prv x y] rfl (by go_simp) ((K1.out w (GN.out _ _ HG.out hS)).mono ?_)
      rintro e w' ⟨rfl, hb⟩
      exact ⟨_, rfl, rfl, hb⟩
    refine ObsS.cons (fun u w hS hd => ?_) ?_
    · have d20 : u 20 = .bool true := hd 1 (by decide)
      rw [d20]
      exact Gv.run (.bool false) rfl (by go_simp) rfl
    refine ObsS.cons (fun u w hS hd => ?_) ?_
    · have d21 : u 21 = .bool false := hd 2 (by decide)
      rw [d21]
      exact Gv.run (.bool false) rfl (by go_simp) rfl
    refine ObsS.cons (fun u w hS hd => ?_) ?_
    · have d22 : u 22 = .bool false := hd 3 (by decide)
      rw [d22]
      exact Gv.run (prv m n) (by rfl) (run_pload rfl rfl (O8.keep o4 hS)) rfl
    refine ObsS.cons (fun u w hS hd => ?_) ?_
    · have d22 : u 22 = .bool false := hd 3 (by decide)
      rw [d22]
      have d23 : u 23 = prv m n := hd 4 (by decide)
      rw [d23]
      refine Gv.call 12 #[prv m n] rfl (by go_simp) ((K2.out w (GN.out _ _ HG.out hS)).mono ?_)
      rintro e w' ⟨rfl, hb⟩
      exact ⟨_, rfl, rfl, hb⟩
    refine ObsS.cons (fun u w hS hd => ?_) ?_
    · have d22 : u 22 = .bool false := hd 3 (by decide)
      rw [d22]
      have d24 : u 24 = .bool true := hd 5 (by decide)
      rw [d24]
      exact Gv.run (.bool false) rfl (by go_simp) rfl
    refine ObsS.cons (fun u w hS hd => ?_) ?_
    · have d22 : u 22 = .bool false := hd 3 (by decide)
      rw [d22]
      have d25 : u 25 = .bool false := hd 6 (by decide)
      rw [d25]
      exact Gv.run (.bool false) rfl (by go_simp) rfl
    refine ObsS.cons (fun u w hS hd => ?_) ?_
    · have d26 : u 26 = .bool false := hd 7 (by decide)
      rw [d26]
      exact Gv.run (.bool false) rfl (by go_simp) rfl
    refine ObsS.cons (fun u w hS hd => ?_) ?_
    · have d27 : u 27 = .bool false := hd 8 (by decide)
      rw [d27]
      exact Gv.run (prv i j) (by rfl) (run_pload rfl rfl (O8.keep o5 hS)) rfl
    refine ObsS.cons (fun u w hS hd => ?_) ?_
    · have d27 : u 27 = .bool false := hd 8 (by decide)
      rw [d27]
      have d28 : u 28 = prv i j := hd 9 (by decide)
      rw [d28]
      refine Gv.call 12 #[prv i j] rfl (by go_simp) ((K3.out w (GN.out _ _ HG.out hS)).mono ?_)
      rintro e w' ⟨rfl, hb⟩
      exact ⟨_, rfl, rfl, hb⟩
    refine ObsS.cons (fun u w hS hd => ?_) ?_
    · have d27 : u 27 = .bool false := hd 8 (by decide)
      rw [d27]
      have d29 : u 29 = .bool false := hd 10 (by decide)
      rw [d29]
      exact Gv.run (.bool true) rfl (by go_simp) rfl
    exact ObsS.nil
  intro uy4 y4 hS hd
  have d27 : uy4 27 = .bool false := hd 8 (by decide)
  have d30 : uy4 30 = .bool true := hd 11 (by decide)
  rw [d27, d30]
  replace o3 := O8.keep o3 hS
  replace o4 := O8.keep o4 hS
  replace o5 := O8.keep o5 hS
  replace HG := Lib.hid (GN.out _ _ HG.out hS)
  replace hc := hc.trans (hS.mono hc.size)
  clear hS hd d27 d30
  simp only [List.drop_succ_cons, List.drop_zero]
  go_wp2_with (first | ((with_reducible refine p_load o3 ?_ ?_); rfl) | ((with_reducible refine p_load o4 ?_ ?_); rfl) | ((with_reducible refine p_load o5 ?_ ?_); rfl))
  go_at_call 20
  refine (K9.out _ HG.out).mono ?_
  rintro e y5 ⟨rfl, h0⟩
  replace o3 := O8.keep o3 h0
  replace o4 := O8.keep o4 h0
  replace o5 := O8.keep o5 h0
  replace HG := Lib.hid (GN.out _ _ HG.out h0)
  replace hc := hc.trans (h0.mono hc.size)
  clear h0
  go_wp2_with fail
  go_ret
  exact ⟨rfl, hc⟩
set_option maxHeartbeats 6400000 in
theorem order_d {G : World → Prop} (hGn : ∀ w w', G w → Below w.heap.size w w' → G w') {x y m n i j a b k l s t : Nat} (hA : a < W4) (hB : b < W4) (hs : s < W4) (ht : t < W4) (hx : x < W4) (hy : y < W4)
    (k1 : ∀ w, G w → Calls Tryd.prog 12 #[prv x y] w fun e w' => e = .returned (.bool true) ∧ Below w.heap.size w w')
    (k2 : ∀ w, G w → Calls Tryd.prog 12 #[prv m n] w fun e w' => e = .returned (.bool true) ∧ Below w.heap.size w w')
    (k3 : ∀ w, G w → Calls Tryd.prog 12 #[prv i j] w fun e w' => e = .returned (.bool true) ∧ Below w.heap.size w w')
    (k4 : ∀ w, G w → Calls Tryd.prog 24 #[prv x y, prv m n] w fun e w' => e = .returned (.tuple #[prv a b, .int .i64 0]) ∧ Below w.heap.size w w')
    (k5 : ∀ w, G w → Calls Tryd.prog 24 #[prv m n, prv x y] w fun e w' => e = .returned (.tuple #[prv a b, .int .i64 0]) ∧ Below w.heap.size w w')
    (k6 : ∀ w, G w → Calls Tryd.prog 24 #[prv m n, prv i j] w fun e w' => e = .returned (.tuple #[prv k l, .int .i64 0]) ∧ Below w.heap.size w w')
    (k7 : ∀ w, G w → Calls Tryd.prog 24 #[prv a b, prv i j] w fun e w' => e = .returned (.tuple #[prv s t, .int .i64 0]) ∧ Below w.heap.size w w')
    (k8 : ∀ w, G w → Calls Tryd.prog 24 #[prv x y, prv k l] w fun e w' => e = .returned (.tuple #[prv s t, .int .i64 0]) ∧ Below w.heap.size w w')
    (k9 : ∀ w, G w → Calls Tryd.prog 20 #[] w fun e w' => e = .returned (.bool true) ∧ Below w.heap.size w w')
    (k10 : ∀ w, Calls Tryd.prog 26 #[] w fun e w' => e = .returned (prv 0 1) ∧ Below w.heap.size w w')
    (k11 : ∀ w, G w → Calls Tryd.prog 24 #[prv x y, prv 0 1] w fun e w' => e = .returned (.tuple #[prv x y, .int .i64 0]) ∧ Below w.heap.size w w')
    (k12 : ∀ w, G w → Calls Tryd.prog 12 #[prv a b] w fun e w' => e = .returned (.bool true) ∧ Below w.heap.size w w')
    (w : World) (hG : G w) : Calls Tryd.prog 9 #[prv x y, prv m n, prv i j] w fun e w' => e = .returned (.bool true) ∧ Below w.heap.size w w' := by
  have K1 := Lib.hid k1
  have K2 := Lib.hid k2
  have K3 := Lib.hid k3
  have K4 := Lib.hid k4
  have K5 := Lib.hid k5
  have K6 := Lib.hid k6
  have K7 := Lib.hid k7
  have K8 := Lib.hid k8
  have K9 := Lib.hid k9
  have K10 := Lib.hid k10
  have K11 := Lib.hid k11
  have K12 := Lib.hid k12
  have GN := Lib.hid hGn
  have HG := Lib.hid hG
  clear hGn hG k1 k2 k3 k4 k5 k6 k7 k8 k9 k10 k11 k12
  obtain ⟨v1, ev1⟩ : ∃ v, v = w.alloc (A8p x y) := ⟨_, rfl⟩
  have bv1 : Below w.heap.size w v1 := by rw [ev1]; exact (Below.refl _ _).alloc (Nat.le_refl _) _
  have sv1 : v1.heap.size = w.heap.size + 1 := by rw [ev1]; simp
  obtain ⟨g3, eg3⟩ : ∃ g, g = w.heap.size := ⟨_, rfl⟩
  have o3 : O8 v1 w.heap.size g3 x y := by rw [eg3, ev1]; exact O8.new (Nat.le_refl _) x y
  have hc := bv1
  have hs1 := hc.size
  obtain ⟨v2, ev2⟩ : ∃ v, v = v1.alloc (A8p m n) := ⟨_, rfl⟩
  have bv2 : Below v1.heap.size v1 v2 := by rw [ev2]; exact (Below.refl _ _).alloc (Nat.le_refl _) _
  have sv2 : v2.heap.size = v1.heap.size + 1 := by rw [ev2]; simp
  obtain ⟨g4, eg4⟩ : ∃ g, g = v1.heap.size := ⟨_, rfl⟩
  have o4 : O8 v2 v1.heap.size g4 m n := by rw [eg4, ev2]; exact O8.new (Nat.le_refl _) m n
  replace o3 := o3.keep bv2
  replace hc := hc.trans (bv2.mono hc.size)
  replace o4 := o4.mono hs1
  have hs2 := hc.size
  obtain ⟨v3, ev3⟩ : ∃ v, v = v2.alloc (A8p i j) := ⟨_, rfl⟩
  have bv3 : Below v2.heap.size v2 v3 := by rw [ev3]; exact (Below.refl _ _).alloc (Nat.le_refl _) _
  have sv3 : v3.heap.size = v2.heap.size + 1 := by rw [ev3]; simp
  obtain ⟨g5, eg5⟩ : ∃ g, g = v2.heap.size := ⟨_, rfl⟩
  have o5 : O8 v3 v2.heap.size g5 i j := by rw [eg5, ev3]; exact O8.new (Nat.le_refl _) i j
  replace o3 := o3.keep bv3
  replace o4 := o4.keep bv3
  replace hc := hc.trans (bv3.mono hc.size)
  replace o5 := o5.mono hs2
  have hs3 := hc.size
  go_enter Tryd.func9, Tryd.ntmps9
  go_upto_region 1 with fail
  rw [← ev1, ← ev2, ← ev3]
  rw [show Value.pointer (some ⟨w.heap.size, 0, none⟩) = .pointer (some ⟨g3, 0, none⟩) by rw [eg3]]
  rw [show Value.pointer (some ⟨w.heap.size + 1, 0, none⟩) = .pointer (some ⟨g4, 0, none⟩) by rw [eg4, sv1]]
  rw [show Value.pointer (some ⟨w.heap.size + 2, 0, none⟩) = .pointer (some ⟨g5, 0, none⟩) by rw [eg5, sv2, sv1]]
  clear ev1 bv1 sv1 ev2 bv2 sv2 ev3 bv3 sv3 eg3 eg4 eg5 hs1 hs2 hs3
  replace HG := Lib.hid (GN.out _ _ HG.out hc)
  refine wp_region_obs 12 [19, 20, 21, 22, 23, 24, 25, 26, 27, 28, 29, 30] [.val (prv x y), .val (.bool true), .val (.bool false), .val (.bool false), .val (prv m n), .val (.bool true), .val (.bool false), .val (.bool false), .val (.bool false), .val (prv i j), .val (.bool true), .val (.bool false)] (fun wz => Below v3.heap.size v3 wz) (by kernel_rfl) (fun wz wz' hz hb => hz.trans (hb.mono hz.size)) (Below.refl _ _) (fun u => by simp only [puts, List.foldl_cons, List.foldl_nil]; go_simp; exact rfl) ?_ ?_
  · simp only [List.take_succ_cons, List.take_zero]
    refine ObsS.cons (fun u w hS hd => ?_) ?_
    · exact Gv.run (prv x y) rfl (run_pload rfl rfl (O8.keep o3 hS)) rfl
    refine ObsS.cons (fun u w hS hd => ?_) ?_
    · have d19 : u 19 = prv x y := hd 0 (by decide)
      rw [d19]
      refine Gv.call 12 #[prv x y] rfl (by go_simp) ((K1.out w (GN.out _ _ HG.out hS)).mono ?_)
      rintro e w' ⟨rfl, hb⟩
      exact ⟨_, rfl, rfl, hb⟩
    refine ObsS.cons (fun u w hS hd => ?_) ?_
    · have d20 : u 20 = .bool true := hd 1 (by decide)
      rw [d20]
      exact Gv.run (.bool false) rfl (by go_simp) rfl
    refine ObsS.cons (fun u w hS hd => ?_) ?_
    · have d21 : u 21 = .bool false := hd 2 (by decide)
      rw [d21]
      exact Gv.run (.bool false) rfl (by go_simp) rfl
    refine ObsS.cons (fun u w hS hd => ?_) ?_
    · have d22 : u 22 = .bool false := hd 3 (by decide)
      rw [d22]
      exact Gv.run (prv m n) (by rfl) (run_pload rfl rfl (O8.keep o4 hS)) rfl
    refine ObsS.cons (fun u w hS hd => ?_) ?_
    · have d22 : u 22 = .bool false := hd 3 (by decide)
      rw [d22]
      have d23 : u 23 = prv m n := hd 4 (by decide)
      rw [d23]
      refine Gv.call 12 #[prv m n] rfl (by go_simp) ((K2.out w (GN.out _ _ HG.out hS)).mono ?_)
      rintro e w' ⟨rfl, hb⟩
      exact ⟨_, rfl, rfl, hb⟩
    refine ObsS.cons (fun u w hS hd => ?_) ?_
    · have d22 : u 22 = .bool false := hd 3 (by decide)
      rw [d22]
      have d24 : u 24 = .bool true := hd 5 (by decide)
      rw [d24]
      exact Gv.run (.bool false) rfl (by go_simp) rfl
    refine ObsS.cons (fun u w hS hd => ?_) ?_
    · have d22 : u 22 = .bool false := hd 3 (by decide)
      rw [d22]
      have d25 : u 25 = .bool false := hd 6 (by decide)
      rw [d25]
      exact Gv.run (.bool false) rfl (by go_simp) rfl
    refine ObsS.cons (fun u w hS hd => ?_) ?_
    · have d26 : u 26 = .bool false := hd 7 (by decide)
      rw [d26]
      exact Gv.run (.bool false) rfl (by go_simp) rfl
    refine ObsS.cons (fun u w hS hd => ?_) ?_
    · have d27 : u 27 = .bool false := hd 8 (by decide)
      rw [d27]
      exact Gv.run (prv i j) (by rfl) (run_pload rfl rfl (O8.keep o5 hS)) rfl
    refine ObsS.cons (fun u w hS hd => ?_) ?_
    · have d27 : u 27 = .bool false := hd 8 (by decide)
      rw [d27]
      have d28 : u 28 = prv i j := hd 9 (by decide)
      rw [d28]
      refine Gv.call 12 #[prv i j] rfl (by go_simp) ((K3.out w (GN.out _ _ HG.out hS)).mono ?_)
      rintro e w' ⟨rfl, hb⟩
      exact ⟨_, rfl, rfl, hb⟩
    refine ObsS.cons (fun u w hS hd => ?_) ?_
    · have d27 : u 27 = .bool false := hd 8 (by decide)
      rw [d27]
      have d29 : u 29 = .bool true := hd 10 (by decide)
      rw [d29]
      exact Gv.run (.bool false) rfl (by go_simp) rfl
    exact ObsS.nil
  intro uy4 y4 hS hd
  have d27 : uy4 27 = .bool false := hd 8 (by decide)
  have d30 : uy4 30 = .bool false := hd 11 (by decide)
  rw [d27, d30]
  replace o3 := O8.keep o3 hS
  replace o4 := O8.keep o4 hS
  replace o5 := O8.keep o5 hS
  replace HG := Lib.hid (GN.out _ _ HG.out hS)
  replace hc := hc.trans (hS.mono hc.size)
  clear hS hd d27 d30
  simp only [List.drop_succ_cons, List.drop_zero]
  go_wp2_with (first | ((with_reducible refine p_load o3 ?_ ?_); rfl) | ((with_reducible refine p_load o4 ?_ ?_); rfl) | ((with_reducible refine p_load o5 ?_ ?_); rfl))
  go_at_call 24
  refine (K4.out _ HG.out).mono ?_
  rintro e y5 ⟨rfl, h0⟩
  replace o3 := O8.keep o3 h0
  replace o4 := O8.keep o4 h0
  replace o5 := O8.keep o5 h0
  replace HG := Lib.hid (GN.out _ _ HG.out h0)
  replace hc := hc.trans (h0.mono hc.size)
  clear h0
  have on0 := O8.newz (w := y5) (Nat.le_refl _)
  have o7 := (on0.put a b).mono hc.size
  have hbz := ((Below.refl _ y5).alloc (Nat.le_refl _) Z8p).trans (on0.below a b)
  replace o3 := O8.keep o3 hbz
  replace o4 := O8.keep o4 hbz
  replace o5 := O8.keep o5 hbz
  replace HG := Lib.hid (GN.out _ _ HG.out hbz)
  replace hc := hc.trans (hbz.mono hc.size)
  clear hbz
  go_upto_region 4 with ((with_reducible refine p_store on0 a b ?_ ?_ ?_); rfl; rfl)
  obtain ⟨y6, ev⟩ : ∃ v, v = set8p (y5.alloc Z8p) y5.heap.size a b := ⟨_, rfl⟩
  obtain ⟨g7, eg⟩ : ∃ g, g = y5.heap.size := ⟨_, rfl⟩
  rw [← ev] at o3 o4 o5 o7 hc ⊢
  have HG2 : G y6 := by rw [ev]; exact HG.out
  replace HG := Lib.hid HG2
  clear HG2
  rw [← eg] at o7 ⊢
  clear ev eg on0
  go_wp2_with (first | ((with_reducible refine p_load o3 ?_ ?_); rfl) | ((with_reducible refine p_load o4 ?_ ?_); rfl) | ((with_reducible refine p_load o5 ?_ ?_); rfl) | ((with_reducible refine p_load o7 ?_ ?_); rfl))
  go_at_call 24
  refine (K5.out _ HG.out).mono ?_
  rintro e y7 ⟨rfl, h0⟩
  replace o3 := O8.keep o3 h0
  replace o4 := O8.keep o4 h0
  replace o5 := O8.keep o5 h0
  replace o7 := O8.keep o7 h0
  replace HG := Lib.hid (GN.out _ _ HG.out h0)
  replace hc := hc.trans (h0.mono hc.size)
  clear h0
  have on0 := O8.newz (w := y7) (Nat.le_refl _)
  have o9 := (on0.put a b).mono hc.size
  have hbz := ((Below.refl _ y7).alloc (Nat.le_refl _) Z8p).trans (on0.below a b)
  replace o3 := O8.keep o3 hbz
  replace o4 := O8.keep o4 hbz
  replace o5 := O8.keep o5 hbz
  replace o7 := O8.keep o7 hbz
  replace HG := Lib.hid (GN.out _ _ HG.out hbz)
  replace hc := hc.trans (hbz.mono hc.size)
  clear hbz
  go_upto_region 5 with ((with_reducible refine p_store on0 a b ?_ ?_ ?_); rfl; rfl)
  obtain ⟨y8, ev⟩ : ∃ v, v = set8p (y7.alloc Z8p) y7.heap.size a b := ⟨_, rfl⟩
  obtain ⟨g9, eg⟩ : ∃ g, g = y7.heap.size := ⟨_, rfl⟩
  rw [← ev] at o3 o4 o5 o7 o9 hc ⊢
  have HG2 : G y8 := by rw [ev]; exact HG.out
  replace HG := Lib.hid HG2
  clear HG2
  rw [← eg] at o9 ⊢
  clear ev eg on0
  go_wp2_with (first | ((with_reducible refine p_load o3 ?_ ?_); rfl) | ((with_reducible refine p_load o4 ?_ ?_); rfl) | ((with_reducible refine p_load o5 ?_ ?_); rfl) | ((with_reducible refine p_load o7 ?_ ?_); rfl) | ((with_reducible refine p_load o9 ?_ ?_); rfl))
  go_at_call 24
  refine (K6.out _ HG.out).mono ?_
  rintro e y9 ⟨rfl, h0⟩
  replace o3 := O8.keep o3 h0
  replace o4 := O8.keep o4 h0
  replace o5 := O8.keep o5 h0
  replace o7 := O8.keep o7 h0
  replace o9 := O8.keep o9 h0
  replace HG := Lib.hid (GN.out _ _ HG.out h0)
  replace hc := hc.trans (h0.mono hc.size)
  clear h0
  have on0 := O8.newz (w := y9) (Nat.le_refl _)
  have o11 := (on0.put k l).mono hc.size
  have hbz := ((Below.refl _ y9).alloc (Nat.le_refl _) Z8p).trans (on0.below k l)
  replace o3 := O8.keep o3 hbz
  replace o4 := O8.keep o4 hbz
  replace o5 := O8.keep o5 hbz
  replace o7 := O8.keep o7 hbz
  replace o9 := O8.keep o9 hbz
  replace HG := Lib.hid (GN.out _ _ HG.out hbz)
  replace hc := hc.trans (hbz.mono hc.size)
  clear hbz
  go_upto_region 6 with ((with_reducible refine p_store on0 k l ?_ ?_ ?_); rfl; rfl)
  obtain ⟨y10, ev⟩ : ∃ v, v = set8p (y9.alloc Z8p) y9.heap.size k l := ⟨_, rfl⟩
  obtain ⟨g11, eg⟩ : ∃ g, g = y9.heap.size := ⟨_, rfl⟩
  rw [← ev] at o3 o4 o5 o7 o9 o11 hc ⊢
  have HG2 : G y10 := by rw [ev]; exact HG.out
  replace HG := Lib.hid HG2
  clear HG2
  rw [← eg] at o11 ⊢
  clear ev eg on0
  go_wp2_with (first | ((with_reducible refine p_load o3 ?_ ?_); rfl) | ((with_reducible refine p_load o4 ?_ ?_); rfl) | ((with_reducible refine p_load o5 ?_ ?_); rfl) | ((with_reducible refine p_load o7 ?_ ?_); rfl) | ((with_reducible refine p_load o9 ?_ ?_); rfl) | ((with_reducible refine p_load o11 ?_ ?_); rfl))
  go_at_call 24
  refine (K7.out _ HG.out).mono ?_
  rintro e y11 ⟨rfl, h0⟩
  replace o3 := O8.keep o3 h0
  replace o4 := O8.keep o4 h0
  replace o5 := O8.keep o5 h0
  replace o7 := O8.keep o7 h0
  replace o9 := O8.keep o9 h0
  replace o11 := O8.keep o11 h0
  replace HG := Lib.hid (GN.out _ _ HG.out h0)
  replace hc := hc.trans (h0.mono hc.size)
  clear h0
  have on0 := O8.newz (w := y11) (Nat.le_refl _)
  have o13 := (on0.put s t).mono hc.size
  have hbz := ((Below.refl _ y11).alloc (Nat.le_refl _) Z8p).trans (on0.below s t)
  replace o3 := O8.keep o3 hbz
  replace o4 := O8.keep o4 hbz
  replace o5 := O8.keep o5 hbz
  replace o7 := O8.keep o7 hbz
  replace o9 := O8.keep o9 hbz
  replace o11 := O8.keep o11 hbz
  replace HG := Lib.hid (GN.out _ _ HG.out hbz)
  replace hc := hc.trans (hbz.mono hc.size)
  clear hbz
  go_upto_region 7 with ((with_reducible refine p_store on0 s t ?_ ?_ ?_); rfl; rfl)
  obtain ⟨y12, ev⟩ : ∃ v, v = set8p (y11.alloc Z8p) y11.heap.size s t := ⟨_, rfl⟩
  obtain ⟨g13, eg⟩ : ∃ g, g = y11.heap.size := ⟨_, rfl⟩
  rw [← ev] at o3 o4 o5 o7 o9 o11 o13 hc ⊢
  have HG2 : G y12 := by rw [ev]; exact HG.out
  replace HG := Lib.hid HG2
  clear HG2
  rw [← eg] at o13 ⊢
  clear ev eg on0
  go_wp2_with (first | ((with_reducible refine p_load o3 ?_ ?_); rfl) | ((with_reducible refine p_load o4 ?_ ?_); rfl) | ((with_reducible refine p_load o5 ?_ ?_); rfl) | ((with_reducible refine p_load o7 ?_ ?_); rfl) | ((with_reducible refine p_load o9 ?_ ?_); rfl) | ((with_reducible refine p_load o11 ?_ ?_); rfl) | ((with_reducible refine p_load o13 ?_ ?_); rfl))
  go_at_call 24
  refine (K8.out _ HG.out).mono ?_
  rintro e y13 ⟨rfl, h0⟩
  replace o3 := O8.keep o3 h0
  replace o4 := O8.keep o4 h0
  replace o5 := O8.keep o5 h0
  replace o7 := O8.keep o7 h0
  replace o9 := O8.keep o9 h0
  replace o11 := O8.keep o11 h0
  replace o13 := O8.keep o13 h0
  replace HG := Lib.hid (GN.out _ _ HG.out h0)
  replace hc := hc.trans (h0.mono hc.size)
  clear h0
  have on0 := O8.newz (w := y13) (Nat.le_refl _)
  have o15 := (on0.put s t).mono hc.size
  have hbz := ((Below.refl _ y13).alloc (Nat.le_refl _) Z8p).trans (on0.below s t)
  replace o3 := O8.keep o3 hbz
  replace o4 := O8.keep o4 hbz
  replace o5 := O8.keep o5 hbz
  replace o7 := O8.keep o7 hbz
  replace o9 := O8.keep o9 hbz
  replace o11 := O8.keep o11 hbz
  replace o13 := O8.keep o13 hbz
  replace HG := Lib.hid (GN.out _ _ HG.out hbz)
  replace hc := hc.trans (hbz.mono hc.size)
  clear hbz
  go_upto_region 8 with ((with_reducible refine p_store on0 s t ?_ ?_ ?_); rfl; rfl)
  obtain ⟨y14, ev⟩ : ∃ v, v = set8p (y13.alloc Z8p) y13.heap.size s t := ⟨_, rfl⟩
  obtain ⟨g15, eg⟩ : ∃ g, g = y13.heap.size := ⟨_, rfl⟩
  rw [← ev] at o3 o4 o5 o7 o9 o11 o13 o15 hc ⊢
  have HG2 : G y14 := by rw [ev]; exact HG.out
  replace HG := Lib.hid HG2
  clear HG2
  rw [← eg] at o15 ⊢
  clear ev eg on0
  refine wp_region_box 8 [some 64, some 65, some 66, some 63, some 67, some 68, some 17, none] [.val (prv x y), .val (prv 0 1), .val (.tuple #[prv x y, .int .i64 0]), .val (.tuple #[prv x y, .int .i64 0]), .val (prv x y), .val (.int .i64 0), .box 26 8, .holds 6 26 8 (pw x y)] y14.heap.size (fun wz => Below y14.heap.size y14 wz) (by kernel_rfl) (by kernel_rfl)
    (fun _ _ h _ hb => h.trans hb) ((Below.refl _ _).drew) (Nat.le_refl _) (fun u => by simp only [List.filterMap_cons, List.filterMap_nil, id, puts, List.foldl_cons, List.foldl_nil]; go_simp; exact rfl) ?_ ?_
  · simp only [List.take_succ_cons, List.take_zero]
    refine ObsB.cons (fun u w L hL hS hBw hd => ?_) ?_
    · exact GB.run 64 rfl (prv x y) rfl (run_pload rfl rfl (O8.keep o3 hS)) rfl rfl
    refine ObsB.cons (fun u w L hL hS hBw hd => ?_) ?_
    · refine GB.call 65 rfl 26 #[] rfl (by go_simp) rfl ((K10.out w).mono ?_)
      rintro e w' ⟨rfl, hb⟩
      exact ⟨_, rfl, rfl, hb⟩
    refine ObsB.cons (fun u w L hL hS hBw hd => ?_) ?_
    · have d64 : u 64 = prv x y := depB hd 0 rfl
      rw [d64]
      have d65 : u 65 = prv 0 1 := depB hd 1 rfl
      rw [d65]
      refine GB.call 66 rfl 24 #[prv x y, prv 0 1] rfl (by go_simp) rfl ((K11.out w (GN.out _ _ HG.out hS)).mono ?_)
      rintro e w' ⟨rfl, hb⟩
      exact ⟨_, rfl, rfl, hb⟩
    refine ObsB.cons (fun u w L hL hS hBw hd => ?_) ?_
    · have d66 : u 66 = .tuple #[prv x y, .int .i64 0] := depB hd 2 rfl
      rw [d66]
      exact GB.run 63 rfl (.tuple #[prv x y, .int .i64 0]) rfl (by go_simp) rfl rfl
    refine ObsB.cons (fun u w L hL hS hBw hd => ?_) ?_
    · have d63 : u 63 = .tuple #[prv x y, .int .i64 0] := depB hd 3 rfl
      rw [d63]
      exact GB.run 67 rfl (prv x y) rfl (by go_simp) rfl rfl
    refine ObsB.cons (fun u w L hL hS hBw hd => ?_) ?_
    · have d63 : u 63 = .tuple #[prv x y, .int .i64 0] := depB hd 3 rfl
      rw [d63]
      exact GB.run 68 rfl (.int .i64 0) rfl (by go_simp) rfl rfl
    refine ObsB.cons (fun u w L hL hS hBw hd => ?_) ?_
    · exact GB.alloc 17 rfl rfl #[.int .u64 0, .int .u64 0, .int .u64 0, .int .u64 0, .int .u64 0, .int .u64 0, .int .u64 0, .int .u64 0] 26 8 (fun _ => .int .u64 0) rfl rfl (by go_simp) hBw (by decide) rfl
    refine ObsB.cons (fun u w L hL hS hBw hd => ?_) ?_
    · have d67 : u 67 = prv x y := depB hd 4 rfl
      obtain ⟨g, fg, e17, o17⟩ : (Fact.box 26 8).ok y14.heap.size [some 64, some 65, some 66, some 63, some 67, some 68, some 17, none] 6 u w L := depB hd 6 rfl
      exact GB.store rfl 6 g 26 8 (pw x y) rfl rfl rfl e17 (run_pstore rfl (by exact e17) (by exact d67) o17) (only8p w g x y) (put8p o17 x y)
    exact ObsB.nil
  intro uy15 y15 hS hd
  obtain ⟨g17, eg17, o17⟩ : (Fact.holds 6 26 8 (pw x y)).ok y14.heap.size [some 64, some 65, some 66, some 63, some 67, some 68, some 17, none] 7 uy15 y15 (fun _ => true) := hd 7 (by decide)
  replace eg17 : uy15 17 = .pointer (some ⟨g17, 0, none⟩) := eg17
  replace o17 : O8 y15 y14.heap.size g17 x y := o17
  replace o17 := o17.mono hc.size
  replace o3 := O8.keep o3 hS
  replace o4 := O8.keep o4 hS
  replace o5 := O8.keep o5 hS
  replace o7 := O8.keep o7 hS
  replace o9 := O8.keep o9 hS
  replace o11 := O8.keep o11 hS
  replace o13 := O8.keep o13 hS
  replace o15 := O8.keep o15 hS
  replace HG := Lib.hid (GN.out _ _ HG.out hS)
  replace hc := hc.trans (hS.mono hc.size)
  have d68 : uy15 68 = .int .i64 0 := hd 5 (by decide)
  rw [eg17, d68]
  clear hS hd eg17 d68
  simp only [List.drop_succ_cons, List.drop_zero]
  go_upto_region 9 with fail
  refine wp_region_obs 32 [69, 70, 71, 72, 73, 74, 75, 76, 77, 78, 79, 80, 81, 82, 83, 84, 85, 86, 87, 88, 89, 90, 91, 92, 93, 94, 95, 96, 97, 98, 99, 100] [.val (prv a b), .val (.bool true), .val (.bool true), .val (prv a b), .val (prv a b), .val (.bool true), .val (.bool true), .val (.bool true), .val (prv s t), .val (prv s t), .val (.bool true), .val (.bool true), .val (.bool true), .val (prv x y), .val (prv x y), .val (.bool true), .val (.bool true), .val (.bool true), .val (.int .i64 0), .val (.bool true), .val (.bool true), .val (.bool true), .val (.int .i64 0), .val (.bool true), .val (.bool true), .val (.bool true), .val (.int .i64 0), .val (.bool true), .val (.bool true), .val (.bool true), .val (.bool true), .val (.bool true)] (fun wz => Below y15.heap.size y15 wz) (by kernel_rfl) (fun wz wz' hz hb => hz.trans (hb.mono hz.size)) (Below.refl _ _) (fun u => by simp only [puts, List.foldl_cons, List.foldl_nil]; go_simp; exact rfl) ?_ ?_
  · simp only [List.take_succ_cons, List.take_zero]
    refine ObsS.cons (fun u w hS hd => ?_) ?_
    · exact Gv.run (prv a b) rfl (run_pload rfl rfl (O8.keep o7 hS)) rfl
    refine ObsS.cons (fun u w hS hd => ?_) ?_
    · have d69 : u 69 = prv a b := hd 0 (by decide)
      rw [d69]
      refine Gv.call 12 #[prv a b] rfl (by go_simp) ((K12.out w (GN.out _ _ HG.out hS)).mono ?_)
      rintro e w' ⟨rfl, hb⟩
      exact ⟨_, rfl, rfl, hb⟩
    refine ObsS.cons (fun u w hS hd => ?_) ?_
    · have d70 : u 70 = .bool true := hd 1 (by decide)
      rw [d70]
      exact Gv.run (.bool true) rfl (by go_simp) rfl
    refine ObsS.cons (fun u w hS hd => ?_) ?_
    · have d71 : u 71 = .bool true := hd 2 (by decide)
      rw [d71]
      exact Gv.run (prv a b) (by rfl) (run_pload rfl rfl (O8.keep o7 hS)) rfl
    refine ObsS.cons (fun u w hS hd => ?_) ?_
    · have d71 : u 71 = .bool true := hd 2 (by decide)
      rw [d71]
      exact Gv.run (prv a b) (by rfl) (run_pload rfl rfl (O8.keep o9 hS)) rfl
    refine ObsS.cons (fun u w hS hd => ?_) ?_
    · have d71 : u 71 = .bool true := hd 2 (by decide)
      rw [d71]
      have d72 : u 72 = prv a b := hd 3 (by decide)
      rw [d72]
      have d73 : u 73 = prv a b := hd 4 (by decide)
      rw [d73]
      exact Gv.run (.bool true) (by rfl) (run_eqT rfl rfl rfl hA hB hA hB (by simp) w) rfl
    refine ObsS.cons (fun u w hS hd => ?_) ?_
    · have d71 : u 71 = .bool true := hd 2 (by decide)
      rw [d71]
      have d74 : u 74 = .bool true := hd 5 (by decide)
      rw [d74]
      exact Gv.run (.bool true) rfl (by go_simp) rfl
    refine ObsS.cons (fun u w hS hd => ?_) ?_
    · have d75 : u 75 = .bool true := hd 6 (by decide)
      rw [d75]
      exact Gv.run (.bool true) rfl (by go_simp) rfl
    refine ObsS.cons (fun u w hS hd => ?_) ?_
    · have d76 : u 76 = .bool true := hd 7 (by decide)
      rw [d76]
      exact Gv.run (prv s t) (by rfl) (run_pload rfl rfl (O8.keep o13 hS)) rfl
    refine ObsS.cons (fun u w hS hd => ?_) ?_
    · have d76 : u 76 = .bool true := hd 7 (by decide)
      rw [d76]
      exact Gv.run (prv s t) (by rfl) (run_pload rfl rfl (O8.keep o15 hS)) rfl
    refine ObsS.cons (fun u w hS hd => ?_) ?_
    · have d76 : u 76 = .bool true := hd 7 (by decide)
      rw [d76]
      have d77 : u 77 = prv s t := hd 8 (by decide)
      rw [d77]
      have d78 : u 78 = prv s t := hd 9 (by decide)
      rw [d78]
      exact Gv.run (.bool true) (by rfl) (run_eqT rfl rfl rfl hs ht hs ht (by simp) w) rfl
    refine ObsS.cons (fun u w hS hd => ?_) ?_
    · have d76 : u 76 = .bool true := hd 7 (by decide)
      rw [d76]
      have d79 : u 79 = .bool true := hd 10 (by decide)
      rw [d79]
      exact Gv.run (.bool true) rfl (by go_simp) rfl
    refine ObsS.cons (fun u w hS hd => ?_) ?_
    · have d80 : u 80 = .bool true := hd 11 (by decide)
      rw [d80]
      exact Gv.run (.bool true) rfl (by go_simp) rfl
    refine ObsS.cons (fun u w hS hd => ?_) ?_
    · have d81 : u 81 = .bool true := hd 12 (by decide)
      rw [d81]
      exact Gv.run (prv x y) (by rfl) (run_pload rfl rfl (O8.keep o17 hS)) rfl
    refine ObsS.cons (fun u w hS hd => ?_) ?_
    · have d81 : u 81 = .bool true := hd 12 (by decide)
      rw [d81]
      exact Gv.run (prv x y) (by rfl) (run_pload rfl rfl (O8.keep o3 hS)) rfl
    refine ObsS.cons (fun u w hS hd => ?_) ?_
    · have d81 : u 81 = .bool true := hd 12 (by decide)
      rw [d81]
      have d82 : u 82 = prv x y := hd 13 (by decide)
      rw [d82]
      have d83 : u 83 = prv x y := hd 14 (by decide)
      rw [d83]
      exact Gv.run (.bool true) (by rfl) (run_eqT rfl rfl rfl hx hy hx hy (by simp) w) rfl
    refine ObsS.cons (fun u w hS hd => ?_) ?_
    · have d81 : u 81 = .bool true := hd 12 (by decide)
      rw [d81]
      have d84 : u 84 = .bool true := hd 15 (by decide)
      rw [d84]
      exact Gv.run (.bool true) rfl (by go_simp) rfl
    refine ObsS.cons (fun u w hS hd => ?_) ?_
    · have d85 : u 85 = .bool true := hd 16 (by decide)
      rw [d85]
      exact Gv.run (.bool true) rfl (by go_simp) rfl
    refine ObsS.cons (fun u w hS hd => ?_) ?_
    · have d86 : u 86 = .bool true := hd 17 (by decide)
      rw [d86]
      exact Gv.run (.int .i64 0) rfl (by go_simp) rfl
    refine ObsS.cons (fun u w hS hd => ?_) ?_
    · have d86 : u 86 = .bool true := hd 17 (by decide)
      rw [d86]
      have d87 : u 87 = .int .i64 0 := hd 18 (by decide)
      rw [d87]
      exact Gv.run (.bool true) rfl (by go_simp) rfl
    refine ObsS.cons (fun u w hS hd => ?_) ?_
    · have d86 : u 86 = .bool true := hd 17 (by decide)
      rw [d86]
      have d88 : u 88 = .bool true := hd 19 (by decide)
      rw [d88]
      exact Gv.run (.bool true) rfl (by go_simp) rfl
    refine ObsS.cons (fun u w hS hd => ?_) ?_
    · have d89 : u 89 = .bool true := hd 20 (by decide)
      rw [d89]
      exact Gv.run (.bool true) rfl (by go_simp) rfl
    refine ObsS.cons (fun u w hS hd => ?_) ?_
    · have d90 : u 90 = .bool true := hd 21 (by decide)
      rw [d90]
      exact Gv.run (.int .i64 0) rfl (by go_simp) rfl
    refine ObsS.cons (fun u w hS hd => ?_) ?_
    · have d90 : u 90 = .bool true := hd 21 (by decide)
      rw [d90]
      have d91 : u 91 = .int .i64 0 := hd 22 (by decide)
      rw [d91]
      exact Gv.run (.bool true) rfl (by go_simp) rfl
    refine ObsS.cons (fun u w hS hd => ?_) ?_
    · have d90 : u 90 = .bool true := hd 21 (by decide)
      rw [d90]
      have d92 : u 92 = .bool true := hd 23 (by decide)
      rw [d92]
      exact Gv.run (.bool true) rfl (by go_simp) rfl
    refine ObsS.cons (fun u w hS hd => ?_) ?_
    · have d93 : u 93 = .bool true := hd 24 (by decide)
      rw [d93]
      exact Gv.run (.bool true) rfl (by go_simp) rfl
    refine ObsS.cons (fun u w hS hd => ?_) ?_
    · have d94 : u 94 = .bool true := hd 25 (by decide)
      rw [d94]
      exact Gv.run (.int .i64 0) rfl (by go_simp) rfl
    refine ObsS.cons (fun u w hS hd => ?_) ?_
    · have d94 : u 94 = .bool true := hd 25 (by decide)
      rw [d94]
      have d95 : u 95 = .int .i64 0 := hd 26 (by decide)
      rw [d95]
      exact Gv.run (.bool true) rfl (by go_simp) rfl
    refine ObsS.cons (fun u w hS hd => ?_) ?_
    · have d94 : u 94 = .bool true := hd 25 (by decide)
      rw [d94]
      have d96 : u 96 = .bool true := hd 27 (by decide)
      rw [d96]
      exact Gv.run (.bool true) rfl (by go_simp) rfl
    refine ObsS.cons (fun u w hS hd => ?_) ?_
    · have d97 : u 97 = .bool true := hd 28 (by decide)
      rw [d97]
      exact Gv.run (.bool true) rfl (by go_simp) rfl
    refine ObsS.cons (fun u w hS hd => ?_) ?_
    · have d98 : u 98 = .bool true := hd 29 (by decide)
      rw [d98]
      refine Gv.call 20 #[] rfl (by go_simp) ((K9.out w (GN.out _ _ HG.out hS)).mono ?_)
      rintro e w' ⟨rfl, hb⟩
      exact ⟨_, rfl, rfl, hb⟩
    refine ObsS.cons (fun u w hS hd => ?_) ?_
    · have d98 : u 98 = .bool true := hd 29 (by decide)
      rw [d98]
      have d99 : u 99 = .bool true := hd 30 (by decide)
      rw [d99]
      exact Gv.run (.bool true) rfl (by go_simp) rfl
    exact ObsS.nil
  intro uy16 y16 hS hd
  have d100 : uy16 100 = .bool true := hd 31 (by decide)
  rw [d100]
  replace o3 := O8.keep o3 hS
  replace o4 := O8.keep o4 hS
  replace o5 := O8.keep o5 hS
  replace o7 := O8.keep o7 hS
  replace o9 := O8.keep o9 hS
  replace o11 := O8.keep o11 hS
  replace o13 := O8.keep o13 hS
  replace o15 := O8.keep o15 hS
  replace o17 := O8.keep o17 hS
  replace HG := Lib.hid (GN.out _ _ HG.out hS)
  replace hc := hc.trans (hS.mono hc.size)
  clear hS hd d100
  simp only [List.drop_succ_cons, List.drop_zero]
  go_wp2_with fail
  go_ret
  exact ⟨rfl, hc⟩
end
end Go.Proofs.YtckdifcelgooeaaDoor
