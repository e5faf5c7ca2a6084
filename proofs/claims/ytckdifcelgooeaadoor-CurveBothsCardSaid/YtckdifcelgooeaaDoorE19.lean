/-
  Layer 8's CurveMults over contracts. Written by tools/gen_e19.py. By an AI agent.
-/
import Derived.Test.YtckdifcelgooeaaDoorE18
namespace Go.Proofs.YtckdifcelgooeaaDoor
open Go Go.RowKit
/-- Three numbers of that point. -/
def trE (q : Pt E25) (v : Value) (_ : World) : Prop := ∃ r : Tr, v = t3v r ∧ r.ok ∧ r.of q
theorem trE_keep (q : Pt E25) : ∀ v w w', trE q v w → Below w.heap.size w w' → trE q v w' := fun _ _ _ h _ => h
section
attribute [local irreducible] wd by8 d16 set16w fl rl setA t3f set8p set4w
set_option maxRecDepth 20000
set_option maxHeartbeats 6400000 in
theorem mults8_a {G : World → Prop} (hGn : ∀ w w', G w → Below w.heap.size w w' → G w') {x y z : Nat}
    (k1 : ∀ w, G w → Calls Tryd.prog 28 #[nv z, prv x y] w fun e w' => e = .returned (.tuple #[prv 0 0, .int .i64 7]) ∧ Below w.heap.size w w')
    (k3 : ∀ w, Calls Tryd.prog 13 #[prv x y] w fun e w' => e = .returned (.bool false) ∧ Below w.heap.size w w')
    (k9 : ∀ w, G w → Calls Tryd.prog 20 #[] w fun e w' => e = .returned (.bool true) ∧ Below w.heap.size w w')
    (w : World) (hG : G w) : Calls Tryd.prog 6 #[nv z, prv x y] w fun e w' => e = .returned (.bool true) ∧ Below w.heap.size w w' := by
  have K1 := Lib.hid k1
  have K3 := Lib.hid k3
  have K9 := Lib.hid k9
  have GN := Lib.hid hGn
  have HG := Lib.hid hG
  clear hGn hG k1 k3 k9
  obtain ⟨v1, ev1⟩ : ∃ v, v = w.alloc (A4 z) := ⟨_, rfl⟩
  have bv1 : Below w.heap.size w v1 := by rw [ev1]; exact (Below.refl _ _).alloc (Nat.le_refl _) _
  have sv1 : v1.heap.size = w.heap.size + 1 := by rw [ev1]; simp
  obtain ⟨g2, eg2⟩ : ∃ g, g = w.heap.size := ⟨_, rfl⟩
  have o2 : O4 v1 w.heap.size g2 z := by rw [eg2, ev1]; exact O4.new (Nat.le_refl _) z
  have hc := bv1
  have hs1 := hc.size
  obtain ⟨v2, ev2⟩ : ∃ v, v = v1.alloc (A8p x y) := ⟨_, rfl⟩
  have bv2 : Below v1.heap.size v1 v2 := by rw [ev2]; exact (Below.refl _ _).alloc (Nat.le_refl _) _
  have sv2 : v2.heap.size = v1.heap.size + 1 := by rw [ev2]; simp
  obtain ⟨g3, eg3⟩ : ∃ g, g = v1.heap.size := ⟨_, rfl⟩
  have o3 : O8 v2 v1.heap.size g3 x y := by rw [eg3, ev2]; exact O8.new (Nat.le_refl _) x y
  replace o2 := o2.keep bv2
  replace hc := hc.trans (bv2.mono hc.size)
  replace o3 := o3.mono hs1
  have hs2 := hc.size
  unfold nv
  go_enter Tryd.func6, Tryd.ntmps6
  go_upto_region 1 with fail
  rw [← ev1, ← ev2]
  rw [show Value.pointer (some ⟨w.heap.size, 0, none⟩) = .pointer (some ⟨g2, 0, none⟩) by rw [eg2]]
  rw [show Value.pointer (some ⟨w.heap.size + 1, 0, none⟩) = .pointer (some ⟨g3, 0, none⟩) by rw [eg3, sv1]]
  clear ev1 bv1 sv1 ev2 bv2 sv2 eg2 eg3 hs1 hs2
  replace HG := Lib.hid (GN.out _ _ HG.out hc)
  go_wp2_with (first | ((with_reducible refine n_load o2 ?_ ?_); rfl) | ((with_reducible refine p_load o3 ?_ ?_); rfl))
  go_at_call 28
  refine (K1.out _ HG.out).mono ?_
  rintro e y3 ⟨rfl, h0⟩
  replace o2 := O4.keep o2 h0
  replace o3 := O8.keep o3 h0
  replace HG := Lib.hid (GN.out _ _ HG.out h0)
  replace hc := hc.trans (h0.mono hc.size)
  clear h0
  have on0 := O8.newz (w := y3) (Nat.le_refl _)
  have o5 := (on0.put 0 0).mono hc.size
  have hbz := ((Below.refl _ y3).alloc (Nat.le_refl _) Z8p).trans (on0.below 0 0)
  replace o2 := O4.keep o2 hbz
  replace o3 := O8.keep o3 hbz
  replace HG := Lib.hid (GN.out _ _ HG.out hbz)
  replace hc := hc.trans (hbz.mono hc.size)
  clear hbz
  go_upto_region 2 with ((with_reducible refine p_store on0 0 0 ?_ ?_ ?_); rfl; rfl)
  obtain ⟨y4, ev⟩ : ∃ v, v = set8p (y3.alloc Z8p) y3.heap.size 0 0 := ⟨_, rfl⟩
  obtain ⟨g5, eg⟩ : ∃ g, g = y3.heap.size := ⟨_, rfl⟩
  rw [← ev] at o2 o3 o5 hc ⊢
  have HG2 : G y4 := by rw [ev]; exact HG.out
  replace HG := Lib.hid HG2
  clear HG2
  rw [← eg] at o5 ⊢
  clear ev eg on0
  go_wp2_with (first | ((with_reducible refine n_load o2 ?_ ?_); rfl) | ((with_reducible refine p_load o3 ?_ ?_); rfl) | ((with_reducible refine p_load o5 ?_ ?_); rfl))
  go_at_call 13
  refine (K3.out _).mono ?_
  rintro e y5 ⟨rfl, h0⟩
  replace o2 := O4.keep o2 h0
  replace o3 := O8.keep o3 h0
  replace o5 := O8.keep o5 h0
  replace HG := Lib.hid (GN.out _ _ HG.out h0)
  replace hc := hc.trans (h0.mono hc.size)
  clear h0
  go_upto_region 3 with fail
  refine wp_region_obs 10 [16, 17, 18, 19, 20, 21, 22, 23, 24, 25] [.val (prv 0 0), .val (prv 0 0), .val (.bool true), .val (.bool true), .val (.int .i64 7), .val (.bool true), .val (.bool true), .val (.bool true), .val (.bool true), .val (.bool true)] (fun wz => Below y5.heap.size y5 wz) (by kernel_rfl) (fun wz wz' hz hb => hz.trans (hb.mono hz.size)) (Below.refl _ _) (fun u => by simp only [puts, List.foldl_cons, List.foldl_nil]; go_simp; exact rfl) ?_ ?_
  · simp only [List.take_succ_cons, List.take_zero]
    refine ObsS.cons (fun u w hS hd => ?_) ?_
    · exact Gv.run (prv 0 0) rfl (run_pload rfl rfl (O8.keep o5 hS)) rfl
    refine ObsS.cons (fun u w hS hd => ?_) ?_
    · exact Gv.run (prv 0 0) rfl (run_T0 rfl w) rfl
    refine ObsS.cons (fun u w hS hd => ?_) ?_
    · have d16 : u 16 = prv 0 0 := hd 0 (by decide)
      rw [d16]
      have d17 : u 17 = prv 0 0 := hd 1 (by decide)
      rw [d17]
      exact Gv.run (.bool true) rfl (run_eqT rfl rfl rfl W4_pos W4_pos W4_pos W4_pos (by decide) w) rfl
    refine ObsS.cons (fun u w hS hd => ?_) ?_
    · have d18 : u 18 = .bool true := hd 2 (by decide)
      rw [d18]
      exact Gv.run (.bool true) rfl (by go_simp) rfl
    refine ObsS.cons (fun u w hS hd => ?_) ?_
    · have d19 : u 19 = .bool true := hd 3 (by decide)
      rw [d19]
      exact Gv.run (.int .i64 7) rfl (by go_simp) rfl
    refine ObsS.cons (fun u w hS hd => ?_) ?_
    · have d19 : u 19 = .bool true := hd 3 (by decide)
      rw [d19]
      have d20 : u 20 = .int .i64 7 := hd 4 (by decide)
      rw [d20]
      exact Gv.run (.bool true) rfl (by go_simp) rfl
    refine ObsS.cons (fun u w hS hd => ?_) ?_
    · have d19 : u 19 = .bool true := hd 3 (by decide)
      rw [d19]
      have d21 : u 21 = .bool true := hd 5 (by decide)
      rw [d21]
      exact Gv.run (.bool true) rfl (by go_simp) rfl
    refine ObsS.cons (fun u w hS hd => ?_) ?_
    · have d22 : u 22 = .bool true := hd 6 (by decide)
      rw [d22]
      exact Gv.run (.bool true) rfl (by go_simp) rfl
    refine ObsS.cons (fun u w hS hd => ?_) ?_
    · have d23 : u 23 = .bool true := hd 7 (by decide)
      rw [d23]
      refine Gv.call 20 #[] rfl (by go_simp) ((K9.out w (GN.out _ _ HG.out hS)).mono ?_)
      rintro e w' ⟨rfl, hb⟩
      exact ⟨_, rfl, rfl, hb⟩
    refine ObsS.cons (fun u w hS hd => ?_) ?_
    · have d23 : u 23 = .bool true := hd 7 (by decide)
      rw [d23]
      have d24 : u 24 = .bool true := hd 8 (by decide)
      rw [d24]
      exact Gv.run (.bool true) rfl (by go_simp) rfl
    exact ObsS.nil
  intro uy6 y6 hS hd
  have d25 : uy6 25 = .bool true := hd 9 (by decide)
  rw [d25]
  replace o2 := O4.keep o2 hS
  replace o3 := O8.keep o3 hS
  replace o5 := O8.keep o5 hS
  replace HG := Lib.hid (GN.out _ _ HG.out hS)
  replace hc := hc.trans (hS.mono hc.size)
  clear hS hd d25
  simp only [List.drop_succ_cons, List.drop_zero]
  go_wp2_with fail
  go_ret
  exact ⟨rfl, hc⟩
set_option maxHeartbeats 6400000 in
theorem mults8_b {G : World → Prop} (hGn : ∀ w w', G w → Below w.heap.size w w' → G w') {x y z a b : Nat} {t1 : Tr} {q1 : Pt E25} (hA : a < W4) (hB : b < W4)
    (kt1 : ∀ (A : Option Addr) (c k : Nat) (w : World), Dig w w.heap.size A c k z → Can k z → Calls Tryd.prog 29 #[.slice A k c, t3v t1] w fun e w' => ∃ r : Tr, e = .returned (t3v r) ∧ r.ok ∧ r.of q1 ∧ Below w.heap.size w w')
    (kp1 : ∀ r : Tr, r.ok → r.of q1 → ∀ w, Calls Tryd.prog 19 #[t3v r] w fun e w' => e = .returned (prv a b) ∧ Below w.heap.size w w')
    (kd1 : ∀ w, Calls Tryd.prog 30 #[nv z] w fun e w' => ∃ A c n, e = .returned (.slice A n c) ∧ DOwn w' w.heap.size A c n z ∧ Below w.heap.size w w')
    (k1 : ∀ w, G w → Calls Tryd.prog 28 #[nv z, prv x y] w fun e w' => e = .returned (.tuple #[prv a b, .int .i64 0]) ∧ Below w.heap.size w w')
    (k3 : ∀ w, Calls Tryd.prog 13 #[prv x y] w fun e w' => e = .returned (.bool true) ∧ Below w.heap.size w w')
    (k10 : ∀ w, Calls Tryd.prog 23 #[prv x y] w fun e w' => e = .returned (t3v t1) ∧ Below w.heap.size w w')
    (k9 : ∀ w, G w → Calls Tryd.prog 20 #[] w fun e w' => e = .returned (.bool true) ∧ Below w.heap.size w w')
    (w : World) (hG : G w) : Calls Tryd.prog 6 #[nv z, prv x y] w fun e w' => e = .returned (.bool true) ∧ Below w.heap.size w w' := by
  have K1 := Lib.hid k1
  have K3 := Lib.hid k3
  have K10 := Lib.hid k10
  have K9 := Lib.hid k9
  have GN := Lib.hid hGn
  have HG := Lib.hid hG
  clear hGn hG k1 k3 k10 k9
  have KT1 := Lib.hid kt1
  have KP1 := Lib.hid kp1
  have KD1 := Lib.hid kd1
  clear kt1 kp1 kd1
  obtain ⟨v1, ev1⟩ : ∃ v, v = w.alloc (A4 z) := ⟨_, rfl⟩
  have bv1 : Below w.heap.size w v1 := by rw [ev1]; exact (Below.refl _ _).alloc (Nat.le_refl _) _
  have sv1 : v1.heap.size = w.heap.size + 1 := by rw [ev1]; simp
  obtain ⟨g2, eg2⟩ : ∃ g, g = w.heap.size := ⟨_, rfl⟩
  have o2 : O4 v1 w.heap.size g2 z := by rw [eg2, ev1]; exact O4.new (Nat.le_refl _) z
  have hc := bv1
  have hs1 := hc.size
  obtain ⟨v2, ev2⟩ : ∃ v, v = v1.alloc (A8p x y) := ⟨_, rfl⟩
  have bv2 : Below v1.heap.size v1 v2 := by rw [ev2]; exact (Below.refl _ _).alloc (Nat.le_refl _) _
  have sv2 : v2.heap.size = v1.heap.size + 1 := by rw [ev2]; simp
  obtain ⟨g3, eg3⟩ : ∃ g, g = v1.heap.size := ⟨_, rfl⟩
  have o3 : O8 v2 v1.heap.size g3 x y := by rw [eg3, ev2]; exact O8.new (Nat.le_refl _) x y
  replace o2 := o2.keep bv2
  replace hc := hc.trans (bv2.mono hc.size)
  replace o3 := o3.mono hs1
  have hs2 := hc.size
  unfold nv
  go_enter Tryd.func6, Tryd.ntmps6
  go_upto_region 1 with fail
  rw [← ev1, ← ev2]
  rw [show Value.pointer (some ⟨w.heap.size, 0, none⟩) = .pointer (some ⟨g2, 0, none⟩) by rw [eg2]]
  rw [show Value.pointer (some ⟨w.heap.size + 1, 0, none⟩) = .pointer (some ⟨g3, 0, none⟩) by rw [eg3, sv1]]
  clear ev1 bv1 sv1 ev2 bv2 sv2 eg2 eg3 hs1 hs2
  replace HG := Lib.hid (GN.out _ _ HG.out hc)
  go_wp2_with (first | ((with_reducible refine n_load o2 ?_ ?_); rfl) | ((with_reducible refine p_load o3 ?_ ?_); rfl))
  go_at_call 28
  refine (K1.out _ HG.out).mono ?_
  rintro e y3 ⟨rfl, h0⟩
  replace o2 := O4.keep o2 h0
  replace o3 := O8.keep o3 h0
  replace HG := Lib.hid (GN.out _ _ HG.out h0)
  replace hc := hc.trans (h0.mono hc.size)
  clear h0
  have on0 := O8.newz (w := y3) (Nat.le_refl _)
  have o5 := (on0.put a b).mono hc.size
  have hbz := ((Below.refl _ y3).alloc (Nat.le_refl _) Z8p).trans (on0.below a b)
  replace o2 := O4.keep o2 hbz
  replace o3 := O8.keep o3 hbz
  replace HG := Lib.hid (GN.out _ _ HG.out hbz)
  replace hc := hc.trans (hbz.mono hc.size)
  clear hbz
  go_upto_region 2 with ((with_reducible refine p_store on0 a b ?_ ?_ ?_); rfl; rfl)
  obtain ⟨y4, ev⟩ : ∃ v, v = set8p (y3.alloc Z8p) y3.heap.size a b := ⟨_, rfl⟩
  obtain ⟨g5, eg⟩ : ∃ g, g = y3.heap.size := ⟨_, rfl⟩
  rw [← ev] at o2 o3 o5 hc ⊢
  have HG2 : G y4 := by rw [ev]; exact HG.out
  replace HG := Lib.hid HG2
  clear HG2
  rw [← eg] at o5 ⊢
  clear ev eg on0
  go_wp2_with (first | ((with_reducible refine n_load o2 ?_ ?_); rfl) | ((with_reducible refine p_load o3 ?_ ?_); rfl) | ((with_reducible refine p_load o5 ?_ ?_); rfl))
  go_at_call 13
  refine (K3.out _).mono ?_
  rintro e y5 ⟨rfl, h0⟩
  replace o2 := O4.keep o2 h0
  replace o3 := O8.keep o3 h0
  replace o5 := O8.keep o5 h0
  replace HG := Lib.hid (GN.out _ _ HG.out h0)
  replace hc := hc.trans (h0.mono hc.size)
  clear h0
  go_upto_region 4 with fail
  refine wp_region_inv 15 [26, 27, 28, 29, 30, 31, 32, 33, 34, 35, 36, 37, 38, 39, 40] [.val (prv a b), .val (nv z), .dig z, .val (prv x y), .val (t3v t1), .sat (trE q1) (trE_keep q1), .val (prv a b), .val (.bool true), .val (.bool true), .val (.int .i64 0), .val (.bool true), .val (.bool true), .val (.bool true), .val (.bool true), .val (.bool true)] (fun wz => Below y5.heap.size y5 wz) (by kernel_rfl) (by kernel_rfl) (fun wz wz' hz hb => hz.trans (hb.mono hz.size)) ((Below.refl _ _).drew) (fun u => by simp only [puts, List.foldl_cons, List.foldl_nil]; go_simp; exact rfl) ?_ ?_
  · simp only [List.take_succ_cons, List.take_zero]
    refine Obs.cons (fun u w hS hd => ?_) ?_
    · exact Gv.run (prv a b) rfl (run_pload rfl rfl (O8.keep o5 hS)) rfl
    refine Obs.cons (fun u w hS hd => ?_) ?_
    · exact Gv.run (nv z) rfl (run_nload rfl rfl (O4.keep o2 hS)) rfl
    refine Obs.cons (fun u w hS hd => ?_) ?_
    · have d27 : u 27 = nv z := dep hd 1 rfl
      rw [d27]
      refine Gv.call 30 #[nv z] rfl (by go_simp) ((KD1.out w).mono ?_)
      rintro e w' ⟨A, c, n, rfl, D, hb⟩
      exact ⟨_, rfl, ⟨A, c, n, rfl, D.dig, D.can⟩, hb⟩
    refine Obs.cons (fun u w hS hd => ?_) ?_
    · exact Gv.run (prv x y) rfl (run_pload rfl rfl (O8.keep o3 hS)) rfl
    refine Obs.cons (fun u w hS hd => ?_) ?_
    · have d29 : u 29 = prv x y := dep hd 3 rfl
      rw [d29]
      refine Gv.call 23 #[prv x y] rfl (by go_simp) ((K10.out w).mono ?_)
      rintro e w' ⟨rfl, hb⟩
      exact ⟨_, rfl, rfl, hb⟩
    refine Obs.cons (fun u w hS hd => ?_) ?_
    · obtain ⟨A28, c28, n28, d28, g28, k28⟩ : (Know.dig z).ok (u 28) w := dep hd 2 rfl
      rw [d28]
      have d30 : u 30 = t3v t1 := dep hd 4 rfl
      rw [d30]
      refine Gv.call 29 #[.slice A28 n28 c28, t3v t1] rfl (by go_simp) ((KT1.out _ _ _ w g28 k28).mono ?_)
      rintro e w' ⟨r, rfl, h1, h2, hb⟩
      exact ⟨_, rfl, ⟨r, rfl, h1, h2⟩, hb⟩
    refine Obs.cons (fun u w hS hd => ?_) ?_
    · obtain ⟨r31, d31, h31, i31⟩ : (Know.sat (trE q1) (trE_keep q1)).ok (u 31) w := dep hd 5 rfl
      rw [d31]
      refine Gv.call 19 #[t3v r31] rfl (by go_simp) ((KP1.out r31 h31 i31 w).mono ?_)
      rintro e w' ⟨rfl, hb⟩
      exact ⟨_, rfl, rfl, hb⟩
    refine Obs.cons (fun u w hS hd => ?_) ?_
    · have d26 : u 26 = prv a b := dep hd 0 rfl
      rw [d26]
      have d32 : u 32 = prv a b := dep hd 6 rfl
      rw [d32]
      exact Gv.run (.bool true) rfl (run_eqT rfl rfl rfl hA hB hA hB (by simp) w) rfl
    refine Obs.cons (fun u w hS hd => ?_) ?_
    · have d33 : u 33 = .bool true := dep hd 7 rfl
      rw [d33]
      exact Gv.run (.bool true) rfl (by go_simp) rfl
    refine Obs.cons (fun u w hS hd => ?_) ?_
    · have d34 : u 34 = .bool true := dep hd 8 rfl
      rw [d34]
      exact Gv.run (.int .i64 0) rfl (by go_simp) rfl
    refine Obs.cons (fun u w hS hd => ?_) ?_
    · have d34 : u 34 = .bool true := dep hd 8 rfl
      rw [d34]
      have d35 : u 35 = .int .i64 0 := dep hd 9 rfl
      rw [d35]
      exact Gv.run (.bool true) rfl (by go_simp) rfl
    refine Obs.cons (fun u w hS hd => ?_) ?_
    · have d34 : u 34 = .bool true := dep hd 8 rfl
      rw [d34]
      have d36 : u 36 = .bool true := dep hd 10 rfl
      rw [d36]
      exact Gv.run (.bool true) rfl (by go_simp) rfl
    refine Obs.cons (fun u w hS hd => ?_) ?_
    · have d37 : u 37 = .bool true := dep hd 11 rfl
      rw [d37]
      exact Gv.run (.bool true) rfl (by go_simp) rfl
    refine Obs.cons (fun u w hS hd => ?_) ?_
    · have d38 : u 38 = .bool true := dep hd 12 rfl
      rw [d38]
      refine Gv.call 20 #[] rfl (by go_simp) ((K9.out w (GN.out _ _ HG.out hS)).mono ?_)
      rintro e w' ⟨rfl, hb⟩
      exact ⟨_, rfl, rfl, hb⟩
    refine Obs.cons (fun u w hS hd => ?_) ?_
    · have d38 : u 38 = .bool true := dep hd 12 rfl
      rw [d38]
      have d39 : u 39 = .bool true := dep hd 13 rfl
      rw [d39]
      exact Gv.run (.bool true) rfl (by go_simp) rfl
    exact Obs.nil
  intro uy6 y6 hS hd
  have d40 : uy6 40 = .bool true := hd 14 (by decide)
  rw [d40]
  replace o2 := O4.keep o2 hS
  replace o3 := O8.keep o3 hS
  replace o5 := O8.keep o5 hS
  replace HG := Lib.hid (GN.out _ _ HG.out hS)
  replace hc := hc.trans (hS.mono hc.size)
  clear hS hd d40
  simp only [List.drop_succ_cons, List.drop_zero]
  go_wp2_with fail
  go_ret
  exact ⟨rfl, hc⟩
end
end Go.Proofs.YtckdifcelgooeaaDoor
