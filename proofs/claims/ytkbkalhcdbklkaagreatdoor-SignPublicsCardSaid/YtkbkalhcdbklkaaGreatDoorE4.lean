/-
  The document's D, Nought, Plus (layer 8), over letters. Written by tools/gen_e4.py. By an AI agent.
-/
import Derived.Test.YtkbkalhcdbklkaaGreatDoorE3
import Derived.Test.YtkbkalhcdbklkaaGreatDoorJ09
import Derived.Test.YtkbkalhcdbklkaaGreatDoorJ11
namespace Go.Proofs.YtkbkalhcdbklkaaGreatDoor
open Go Go.RowKit
section
attribute [local irreducible] wd by8 d16 set16w fl rl setA t3f set8p set4w
set_option maxRecDepth 20000
set_option maxHeartbeats 6400000 in
theorem D_gen {m1 m2 nc ng n1 sc iv D : Nat}
    (k1 : ∀ w, Calls Tryz.prog 83 #[.int .i64 65535] w fun e w' => e = .returned (fv m1) ∧ Below w.heap.size w w')
    (k2 : ∀ w, Calls Tryz.prog 83 #[.int .i64 56130] w fun e w' => e = .returned (fv m2) ∧ Below w.heap.size w w')
    (k3 : ∀ w, Calls Tryz.prog 112 #[fv m1, fv m2] w fun e w' => e = .returned (fv nc) ∧ Below w.heap.size w w')
    (k4 : ∀ w, Calls Tryz.prog 113 #[fv nc] w fun e w' => e = .returned (fv ng) ∧ Below w.heap.size w w')
    (k5 : ∀ w, Calls Tryz.prog 83 #[.int .i64 1] w fun e w' => e = .returned (fv n1) ∧ Below w.heap.size w w')
    (k6 : ∀ w, Calls Tryz.prog 112 #[fv nc, fv n1] w fun e w' => e = .returned (fv sc) ∧ Below w.heap.size w w')
    (k7 : ∀ w, Calls Tryz.prog 84 #[fv sc] w fun e w' => e = .returned (fv iv) ∧ Below w.heap.size w w')
    (k8 : ∀ w, Calls Tryz.prog 82 #[fv ng, fv iv] w fun e w' => e = .returned (fv D) ∧ Below w.heap.size w w')
    (w : World) : Calls Tryz.prog 80 #[] w fun e w' => e = .returned (fv D) ∧ Below w.heap.size w w' := by
  have K1 := Lib.hid k1
  have K2 := Lib.hid k2
  have K3 := Lib.hid k3
  have K4 := Lib.hid k4
  have K5 := Lib.hid k5
  have K6 := Lib.hid k6
  have K7 := Lib.hid k7
  have K8 := Lib.hid k8
  clear k1 k2 k3 k4 k5 k6 k7 k8
  obtain ⟨v1, ev1⟩ : ∃ v, v = w.alloc (Z16) := ⟨_, rfl⟩
  have bv1 : Below w.heap.size w v1 := by rw [ev1]; exact (Below.refl _ _).alloc (Nat.le_refl _) _
  have sv1 : v1.heap.size = w.heap.size + 1 := by rw [ev1]; simp
  obtain ⟨g0, eg0⟩ : ∃ g, g = w.heap.size := ⟨_, rfl⟩
  have o0 : O16 v1 w.heap.size g0 0 := by rw [eg0, ev1]; exact O16.zero (own_Z16 (Nat.le_refl _))
  have hc := bv1
  have hs1 := hc.size
  go_enter Tryz.func80, Tryz.ntmps80
  go_upto_region 1 with fail
  rw [← ev1]
  rw [show Value.pointer (some ⟨w.heap.size, 0, none⟩) = .pointer (some ⟨g0, 0, none⟩) by rw [eg0]]
  clear ev1 bv1 sv1 eg0 hs1
  go_wp2_with fail
  go_at_call 83
  refine (K1.out _).mono ?_
  rintro e y2 ⟨rfl, h0⟩
  replace o0 := O16.keep o0 h0
  replace hc := hc.trans (h0.mono hc.size)
  clear h0
  go_wp2_with fail
  go_at_call 83
  refine (K2.out _).mono ?_
  rintro e y3 ⟨rfl, h0⟩
  replace o0 := O16.keep o0 h0
  replace hc := hc.trans (h0.mono hc.size)
  clear h0
  go_wp2_with fail
  go_at_call 112
  refine (K3.out _).mono ?_
  rintro e y4 ⟨rfl, h0⟩
  replace o0 := O16.keep o0 h0
  replace hc := hc.trans (h0.mono hc.size)
  clear h0
  have on0 : O16 (y4.alloc Z16) y4.heap.size y4.heap.size 0 := O16.zero (own_Z16 (Nat.le_refl _))
  have o1 := on0.put nc
  have hbz := ((Below.refl _ y4).alloc (Nat.le_refl _) Z16).trans (on0.below nc)
  replace o0 := O16.keep o0 hbz
  replace hc := hc.trans (hbz.mono hc.size)
  clear hbz
  go_upto_region 2 with ((with_reducible refine fl_store on0 nc ?_ ?_ ?_); rfl; rfl)
  obtain ⟨y5, ev⟩ : ∃ v, v = set16w (y4.alloc Z16) y4.heap.size nc := ⟨_, rfl⟩
  obtain ⟨g1, eg⟩ : ∃ g, g = y4.heap.size := ⟨_, rfl⟩
  rw [← ev] at o0 o1 hc ⊢
  rw [← eg] at o1 ⊢
  clear ev eg on0
  refine wp_region_inv 7 [5, 6, 7, 8, 9, 10, 11] [.val (fv nc), .val (fv ng), .val (fv nc), .val (fv n1), .val (fv sc), .val (fv iv), .val (fv D)] (fun wz => Below y5.heap.size y5 wz) (by kernel_rfl) (by kernel_rfl) (fun wz wz' hz hb => hz.trans (hb.mono hz.size)) ((Below.refl _ _).drew) (fun u => by simp only [puts, List.foldl_cons, List.foldl_nil]; go_simp; exact rfl) ?_ ?_
  · simp only [List.take_succ_cons, List.take_zero]
    refine Obs.cons (fun u w hS hd => ?_) ?_
    · exact Gv.run (fv nc) rfl (run_fload rfl rfl (o1.keep hS)) rfl
    refine Obs.cons (fun u w hS hd => ?_) ?_
    · have d5 : u 5 = fv nc := dep hd 0 rfl
      rw [d5]
      refine Gv.call 113 #[fv nc] rfl (by go_simp) ((K4.out w).mono ?_)
      rintro e w' ⟨rfl, hb⟩
      exact ⟨_, rfl, rfl, hb⟩
    refine Obs.cons (fun u w hS hd => ?_) ?_
    · exact Gv.run (fv nc) rfl (run_fload rfl rfl (o1.keep hS)) rfl
    refine Obs.cons (fun u w hS hd => ?_) ?_
    · refine Gv.call 83 #[.int .i64 1] rfl (by go_simp) ((K5.out w).mono ?_)
      rintro e w' ⟨rfl, hb⟩
      exact ⟨_, rfl, rfl, hb⟩
    refine Obs.cons (fun u w hS hd => ?_) ?_
    · have d7 : u 7 = fv nc := dep hd 2 rfl
      rw [d7]
      have d8 : u 8 = fv n1 := dep hd 3 rfl
      rw [d8]
      refine Gv.call 112 #[fv nc, fv n1] rfl (by go_simp) ((K6.out w).mono ?_)
      rintro e w' ⟨rfl, hb⟩
      exact ⟨_, rfl, rfl, hb⟩
    refine Obs.cons (fun u w hS hd => ?_) ?_
    · have d9 : u 9 = fv sc := dep hd 4 rfl
      rw [d9]
      refine Gv.call 84 #[fv sc] rfl (by go_simp) ((K7.out w).mono ?_)
      rintro e w' ⟨rfl, hb⟩
      exact ⟨_, rfl, rfl, hb⟩
    refine Obs.cons (fun u w hS hd => ?_) ?_
    · have d6 : u 6 = fv ng := dep hd 1 rfl
      rw [d6]
      have d10 : u 10 = fv iv := dep hd 5 rfl
      rw [d10]
      refine Gv.call 82 #[fv ng, fv iv] rfl (by go_simp) ((K8.out w).mono ?_)
      rintro e w' ⟨rfl, hb⟩
      exact ⟨_, rfl, rfl, hb⟩
    exact Obs.nil
  intro uy6 y6 hS hd
  have d11 : uy6 11 = fv D := hd 6 (by decide)
  rw [d11]
  replace o0 := O16.keep o0 hS
  replace o1 := O16.keep o1 hS
  replace hc := hc.trans (hS.mono hc.size)
  clear hS hd d11
  simp only [List.drop_succ_cons, List.drop_zero]
  have hfb := Lib.hid (hc.trans (o0.below D))
  have HR := Lib.hid (o0.put D)
  go_wp2_with ((with_reducible refine fl_store o0 D ?_ ?_ ?_); rfl; rfl)
  exact bodyPost_ret (fres Tryz.results80 _ HR.out rfl) rfl ⟨rfl, hfb.out⟩
set_option maxHeartbeats 6400000 in
theorem Nought_gen {n0 n1 : Nat}
    (k1 : ∀ w, Calls Tryz.prog 83 #[.int .i64 0] w fun e w' => e = .returned (fv n0) ∧ Below w.heap.size w w')
    (k2 : ∀ w, Calls Tryz.prog 83 #[.int .i64 1] w fun e w' => e = .returned (fv n1) ∧ Below w.heap.size w w')
    (w : World) : Calls Tryz.prog 79 #[] w fun e w' => e = .returned (t3v ⟨n0, n1, n1⟩) ∧ Below w.heap.size w w' := by
  have K1 := Lib.hid k1
  have K2 := Lib.hid k2
  clear k1 k2
  obtain ⟨v1, ev1⟩ : ∃ v, v = w.alloc (Z48) := ⟨_, rfl⟩
  have bv1 : Below w.heap.size w v1 := by rw [ev1]; exact (Below.refl _ _).alloc (Nat.le_refl _) _
  have sv1 : v1.heap.size = w.heap.size + 1 := by rw [ev1]; simp
  obtain ⟨g0, eg0⟩ : ∃ g, g = w.heap.size := ⟨_, rfl⟩
  have o0 : OwnF v1 w.heap.size 70 (some ⟨g0, 0, none⟩) 48 48 (fun _ => .int .i64 0) := by rw [eg0, ev1]; exact z48_new (Nat.le_refl _)
  have hc := bv1
  have hs1 := hc.size
  go_enter Tryz.func79, Tryz.ntmps79
  go_upto_region 1 with fail
  rw [← ev1]
  rw [show Value.pointer (some ⟨w.heap.size, 0, none⟩) = .pointer (some ⟨g0, 0, none⟩) by rw [eg0]]
  clear ev1 bv1 sv1 eg0 hs1
  go_wp2_with fail
  go_at_call 83
  refine (K1.out _).mono ?_
  rintro e y2 ⟨rfl, h0⟩
  replace o0 := OwnF.keep o0 h0
  replace hc := hc.trans (h0.mono hc.size)
  clear h0
  go_wp2_with fail
  go_at_call 83
  refine (K2.out _).mono ?_
  rintro e y3 ⟨rfl, h0⟩
  replace o0 := OwnF.keep o0 h0
  replace hc := hc.trans (h0.mono hc.size)
  clear h0
  go_wp2_with fail
  go_at_call 83
  refine (K2.out _).mono ?_
  rintro e y4 ⟨rfl, h0⟩
  replace o0 := OwnF.keep o0 h0
  replace hc := hc.trans (h0.mono hc.size)
  clear h0
  have hfb := Lib.hid (hc.trans (t3_below o0 (⟨n0, n1, n1⟩)))
  have HR := Lib.hid (t3_put o0 (⟨n0, n1, n1⟩))
  go_wp2_with (first | ((with_reducible refine t3_built (x := n0) (y := n1) (z := n1) ?_ ?_ ?_ ?_); rfl; rfl; rfl) | ((with_reducible refine t3_store o0 (⟨n0, n1, n1⟩) ?_ ?_ ?_); rfl; rfl))
  exact bodyPost_ret (t3_res Tryz.results79 _ HR.out rfl) rfl ⟨rfl, hfb.out⟩
end
end Go.Proofs.YtkbkalhcdbklkaaGreatDoor
