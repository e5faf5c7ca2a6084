/-
  The document's right, Of, Point (layer 8), over letters. Written by tools/gen_e4.py. By an AI agent.
-/
import Derived.Test.YtckdifcelgooeaaDoorE3
import Derived.Test.YtckdifcelgooeaaDoorTL
import Derived.Test.YtckdifcelgooeaaDoorTQ
namespace Go.Proofs.YtckdifcelgooeaaDoor
open Go Go.RowKit
section
attribute [local irreducible] wd by8 d16 set16w fl rl setA t3f set8p set4w
set_option maxRecDepth 20000
set_option maxHeartbeats 6400000 in
theorem right_gen {a r : Nat} {q : Bool} (hba : a < W4) (hbr : r < W4) (hq : decide (r = a) = q)
    (k1 : ∀ w, Calls Tryd.prog 42 #[nv a] w fun e w' => e = .returned (fv r) ∧ Below w.heap.size w w')
    (k2 : ∀ w, Calls Tryd.prog 16 #[fv r] w fun e w' => e = .returned (nv r) ∧ Below w.heap.size w w')
    (w : World) : Calls Tryd.prog 44 #[nv a] w fun e w' => e = .returned (.bool q) ∧ Below w.heap.size w w' := by
  have K1 := Lib.hid k1
  have K2 := Lib.hid k2
  clear k1 k2
  obtain ⟨v1, ev1⟩ : ∃ v, v = w.alloc (A4 a) := ⟨_, rfl⟩
  have bv1 : Below w.heap.size w v1 := by rw [ev1]; exact (Below.refl _ _).alloc (Nat.le_refl _) _
  have sv1 : v1.heap.size = w.heap.size + 1 := by rw [ev1]; simp
  obtain ⟨g1, eg1⟩ : ∃ g, g = w.heap.size := ⟨_, rfl⟩
  have o1 : O4 v1 w.heap.size g1 a := by rw [eg1, ev1]; exact O4.new (Nat.le_refl _) a
  have hc := bv1
  have hs1 := hc.size
  unfold nv
  go_enter Tryd.func44, Tryd.ntmps44
  go_upto_region 1 with fail
  rw [← ev1]
  rw [show Value.pointer (some ⟨w.heap.size, 0, none⟩) = .pointer (some ⟨g1, 0, none⟩) by rw [eg1]]
  clear ev1 bv1 sv1 eg1 hs1
  refine wp_region_inv 5 [3, 4, 5, 6, 7] [.val (nv a), .val (fv r), .val (nv r), .val (nv a), .val (.bool q)] (fun wz => Below v1.heap.size v1 wz) (by kernel_rfl) (by kernel_rfl) (fun wz wz' hz hb => hz.trans (hb.mono hz.size)) ((Below.refl _ _).drew) (fun u => by simp only [puts, List.foldl_cons, List.foldl_nil]; go_simp; exact rfl) ?_ ?_
  · simp only [List.take_succ_cons, List.take_zero]
    refine Obs.cons (fun u w hS hd => ?_) ?_
    · exact Gv.run (nv a) rfl (run_nload rfl rfl (O4.keep o1 hS)) rfl
    refine Obs.cons (fun u w hS hd => ?_) ?_
    · have d3 : u 3 = nv a := dep hd 0 rfl
      rw [d3]
      refine Gv.call 42 #[nv a] rfl (by go_simp) ((K1.out w).mono ?_)
      rintro e w' ⟨rfl, hb⟩
      exact ⟨_, rfl, rfl, hb⟩
    refine Obs.cons (fun u w hS hd => ?_) ?_
    · have d4 : u 4 = fv r := dep hd 1 rfl
      rw [d4]
      refine Gv.call 16 #[fv r] rfl (by go_simp) ((K2.out w).mono ?_)
      rintro e w' ⟨rfl, hb⟩
      exact ⟨_, rfl, rfl, hb⟩
    refine Obs.cons (fun u w hS hd => ?_) ?_
    · exact Gv.run (nv a) rfl (run_nload rfl rfl (O4.keep o1 hS)) rfl
    refine Obs.cons (fun u w hS hd => ?_) ?_
    · have d5 : u 5 = nv r := dep hd 2 rfl
      rw [d5]
      have d6 : u 6 = nv a := dep hd 3 rfl
      rw [d6]
      exact Gv.run (.bool q) rfl (run_eq4 rfl rfl rfl hbr hba hq w) rfl
    exact Obs.nil
  intro uy2 y2 hS hd
  have d7 : uy2 7 = .bool q := hd 4 (by decide)
  rw [d7]
  replace o1 := O4.keep o1 hS
  replace hc := hc.trans (hS.mono hc.size)
  clear hS hd d7
  simp only [List.drop_succ_cons, List.drop_zero]
  go_wp2_with fail
  go_ret
  exact ⟨rfl, hc⟩
set_option maxHeartbeats 6400000 in
theorem Of_gen {x y a b n1 : Nat}
    (k1 : ∀ w, Calls Tryd.prog 42 #[nv x] w fun e w' => e = .returned (fv a) ∧ Below w.heap.size w w')
    (k2 : ∀ w, Calls Tryd.prog 42 #[nv y] w fun e w' => e = .returned (fv b) ∧ Below w.heap.size w w')
    (k3 : ∀ w, Calls Tryd.prog 47 #[.int .i64 1] w fun e w' => e = .returned (fv n1) ∧ Below w.heap.size w w')
    (w : World) : Calls Tryd.prog 23 #[prv x y] w fun e w' => e = .returned (t3v ⟨a, b, n1⟩) ∧ Below w.heap.size w w' := by
  have K1 := Lib.hid k1
  have K2 := Lib.hid k2
  have K3 := Lib.hid k3
  clear k1 k2 k3
  obtain ⟨v1, ev1⟩ : ∃ v, v = w.alloc (A8p x y) := ⟨_, rfl⟩
  have bv1 : Below w.heap.size w v1 := by rw [ev1]; exact (Below.refl _ _).alloc (Nat.le_refl _) _
  have sv1 : v1.heap.size = w.heap.size + 1 := by rw [ev1]; simp
  obtain ⟨g1, eg1⟩ : ∃ g, g = w.heap.size := ⟨_, rfl⟩
  have o1 : O8 v1 w.heap.size g1 x y := by rw [eg1, ev1]; exact O8.new (Nat.le_refl _) x y
  have hc := bv1
  have hs1 := hc.size
  obtain ⟨v2, ev2⟩ : ∃ v, v = v1.alloc (Z48) := ⟨_, rfl⟩
  have bv2 : Below v1.heap.size v1 v2 := by rw [ev2]; exact (Below.refl _ _).alloc (Nat.le_refl _) _
  have sv2 : v2.heap.size = v1.heap.size + 1 := by rw [ev2]; simp
  obtain ⟨g2, eg2⟩ : ∃ g, g = v1.heap.size := ⟨_, rfl⟩
  have o2 : OwnF v2 v1.heap.size 34 (some ⟨g2, 0, none⟩) 48 48 (fun _ => .int .i64 0) := by rw [eg2, ev2]; exact z48_new (Nat.le_refl _)
  replace o1 := o1.keep bv2
  replace hc := hc.trans (bv2.mono hc.size)
  replace o2 := o2.mono hs1
  have hs2 := hc.size
  go_enter Tryd.func23, Tryd.ntmps23
  go_upto_region 1 with fail
  rw [← ev1, ← ev2]
  rw [show Value.pointer (some ⟨w.heap.size, 0, none⟩) = .pointer (some ⟨g1, 0, none⟩) by rw [eg1]]
  rw [show Value.pointer (some ⟨w.heap.size + 1, 0, none⟩) = .pointer (some ⟨g2, 0, none⟩) by rw [eg2, sv1]]
  clear ev1 bv1 sv1 ev2 bv2 sv2 eg1 eg2 hs1 hs2
  refine wp_region_inv 8 [3, 4, 5, 6, 7, 8, 9, 10] [.val (.pointer (some ⟨g1, 0, none⟩)), .val (nv x), .val (fv a), .val (.pointer (some ⟨g1, 4, none⟩)), .val (nv y), .val (fv b), .val (fv n1), .val (t3v ⟨a, b, n1⟩)] (fun wz => Below v2.heap.size v2 wz) (by kernel_rfl) (by kernel_rfl) (fun wz wz' hz hb => hz.trans (hb.mono hz.size)) ((Below.refl _ _).drew) (fun u => by simp only [puts, List.foldl_cons, List.foldl_nil]; go_simp; exact rfl) ?_ ?_
  · simp only [List.take_succ_cons, List.take_zero]
    refine Obs.cons (fun u w hS hd => ?_) ?_
    · exact Gv.run (.pointer (some ⟨g1, 0, none⟩)) rfl (run_pfield 0 (by decide) rfl rfl) rfl
    refine Obs.cons (fun u w hS hd => ?_) ?_
    · have d3 : u 3 = .pointer (some ⟨g1, 0, none⟩) := dep hd 0 rfl
      rw [d3]
      exact Gv.run (nv x) rfl (run_xload rfl rfl (O8.keep o1 hS)) rfl
    refine Obs.cons (fun u w hS hd => ?_) ?_
    · have d4 : u 4 = nv x := dep hd 1 rfl
      rw [d4]
      refine Gv.call 42 #[nv x] rfl (by go_simp) ((K1.out w).mono ?_)
      rintro e w' ⟨rfl, hb⟩
      exact ⟨_, rfl, rfl, hb⟩
    refine Obs.cons (fun u w hS hd => ?_) ?_
    · exact Gv.run (.pointer (some ⟨g1, 4, none⟩)) rfl (run_pfield 1 (by decide) rfl rfl) rfl
    refine Obs.cons (fun u w hS hd => ?_) ?_
    · have d6 : u 6 = .pointer (some ⟨g1, 4, none⟩) := dep hd 3 rfl
      rw [d6]
      exact Gv.run (nv y) rfl (run_zload rfl rfl (O8.keep o1 hS)) rfl
    refine Obs.cons (fun u w hS hd => ?_) ?_
    · have d7 : u 7 = nv y := dep hd 4 rfl
      rw [d7]
      refine Gv.call 42 #[nv y] rfl (by go_simp) ((K2.out w).mono ?_)
      rintro e w' ⟨rfl, hb⟩
      exact ⟨_, rfl, rfl, hb⟩
    refine Obs.cons (fun u w hS hd => ?_) ?_
    · refine Gv.call 47 #[.int .i64 1] rfl (by go_simp) ((K3.out w).mono ?_)
      rintro e w' ⟨rfl, hb⟩
      exact ⟨_, rfl, rfl, hb⟩
    refine Obs.cons (fun u w hS hd => ?_) ?_
    · have d5 : u 5 = fv a := dep hd 2 rfl
      rw [d5]
      have d8 : u 8 = fv b := dep hd 5 rfl
      rw [d8]
      have d9 : u 9 = fv n1 := dep hd 6 rfl
      rw [d9]
      exact Gv.run (t3v ⟨a, b, n1⟩) rfl (run_Pbuild rfl rfl rfl rfl) rfl
    exact Obs.nil
  intro uy3 y3 hS hd
  have d10 : uy3 10 = t3v ⟨a, b, n1⟩ := hd 7 (by decide)
  rw [d10]
  replace o1 := O8.keep o1 hS
  replace o2 := OwnF.keep o2 hS
  replace hc := hc.trans (hS.mono hc.size)
  clear hS hd d10
  simp only [List.drop_succ_cons, List.drop_zero]
  have hfb := Lib.hid (hc.trans (t3_below o2 (⟨a, b, n1⟩)))
  have HR := Lib.hid (t3_put o2 (⟨a, b, n1⟩))
  go_wp2_with (first | ((with_reducible refine t3_built (x := a) (y := b) (z := n1) ?_ ?_ ?_ ?_); rfl; rfl; rfl) | ((with_reducible refine t3_store o2 (⟨a, b, n1⟩) ?_ ?_ ?_); rfl; rfl))
  exact bodyPost_ret (t3_res Tryd.results23 _ HR.out rfl) rfl ⟨rfl, hfb.out⟩
set_option maxHeartbeats 6400000 in
theorem Point_gen {t : Tr} {iv a b : Nat}
    (k1 : ∀ w, Calls Tryd.prog 49 #[fv t.z] w fun e w' => e = .returned (fv iv) ∧ Below w.heap.size w w')
    (k2 : ∀ w, Calls Tryd.prog 43 #[fv t.x, fv iv] w fun e w' => e = .returned (fv a) ∧ Below w.heap.size w w')
    (k3 : ∀ w, Calls Tryd.prog 16 #[fv a] w fun e w' => e = .returned (nv a) ∧ Below w.heap.size w w')
    (k4 : ∀ w, Calls Tryd.prog 43 #[fv t.y, fv iv] w fun e w' => e = .returned (fv b) ∧ Below w.heap.size w w')
    (k5 : ∀ w, Calls Tryd.prog 16 #[fv b] w fun e w' => e = .returned (nv b) ∧ Below w.heap.size w w')
    (w : World) : Calls Tryd.prog 19 #[t3v t] w fun e w' => e = .returned (prv a b) ∧ Below w.heap.size w w' := by
  have K1 := Lib.hid k1
  have K2 := Lib.hid k2
  have K3 := Lib.hid k3
  have K4 := Lib.hid k4
  have K5 := Lib.hid k5
  clear k1 k2 k3 k4 k5
  obtain ⟨v1, ev1⟩ : ∃ v, v = w.alloc (AP t) := ⟨_, rfl⟩
  have bv1 : Below w.heap.size w v1 := by rw [ev1]; exact (Below.refl _ _).alloc (Nat.le_refl _) _
  have sv1 : v1.heap.size = w.heap.size + 1 := by rw [ev1]; simp
  obtain ⟨g1, eg1⟩ : ∃ g, g = w.heap.size := ⟨_, rfl⟩
  have o1 : O48 v1 w.heap.size g1 t := by rw [eg1, ev1]; exact O48.new (Nat.le_refl _) t
  have hc := bv1
  have hs1 := hc.size
  obtain ⟨v2, ev2⟩ : ∃ v, v = v1.alloc (Z8p) := ⟨_, rfl⟩
  have bv2 : Below v1.heap.size v1 v2 := by rw [ev2]; exact (Below.refl _ _).alloc (Nat.le_refl _) _
  have sv2 : v2.heap.size = v1.heap.size + 1 := by rw [ev2]; simp
  obtain ⟨g2, eg2⟩ : ∃ g, g = v1.heap.size := ⟨_, rfl⟩
  have o2 : O8 v2 v1.heap.size g2 0 0 := by rw [eg2, ev2]; exact O8.newz (Nat.le_refl _)
  replace o1 := o1.keep bv2
  replace hc := hc.trans (bv2.mono hc.size)
  replace o2 := o2.mono hs1
  have hs2 := hc.size
  go_enter Tryd.func19, Tryd.ntmps19
  go_upto_region 1 with fail
  rw [← ev1, ← ev2]
  rw [show Value.pointer (some ⟨w.heap.size, 0, none⟩) = .pointer (some ⟨g1, 0, none⟩) by rw [eg1]]
  rw [show Value.pointer (some ⟨w.heap.size + 1, 0, none⟩) = .pointer (some ⟨g2, 0, none⟩) by rw [eg2, sv1]]
  clear ev1 bv1 sv1 ev2 bv2 sv2 eg1 eg2 hs1 hs2
  go_wp2_with (first | ((with_reducible refine t3x_load o1 ?_ ?_); rfl) | ((with_reducible refine t3y_load o1 ?_ ?_); rfl) | ((with_reducible refine t3z_load o1 ?_ ?_); rfl) | ((with_reducible refine t3_load o1 ?_ ?_); rfl))
  go_at_call 49
  refine (K1.out _).mono ?_
  rintro e y3 ⟨rfl, h0⟩
  replace o1 := O48.keep o1 h0
  replace o2 := O8.keep o2 h0
  replace hc := hc.trans (h0.mono hc.size)
  clear h0
  have on0 : O16 (y3.alloc Z16) y3.heap.size y3.heap.size 0 := O16.zero (own_Z16 (Nat.le_refl _))
  have o3 := on0.put iv
  have hbz := ((Below.refl _ y3).alloc (Nat.le_refl _) Z16).trans (on0.below iv)
  replace o1 := O48.keep o1 hbz
  replace o2 := O8.keep o2 hbz
  replace hc := hc.trans (hbz.mono hc.size)
  clear hbz
  go_upto_region 2 with ((with_reducible refine fl_store on0 iv ?_ ?_ ?_); rfl; rfl)
  obtain ⟨y4, ev⟩ : ∃ v, v = set16w (y3.alloc Z16) y3.heap.size iv := ⟨_, rfl⟩
  obtain ⟨g3, eg⟩ : ∃ g, g = y3.heap.size := ⟨_, rfl⟩
  rw [← ev] at o1 o2 o3 hc ⊢
  rw [← eg] at o3 ⊢
  clear ev eg on0
  refine wp_region_inv 11 [7, 8, 9, 10, 11, 12, 13, 14, 15, 16, 17] [.val (.pointer (some ⟨g1, 0, none⟩)), .val (fv t.x), .val (fv iv), .val (fv a), .val (nv a), .val (.pointer (some ⟨g1, 16, none⟩)), .val (fv t.y), .val (fv iv), .val (fv b), .val (nv b), .val (prv a b)] (fun wz => Below y4.heap.size y4 wz) (by kernel_rfl) (by kernel_rfl) (fun wz wz' hz hb => hz.trans (hb.mono hz.size)) ((Below.refl _ _).drew) (fun u => by simp only [puts, List.foldl_cons, List.foldl_nil]; go_simp; exact rfl) ?_ ?_
  · simp only [List.take_succ_cons, List.take_zero]
    refine Obs.cons (fun u w hS hd => ?_) ?_
    · exact Gv.run (.pointer (some ⟨g1, 0, none⟩)) rfl (by go_simp) rfl
    refine Obs.cons (fun u w hS hd => ?_) ?_
    · have d7 : u 7 = .pointer (some ⟨g1, 0, none⟩) := dep hd 0 rfl
      rw [d7]
      exact Gv.run (fv t.x) rfl (run_Px rfl rfl (O48.keep o1 hS)) rfl
    refine Obs.cons (fun u w hS hd => ?_) ?_
    · exact Gv.run (fv iv) rfl (run_fload rfl rfl (o3.keep hS)) rfl
    refine Obs.cons (fun u w hS hd => ?_) ?_
    · have d8 : u 8 = fv t.x := dep hd 1 rfl
      rw [d8]
      have d9 : u 9 = fv iv := dep hd 2 rfl
      rw [d9]
      refine Gv.call 43 #[fv t.x, fv iv] rfl (by go_simp) ((K2.out w).mono ?_)
      rintro e w' ⟨rfl, hb⟩
      exact ⟨_, rfl, rfl, hb⟩
    refine Obs.cons (fun u w hS hd => ?_) ?_
    · have d10 : u 10 = fv a := dep hd 3 rfl
      rw [d10]
      refine Gv.call 16 #[fv a] rfl (by go_simp) ((K3.out w).mono ?_)
      rintro e w' ⟨rfl, hb⟩
      exact ⟨_, rfl, rfl, hb⟩
    refine Obs.cons (fun u w hS hd => ?_) ?_
    · exact Gv.run (.pointer (some ⟨g1, 16, none⟩)) rfl (by go_simp) rfl
    refine Obs.cons (fun u w hS hd => ?_) ?_
    · have d12 : u 12 = .pointer (some ⟨g1, 16, none⟩) := dep hd 5 rfl
      rw [d12]
      exact Gv.run (fv t.y) rfl (run_Py rfl rfl (O48.keep o1 hS)) rfl
    refine Obs.cons (fun u w hS hd => ?_) ?_
    · exact Gv.run (fv iv) rfl (run_fload rfl rfl (o3.keep hS)) rfl
    refine Obs.cons (fun u w hS hd => ?_) ?_
    · have d13 : u 13 = fv t.y := dep hd 6 rfl
      rw [d13]
      have d14 : u 14 = fv iv := dep hd 7 rfl
      rw [d14]
      refine Gv.call 43 #[fv t.y, fv iv] rfl (by go_simp) ((K4.out w).mono ?_)
      rintro e w' ⟨rfl, hb⟩
      exact ⟨_, rfl, rfl, hb⟩
    refine Obs.cons (fun u w hS hd => ?_) ?_
    · have d15 : u 15 = fv b := dep hd 8 rfl
      rw [d15]
      refine Gv.call 16 #[fv b] rfl (by go_simp) ((K5.out w).mono ?_)
      rintro e w' ⟨rfl, hb⟩
      exact ⟨_, rfl, rfl, hb⟩
    refine Obs.cons (fun u w hS hd => ?_) ?_
    · have d11 : u 11 = nv a := dep hd 4 rfl
      rw [d11]
      have d16 : u 16 = nv b := dep hd 9 rfl
      rw [d16]
      exact Gv.run (prv a b) rfl (run_Tbuild rfl rfl rfl) rfl
    exact Obs.nil
  intro uy5 y5 hS hd
  have d17 : uy5 17 = prv a b := hd 10 (by decide)
  rw [d17]
  replace o1 := O48.keep o1 hS
  replace o2 := O8.keep o2 hS
  replace o3 := O16.keep o3 hS
  replace hc := hc.trans (hS.mono hc.size)
  clear hS hd d17
  simp only [List.drop_succ_cons, List.drop_zero]
  have hfb := Lib.hid (hc.trans (o2.below a b))
  have HR := Lib.hid (o2.put a b)
  go_wp2_with ((with_reducible refine p_store o2 a b ?_ ?_ ?_); rfl; rfl)
  exact bodyPost_ret (pres Tryd.results19 _ HR.out rfl) rfl ⟨rfl, hfb.out⟩
end
end Go.Proofs.YtckdifcelgooeaaDoor
