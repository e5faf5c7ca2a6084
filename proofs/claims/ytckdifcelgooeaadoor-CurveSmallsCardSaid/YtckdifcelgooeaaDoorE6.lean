/-
  The document's On (layer 8), over letters. Written by tools/gen_e4.py. By an AI agent.
-/
import Derived.Test.YtckdifcelgooeaaDoorE3
import Derived.Test.YtckdifcelgooeaaDoorTL
import Derived.Test.YtckdifcelgooeaaDoorTQ
namespace Go.Proofs.YtckdifcelgooeaaDoor
open Go Go.RowKit
section
attribute [local irreducible] wd by8 d16 set16w fl rl setA t3f set8p set4w
set_option maxRecDepth 20000
set_option maxHeartbeats 6400000 in
theorem On_a {x y a b xx yy : Nat} 
    (k1 : ∀ w, Calls Tryd.prog 42 #[nv x] w fun e w' => e = .returned (fv a) ∧ Below w.heap.size w w')
    (k2 : ∀ w, Calls Tryd.prog 42 #[nv y] w fun e w' => e = .returned (fv b) ∧ Below w.heap.size w w')
    (k3 : ∀ w, Calls Tryd.prog 43 #[fv a, fv a] w fun e w' => e = .returned (fv xx) ∧ Below w.heap.size w w')
    (k4 : ∀ w, Calls Tryd.prog 43 #[fv b, fv b] w fun e w' => e = .returned (fv yy) ∧ Below w.heap.size w w')
    (k5 : ∀ w, Calls Tryd.prog 44 #[nv x] w fun e w' => e = .returned (.bool false) ∧ Below w.heap.size w w')
    (w : World) : Calls Tryd.prog 13 #[prv x y] w fun e w' => e = .returned (.bool false) ∧ Below w.heap.size w w' := by
  have K1 := Lib.hid k1
  have K2 := Lib.hid k2
  have K3 := Lib.hid k3
  have K4 := Lib.hid k4
  have K5 := Lib.hid k5
  clear k1 k2 k3 k4 k5
  obtain ⟨v1, ev1⟩ : ∃ v, v = w.alloc (A8p x y) := ⟨_, rfl⟩
  have bv1 : Below w.heap.size w v1 := by rw [ev1]; exact (Below.refl _ _).alloc (Nat.le_refl _) _
  have sv1 : v1.heap.size = w.heap.size + 1 := by rw [ev1]; simp
  obtain ⟨g1, eg1⟩ : ∃ g, g = w.heap.size := ⟨_, rfl⟩
  have o1 : O8 v1 w.heap.size g1 x y := by rw [eg1, ev1]; exact O8.new (Nat.le_refl _) x y
  have hc := bv1
  have hs1 := hc.size
  go_enter Tryd.func13, Tryd.ntmps13
  go_upto_region 1 with fail
  rw [← ev1]
  rw [show Value.pointer (some ⟨w.heap.size, 0, none⟩) = .pointer (some ⟨g1, 0, none⟩) by rw [eg1]]
  clear ev1 bv1 sv1 eg1 hs1
  refine wp_region_box 10 [some 7, some 8, some 9, some 10, some 11, some 12, some 3, some 4, none, none] [.val (.pointer (some ⟨g1, 0, none⟩)), .val (nv x), .val (fv a), .val (.pointer (some ⟨g1, 4, none⟩)), .val (nv y), .val (fv b), .box 30 16, .box 30 16, .holds 6 30 16 (dv16 a), .holds 7 30 16 (dv16 b)] v1.heap.size (fun wz => Below v1.heap.size v1 wz) (by kernel_rfl) (by kernel_rfl)
    (fun _ _ h _ hb => h.trans hb) ((Below.refl _ _).drew) (Nat.le_refl _) (fun u => by simp only [List.filterMap_cons, List.filterMap_nil, id, puts, List.foldl_cons, List.foldl_nil]; go_simp; exact rfl) ?_ ?_
  · simp only [List.take_succ_cons, List.take_zero]
    refine ObsB.cons (fun u w L hL hS hBw hd => ?_) ?_
    · exact GB.run 7 rfl (.pointer (some ⟨g1, 0, none⟩)) rfl (run_pfield 0 (by decide) rfl rfl) rfl rfl
    refine ObsB.cons (fun u w L hL hS hBw hd => ?_) ?_
    · have d7 : u 7 = .pointer (some ⟨g1, 0, none⟩) := depB hd 0 rfl
      rw [d7]
      exact GB.run 8 rfl (nv x) rfl (run_xload rfl rfl (O8.keep o1 hS)) rfl rfl
    refine ObsB.cons (fun u w L hL hS hBw hd => ?_) ?_
    · have d8 : u 8 = nv x := depB hd 1 rfl
      rw [d8]
      refine GB.call 9 rfl 42 #[nv x] rfl (by go_simp) rfl ((K1.out w).mono ?_)
      rintro e w' ⟨rfl, hb⟩
      exact ⟨_, rfl, rfl, hb⟩
    refine ObsB.cons (fun u w L hL hS hBw hd => ?_) ?_
    · exact GB.run 10 rfl (.pointer (some ⟨g1, 4, none⟩)) rfl (run_pfield 1 (by decide) rfl rfl) rfl rfl
    refine ObsB.cons (fun u w L hL hS hBw hd => ?_) ?_
    · have d10 : u 10 = .pointer (some ⟨g1, 4, none⟩) := depB hd 3 rfl
      rw [d10]
      exact GB.run 11 rfl (nv y) rfl (run_zload rfl rfl (O8.keep o1 hS)) rfl rfl
    refine ObsB.cons (fun u w L hL hS hBw hd => ?_) ?_
    · have d11 : u 11 = nv y := depB hd 4 rfl
      rw [d11]
      refine GB.call 12 rfl 42 #[nv y] rfl (by go_simp) rfl ((K2.out w).mono ?_)
      rintro e w' ⟨rfl, hb⟩
      exact ⟨_, rfl, rfl, hb⟩
    refine ObsB.cons (fun u w L hL hS hBw hd => ?_) ?_
    · exact GB.alloc 3 rfl rfl #[.int .i64 0, .int .i64 0, .int .i64 0, .int .i64 0, .int .i64 0, .int .i64 0, .int .i64 0, .int .i64 0, .int .i64 0, .int .i64 0, .int .i64 0, .int .i64 0, .int .i64 0, .int .i64 0, .int .i64 0, .int .i64 0] 30 16 (fun _ => .int .i64 0) rfl rfl (by go_simp) hBw (by decide) rfl
    refine ObsB.cons (fun u w L hL hS hBw hd => ?_) ?_
    · exact GB.alloc 4 rfl rfl #[.int .i64 0, .int .i64 0, .int .i64 0, .int .i64 0, .int .i64 0, .int .i64 0, .int .i64 0, .int .i64 0, .int .i64 0, .int .i64 0, .int .i64 0, .int .i64 0, .int .i64 0, .int .i64 0, .int .i64 0, .int .i64 0] 30 16 (fun _ => .int .i64 0) rfl rfl (by go_simp) hBw (by decide) rfl
    refine ObsB.cons (fun u w L hL hS hBw hd => ?_) ?_
    · have d9 : u 9 = fv a := depB hd 2 rfl
      obtain ⟨g, fg, e3, o3⟩ : (Fact.box 30 16).ok v1.heap.size [some 7, some 8, some 9, some 10, some 11, some 12, some 3, some 4, none, none] 6 u w L := depB hd 6 rfl
      exact GB.store rfl 6 g 30 16 (dv16 a) rfl rfl rfl e3 (run_fstore rfl (by exact e3) (by exact d9) o3) (only16 w g a) (put16 o3 a)
    refine ObsB.cons (fun u w L hL hS hBw hd => ?_) ?_
    · have d12 : u 12 = fv b := depB hd 5 rfl
      obtain ⟨g, fg, e4, o4⟩ : (Fact.box 30 16).ok v1.heap.size [some 7, some 8, some 9, some 10, some 11, some 12, some 3, some 4, none, none] 7 u w L := depB hd 7 rfl
      exact GB.store rfl 7 g 30 16 (dv16 b) rfl rfl rfl e4 (run_fstore rfl (by exact e4) (by exact d12) o4) (only16 w g b) (put16 o4 b)
    exact ObsB.nil
  intro uy2 y2 hS hd
  obtain ⟨g3, eg3, o3⟩ : (Fact.holds 6 30 16 (dv16 a)).ok v1.heap.size [some 7, some 8, some 9, some 10, some 11, some 12, some 3, some 4, none, none] 8 uy2 y2 (fun _ => true) := hd 8 (by decide)
  replace eg3 : uy2 3 = .pointer (some ⟨g3, 0, none⟩) := eg3
  replace o3 : O16 y2 v1.heap.size g3 a := o3
  replace o3 := o3.mono hc.size
  obtain ⟨g4, eg4, o4⟩ : (Fact.holds 7 30 16 (dv16 b)).ok v1.heap.size [some 7, some 8, some 9, some 10, some 11, some 12, some 3, some 4, none, none] 9 uy2 y2 (fun _ => true) := hd 9 (by decide)
  replace eg4 : uy2 4 = .pointer (some ⟨g4, 0, none⟩) := eg4
  replace o4 : O16 y2 v1.heap.size g4 b := o4
  replace o4 := o4.mono hc.size
  replace o1 := O8.keep o1 hS
  replace hc := hc.trans (hS.mono hc.size)
  rw [eg3, eg4]
  clear hS hd eg3 eg4
  simp only [List.drop_succ_cons, List.drop_zero]
  go_upto_region 2 with fail
  refine wp_region_box 10 [some 13, some 14, some 15, some 16, some 17, some 18, some 5, some 6, none, none] [.val (fv a), .val (fv a), .val (fv xx), .val (fv b), .val (fv b), .val (fv yy), .box 30 16, .box 30 16, .holds 6 30 16 (dv16 xx), .holds 7 30 16 (dv16 yy)] y2.heap.size (fun wz => Below y2.heap.size y2 wz) (by kernel_rfl) (by kernel_rfl)
    (fun _ _ h _ hb => h.trans hb) ((Below.refl _ _).drew) (Nat.le_refl _) (fun u => by simp only [List.filterMap_cons, List.filterMap_nil, id, puts, List.foldl_cons, List.foldl_nil]; go_simp; exact rfl) ?_ ?_
  · simp only [List.take_succ_cons, List.take_zero]
    refine ObsB.cons (fun u w L hL hS hBw hd => ?_) ?_
    · exact GB.run 13 rfl (fv a) rfl (run_fload rfl rfl (o3.keep hS)) rfl rfl
    refine ObsB.cons (fun u w L hL hS hBw hd => ?_) ?_
    · exact GB.run 14 rfl (fv a) rfl (run_fload rfl rfl (o3.keep hS)) rfl rfl
    refine ObsB.cons (fun u w L hL hS hBw hd => ?_) ?_
    · have d13 : u 13 = fv a := depB hd 0 rfl
      rw [d13]
      have d14 : u 14 = fv a := depB hd 1 rfl
      rw [d14]
      refine GB.call 15 rfl 43 #[fv a, fv a] rfl (by go_simp) rfl ((K3.out w).mono ?_)
      rintro e w' ⟨rfl, hb⟩
      exact ⟨_, rfl, rfl, hb⟩
    refine ObsB.cons (fun u w L hL hS hBw hd => ?_) ?_
    · exact GB.run 16 rfl (fv b) rfl (run_fload rfl rfl (o4.keep hS)) rfl rfl
    refine ObsB.cons (fun u w L hL hS hBw hd => ?_) ?_
    · exact GB.run 17 rfl (fv b) rfl (run_fload rfl rfl (o4.keep hS)) rfl rfl
    refine ObsB.cons (fun u w L hL hS hBw hd => ?_) ?_
    · have d16 : u 16 = fv b := depB hd 3 rfl
      rw [d16]
      have d17 : u 17 = fv b := depB hd 4 rfl
      rw [d17]
      refine GB.call 18 rfl 43 #[fv b, fv b] rfl (by go_simp) rfl ((K4.out w).mono ?_)
      rintro e w' ⟨rfl, hb⟩
      exact ⟨_, rfl, rfl, hb⟩
    refine ObsB.cons (fun u w L hL hS hBw hd => ?_) ?_
    · exact GB.alloc 5 rfl rfl #[.int .i64 0, .int .i64 0, .int .i64 0, .int .i64 0, .int .i64 0, .int .i64 0, .int .i64 0, .int .i64 0, .int .i64 0, .int .i64 0, .int .i64 0, .int .i64 0, .int .i64 0, .int .i64 0, .int .i64 0, .int .i64 0] 30 16 (fun _ => .int .i64 0) rfl rfl (by go_simp) hBw (by decide) rfl
    refine ObsB.cons (fun u w L hL hS hBw hd => ?_) ?_
    · exact GB.alloc 6 rfl rfl #[.int .i64 0, .int .i64 0, .int .i64 0, .int .i64 0, .int .i64 0, .int .i64 0, .int .i64 0, .int .i64 0, .int .i64 0, .int .i64 0, .int .i64 0, .int .i64 0, .int .i64 0, .int .i64 0, .int .i64 0, .int .i64 0] 30 16 (fun _ => .int .i64 0) rfl rfl (by go_simp) hBw (by decide) rfl
    refine ObsB.cons (fun u w L hL hS hBw hd => ?_) ?_
    · have d15 : u 15 = fv xx := depB hd 2 rfl
      obtain ⟨g, fg, e5, o5⟩ : (Fact.box 30 16).ok y2.heap.size [some 13, some 14, some 15, some 16, some 17, some 18, some 5, some 6, none, none] 6 u w L := depB hd 6 rfl
      exact GB.store rfl 6 g 30 16 (dv16 xx) rfl rfl rfl e5 (run_fstore rfl (by exact e5) (by exact d15) o5) (only16 w g xx) (put16 o5 xx)
    refine ObsB.cons (fun u w L hL hS hBw hd => ?_) ?_
    · have d18 : u 18 = fv yy := depB hd 5 rfl
      obtain ⟨g, fg, e6, o6⟩ : (Fact.box 30 16).ok y2.heap.size [some 13, some 14, some 15, some 16, some 17, some 18, some 5, some 6, none, none] 7 u w L := depB hd 7 rfl
      exact GB.store rfl 7 g 30 16 (dv16 yy) rfl rfl rfl e6 (run_fstore rfl (by exact e6) (by exact d18) o6) (only16 w g yy) (put16 o6 yy)
    exact ObsB.nil
  intro uy3 y3 hS hd
  obtain ⟨g5, eg5, o5⟩ : (Fact.holds 6 30 16 (dv16 xx)).ok y2.heap.size [some 13, some 14, some 15, some 16, some 17, some 18, some 5, some 6, none, none] 8 uy3 y3 (fun _ => true) := hd 8 (by decide)
  replace eg5 : uy3 5 = .pointer (some ⟨g5, 0, none⟩) := eg5
  replace o5 : O16 y3 y2.heap.size g5 xx := o5
  replace o5 := o5.mono hc.size
  obtain ⟨g6, eg6, o6⟩ : (Fact.holds 7 30 16 (dv16 yy)).ok y2.heap.size [some 13, some 14, some 15, some 16, some 17, some 18, some 5, some 6, none, none] 9 uy3 y3 (fun _ => true) := hd 9 (by decide)
  replace eg6 : uy3 6 = .pointer (some ⟨g6, 0, none⟩) := eg6
  replace o6 : O16 y3 y2.heap.size g6 yy := o6
  replace o6 := o6.mono hc.size
  replace o1 := O8.keep o1 hS
  replace o3 := O16.keep o3 hS
  replace o4 := O16.keep o4 hS
  replace hc := hc.trans (hS.mono hc.size)
  rw [eg5, eg6]
  clear hS hd eg5 eg6
  simp only [List.drop_succ_cons, List.drop_zero]
  go_upto_region 3 with fail
  refine wp_region_inv 21 [19, 20, 21, 22, 23, 24, 25, 26, 27, 28, 29, 30, 31, 32, 33, 34, 35, 36, 37, 38, 39] [.val (.pointer (some ⟨g1, 0, none⟩)), .val (nv x), .val (.bool false), .val (.bool false), .val (undef), .val (undef), .val (undef), .val (.bool false), .val (.bool false), .val (undef), .val (undef), .val (undef), .val (undef), .val (undef), .val (undef), .val (undef), .val (undef), .val (undef), .val (undef), .val (undef), .val (.bool false)] (fun wz => Below y3.heap.size y3 wz) (by kernel_rfl) (by kernel_rfl) (fun wz wz' hz hb => hz.trans (hb.mono hz.size)) ((Below.refl _ _).drew) (fun u => by simp only [puts, List.foldl_cons, List.foldl_nil]; go_simp; exact rfl) ?_ ?_
  · simp only [List.take_succ_cons, List.take_zero]
    refine Obs.cons (fun u w hS hd => ?_) ?_
    · exact Gv.run (.pointer (some ⟨g1, 0, none⟩)) rfl (run_pfield 0 (by decide) rfl rfl) rfl
    refine Obs.cons (fun u w hS hd => ?_) ?_
    · have d19 : u 19 = .pointer (some ⟨g1, 0, none⟩) := dep hd 0 rfl
      rw [d19]
      exact Gv.run (nv x) rfl (run_xload rfl rfl (O8.keep o1 hS)) rfl
    refine Obs.cons (fun u w hS hd => ?_) ?_
    · have d20 : u 20 = nv x := dep hd 1 rfl
      rw [d20]
      refine Gv.call 44 #[nv x] rfl (by go_simp) ((K5.out w).mono ?_)
      rintro e w' ⟨rfl, hb⟩
      exact ⟨_, rfl, rfl, hb⟩
    refine Obs.cons (fun u w hS hd => ?_) ?_
    · have d21 : u 21 = .bool false := dep hd 2 rfl
      rw [d21]
      exact Gv.run (.bool false) rfl (by go_simp) rfl
    refine Obs.cons (fun u w hS hd => ?_) ?_
    · have d22 : u 22 = .bool false := dep hd 3 rfl
      rw [d22]
      exact Gv.skip (by rfl) rfl
    refine Obs.cons (fun u w hS hd => ?_) ?_
    · have d22 : u 22 = .bool false := dep hd 3 rfl
      rw [d22]
      exact Gv.skip (by rfl) rfl
    refine Obs.cons (fun u w hS hd => ?_) ?_
    · have d22 : u 22 = .bool false := dep hd 3 rfl
      rw [d22]
      exact Gv.skip (by rfl) rfl
    refine Obs.cons (fun u w hS hd => ?_) ?_
    · have d22 : u 22 = .bool false := dep hd 3 rfl
      rw [d22]
      have d25 : u 25 = undef := dep hd 6 rfl
      rw [d25]
      exact Gv.run (.bool false) rfl (by go_simp) rfl
    refine Obs.cons (fun u w hS hd => ?_) ?_
    · have d26 : u 26 = .bool false := dep hd 7 rfl
      rw [d26]
      exact Gv.run (.bool false) rfl (by go_simp) rfl
    refine Obs.cons (fun u w hS hd => ?_) ?_
    · have d27 : u 27 = .bool false := dep hd 8 rfl
      rw [d27]
      exact Gv.skip (by rfl) rfl
    refine Obs.cons (fun u w hS hd => ?_) ?_
    · have d27 : u 27 = .bool false := dep hd 8 rfl
      rw [d27]
      exact Gv.skip (by rfl) rfl
    refine Obs.cons (fun u w hS hd => ?_) ?_
    · have d27 : u 27 = .bool false := dep hd 8 rfl
      rw [d27]
      exact Gv.skip (by rfl) rfl
    refine Obs.cons (fun u w hS hd => ?_) ?_
    · have d27 : u 27 = .bool false := dep hd 8 rfl
      rw [d27]
      exact Gv.skip (by rfl) rfl
    refine Obs.cons (fun u w hS hd => ?_) ?_
    · have d27 : u 27 = .bool false := dep hd 8 rfl
      rw [d27]
      exact Gv.skip (by rfl) rfl
    refine Obs.cons (fun u w hS hd => ?_) ?_
    · have d27 : u 27 = .bool false := dep hd 8 rfl
      rw [d27]
      exact Gv.skip (by rfl) rfl
    refine Obs.cons (fun u w hS hd => ?_) ?_
    · have d27 : u 27 = .bool false := dep hd 8 rfl
      rw [d27]
      exact Gv.skip (by rfl) rfl
    refine Obs.cons (fun u w hS hd => ?_) ?_
    · have d27 : u 27 = .bool false := dep hd 8 rfl
      rw [d27]
      exact Gv.skip (by rfl) rfl
    refine Obs.cons (fun u w hS hd => ?_) ?_
    · have d27 : u 27 = .bool false := dep hd 8 rfl
      rw [d27]
      exact Gv.skip (by rfl) rfl
    refine Obs.cons (fun u w hS hd => ?_) ?_
    · have d27 : u 27 = .bool false := dep hd 8 rfl
      rw [d27]
      exact Gv.skip (by rfl) rfl
    refine Obs.cons (fun u w hS hd => ?_) ?_
    · have d27 : u 27 = .bool false := dep hd 8 rfl
      rw [d27]
      exact Gv.skip (by rfl) rfl
    refine Obs.cons (fun u w hS hd => ?_) ?_
    · have d27 : u 27 = .bool false := dep hd 8 rfl
      rw [d27]
      have d38 : u 38 = undef := dep hd 19 rfl
      rw [d38]
      exact Gv.run (.bool false) rfl (by go_simp) rfl
    exact Obs.nil
  intro uy4 y4 hS hd
  have d39 : uy4 39 = .bool false := hd 20 (by decide)
  rw [d39]
  replace o1 := O8.keep o1 hS
  replace o3 := O16.keep o3 hS
  replace o4 := O16.keep o4 hS
  replace o5 := O16.keep o5 hS
  replace o6 := O16.keep o6 hS
  replace hc := hc.trans (hS.mono hc.size)
  clear hS hd d39
  simp only [List.drop_succ_cons, List.drop_zero]
  go_wp2_with fail
  go_ret
  exact ⟨rfl, hc⟩
set_option maxHeartbeats 6400000 in
theorem On_b {x y a b xx yy : Nat} 
    (k1 : ∀ w, Calls Tryd.prog 42 #[nv x] w fun e w' => e = .returned (fv a) ∧ Below w.heap.size w w')
    (k2 : ∀ w, Calls Tryd.prog 42 #[nv y] w fun e w' => e = .returned (fv b) ∧ Below w.heap.size w w')
    (k3 : ∀ w, Calls Tryd.prog 43 #[fv a, fv a] w fun e w' => e = .returned (fv xx) ∧ Below w.heap.size w w')
    (k4 : ∀ w, Calls Tryd.prog 43 #[fv b, fv b] w fun e w' => e = .returned (fv yy) ∧ Below w.heap.size w w')
    (k5 : ∀ w, Calls Tryd.prog 44 #[nv x] w fun e w' => e = .returned (.bool true) ∧ Below w.heap.size w w')
    (k6 : ∀ w, Calls Tryd.prog 44 #[nv y] w fun e w' => e = .returned (.bool false) ∧ Below w.heap.size w w')
    (w : World) : Calls Tryd.prog 13 #[prv x y] w fun e w' => e = .returned (.bool false) ∧ Below w.heap.size w w' := by
  have K1 := Lib.hid k1
  have K2 := Lib.hid k2
  have K3 := Lib.hid k3
  have K4 := Lib.hid k4
  have K5 := Lib.hid k5
  have K6 := Lib.hid k6
  clear k1 k2 k3 k4 k5 k6
  obtain ⟨v1, ev1⟩ : ∃ v, v = w.alloc (A8p x y) := ⟨_, rfl⟩
  have bv1 : Below w.heap.size w v1 := by rw [ev1]; exact (Below.refl _ _).alloc (Nat.le_refl _) _
  have sv1 : v1.heap.size = w.heap.size + 1 := by rw [ev1]; simp
  obtain ⟨g1, eg1⟩ : ∃ g, g = w.heap.size := ⟨_, rfl⟩
  have o1 : O8 v1 w.heap.size g1 x y := by rw [eg1, ev1]; exact O8.new (Nat.le_refl _) x y
  have hc := bv1
  have hs1 := hc.size
  go_enter Tryd.func13, Tryd.ntmps13
  go_upto_region 1 with fail
  rw [← ev1]
  rw [show Value.pointer (some ⟨w.heap.size, 0, none⟩) = .pointer (some ⟨g1, 0, none⟩) by rw [eg1]]
  clear ev1 bv1 sv1 eg1 hs1
  refine wp_region_box 10 [some 7, some 8, some 9, some 10, some 11, some 12, some 3, some 4, none, none] [.val (.pointer (some ⟨g1, 0, none⟩)), .val (nv x), .val (fv a), .val (.pointer (some ⟨g1, 4, none⟩)), .val (nv y), .val (fv b), .box 30 16, .box 30 16, .holds 6 30 16 (dv16 a), .holds 7 30 16 (dv16 b)] v1.heap.size (fun wz => Below v1.heap.size v1 wz) (by kernel_rfl) (by kernel_rfl)
    (fun _ _ h _ hb => h.trans hb) ((Below.refl _ _).drew) (Nat.le_refl _) (fun u => by simp only [List.filterMap_cons, List.filterMap_nil, id, puts, List.foldl_cons, List.foldl_nil]; go_simp; exact rfl) ?_ ?_
  · simp only [List.take_succ_cons, List.take_zero]
    refine ObsB.cons (fun u w L hL hS hBw hd => ?_) ?_
    · exact GB.run 7 rfl (.pointer (some ⟨g1, 0, none⟩)) rfl (run_pfield 0 (by decide) rfl rfl) rfl rfl
    refine ObsB.cons (fun u w L hL hS hBw hd => ?_) ?_
    · have d7 : u 7 = .pointer (some ⟨g1, 0, none⟩) := depB hd 0 rfl
      rw [d7]
      exact GB.run 8 rfl (nv x) rfl (run_xload rfl rfl (O8.keep o1 hS)) rfl rfl
    refine ObsB.cons (fun u w L hL hS hBw hd => ?_) ?_
    · have d8 : u 8 = nv x := depB hd 1 rfl
      rw [d8]
      refine GB.call 9 rfl 42 #[nv x] rfl (by go_simp) rfl ((K1.out w).mono ?_)
      rintro e w' ⟨rfl, hb⟩
      exact ⟨_, rfl, rfl, hb⟩
    refine ObsB.cons (fun u w L hL hS hBw hd => ?_) ?_
    · exact GB.run 10 rfl (.pointer (some ⟨g1, 4, none⟩)) rfl (run_pfield 1 (by decide) rfl rfl) rfl rfl
    refine ObsB.cons (fun u w L hL hS hBw hd => ?_) ?_
    · have d10 : u 10 = .pointer (some ⟨g1, 4, none⟩) := depB hd 3 rfl
      rw [d10]
      exact GB.run 11 rfl (nv y) rfl (run_zload rfl rfl (O8.keep o1 hS)) rfl rfl
    refine ObsB.cons (fun u w L hL hS hBw hd => ?_) ?_
    · have d11 : u 11 = nv y := depB hd 4 rfl
      rw [d11]
      refine GB.call 12 rfl 42 #[nv y] rfl (by go_simp) rfl ((K2.out w).mono ?_)
      rintro e w' ⟨rfl, hb⟩
      exact ⟨_, rfl, rfl, hb⟩
    refine ObsB.cons (fun u w L hL hS hBw hd => ?_) ?_
    · exact GB.alloc 3 rfl rfl #[.int .i64 0, .int .i64 0, .int .i64 0, .int .i64 0, .int .i64 0, .int .i64 0, .int .i64 0, .int .i64 0, .int .i64 0, .int .i64 0, .int .i64 0, .int .i64 0, .int .i64 0, .int .i64 0, .int .i64 0, .int .i64 0] 30 16 (fun _ => .int .i64 0) rfl rfl (by go_simp) hBw (by decide) rfl
    refine ObsB.cons (fun u w L hL hS hBw hd => ?_) ?_
    · exact GB.alloc 4 rfl rfl #[.int .i64 0, .int .i64 0, .int .i64 0, .int .i64 0, .int .i64 0, .int .i64 0, .int .i64 0, .int .i64 0, .int .i64 0, .int .i64 0, .int .i64 0, .int .i64 0, .int .i64 0, .int .i64 0, .int .i64 0, .int .i64 0] 30 16 (fun _ => .int .i64 0) rfl rfl (by go_simp) hBw (by decide) rfl
    refine ObsB.cons (fun u w L hL hS hBw hd => ?_) ?_
    · have d9 : u 9 = fv a := depB hd 2 rfl
      obtain ⟨g, fg, e3, o3⟩ : (Fact.box 30 16).ok v1.heap.size [some 7, some 8, some 9, some 10, some 11, some 12, some 3, some 4, none, none] 6 u w L := depB hd 6 rfl
      exact GB.store rfl 6 g 30 16 (dv16 a) rfl rfl rfl e3 (run_fstore rfl (by exact e3) (by exact d9) o3) (only16 w g a) (put16 o3 a)
    refine ObsB.cons (fun u w L hL hS hBw hd => ?_) ?_
    · have d12 : u 12 = fv b := depB hd 5 rfl
      obtain ⟨g, fg, e4, o4⟩ : (Fact.box 30 16).ok v1.heap.size [some 7, some 8, some 9, some 10, some 11, some 12, some 3, some 4, none, none] 7 u w L := depB hd 7 rfl
      exact GB.store rfl 7 g 30 16 (dv16 b) rfl rfl rfl e4 (run_fstore rfl (by exact e4) (by exact d12) o4) (only16 w g b) (put16 o4 b)
    exact ObsB.nil
  intro uy2 y2 hS hd
  obtain ⟨g3, eg3, o3⟩ : (Fact.holds 6 30 16 (dv16 a)).ok v1.heap.size [some 7, some 8, some 9, some 10, some 11, some 12, some 3, some 4, none, none] 8 uy2 y2 (fun _ => true) := hd 8 (by decide)
  replace eg3 : uy2 3 = .pointer (some ⟨g3, 0, none⟩) := eg3
  replace o3 : O16 y2 v1.heap.size g3 a := o3
  replace o3 := o3.mono hc.size
  obtain ⟨g4, eg4, o4⟩ : (Fact.holds 7 30 16 (dv16 b)).ok v1.heap.size [some 7, some 8, some 9, some 10, some 11, some 12, some 3, some 4, none, none] 9 uy2 y2 (fun _ => true) := hd 9 (by decide)
  replace eg4 : uy2 4 = .pointer (some ⟨g4, 0, none⟩) := eg4
  replace o4 : O16 y2 v1.heap.size g4 b := o4
  replace o4 := o4.mono hc.size
  replace o1 := O8.keep o1 hS
  replace hc := hc.trans (hS.mono hc.size)
  rw [eg3, eg4]
  clear hS hd eg3 eg4
  simp only [List.drop_succ_cons, List.drop_zero]
  go_upto_region 2 with fail
  refine wp_region_box 10 [some 13, some 14, some 15, some 16, some 17, some 18, some 5, some 6, none, none] [.val (fv a), .val (fv a), .val (fv xx), .val (fv b), .val (fv b), .val (fv yy), .box 30 16, .box 30 16, .holds 6 30 16 (dv16 xx), .holds 7 30 16 (dv16 yy)] y2.heap.size (fun wz => Below y2.heap.size y2 wz) (by kernel_rfl) (by kernel_rfl)
    (fun _ _ h _ hb => h.trans hb) ((Below.refl _ _).drew) (Nat.le_refl _) (fun u => by simp only [List.filterMap_cons, List.filterMap_nil, id, puts, List.foldl_cons, List.foldl_nil]; go_simp; exact rfl) ?_ ?_
  · simp only [List.take_succ_cons, List.take_zero]
    refine ObsB.cons (fun u w L hL hS hBw hd => ?_) ?_
    · exact GB.run 13 rfl (fv a) rfl (run_fload rfl rfl (o3.keep hS)) rfl rfl
    refine ObsB.cons (fun u w L hL hS hBw hd => ?_) ?_
    · exact GB.run 14 rfl (fv a) rfl (run_fload rfl rfl (o3.keep hS)) rfl rfl
    refine ObsB.cons (fun u w L hL hS hBw hd => ?_) ?_
    · have d13 : u 13 = fv a := depB hd 0 rfl
      rw [d13]
      have d14 : u 14 = fv a := depB hd 1 rfl
      rw [d14]
      refine GB.call 15 rfl 43 #[fv a, fv a] rfl (by go_simp) rfl ((K3.out w).mono ?_)
      rintro e w' ⟨rfl, hb⟩
      exact ⟨_, rfl, rfl, hb⟩
    refine ObsB.cons (fun u w L hL hS hBw hd => ?_) ?_
    · exact GB.run 16 rfl (fv b) rfl (run_fload rfl rfl (o4.keep hS)) rfl rfl
    refine ObsB.cons (fun u w L hL hS hBw hd => ?_) ?_
    · exact GB.run 17 rfl (fv b) rfl (run_fload rfl rfl (o4.keep hS)) rfl rfl
    refine ObsB.cons (fun u w L hL hS hBw hd => ?_) ?_
    · have d16 : u 16 = fv b := depB hd 3 rfl
      rw [d16]
      have d17 : u 17 = fv b := depB hd 4 rfl
      rw [d17]
      refine GB.call 18 rfl 43 #[fv b, fv b] rfl (by go_simp) rfl ((K4.out w).mono ?_)
      rintro e w' ⟨rfl, hb⟩
      exact ⟨_, rfl, rfl, hb⟩
    refine ObsB.cons (fun u w L hL hS hBw hd => ?_) ?_
    · exact GB.alloc 5 rfl rfl #[.int .i64 0, .int .i64 0, .int .i64 0, .int .i64 0, .int .i64 0, .int .i64 0, .int .i64 0, .int .i64 0, .int .i64 0, .int .i64 0, .int .i64 0, .int .i64 0, .int .i64 0, .int .i64 0, .int .i64 0, .int .i64 0] 30 16 (fun _ => .int .i64 0) rfl rfl (by go_simp) hBw (by decide) rfl
    refine ObsB.cons (fun u w L hL hS hBw hd => ?_) ?_
    · exact GB.alloc 6 rfl rfl #[.int .i64 0, .int .i64 0, .int .i64 0, .int .i64 0, .int .i64 0, .int .i64 0, .int .i64 0, .int .i64 0, .int .i64 0, .int .i64 0, .int .i64 0, .int .i64 0, .int .i64 0, .int .i64 0, .int .i64 0, .int .i64 0] 30 16 (fun _ => .int .i64 0) rfl rfl (by go_simp) hBw (by decide) rfl
    refine ObsB.cons (fun u w L hL hS hBw hd => ?_) ?_
    · have d15 : u 15 = fv xx := depB hd 2 rfl
      obtain ⟨g, fg, e5, o5⟩ : (Fact.box 30 16).ok y2.heap.size [some 13, some 14, some 15, some 16, some 17, some 18, some 5, some 6, none, none] 6 u w L := depB hd 6 rfl
      exact GB.store rfl 6 g 30 16 (dv16 xx) rfl rfl rfl e5 (run_fstore rfl (by exact e5) (by exact d15) o5) (only16 w g xx) (put16 o5 xx)
    refine ObsB.cons (fun u w L hL hS hBw hd => ?_) ?_
    · have d18 : u 18 = fv yy := depB hd 5 rfl
      obtain ⟨g, fg, e6, o6⟩ : (Fact.box 30 16).ok y2.heap.size [some 13, some 14, some 15, some 16, some 17, some 18, some 5, some 6, none, none] 7 u w L := depB hd 7 rfl
      exact GB.store rfl 7 g 30 16 (dv16 yy) rfl rfl rfl e6 (run_fstore rfl (by exact e6) (by exact d18) o6) (only16 w g yy) (put16 o6 yy)
    exact ObsB.nil
  intro uy3 y3 hS hd
  obtain ⟨g5, eg5, o5⟩ : (Fact.holds 6 30 16 (dv16 xx)).ok y2.heap.size [some 13, some 14, some 15, some 16, some 17, some 18, some 5, some 6, none, none] 8 uy3 y3 (fun _ => true) := hd 8 (by decide)
  replace eg5 : uy3 5 = .pointer (some ⟨g5, 0, none⟩) := eg5
  replace o5 : O16 y3 y2.heap.size g5 xx := o5
  replace o5 := o5.mono hc.size
  obtain ⟨g6, eg6, o6⟩ : (Fact.holds 7 30 16 (dv16 yy)).ok y2.heap.size [some 13, some 14, some 15, some 16, some 17, some 18, some 5, some 6, none, none] 9 uy3 y3 (fun _ => true) := hd 9 (by decide)
  replace eg6 : uy3 6 = .pointer (some ⟨g6, 0, none⟩) := eg6
  replace o6 : O16 y3 y2.heap.size g6 yy := o6
  replace o6 := o6.mono hc.size
  replace o1 := O8.keep o1 hS
  replace o3 := O16.keep o3 hS
  replace o4 := O16.keep o4 hS
  replace hc := hc.trans (hS.mono hc.size)
  rw [eg5, eg6]
  clear hS hd eg5 eg6
  simp only [List.drop_succ_cons, List.drop_zero]
  go_upto_region 3 with fail
  refine wp_region_inv 21 [19, 20, 21, 22, 23, 24, 25, 26, 27, 28, 29, 30, 31, 32, 33, 34, 35, 36, 37, 38, 39] [.val (.pointer (some ⟨g1, 0, none⟩)), .val (nv x), .val (.bool true), .val (.bool true), .val (.pointer (some ⟨g1, 4, none⟩)), .val (nv y), .val (.bool false), .val (.bool false), .val (.bool false), .val (undef), .val (undef), .val (undef), .val (undef), .val (undef), .val (undef), .val (undef), .val (undef), .val (undef), .val (undef), .val (undef), .val (.bool false)] (fun wz => Below y3.heap.size y3 wz) (by kernel_rfl) (by kernel_rfl) (fun wz wz' hz hb => hz.trans (hb.mono hz.size)) ((Below.refl _ _).drew) (fun u => by simp only [puts, List.foldl_cons, List.foldl_nil]; go_simp; exact rfl) ?_ ?_
  · simp only [List.take_succ_cons, List.take_zero]
    refine Obs.cons (fun u w hS hd => ?_) ?_
    · exact Gv.run (.pointer (some ⟨g1, 0, none⟩)) rfl (run_pfield 0 (by decide) rfl rfl) rfl
    refine Obs.cons (fun u w hS hd => ?_) ?_
    · have d19 : u 19 = .pointer (some ⟨g1, 0, none⟩) := dep hd 0 rfl
      rw [d19]
      exact Gv.run (nv x) rfl (run_xload rfl rfl (O8.keep o1 hS)) rfl
    refine Obs.cons (fun u w hS hd => ?_) ?_
    · have d20 : u 20 = nv x := dep hd 1 rfl
      rw [d20]
      refine Gv.call 44 #[nv x] rfl (by go_simp) ((K5.out w).mono ?_)
      rintro e w' ⟨rfl, hb⟩
      exact ⟨_, rfl, rfl, hb⟩
    refine Obs.cons (fun u w hS hd => ?_) ?_
    · have d21 : u 21 = .bool true := dep hd 2 rfl
      rw [d21]
      exact Gv.run (.bool true) rfl (by go_simp) rfl
    refine Obs.cons (fun u w hS hd => ?_) ?_
    · have d22 : u 22 = .bool true := dep hd 3 rfl
      rw [d22]
      exact Gv.run (.pointer (some ⟨g1, 4, none⟩)) (by rfl) (run_pfield 1 (by decide) rfl rfl) rfl
    refine Obs.cons (fun u w hS hd => ?_) ?_
    · have d22 : u 22 = .bool true := dep hd 3 rfl
      rw [d22]
      have d23 : u 23 = .pointer (some ⟨g1, 4, none⟩) := dep hd 4 rfl
      rw [d23]
      exact Gv.run (nv y) (by rfl) (run_zload rfl rfl (O8.keep o1 hS)) rfl
    refine Obs.cons (fun u w hS hd => ?_) ?_
    · have d22 : u 22 = .bool true := dep hd 3 rfl
      rw [d22]
      have d24 : u 24 = nv y := dep hd 5 rfl
      rw [d24]
      refine Gv.call 44 #[nv y] rfl (by go_simp) ((K6.out w).mono ?_)
      rintro e w' ⟨rfl, hb⟩
      exact ⟨_, rfl, rfl, hb⟩
    refine Obs.cons (fun u w hS hd => ?_) ?_
    · have d22 : u 22 = .bool true := dep hd 3 rfl
      rw [d22]
      have d25 : u 25 = .bool false := dep hd 6 rfl
      rw [d25]
      exact Gv.run (.bool false) rfl (by go_simp) rfl
    refine Obs.cons (fun u w hS hd => ?_) ?_
    · have d26 : u 26 = .bool false := dep hd 7 rfl
      rw [d26]
      exact Gv.run (.bool false) rfl (by go_simp) rfl
    refine Obs.cons (fun u w hS hd => ?_) ?_
    · have d27 : u 27 = .bool false := dep hd 8 rfl
      rw [d27]
      exact Gv.skip (by rfl) rfl
    refine Obs.cons (fun u w hS hd => ?_) ?_
    · have d27 : u 27 = .bool false := dep hd 8 rfl
      rw [d27]
      exact Gv.skip (by rfl) rfl
    refine Obs.cons (fun u w hS hd => ?_) ?_
    · have d27 : u 27 = .bool false := dep hd 8 rfl
      rw [d27]
      exact Gv.skip (by rfl) rfl
    refine Obs.cons (fun u w hS hd => ?_) ?_
    · have d27 : u 27 = .bool false := dep hd 8 rfl
      rw [d27]
      exact Gv.skip (by rfl) rfl
    refine Obs.cons (fun u w hS hd => ?_) ?_
    · have d27 : u 27 = .bool false := dep hd 8 rfl
      rw [d27]
      exact Gv.skip (by rfl) rfl
    refine Obs.cons (fun u w hS hd => ?_) ?_
    · have d27 : u 27 = .bool false := dep hd 8 rfl
      rw [d27]
      exact Gv.skip (by rfl) rfl
    refine Obs.cons (fun u w hS hd => ?_) ?_
    · have d27 : u 27 = .bool false := dep hd 8 rfl
      rw [d27]
      exact Gv.skip (by rfl) rfl
    refine Obs.cons (fun u w hS hd => ?_) ?_
    · have d27 : u 27 = .bool false := dep hd 8 rfl
      rw [d27]
      exact Gv.skip (by rfl) rfl
    refine Obs.cons (fun u w hS hd => ?_) ?_
    · have d27 : u 27 = .bool false := dep hd 8 rfl
      rw [d27]
      exact Gv.skip (by rfl) rfl
    refine Obs.cons (fun u w hS hd => ?_) ?_
    · have d27 : u 27 = .bool false := dep hd 8 rfl
      rw [d27]
      exact Gv.skip (by rfl) rfl
    refine Obs.cons (fun u w hS hd => ?_) ?_
    · have d27 : u 27 = .bool false := dep hd 8 rfl
      rw [d27]
      exact Gv.skip (by rfl) rfl
    refine Obs.cons (fun u w hS hd => ?_) ?_
    · have d27 : u 27 = .bool false := dep hd 8 rfl
      rw [d27]
      have d38 : u 38 = undef := dep hd 19 rfl
      rw [d38]
      exact Gv.run (.bool false) rfl (by go_simp) rfl
    exact Obs.nil
  intro uy4 y4 hS hd
  have d39 : uy4 39 = .bool false := hd 20 (by decide)
  rw [d39]
  replace o1 := O8.keep o1 hS
  replace o3 := O16.keep o3 hS
  replace o4 := O16.keep o4 hS
  replace o5 := O16.keep o5 hS
  replace o6 := O16.keep o6 hS
  replace hc := hc.trans (hS.mono hc.size)
  clear hS hd d39
  simp only [List.drop_succ_cons, List.drop_zero]
  go_wp2_with fail
  go_ret
  exact ⟨rfl, hc⟩
set_option maxHeartbeats 6400000 in
theorem On_c {x y a b xx yy s n1 D xy dx r : Nat} {q : Bool} (hbs : s < W4) (hbr : r < W4) (hq : decide (s = r) = q)
    (k1 : ∀ w, Calls Tryd.prog 42 #[nv x] w fun e w' => e = .returned (fv a) ∧ Below w.heap.size w w')
    (k2 : ∀ w, Calls Tryd.prog 42 #[nv y] w fun e w' => e = .returned (fv b) ∧ Below w.heap.size w w')
    (k3 : ∀ w, Calls Tryd.prog 43 #[fv a, fv a] w fun e w' => e = .returned (fv xx) ∧ Below w.heap.size w w')
    (k4 : ∀ w, Calls Tryd.prog 43 #[fv b, fv b] w fun e w' => e = .returned (fv yy) ∧ Below w.heap.size w w')
    (k5 : ∀ w, Calls Tryd.prog 44 #[nv x] w fun e w' => e = .returned (.bool true) ∧ Below w.heap.size w w')
    (k6 : ∀ w, Calls Tryd.prog 44 #[nv y] w fun e w' => e = .returned (.bool true) ∧ Below w.heap.size w w')
    (k7 : ∀ w, Calls Tryd.prog 45 #[fv yy, fv xx] w fun e w' => e = .returned (fv s) ∧ Below w.heap.size w w')
    (k8 : ∀ w, Calls Tryd.prog 47 #[.int .i64 1] w fun e w' => e = .returned (fv n1) ∧ Below w.heap.size w w')
    (k9 : ∀ w, Calls Tryd.prog 15 #[] w fun e w' => e = .returned (fv D) ∧ Below w.heap.size w w')
    (k10 : ∀ w, Calls Tryd.prog 43 #[fv xx, fv yy] w fun e w' => e = .returned (fv xy) ∧ Below w.heap.size w w')
    (k11 : ∀ w, Calls Tryd.prog 43 #[fv D, fv xy] w fun e w' => e = .returned (fv dx) ∧ Below w.heap.size w w')
    (k12 : ∀ w, Calls Tryd.prog 46 #[fv n1, fv dx] w fun e w' => e = .returned (fv r) ∧ Below w.heap.size w w')
    (w : World) : Calls Tryd.prog 13 #[prv x y] w fun e w' => e = .returned (.bool q) ∧ Below w.heap.size w w' := by
  have K1 := Lib.hid k1
  have K2 := Lib.hid k2
  have K3 := Lib.hid k3
  have K4 := Lib.hid k4
  have K5 := Lib.hid k5
  have K6 := Lib.hid k6
  have K7 := Lib.hid k7
  have K8 := Lib.hid k8
  have K9 := Lib.hid k9
  have K10 := Lib.hid k10
  have K11 := Lib.hid k11
  have K12 := Lib.hid k12
  clear k1 k2 k3 k4 k5 k6 k7 k8 k9 k10 k11 k12
  obtain ⟨v1, ev1⟩ : ∃ v, v = w.alloc (A8p x y) := ⟨_, rfl⟩
  have bv1 : Below w.heap.size w v1 := by rw [ev1]; exact (Below.refl _ _).alloc (Nat.le_refl _) _
  have sv1 : v1.heap.size = w.heap.size + 1 := by rw [ev1]; simp
  obtain ⟨g1, eg1⟩ : ∃ g, g = w.heap.size := ⟨_, rfl⟩
  have o1 : O8 v1 w.heap.size g1 x y := by rw [eg1, ev1]; exact O8.new (Nat.le_refl _) x y
  have hc := bv1
  have hs1 := hc.size
  go_enter Tryd.func13, Tryd.ntmps13
  go_upto_region 1 with fail
  rw [← ev1]
  rw [show Value.pointer (some ⟨w.heap.size, 0, none⟩) = .pointer (some ⟨g1, 0, none⟩) by rw [eg1]]
  clear ev1 bv1 sv1 eg1 hs1
  refine wp_region_box 10 [some 7, some 8, some 9, some 10, some 11, some 12, some 3, some 4, none, none] [.val (.pointer (some ⟨g1, 0, none⟩)), .val (nv x), .val (fv a), .val (.pointer (some ⟨g1, 4, none⟩)), .val (nv y), .val (fv b), .box 30 16, .box 30 16, .holds 6 30 16 (dv16 a), .holds 7 30 16 (dv16 b)] v1.heap.size (fun wz => Below v1.heap.size v1 wz) (by kernel_rfl) (by kernel_rfl)
    (fun _ _ h _ hb => h.trans hb) ((Below.refl _ _).drew) (Nat.le_refl _) (fun u => by simp only [List.filterMap_cons, List.filterMap_nil, id, puts, List.foldl_cons, List.foldl_nil]; go_simp; exact rfl) ?_ ?_
  · simp only [List.take_succ_cons, List.take_zero]
    refine ObsB.cons (fun u w L hL hS hBw hd => ?_) ?_
    · exact GB.run 7 rfl (.pointer (some ⟨g1, 0, none⟩)) rfl (run_pfield 0 (by decide) rfl rfl) rfl rfl
    refine ObsB.cons (fun u w L hL hS hBw hd => ?_) ?_
    · have d7 : u 7 = .pointer (some ⟨g1, 0, none⟩) := depB hd 0 rfl
      rw [d7]
      exact GB.run 8 rfl (nv x) rfl (run_xload rfl rfl (O8.keep o1 hS)) rfl rfl
    refine ObsB.cons (fun u w L hL hS hBw hd => ?_) ?_
    · have d8 : u 8 = nv x := depB hd 1 rfl
      rw [d8]
      refine GB.call 9 rfl 42 #[nv x] rfl (by go_simp) rfl ((K1.out w).mono ?_)
      rintro e w' ⟨rfl, hb⟩
      exact ⟨_, rfl, rfl, hb⟩
    refine ObsB.cons (fun u w L hL hS hBw hd => ?_) ?_
    · exact GB.run 10 rfl (.pointer (some ⟨g1, 4, none⟩)) rfl (run_pfield 1 (by decide) rfl rfl) rfl rfl
    refine ObsB.cons (fun u w L hL hS hBw hd => ?_) ?_
    · have d10 : u 10 = .pointer (some ⟨g1, 4, none⟩) := depB hd 3 rfl
      rw [d10]
      exact GB.run 11 rfl (nv y) rfl (run_zload rfl rfl (O8.keep o1 hS)) rfl rfl
    refine ObsB.cons (fun u w L hL hS hBw hd => ?_) ?_
    · have d11 : u 11 = nv y := depB hd 4 rfl
      rw [d11]
      refine GB.call 12 rfl 42 #[nv y] rfl (by go_simp) rfl ((K2.out w).mono ?_)
      rintro e w' ⟨rfl, hb⟩
      exact ⟨_, rfl, rfl, hb⟩
    refine ObsB.cons (fun u w L hL hS hBw hd => ?_) ?_
    · exact GB.alloc 3 rfl rfl #[.int .i64 0, .int .i64 0, .int .i64 0, .int .i64 0, .int .i64 0, .int .i64 0, .int .i64 0, .int .i64 0, .int .i64 0, .int .i64 0, .int .i64 0, .int .i64 0, .int .i64 0, .int .i64 0, .int .i64 0, .int .i64 0] 30 16 (fun _ => .int .i64 0) rfl rfl (by go_simp) hBw (by decide) rfl
    refine ObsB.cons (fun u w L hL hS hBw hd => ?_) ?_
    · exact GB.alloc 4 rfl rfl #[.int .i64 0, .int .i64 0, .int .i64 0, .int .i64 0, .int .i64 0, .int .i64 0, .int .i64 0, .int .i64 0, .int .i64 0, .int .i64 0, .int .i64 0, .int .i64 0, .int .i64 0, .int .i64 0, .int .i64 0, .int .i64 0] 30 16 (fun _ => .int .i64 0) rfl rfl (by go_simp) hBw (by decide) rfl
    refine ObsB.cons (fun u w L hL hS hBw hd => ?_) ?_
    · have d9 : u 9 = fv a := depB hd 2 rfl
      obtain ⟨g, fg, e3, o3⟩ : (Fact.box 30 16).ok v1.heap.size [some 7, some 8, some 9, some 10, some 11, some 12, some 3, some 4, none, none] 6 u w L := depB hd 6 rfl
      exact GB.store rfl 6 g 30 16 (dv16 a) rfl rfl rfl e3 (run_fstore rfl (by exact e3) (by exact d9) o3) (only16 w g a) (put16 o3 a)
    refine ObsB.cons (fun u w L hL hS hBw hd => ?_) ?_
    · have d12 : u 12 = fv b := depB hd 5 rfl
      obtain ⟨g, fg, e4, o4⟩ : (Fact.box 30 16).ok v1.heap.size [some 7, some 8, some 9, some 10, some 11, some 12, some 3, some 4, none, none] 7 u w L := depB hd 7 rfl
      exact GB.store rfl 7 g 30 16 (dv16 b) rfl rfl rfl e4 (run_fstore rfl (by exact e4) (by exact d12) o4) (only16 w g b) (put16 o4 b)
    exact ObsB.nil
  intro uy2 y2 hS hd
  obtain ⟨g3, eg3, o3⟩ : (Fact.holds 6 30 16 (dv16 a)).ok v1.heap.size [some 7, some 8, some 9, some 10, some 11, some 12, some 3, some 4, none, none] 8 uy2 y2 (fun _ => true) := hd 8 (by decide)
  replace eg3 : uy2 3 = .pointer (some ⟨g3, 0, none⟩) := eg3
  replace o3 : O16 y2 v1.heap.size g3 a := o3
  replace o3 := o3.mono hc.size
  obtain ⟨g4, eg4, o4⟩ : (Fact.holds 7 30 16 (dv16 b)).ok v1.heap.size [some 7, some 8, some 9, some 10, some 11, some 12, some 3, some 4, none, none] 9 uy2 y2 (fun _ => true) := hd 9 (by decide)
  replace eg4 : uy2 4 = .pointer (some ⟨g4, 0, none⟩) := eg4
  replace o4 : O16 y2 v1.heap.size g4 b := o4
  replace o4 := o4.mono hc.size
  replace o1 := O8.keep o1 hS
  replace hc := hc.trans (hS.mono hc.size)
  rw [eg3, eg4]
  clear hS hd eg3 eg4
  simp only [List.drop_succ_cons, List.drop_zero]
  go_upto_region 2 with fail
  refine wp_region_box 10 [some 13, some 14, some 15, some 16, some 17, some 18, some 5, some 6, none, none] [.val (fv a), .val (fv a), .val (fv xx), .val (fv b), .val (fv b), .val (fv yy), .box 30 16, .box 30 16, .holds 6 30 16 (dv16 xx), .holds 7 30 16 (dv16 yy)] y2.heap.size (fun wz => Below y2.heap.size y2 wz) (by kernel_rfl) (by kernel_rfl)
    (fun _ _ h _ hb => h.trans hb) ((Below.refl _ _).drew) (Nat.le_refl _) (fun u => by simp only [List.filterMap_cons, List.filterMap_nil, id, puts, List.foldl_cons, List.foldl_nil]; go_simp; exact rfl) ?_ ?_
  · simp only [List.take_succ_cons, List.take_zero]
    refine ObsB.cons (fun u w L hL hS hBw hd => ?_) ?_
    · exact GB.run 13 rfl (fv a) rfl (run_fload rfl rfl (o3.keep hS)) rfl rfl
    refine ObsB.cons (fun u w L hL hS hBw hd => ?_) ?_
    · exact GB.run 14 rfl (fv a) rfl (run_fload rfl rfl (o3.keep hS)) rfl rfl
    refine ObsB.cons (fun u w L hL hS hBw hd => ?_) ?_
    · have d13 : u 13 = fv a := depB hd 0 rfl
      rw [d13]
      have d14 : u 14 = fv a := depB hd 1 rfl
      rw [d14]
      refine GB.call 15 rfl 43 #[fv a, fv a] rfl (by go_simp) rfl ((K3.out w).mono ?_)
      rintro e w' ⟨rfl, hb⟩
      exact ⟨_, rfl, rfl, hb⟩
    refine ObsB.cons (fun u w L hL hS hBw hd => ?_) ?_
    · exact GB.run 16 rfl (fv b) rfl (run_fload rfl rfl (o4.keep hS)) rfl rfl
    refine ObsB.cons (fun u w L hL hS hBw hd => ?_) ?_
    · exact GB.run 17 rfl (fv b) rfl (run_fload rfl rfl (o4.keep hS)) rfl rfl
    refine ObsB.cons (fun u w L hL hS hBw hd => ?_) ?_
    · have d16 : u 16 = fv b := depB hd 3 rfl
      rw [d16]
      have d17 : u 17 = fv b := depB hd 4 rfl
      rw [d17]
      refine GB.call 18 rfl 43 #[fv b, fv b] rfl (by go_simp) rfl ((K4.out w).mono ?_)
      rintro e w' ⟨rfl, hb⟩
      exact ⟨_, rfl, rfl, hb⟩
    refine ObsB.cons (fun u w L hL hS hBw hd => ?_) ?_
    · exact GB.alloc 5 rfl rfl #[.int .i64 0, .int .i64 0, .int .i64 0, .int .i64 0, .int .i64 0, .int .i64 0, .int .i64 0, .int .i64 0, .int .i64 0, .int .i64 0, .int .i64 0, .int .i64 0, .int .i64 0, .int .i64 0, .int .i64 0, .int .i64 0] 30 16 (fun _ => .int .i64 0) rfl rfl (by go_simp) hBw (by decide) rfl
    refine ObsB.cons (fun u w L hL hS hBw hd => ?_) ?_
    · exact GB.alloc 6 rfl rfl #[.int .i64 0, .int .i64 0, .int .i64 0, .int .i64 0, .int .i64 0, .int .i64 0, .int .i64 0, .int .i64 0, .int .i64 0, .int .i64 0, .int .i64 0, .int .i64 0, .int .i64 0, .int .i64 0, .int .i64 0, .int .i64 0] 30 16 (fun _ => .int .i64 0) rfl rfl (by go_simp) hBw (by decide) rfl
    refine ObsB.cons (fun u w L hL hS hBw hd => ?_) ?_
    · have d15 : u 15 = fv xx := depB hd 2 rfl
      obtain ⟨g, fg, e5, o5⟩ : (Fact.box 30 16).ok y2.heap.size [some 13, some 14, some 15, some 16, some 17, some 18, some 5, some 6, none, none] 6 u w L := depB hd 6 rfl
      exact GB.store rfl 6 g 30 16 (dv16 xx) rfl rfl rfl e5 (run_fstore rfl (by exact e5) (by exact d15) o5) (only16 w g xx) (put16 o5 xx)
    refine ObsB.cons (fun u w L hL hS hBw hd => ?_) ?_
    · have d18 : u 18 = fv yy := depB hd 5 rfl
      obtain ⟨g, fg, e6, o6⟩ : (Fact.box 30 16).ok y2.heap.size [some 13, some 14, some 15, some 16, some 17, some 18, some 5, some 6, none, none] 7 u w L := depB hd 7 rfl
      exact GB.store rfl 7 g 30 16 (dv16 yy) rfl rfl rfl e6 (run_fstore rfl (by exact e6) (by exact d18) o6) (only16 w g yy) (put16 o6 yy)
    exact ObsB.nil
  intro uy3 y3 hS hd
  obtain ⟨g5, eg5, o5⟩ : (Fact.holds 6 30 16 (dv16 xx)).ok y2.heap.size [some 13, some 14, some 15, some 16, some 17, some 18, some 5, some 6, none, none] 8 uy3 y3 (fun _ => true) := hd 8 (by decide)
  replace eg5 : uy3 5 = .pointer (some ⟨g5, 0, none⟩) := eg5
  replace o5 : O16 y3 y2.heap.size g5 xx := o5
  replace o5 := o5.mono hc.size
  obtain ⟨g6, eg6, o6⟩ : (Fact.holds 7 30 16 (dv16 yy)).ok y2.heap.size [some 13, some 14, some 15, some 16, some 17, some 18, some 5, some 6, none, none] 9 uy3 y3 (fun _ => true) := hd 9 (by decide)
  replace eg6 : uy3 6 = .pointer (some ⟨g6, 0, none⟩) := eg6
  replace o6 : O16 y3 y2.heap.size g6 yy := o6
  replace o6 := o6.mono hc.size
  replace o1 := O8.keep o1 hS
  replace o3 := O16.keep o3 hS
  replace o4 := O16.keep o4 hS
  replace hc := hc.trans (hS.mono hc.size)
  rw [eg5, eg6]
  clear hS hd eg5 eg6
  simp only [List.drop_succ_cons, List.drop_zero]
  go_upto_region 3 with fail
  refine wp_region_inv 21 [19, 20, 21, 22, 23, 24, 25, 26, 27, 28, 29, 30, 31, 32, 33, 34, 35, 36, 37, 38, 39] [.val (.pointer (some ⟨g1, 0, none⟩)), .val (nv x), .val (.bool true), .val (.bool true), .val (.pointer (some ⟨g1, 4, none⟩)), .val (nv y), .val (.bool true), .val (.bool true), .val (.bool true), .val (fv yy), .val (fv xx), .val (fv s), .val (fv n1), .val (fv D), .val (fv xx), .val (fv yy), .val (fv xy), .val (fv dx), .val (fv r), .val (.bool q), .val (.bool q)] (fun wz => Below y3.heap.size y3 wz) (by kernel_rfl) (by kernel_rfl) (fun wz wz' hz hb => hz.trans (hb.mono hz.size)) ((Below.refl _ _).drew) (fun u => by simp only [puts, List.foldl_cons, List.foldl_nil]; go_simp; exact rfl) ?_ ?_
  · simp only [List.take_succ_cons, List.take_zero]
    refine Obs.cons (fun u w hS hd => ?_) ?_
    · exact Gv.run (.pointer (some ⟨g1, 0, none⟩)) rfl (run_pfield 0 (by decide) rfl rfl) rfl
    refine Obs.cons (fun u w hS hd => ?_) ?_
    · have d19 : u 19 = .pointer (some ⟨g1, 0, none⟩) := dep hd 0 rfl
      rw [d19]
      exact Gv.run (nv x) rfl (run_xload rfl rfl (O8.keep o1 hS)) rfl
    refine Obs.cons (fun u w hS hd => ?_) ?_
    · have d20 : u 20 = nv x := dep hd 1 rfl
      rw [d20]
      refine Gv.call 44 #[nv x] rfl (by go_simp) ((K5.out w).mono ?_)
      rintro e w' ⟨rfl, hb⟩
      exact ⟨_, rfl, rfl, hb⟩
    refine Obs.cons (fun u w hS hd => ?_) ?_
    · have d21 : u 21 = .bool true := dep hd 2 rfl
      rw [d21]
      exact Gv.run (.bool true) rfl (by go_simp) rfl
    refine Obs.cons (fun u w hS hd => ?_) ?_
    · have d22 : u 22 = .bool true := dep hd 3 rfl
      rw [d22]
      exact Gv.run (.pointer (some ⟨g1, 4, none⟩)) (by rfl) (run_pfield 1 (by decide) rfl rfl) rfl
    refine Obs.cons (fun u w hS hd => ?_) ?_
    · have d22 : u 22 = .bool true := dep hd 3 rfl
      rw [d22]
      have d23 : u 23 = .pointer (some ⟨g1, 4, none⟩) := dep hd 4 rfl
      rw [d23]
      exact Gv.run (nv y) (by rfl) (run_zload rfl rfl (O8.keep o1 hS)) rfl
    refine Obs.cons (fun u w hS hd => ?_) ?_
    · have d22 : u 22 = .bool true := dep hd 3 rfl
      rw [d22]
      have d24 : u 24 = nv y := dep hd 5 rfl
      rw [d24]
      refine Gv.call 44 #[nv y] rfl (by go_simp) ((K6.out w).mono ?_)
      rintro e w' ⟨rfl, hb⟩
      exact ⟨_, rfl, rfl, hb⟩
    refine Obs.cons (fun u w hS hd => ?_) ?_
    · have d22 : u 22 = .bool true := dep hd 3 rfl
      rw [d22]
      have d25 : u 25 = .bool true := dep hd 6 rfl
      rw [d25]
      exact Gv.run (.bool true) rfl (by go_simp) rfl
    refine Obs.cons (fun u w hS hd => ?_) ?_
    · have d26 : u 26 = .bool true := dep hd 7 rfl
      rw [d26]
      exact Gv.run (.bool true) rfl (by go_simp) rfl
    refine Obs.cons (fun u w hS hd => ?_) ?_
    · have d27 : u 27 = .bool true := dep hd 8 rfl
      rw [d27]
      exact Gv.run (fv yy) (by rfl) (run_fload rfl rfl (o6.keep hS)) rfl
    refine Obs.cons (fun u w hS hd => ?_) ?_
    · have d27 : u 27 = .bool true := dep hd 8 rfl
      rw [d27]
      exact Gv.run (fv xx) (by rfl) (run_fload rfl rfl (o5.keep hS)) rfl
    refine Obs.cons (fun u w hS hd => ?_) ?_
    · have d27 : u 27 = .bool true := dep hd 8 rfl
      rw [d27]
      have d28 : u 28 = fv yy := dep hd 9 rfl
      rw [d28]
      have d29 : u 29 = fv xx := dep hd 10 rfl
      rw [d29]
      refine Gv.call 45 #[fv yy, fv xx] rfl (by go_simp) ((K7.out w).mono ?_)
      rintro e w' ⟨rfl, hb⟩
      exact ⟨_, rfl, rfl, hb⟩
    refine Obs.cons (fun u w hS hd => ?_) ?_
    · have d27 : u 27 = .bool true := dep hd 8 rfl
      rw [d27]
      refine Gv.call 47 #[.int .i64 1] rfl (by go_simp) ((K8.out w).mono ?_)
      rintro e w' ⟨rfl, hb⟩
      exact ⟨_, rfl, rfl, hb⟩
    refine Obs.cons (fun u w hS hd => ?_) ?_
    · have d27 : u 27 = .bool true := dep hd 8 rfl
      rw [d27]
      refine Gv.call 15 #[] rfl (by go_simp) ((K9.out w).mono ?_)
      rintro e w' ⟨rfl, hb⟩
      exact ⟨_, rfl, rfl, hb⟩
    refine Obs.cons (fun u w hS hd => ?_) ?_
    · have d27 : u 27 = .bool true := dep hd 8 rfl
      rw [d27]
      exact Gv.run (fv xx) (by rfl) (run_fload rfl rfl (o5.keep hS)) rfl
    refine Obs.cons (fun u w hS hd => ?_) ?_
    · have d27 : u 27 = .bool true := dep hd 8 rfl
      rw [d27]
      exact Gv.run (fv yy) (by rfl) (run_fload rfl rfl (o6.keep hS)) rfl
    refine Obs.cons (fun u w hS hd => ?_) ?_
    · have d27 : u 27 = .bool true := dep hd 8 rfl
      rw [d27]
      have d33 : u 33 = fv xx := dep hd 14 rfl
      rw [d33]
      have d34 : u 34 = fv yy := dep hd 15 rfl
      rw [d34]
      refine Gv.call 43 #[fv xx, fv yy] rfl (by go_simp) ((K10.out w).mono ?_)
      rintro e w' ⟨rfl, hb⟩
      exact ⟨_, rfl, rfl, hb⟩
    refine Obs.cons (fun u w hS hd => ?_) ?_
    · have d27 : u 27 = .bool true := dep hd 8 rfl
      rw [d27]
      have d32 : u 32 = fv D := dep hd 13 rfl
      rw [d32]
      have d35 : u 35 = fv xy := dep hd 16 rfl
      rw [d35]
      refine Gv.call 43 #[fv D, fv xy] rfl (by go_simp) ((K11.out w).mono ?_)
      rintro e w' ⟨rfl, hb⟩
      exact ⟨_, rfl, rfl, hb⟩
    refine Obs.cons (fun u w hS hd => ?_) ?_
    · have d27 : u 27 = .bool true := dep hd 8 rfl
      rw [d27]
      have d31 : u 31 = fv n1 := dep hd 12 rfl
      rw [d31]
      have d36 : u 36 = fv dx := dep hd 17 rfl
      rw [d36]
      refine Gv.call 46 #[fv n1, fv dx] rfl (by go_simp) ((K12.out w).mono ?_)
      rintro e w' ⟨rfl, hb⟩
      exact ⟨_, rfl, rfl, hb⟩
    refine Obs.cons (fun u w hS hd => ?_) ?_
    · have d27 : u 27 = .bool true := dep hd 8 rfl
      rw [d27]
      have d30 : u 30 = fv s := dep hd 11 rfl
      rw [d30]
      have d37 : u 37 = fv r := dep hd 18 rfl
      rw [d37]
      exact Gv.run (.bool q) rfl (run_eqF rfl rfl rfl hbs hbr hq w) rfl
    refine Obs.cons (fun u w hS hd => ?_) ?_
    · have d27 : u 27 = .bool true := dep hd 8 rfl
      rw [d27]
      have d38 : u 38 = .bool q := dep hd 19 rfl
      rw [d38]
      exact Gv.run (.bool q) rfl (by go_simp) rfl
    exact Obs.nil
  intro uy4 y4 hS hd
  have d39 : uy4 39 = .bool q := hd 20 (by decide)
  rw [d39]
  replace o1 := O8.keep o1 hS
  replace o3 := O16.keep o3 hS
  replace o4 := O16.keep o4 hS
  replace o5 := O16.keep o5 hS
  replace o6 := O16.keep o6 hS
  replace hc := hc.trans (hS.mono hc.size)
  clear hS hd d39
  simp only [List.drop_succ_cons, List.drop_zero]
  go_wp2_with fail
  go_ret
  exact ⟨rfl, hc⟩
end
end Go.Proofs.YtckdifcelgooeaaDoor
