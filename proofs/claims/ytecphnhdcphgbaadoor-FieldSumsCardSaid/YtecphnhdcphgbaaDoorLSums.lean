import Derived.Test.YtecphnhdcphgbaaDoorMU
import Derived.Test.YtecphnhdcphgbaaDoorLaw3
namespace Go.Proofs.YtecphnhdcphgbaaDoor
open Go Go.RowKit
attribute [local irreducible] wd by8 d16 set16w fl
set_option maxRecDepth 20000
set_option maxHeartbeats 3200000 in
theorem sums_gen {a b x y s t m P : Nat} {q : Bool} (hba : a < W4) (hbx : x < W4) (hbs : s < W4) (hbt : t < W4) (hbm : m < W4) (hbP : P < W4) (hq : decide (x = a) = q)
    (k1 : ∀ w, Calls Tryd.prog 6 #[] w fun e w' => e = .returned (nv P) ∧ Below w.heap.size w w')
    (k2 : ∀ w, Calls Tryd.prog 7 #[] w fun e w' => e = .returned (nv P) ∧ Below w.heap.size w w')
    (k3 : ∀ w, Calls Tryd.prog 8 #[nv a] w fun e w' => e = .returned (nv x) ∧ Below w.heap.size w w')
    (k4 : ∀ w, Calls Tryd.prog 9 #[fv x] w fun e w' => e = .returned (nv x) ∧ Below w.heap.size w w')
    (k5 : ∀ w, Calls Tryd.prog 10 #[nv a] w fun e w' => e = .returned (.bool q) ∧ Below w.heap.size w w')
    (k6 : ∀ w, Calls Tryd.prog 11 #[nv a, nv b] w fun e w' => e = .returned (nv s) ∧ Below w.heap.size w w')
    (k7 : ∀ w, Calls Tryd.prog 12 #[fv x, fv y] w fun e w' => e = .returned (fv s) ∧ Below w.heap.size w w')
    (k8 : ∀ w, Calls Tryd.prog 9 #[fv s] w fun e w' => e = .returned (nv s) ∧ Below w.heap.size w w')
    (k9 : ∀ w, Calls Tryd.prog 13 #[nv a, nv b] w fun e w' => e = .returned (nv t) ∧ Below w.heap.size w w')
    (k10 : ∀ w, Calls Tryd.prog 14 #[fv x, fv y] w fun e w' => e = .returned (fv t) ∧ Below w.heap.size w w')
    (k11 : ∀ w, Calls Tryd.prog 9 #[fv t] w fun e w' => e = .returned (nv t) ∧ Below w.heap.size w w')
    (k12 : ∀ w, Calls Tryd.prog 15 #[nv a] w fun e w' => e = .returned (nv m) ∧ Below w.heap.size w w')
    (k13 : ∀ w, Calls Tryd.prog 16 #[fv x] w fun e w' => e = .returned (fv m) ∧ Below w.heap.size w w')
    (k14 : ∀ w, Calls Tryd.prog 9 #[fv m] w fun e w' => e = .returned (nv m) ∧ Below w.heap.size w w')
    (kx : ∀ w, Calls Tryd.prog 5 #[nv a] w fun e w' => e = .returned (fv x) ∧ Below w.heap.size w w') (ky : ∀ w, Calls Tryd.prog 5 #[nv b] w fun e w' => e = .returned (fv y) ∧ Below w.heap.size w w')
    (w : World) (hG : Glb w) :
    Calls Tryd.prog 3 #[nv a, nv b] w fun e w' => e = .returned (.bool true) ∧ Below w.heap.size w w' := by
  obtain ⟨v2, e2, oa, ob, hc⟩ := two a b w
  have K1 := Lib.hid k1
  have K2 := Lib.hid k2
  have K3 := Lib.hid k3
  have K4 := Lib.hid k4
  have K5 := Lib.hid k5
  have K6 := Lib.hid k6
  have K7 := Lib.hid k7
  have K8 := Lib.hid k8
  have K9 := Lib.hid k9
  have K10 := Lib.hid k10
  have K11 := Lib.hid k11
  have K12 := Lib.hid k12
  have K13 := Lib.hid k13
  have K14 := Lib.hid k14
  clear k1 k2 k3 k4 k5 k6 k7 k8 k9 k10 k11 k12 k13 k14
  have KX := Lib.hid kx
  have KY := Lib.hid ky
  clear kx ky
  unfold nv
  go_enter Tryd.func3, Tryd.ntmps3
  go_upto_region 1 with fail
  rw [← e2]
  clear e2
  have HS := Lib.hid (keep44 oa ob)
  have hs := hc.size
  refine wp_region_box 8 [some 7, some 8, some 9, some 10, some 5, some 6, none, none] [.val (nv a), .val (fv x), .val (nv b), .val (fv y), .box 26 16, .box 26 16, .holds 4 26 16 (dv16 x), .holds 5 26 16 (dv16 y)] v2.heap.size (fun wz => Below v2.heap.size v2 wz) (by kernel_rfl) (by kernel_rfl)
    (fun _ _ h _ hb => h.trans hb) ((Below.refl _ _).drew) (Nat.le_refl _) (fun u => by simp only [List.filterMap_cons, List.filterMap_nil, id, puts, List.foldl_cons, List.foldl_nil]; go_simp; exact rfl) ?_ ?_
  · simp only [List.take_succ_cons, List.take_zero]
    refine ObsB.cons (fun u w L hL hS hBw hd => ?_) ?_
    · obtain ⟨s0, s1, s2, s3, -⟩ := HS.out w hS
      exact GB.run 7 rfl (nv a) rfl (by go_simp) rfl rfl
    refine ObsB.cons (fun u w L hL hS hBw hd => ?_) ?_
    · have d7 : u 7 = nv a := depB hd 0 rfl
      rw [d7]
      refine GB.call 8 rfl 5 #[nv a] rfl (by go_simp) rfl ((KX.out w).mono ?_)
      rintro e w' ⟨rfl, hb⟩
      exact ⟨_, rfl, rfl, hb⟩
    refine ObsB.cons (fun u w L hL hS hBw hd => ?_) ?_
    · obtain ⟨-, -, -, -, s0, s1, s2, s3⟩ := HS.out w hS
      exact GB.run 9 rfl (nv b) rfl (by go_simp) rfl rfl
    refine ObsB.cons (fun u w L hL hS hBw hd => ?_) ?_
    · have d9 : u 9 = nv b := depB hd 2 rfl
      rw [d9]
      refine GB.call 10 rfl 5 #[nv b] rfl (by go_simp) rfl ((KY.out w).mono ?_)
      rintro e w' ⟨rfl, hb⟩
      exact ⟨_, rfl, rfl, hb⟩
    refine ObsB.cons (fun u w L hL hS hBw hd => ?_) ?_
    · exact GB.alloc 5 rfl rfl #[.int .i64 0, .int .i64 0, .int .i64 0, .int .i64 0, .int .i64 0, .int .i64 0, .int .i64 0, .int .i64 0, .int .i64 0, .int .i64 0, .int .i64 0, .int .i64 0, .int .i64 0, .int .i64 0, .int .i64 0, .int .i64 0] 26 16 (fun _ => .int .i64 0) rfl rfl (by go_simp) hBw (by decide) rfl
    refine ObsB.cons (fun u w L hL hS hBw hd => ?_) ?_
    · exact GB.alloc 6 rfl rfl #[.int .i64 0, .int .i64 0, .int .i64 0, .int .i64 0, .int .i64 0, .int .i64 0, .int .i64 0, .int .i64 0, .int .i64 0, .int .i64 0, .int .i64 0, .int .i64 0, .int .i64 0, .int .i64 0, .int .i64 0, .int .i64 0] 26 16 (fun _ => .int .i64 0) rfl rfl (by go_simp) hBw (by decide) rfl
    refine ObsB.cons (fun u w L hL hS hBw hd => ?_) ?_
    · have d8 : u 8 = fv x := depB hd 1 rfl
      obtain ⟨g, fg, e5, o5⟩ : (Fact.box 26 16).ok v2.heap.size [some 7, some 8, some 9, some 10, some 5, some 6, none, none] 4 u w L := depB hd 4 rfl
      exact GB.store rfl 4 g 26 16 (dv16 x) rfl rfl rfl e5 (run_fstore rfl (by exact e5) (by exact d8) o5) (only16 w g x) (put16 o5 x)
    refine ObsB.cons (fun u w L hL hS hBw hd => ?_) ?_
    · have d10 : u 10 = fv y := depB hd 3 rfl
      obtain ⟨g, fg, e6, o6⟩ : (Fact.box 26 16).ok v2.heap.size [some 7, some 8, some 9, some 10, some 5, some 6, none, none] 5 u w L := depB hd 5 rfl
      exact GB.store rfl 5 g 26 16 (dv16 y) rfl rfl rfl e6 (run_fstore rfl (by exact e6) (by exact d10) o6) (only16 w g y) (put16 o6 y)
    exact ObsB.nil
  · intro u1 v5 hS1 hd1
    obtain ⟨gx, ex, ox⟩ : (Fact.holds 4 26 16 (dv16 x)).ok v2.heap.size [some 7, some 8, some 9, some 10, some 5, some 6, none, none] 6 u1 v5 (fun _ => true) := hd1 6 (by decide)
    replace ex : u1 5 = .pointer (some ⟨gx, 0, none⟩) := ex
    replace ox : O16 v5 v2.heap.size gx x := ox
    obtain ⟨gy, ey, oy⟩ : (Fact.holds 5 26 16 (dv16 y)).ok v2.heap.size [some 7, some 8, some 9, some 10, some 5, some 6, none, none] 7 u1 v5 (fun _ => true) := hd1 7 (by decide)
    replace ey : u1 6 = .pointer (some ⟨gy, 0, none⟩) := ey
    replace oy : O16 v5 v2.heap.size gy y := oy
    rw [ex, ey]
    clear hd1 ex ey
    simp only [List.drop_succ_cons, List.drop_zero]
    replace oa := oa.keep hS1
    replace ob := ob.keep hS1
    replace hc := hc.trans (hS1.mono hs)
    clear HS hs hS1
    have hG2 := hG.keep hc hG.pos
    have HGG := Lib.hid (fun wz (hz : Below v5.heap.size v5 wz) => hG2.next hz)
    clear hG hG2
    go_upto_region 2 with fail
    have HS := Lib.hid (keep44 oa ob)
    have hs := hc.size
    refine wp_region_inv 50 [11, 12, 13, 14, 15, 16, 17, 18, 19, 20, 21, 22, 23, 24, 25, 26, 27, 28, 29, 30, 31, 32, 33, 34, 35, 36, 37, 38, 39, 40, 41, 42, 43, 44, 45, 46, 47, 48, 49, 50, 51, 52, 53, 54, 55, 56, 57, 58, 59, 60] [.val (nv P), .val (nv P), .val (.bool true), .val (.bool true), .val (nv a), .val (nv x), .val (fv x), .val (nv x), .val (.bool true), .val (.bool true), .val (.bool true), .val (nv a), .val (.bool q), .val (fv x), .val (nv x), .val (nv a), .val (.bool q), .val (.bool true), .val (.bool true), .val (.bool true), .val (nv a), .val (nv b), .val (nv s), .val (fv x), .val (fv y), .val (fv s), .val (nv s), .val (.bool true), .val (.bool true), .val (.bool true), .val (nv a), .val (nv b), .val (nv t), .val (fv x), .val (fv y), .val (fv t), .val (nv t), .val (.bool true), .val (.bool true), .val (.bool true), .val (nv a), .val (nv m), .val (fv x), .val (fv m), .val (nv m), .val (.bool true), .val (.bool true), .val (.bool true), .val (.bool true), .val (.bool true)] (fun wz => Below v5.heap.size v5 wz) (by kernel_rfl) (by kernel_rfl) (fun wz wz' hz hb => hz.trans (hb.mono hz.size)) ((Below.refl _ _).drew) (fun u => by simp only [puts, List.foldl_cons, List.foldl_nil]; go_simp; exact rfl) ?_ ?_
    · simp only [List.take_succ_cons, List.take_zero]
      refine Obs.cons (fun u w hS hd => ?_) ?_
      · refine Gv.call 6 #[] rfl (by go_simp) ((K1.out w).mono ?_)
        rintro e w' ⟨rfl, hb⟩
        exact ⟨_, rfl, rfl, hb⟩
      refine Obs.cons (fun u w hS hd => ?_) ?_
      · refine Gv.call 7 #[] rfl (by go_simp) ((K2.out w).mono ?_)
        rintro e w' ⟨rfl, hb⟩
        exact ⟨_, rfl, rfl, hb⟩
      refine Obs.cons (fun u w hS hd => ?_) ?_
      · have d11 : u 11 = nv P := dep hd 0 rfl
        rw [d11]
        have d12 : u 12 = nv P := dep hd 1 rfl
        rw [d12]
        exact Gv.run (.bool true) rfl (run_eq4 rfl rfl rfl hbP hbP (decide_eq_true rfl) w) rfl
      refine Obs.cons (fun u w hS hd => ?_) ?_
      · have d13 : u 13 = .bool true := dep hd 2 rfl
        rw [d13]
        exact Gv.run (.bool true) rfl (by go_simp) rfl
      refine Obs.cons (fun u w hS hd => ?_) ?_
      · have d14 : u 14 = .bool true := dep hd 3 rfl
        rw [d14]
        obtain ⟨s0, s1, s2, s3, -⟩ := HS.out w hS
        refine Gv.run (nv a) rfl (by go_simp) rfl
      refine Obs.cons (fun u w hS hd => ?_) ?_
      · have d14 : u 14 = .bool true := dep hd 3 rfl
        rw [d14]
        have d15 : u 15 = nv a := dep hd 4 rfl
        rw [d15]
        refine Gv.call 8 #[nv a] rfl (by go_simp) ((K3.out w).mono ?_)
        rintro e w' ⟨rfl, hb⟩
        exact ⟨_, rfl, rfl, hb⟩
      refine Obs.cons (fun u w hS hd => ?_) ?_
      · have d14 : u 14 = .bool true := dep hd 3 rfl
        rw [d14]
        exact Gv.run (fv x) (by rfl) (run_fload rfl rfl (ox.keep hS)) rfl
      refine Obs.cons (fun u w hS hd => ?_) ?_
      · have d14 : u 14 = .bool true := dep hd 3 rfl
        rw [d14]
        have d17 : u 17 = fv x := dep hd 6 rfl
        rw [d17]
        refine Gv.call 9 #[fv x] rfl (by go_simp) ((K4.out w).mono ?_)
        rintro e w' ⟨rfl, hb⟩
        exact ⟨_, rfl, rfl, hb⟩
      refine Obs.cons (fun u w hS hd => ?_) ?_
      · have d14 : u 14 = .bool true := dep hd 3 rfl
        rw [d14]
        have d16 : u 16 = nv x := dep hd 5 rfl
        rw [d16]
        have d18 : u 18 = nv x := dep hd 7 rfl
        rw [d18]
        exact Gv.run (.bool true) rfl (run_eq4 rfl rfl rfl hbx hbx (decide_eq_true rfl) w) rfl
      refine Obs.cons (fun u w hS hd => ?_) ?_
      · have d14 : u 14 = .bool true := dep hd 3 rfl
        rw [d14]
        have d19 : u 19 = .bool true := dep hd 8 rfl
        rw [d19]
        exact Gv.run (.bool true) rfl (by go_simp) rfl
      refine Obs.cons (fun u w hS hd => ?_) ?_
      · have d20 : u 20 = .bool true := dep hd 9 rfl
        rw [d20]
        exact Gv.run (.bool true) rfl (by go_simp) rfl
      refine Obs.cons (fun u w hS hd => ?_) ?_
      · have d21 : u 21 = .bool true := dep hd 10 rfl
        rw [d21]
        obtain ⟨s0, s1, s2, s3, -⟩ := HS.out w hS
        refine Gv.run (nv a) rfl (by go_simp) rfl
      refine Obs.cons (fun u w hS hd => ?_) ?_
      · have d21 : u 21 = .bool true := dep hd 10 rfl
        rw [d21]
        have d22 : u 22 = nv a := dep hd 11 rfl
        rw [d22]
        refine Gv.call 10 #[nv a] rfl (by go_simp) ((K5.out w).mono ?_)
        rintro e w' ⟨rfl, hb⟩
        exact ⟨_, rfl, rfl, hb⟩
      refine Obs.cons (fun u w hS hd => ?_) ?_
      · have d21 : u 21 = .bool true := dep hd 10 rfl
        rw [d21]
        exact Gv.run (fv x) (by rfl) (run_fload rfl rfl (ox.keep hS)) rfl
      refine Obs.cons (fun u w hS hd => ?_) ?_
      · have d21 : u 21 = .bool true := dep hd 10 rfl
        rw [d21]
        have d24 : u 24 = fv x := dep hd 13 rfl
        rw [d24]
        refine Gv.call 9 #[fv x] rfl (by go_simp) ((K4.out w).mono ?_)
        rintro e w' ⟨rfl, hb⟩
        exact ⟨_, rfl, rfl, hb⟩
      refine Obs.cons (fun u w hS hd => ?_) ?_
      · have d21 : u 21 = .bool true := dep hd 10 rfl
        rw [d21]
        obtain ⟨s0, s1, s2, s3, -⟩ := HS.out w hS
        refine Gv.run (nv a) rfl (by go_simp) rfl
      refine Obs.cons (fun u w hS hd => ?_) ?_
      · have d21 : u 21 = .bool true := dep hd 10 rfl
        rw [d21]
        have d25 : u 25 = nv x := dep hd 14 rfl
        rw [d25]
        have d26 : u 26 = nv a := dep hd 15 rfl
        rw [d26]
        exact Gv.run (.bool q) rfl (run_eq4 rfl rfl rfl hbx hba hq w) rfl
      refine Obs.cons (fun u w hS hd => ?_) ?_
      · have d21 : u 21 = .bool true := dep hd 10 rfl
        rw [d21]
        have d23 : u 23 = .bool q := dep hd 12 rfl
        rw [d23]
        have d27 : u 27 = .bool q := dep hd 16 rfl
        rw [d27]
        exact Gv.run (.bool true) rfl (by go_simp) rfl
      refine Obs.cons (fun u w hS hd => ?_) ?_
      · have d21 : u 21 = .bool true := dep hd 10 rfl
        rw [d21]
        have d28 : u 28 = .bool true := dep hd 17 rfl
        rw [d28]
        exact Gv.run (.bool true) rfl (by go_simp) rfl
      refine Obs.cons (fun u w hS hd => ?_) ?_
      · have d29 : u 29 = .bool true := dep hd 18 rfl
        rw [d29]
        exact Gv.run (.bool true) rfl (by go_simp) rfl
      refine Obs.cons (fun u w hS hd => ?_) ?_
      · have d30 : u 30 = .bool true := dep hd 19 rfl
        rw [d30]
        obtain ⟨s0, s1, s2, s3, -⟩ := HS.out w hS
        refine Gv.run (nv a) rfl (by go_simp) rfl
      refine Obs.cons (fun u w hS hd => ?_) ?_
      · have d30 : u 30 = .bool true := dep hd 19 rfl
        rw [d30]
        obtain ⟨-, -, -, -, s0, s1, s2, s3⟩ := HS.out w hS
        refine Gv.run (nv b) rfl (by go_simp) rfl
      refine Obs.cons (fun u w hS hd => ?_) ?_
      · have d30 : u 30 = .bool true := dep hd 19 rfl
        rw [d30]
        have d31 : u 31 = nv a := dep hd 20 rfl
        rw [d31]
        have d32 : u 32 = nv b := dep hd 21 rfl
        rw [d32]
        refine Gv.call 11 #[nv a, nv b] rfl (by go_simp) ((K6.out w).mono ?_)
        rintro e w' ⟨rfl, hb⟩
        exact ⟨_, rfl, rfl, hb⟩
      refine Obs.cons (fun u w hS hd => ?_) ?_
      · have d30 : u 30 = .bool true := dep hd 19 rfl
        rw [d30]
        exact Gv.run (fv x) (by rfl) (run_fload rfl rfl (ox.keep hS)) rfl
      refine Obs.cons (fun u w hS hd => ?_) ?_
      · have d30 : u 30 = .bool true := dep hd 19 rfl
        rw [d30]
        exact Gv.run (fv y) (by rfl) (run_fload rfl rfl (oy.keep hS)) rfl
      refine Obs.cons (fun u w hS hd => ?_) ?_
      · have d30 : u 30 = .bool true := dep hd 19 rfl
        rw [d30]
        have d34 : u 34 = fv x := dep hd 23 rfl
        rw [d34]
        have d35 : u 35 = fv y := dep hd 24 rfl
        rw [d35]
        refine Gv.call 12 #[fv x, fv y] rfl (by go_simp) ((K7.out w).mono ?_)
        rintro e w' ⟨rfl, hb⟩
        exact ⟨_, rfl, rfl, hb⟩
      refine Obs.cons (fun u w hS hd => ?_) ?_
      · have d30 : u 30 = .bool true := dep hd 19 rfl
        rw [d30]
        have d36 : u 36 = fv s := dep hd 25 rfl
        rw [d36]
        refine Gv.call 9 #[fv s] rfl (by go_simp) ((K8.out w).mono ?_)
        rintro e w' ⟨rfl, hb⟩
        exact ⟨_, rfl, rfl, hb⟩
      refine Obs.cons (fun u w hS hd => ?_) ?_
      · have d30 : u 30 = .bool true := dep hd 19 rfl
        rw [d30]
        have d33 : u 33 = nv s := dep hd 22 rfl
        rw [d33]
        have d37 : u 37 = nv s := dep hd 26 rfl
        rw [d37]
        exact Gv.run (.bool true) rfl (run_eq4 rfl rfl rfl hbs hbs (decide_eq_true rfl) w) rfl
      refine Obs.cons (fun u w hS hd => ?_) ?_
      · have d30 : u 30 = .bool true := dep hd 19 rfl
        rw [d30]
        have d38 : u 38 = .bool true := dep hd 27 rfl
        rw [d38]
        exact Gv.run (.bool true) rfl (by go_simp) rfl
      refine Obs.cons (fun u w hS hd => ?_) ?_
      · have d39 : u 39 = .bool true := dep hd 28 rfl
        rw [d39]
        exact Gv.run (.bool true) rfl (by go_simp) rfl
      refine Obs.cons (fun u w hS hd => ?_) ?_
      · have d40 : u 40 = .bool true := dep hd 29 rfl
        rw [d40]
        obtain ⟨s0, s1, s2, s3, -⟩ := HS.out w hS
        refine Gv.run (nv a) rfl (by go_simp) rfl
      refine Obs.cons (fun u w hS hd => ?_) ?_
      · have d40 : u 40 = .bool true := dep hd 29 rfl
        rw [d40]
        obtain ⟨-, -, -, -, s0, s1, s2, s3⟩ := HS.out w hS
        refine Gv.run (nv b) rfl (by go_simp) rfl
      refine Obs.cons (fun u w hS hd => ?_) ?_
      · have d40 : u 40 = .bool true := dep hd 29 rfl
        rw [d40]
        have d41 : u 41 = nv a := dep hd 30 rfl
        rw [d41]
        have d42 : u 42 = nv b := dep hd 31 rfl
        rw [d42]
        refine Gv.call 13 #[nv a, nv b] rfl (by go_simp) ((K9.out w).mono ?_)
        rintro e w' ⟨rfl, hb⟩
        exact ⟨_, rfl, rfl, hb⟩
      refine Obs.cons (fun u w hS hd => ?_) ?_
      · have d40 : u 40 = .bool true := dep hd 29 rfl
        rw [d40]
        exact Gv.run (fv x) (by rfl) (run_fload rfl rfl (ox.keep hS)) rfl
      refine Obs.cons (fun u w hS hd => ?_) ?_
      · have d40 : u 40 = .bool true := dep hd 29 rfl
        rw [d40]
        exact Gv.run (fv y) (by rfl) (run_fload rfl rfl (oy.keep hS)) rfl
      refine Obs.cons (fun u w hS hd => ?_) ?_
      · have d40 : u 40 = .bool true := dep hd 29 rfl
        rw [d40]
        have d44 : u 44 = fv x := dep hd 33 rfl
        rw [d44]
        have d45 : u 45 = fv y := dep hd 34 rfl
        rw [d45]
        refine Gv.call 14 #[fv x, fv y] rfl (by go_simp) ((K10.out w).mono ?_)
        rintro e w' ⟨rfl, hb⟩
        exact ⟨_, rfl, rfl, hb⟩
      refine Obs.cons (fun u w hS hd => ?_) ?_
      · have d40 : u 40 = .bool true := dep hd 29 rfl
        rw [d40]
        have d46 : u 46 = fv t := dep hd 35 rfl
        rw [d46]
        refine Gv.call 9 #[fv t] rfl (by go_simp) ((K11.out w).mono ?_)
        rintro e w' ⟨rfl, hb⟩
        exact ⟨_, rfl, rfl, hb⟩
      refine Obs.cons (fun u w hS hd => ?_) ?_
      · have d40 : u 40 = .bool true := dep hd 29 rfl
        rw [d40]
        have d43 : u 43 = nv t := dep hd 32 rfl
        rw [d43]
        have d47 : u 47 = nv t := dep hd 36 rfl
        rw [d47]
        exact Gv.run (.bool true) rfl (run_eq4 rfl rfl rfl hbt hbt (decide_eq_true rfl) w) rfl
      refine Obs.cons (fun u w hS hd => ?_) ?_
      · have d40 : u 40 = .bool true := dep hd 29 rfl
        rw [d40]
        have d48 : u 48 = .bool true := dep hd 37 rfl
        rw [d48]
        exact Gv.run (.bool true) rfl (by go_simp) rfl
      refine Obs.cons (fun u w hS hd => ?_) ?_
      · have d49 : u 49 = .bool true := dep hd 38 rfl
        rw [d49]
        exact Gv.run (.bool true) rfl (by go_simp) rfl
      refine Obs.cons (fun u w hS hd => ?_) ?_
      · have d50 : u 50 = .bool true := dep hd 39 rfl
        rw [d50]
        obtain ⟨s0, s1, s2, s3, -⟩ := HS.out w hS
        refine Gv.run (nv a) rfl (by go_simp) rfl
      refine Obs.cons (fun u w hS hd => ?_) ?_
      · have d50 : u 50 = .bool true := dep hd 39 rfl
        rw [d50]
        have d51 : u 51 = nv a := dep hd 40 rfl
        rw [d51]
        refine Gv.call 15 #[nv a] rfl (by go_simp) ((K12.out w).mono ?_)
        rintro e w' ⟨rfl, hb⟩
        exact ⟨_, rfl, rfl, hb⟩
      refine Obs.cons (fun u w hS hd => ?_) ?_
      · have d50 : u 50 = .bool true := dep hd 39 rfl
        rw [d50]
        exact Gv.run (fv x) (by rfl) (run_fload rfl rfl (ox.keep hS)) rfl
      refine Obs.cons (fun u w hS hd => ?_) ?_
      · have d50 : u 50 = .bool true := dep hd 39 rfl
        rw [d50]
        have d53 : u 53 = fv x := dep hd 42 rfl
        rw [d53]
        refine Gv.call 16 #[fv x] rfl (by go_simp) ((K13.out w).mono ?_)
        rintro e w' ⟨rfl, hb⟩
        exact ⟨_, rfl, rfl, hb⟩
      refine Obs.cons (fun u w hS hd => ?_) ?_
      · have d50 : u 50 = .bool true := dep hd 39 rfl
        rw [d50]
        have d54 : u 54 = fv m := dep hd 43 rfl
        rw [d54]
        refine Gv.call 9 #[fv m] rfl (by go_simp) ((K14.out w).mono ?_)
        rintro e w' ⟨rfl, hb⟩
        exact ⟨_, rfl, rfl, hb⟩
      refine Obs.cons (fun u w hS hd => ?_) ?_
      · have d50 : u 50 = .bool true := dep hd 39 rfl
        rw [d50]
        have d52 : u 52 = nv m := dep hd 41 rfl
        rw [d52]
        have d55 : u 55 = nv m := dep hd 44 rfl
        rw [d55]
        exact Gv.run (.bool true) rfl (run_eq4 rfl rfl rfl hbm hbm (decide_eq_true rfl) w) rfl
      refine Obs.cons (fun u w hS hd => ?_) ?_
      · have d50 : u 50 = .bool true := dep hd 39 rfl
        rw [d50]
        have d56 : u 56 = .bool true := dep hd 45 rfl
        rw [d56]
        exact Gv.run (.bool true) rfl (by go_simp) rfl
      refine Obs.cons (fun u w hS hd => ?_) ?_
      · have d57 : u 57 = .bool true := dep hd 46 rfl
        rw [d57]
        exact Gv.run (.bool true) rfl (by go_simp) rfl
      refine Obs.cons (fun u w hS hd => ?_) ?_
      · have d58 : u 58 = .bool true := dep hd 47 rfl
        rw [d58]
        refine Gv.call 17 #[] rfl (by go_simp) ((awake_any w (HGG.out w hS)).mono ?_)
        rintro e w' ⟨rfl, hb⟩
        exact ⟨_, rfl, rfl, hb⟩
      refine Obs.cons (fun u w hS hd => ?_) ?_
      · have d58 : u 58 = .bool true := dep hd 47 rfl
        rw [d58]
        have d59 : u 59 = .bool true := dep hd 48 rfl
        rw [d59]
        exact Gv.run (.bool true) rfl (by go_simp) rfl
      exact Obs.nil
    · intro u w hS hd
      have dl : u 60 = .bool true := hd 49 (by decide)
      rw [dl]
      simp only [List.drop_succ_cons, List.drop_zero]
      go_wp2_with fail
      go_ret
      exact ⟨rfl, hc.trans (hS.mono hs)⟩
theorem W4_three : W4 < 3 * P25 := by decide +kernel
theorem fsub_mod {a b : Nat} (hb : b < W4) : fsub a b = (a % P25 + (P25 - b % P25)) % P25 := by
  have hP := P25_pos
  have h1 := Nat.mod_add_div b P25
  have h2 := Nat.mod_lt b hP
  have h3 : b / P25 < 3 := Nat.div_lt_of_lt_mul (by have := W4_three; omega)
  unfold fsub
  generalize b % P25 = r at *
  generalize b / P25 = k at *
  have e : a + 3 * P25 - b = (a + (P25 - r)) + P25 * (2 - k) := by
    have : k = 0 ∨ k = 1 ∨ k = 2 := by omega
    rcases this with rfl | rfl | rfl <;> omega
  rw [e, Nat.add_mul_mod_self_left, Nat.mod_add_mod]
theorem sums_law {a b : Nat} (ha : a < W4) (hb : b < W4) (w : World) (hG : Glb w) :
    Calls Tryd.prog 3 #[nv a, nv b] w fun e w' => e = .returned (.bool true) ∧ Below w.heap.size w w' := by
  have hx := Nat.mod_lt a P25_pos
  have hy := Nat.mod_lt b P25_pos
  refine sums_gen (x := a % P25) (y := b % P25) (s := (a + b) % P25) (t := fsub a b) (m := fsub 0 a) (P := P25) (q := decide (a % P25 = a)) ha (red_W4 _) (red_W4 _) (red_W4 _) (red_W4 _) P25_W4 rfl
    (fun w => prime_any w) (fun w => rPrime_any w) (fun w => reduce_any ha w) (fun w => rnum_any (red_W4 _) w) (fun w => ?_) (fun w => fadd_any ha hb w) (fun w => ?_) (fun w => rnum_any (red_W4 _) w)
    (fun w => fsub_any ha hb w) (fun w => ?_) (fun w => rnum_any (red_W4 _) w) (fun w => fneg_any ha w) (fun w => ?_) (fun w => rnum_any (red_W4 _) w) (fun w => rof_any ha w) (fun w => rof_any hb w) w hG
  · have h := right_any ha w
    rw [show decide (a < P25) = decide (a % P25 = a) from decide_eq_decide.2 ⟨fun h => Nat.mod_eq_of_lt h, fun h => h ▸ hx⟩] at h
    exact h
  · have h := radd_any (red_W4 a) (red_W4 b) w
    rw [← Nat.add_mod] at h
    exact h
  · have h := rsub_any hx hy w
    rw [← fsub_mod hb] at h
    exact h
  · have h := rneg_any (Nat.le_of_lt hx) w
    rw [show (P25 - a % P25) % P25 = fsub 0 a by rw [fsub_mod ha, Nat.zero_mod, Nat.zero_add]] at h
    exact h
end Go.Proofs.YtecphnhdcphgbaaDoor
