/-
  Layer 8's CurveBoths over contracts. Written by tools/gen_e22.py. By an AI agent.
-/
import Derived.Test.YtckdifcelgooeaaDoorE19
import Derived.Test.YtckdifcelgooeaaDoorTC
namespace Go.Proofs.YtckdifcelgooeaaDoor
open Go Go.RowKit
section
attribute [local irreducible] wd by8 d16 set16w fl rl setA t3f set8p set4w
set_option maxRecDepth 20000
set_option maxHeartbeats 6400000 in
theorem boths_a {G : World → Prop} (hGn : ∀ w w', G w → Below w.heap.size w w' → G w') {i j x y m n : Nat}
    (k1 : ∀ w, G w → Calls Tryd.prog 31 #[nv i, prv x y, nv j, prv m n] w fun e w' => e = .returned (.tuple #[prv 0 0, .int .i64 7]) ∧ Below w.heap.size w w')
    (k2 : ∀ w, Calls Tryd.prog 13 #[prv x y] w fun e w' => e = .returned (.bool false) ∧ Below w.heap.size w w')
    (k9 : ∀ w, G w → Calls Tryd.prog 20 #[] w fun e w' => e = .returned (.bool true) ∧ Below w.heap.size w w')
    (w : World) (hG : G w) : Calls Tryd.prog 7 #[rv24 i j x y m n] w fun e w' => e = .returned (.bool true) ∧ Below w.heap.size w w' := by
  have K1 := Lib.hid k1
  have K2 := Lib.hid k2
  have K9 := Lib.hid k9
  have GN := Lib.hid hGn
  have HG := Lib.hid hG
  clear hGn hG k1 k2 k9
  obtain ⟨v1, ev1⟩ : ∃ v, v = w.alloc (A24 i j x y m n) := ⟨_, rfl⟩
  have bv1 : Below w.heap.size w v1 := by rw [ev1]; exact (Below.refl _ _).alloc (Nat.le_refl _) _
  have sv1 : v1.heap.size = w.heap.size + 1 := by rw [ev1]; simp
  obtain ⟨g1, eg1⟩ : ∃ g, g = w.heap.size := ⟨_, rfl⟩
  have o1 : O24 v1 w.heap.size g1 i j x y m n := by rw [eg1, ev1]; exact O24.new (Nat.le_refl _) i j x y m n
  have hc := bv1
  have hs1 := hc.size
  go_enter Tryd.func7, Tryd.ntmps7
  go_upto_region 1 with fail
  rw [← ev1]
  rw [show Value.pointer (some ⟨w.heap.size, 0, none⟩) = .pointer (some ⟨g1, 0, none⟩) by rw [eg1]]
  clear ev1 bv1 sv1 eg1 hs1
  replace HG := Lib.hid (GN.out _ _ HG.out hc)
  refine wp_region_obs 12 [6, 7, 8, 9, 10, 11, 12, 13, 14, 5, 15, 16] [.val (.pointer (some ⟨g1, 0, none⟩)), .val (nv i), .val (.pointer (some ⟨g1, 8, none⟩)), .val (prv x y), .val (.pointer (some ⟨g1, 4, none⟩)), .val (nv j), .val (.pointer (some ⟨g1, 16, none⟩)), .val (prv m n), .val (.tuple #[prv 0 0, .int .i64 7]), .val (.tuple #[prv 0 0, .int .i64 7]), .val (prv 0 0), .val (.int .i64 7)] (fun wz => Below v1.heap.size v1 wz) (by kernel_rfl) (fun wz wz' hz hb => hz.trans (hb.mono hz.size)) (Below.refl _ _) (fun u => by simp only [puts, List.foldl_cons, List.foldl_nil]; go_simp; exact rfl) ?_ ?_
  · simp only [List.take_succ_cons, List.take_zero]
    refine ObsS.cons (fun u w hS hd => ?_) ?_
    · exact Gv.run (.pointer (some ⟨g1, 0, none⟩)) rfl (run_rfield0 rfl rfl) rfl
    refine ObsS.cons (fun u w hS hd => ?_) ?_
    · have d6 : u 6 = .pointer (some ⟨g1, 0, none⟩) := hd 0 (by decide)
      rw [d6]
      exact Gv.run (nv i) rfl (run_r0load rfl rfl (O24.keep o1 hS)) rfl
    refine ObsS.cons (fun u w hS hd => ?_) ?_
    · exact Gv.run (.pointer (some ⟨g1, 8, none⟩)) rfl (run_rfield2 rfl rfl) rfl
    refine ObsS.cons (fun u w hS hd => ?_) ?_
    · have d8 : u 8 = .pointer (some ⟨g1, 8, none⟩) := hd 2 (by decide)
      rw [d8]
      exact Gv.run (prv x y) rfl (run_r2load rfl rfl (O24.keep o1 hS)) rfl
    refine ObsS.cons (fun u w hS hd => ?_) ?_
    · exact Gv.run (.pointer (some ⟨g1, 4, none⟩)) rfl (run_rfield1 rfl rfl) rfl
    refine ObsS.cons (fun u w hS hd => ?_) ?_
    · have d10 : u 10 = .pointer (some ⟨g1, 4, none⟩) := hd 4 (by decide)
      rw [d10]
      exact Gv.run (nv j) rfl (run_r1load rfl rfl (O24.keep o1 hS)) rfl
    refine ObsS.cons (fun u w hS hd => ?_) ?_
    · exact Gv.run (.pointer (some ⟨g1, 16, none⟩)) rfl (run_rfield3 rfl rfl) rfl
    refine ObsS.cons (fun u w hS hd => ?_) ?_
    · have d12 : u 12 = .pointer (some ⟨g1, 16, none⟩) := hd 6 (by decide)
      rw [d12]
      exact Gv.run (prv m n) rfl (run_r3load rfl rfl (O24.keep o1 hS)) rfl
    refine ObsS.cons (fun u w hS hd => ?_) ?_
    · have d7 : u 7 = nv i := hd 1 (by decide)
      rw [d7]
      have d9 : u 9 = prv x y := hd 3 (by decide)
      rw [d9]
      have d11 : u 11 = nv j := hd 5 (by decide)
      rw [d11]
      have d13 : u 13 = prv m n := hd 7 (by decide)
      rw [d13]
      refine Gv.call 31 #[nv i, prv x y, nv j, prv m n] rfl (by go_simp) ((K1.out w (GN.out _ _ HG.out hS)).mono ?_)
      rintro e w' ⟨rfl, hb⟩
      exact ⟨_, rfl, rfl, hb⟩
    refine ObsS.cons (fun u w hS hd => ?_) ?_
    · have d14 : u 14 = .tuple #[prv 0 0, .int .i64 7] := hd 8 (by decide)
      rw [d14]
      exact Gv.run (.tuple #[prv 0 0, .int .i64 7]) rfl (by go_simp) rfl
    refine ObsS.cons (fun u w hS hd => ?_) ?_
    · have d5 : u 5 = .tuple #[prv 0 0, .int .i64 7] := hd 9 (by decide)
      rw [d5]
      exact Gv.run (prv 0 0) rfl (by go_simp) rfl
    refine ObsS.cons (fun u w hS hd => ?_) ?_
    · have d5 : u 5 = .tuple #[prv 0 0, .int .i64 7] := hd 9 (by decide)
      rw [d5]
      exact Gv.run (.int .i64 7) rfl (by go_simp) rfl
    exact ObsS.nil
  intro uy2 y2 hS hd
  have d15 : uy2 15 = prv 0 0 := hd 10 (by decide)
  have d16 : uy2 16 = .int .i64 7 := hd 11 (by decide)
  rw [d15, d16]
  replace o1 := O24.keep o1 hS
  replace HG := Lib.hid (GN.out _ _ HG.out hS)
  replace hc := hc.trans (hS.mono hc.size)
  clear hS hd d15 d16
  simp only [List.drop_succ_cons, List.drop_zero]
  have on0 := O8.newz (w := y2) (Nat.le_refl _)
  have o3 := (on0.put 0 0).mono hc.size
  have hbz := ((Below.refl _ y2).alloc (Nat.le_refl _) Z8p).trans (on0.below 0 0)
  replace o1 := O24.keep o1 hbz
  replace HG := Lib.hid (GN.out _ _ HG.out hbz)
  replace hc := hc.trans (hbz.mono hc.size)
  clear hbz
  go_upto_region 2 with ((with_reducible refine p_store on0 0 0 ?_ ?_ ?_); rfl; rfl)
  obtain ⟨y3, ev⟩ : ∃ v, v = set8p (y2.alloc Z8p) y2.heap.size 0 0 := ⟨_, rfl⟩
  obtain ⟨g3, eg⟩ : ∃ g, g = y2.heap.size := ⟨_, rfl⟩
  rw [← ev] at o1 o3 hc ⊢
  have HG2 : G y3 := by rw [ev]; exact HG.out
  replace HG := Lib.hid HG2
  clear HG2
  rw [← eg] at o3 ⊢
  clear ev eg on0
  refine wp_region_obs 9 [17, 18, 19, 20, 21, 22, 23, 24, 25] [.val (.pointer (some ⟨g1, 8, none⟩)), .val (prv x y), .val (.bool false), .val (.bool true), .val (.bool true), .val (undef), .val (undef), .val (undef), .val (undef)] (fun wz => Below y3.heap.size y3 wz) (by kernel_rfl) (fun wz wz' hz hb => hz.trans (hb.mono hz.size)) (Below.refl _ _) (fun u => by simp only [puts, List.foldl_cons, List.foldl_nil]; go_simp; exact rfl) ?_ ?_
  · simp only [List.take_succ_cons, List.take_zero]
    refine ObsS.cons (fun u w hS hd => ?_) ?_
    · exact Gv.run (.pointer (some ⟨g1, 8, none⟩)) rfl (run_rfield2 rfl rfl) rfl
    refine ObsS.cons (fun u w hS hd => ?_) ?_
    · have d17 : u 17 = .pointer (some ⟨g1, 8, none⟩) := hd 0 (by decide)
      rw [d17]
      exact Gv.run (prv x y) rfl (run_r2load rfl rfl (O24.keep o1 hS)) rfl
    refine ObsS.cons (fun u w hS hd => ?_) ?_
    · have d18 : u 18 = prv x y := hd 1 (by decide)
      rw [d18]
      refine Gv.call 13 #[prv x y] rfl (by go_simp) ((K2.out w).mono ?_)
      rintro e w' ⟨rfl, hb⟩
      exact ⟨_, rfl, rfl, hb⟩
    refine ObsS.cons (fun u w hS hd => ?_) ?_
    · have d19 : u 19 = .bool false := hd 2 (by decide)
      rw [d19]
      exact Gv.run (.bool true) rfl (by go_simp) rfl
    refine ObsS.cons (fun u w hS hd => ?_) ?_
    · have d20 : u 20 = .bool true := hd 3 (by decide)
      rw [d20]
      exact Gv.run (.bool true) rfl (by go_simp) rfl
    refine ObsS.cons (fun u w hS hd => ?_) ?_
    · have d21 : u 21 = .bool true := hd 4 (by decide)
      rw [d21]
      exact Gv.skip (by rfl) rfl
    refine ObsS.cons (fun u w hS hd => ?_) ?_
    · have d21 : u 21 = .bool true := hd 4 (by decide)
      rw [d21]
      exact Gv.skip (by rfl) rfl
    refine ObsS.cons (fun u w hS hd => ?_) ?_
    · have d21 : u 21 = .bool true := hd 4 (by decide)
      rw [d21]
      exact Gv.skip (by rfl) rfl
    refine ObsS.cons (fun u w hS hd => ?_) ?_
    · have d21 : u 21 = .bool true := hd 4 (by decide)
      rw [d21]
      exact Gv.skip (by rfl) rfl
    exact ObsS.nil
  intro uy4 y4 hS hd
  have d21 : uy4 21 = .bool true := hd 4 (by decide)
  have d25 : uy4 25 = undef := hd 8 (by decide)
  rw [d21, d25]
  replace o1 := O24.keep o1 hS
  replace o3 := O8.keep o3 hS
  replace HG := Lib.hid (GN.out _ _ HG.out hS)
  replace hc := hc.trans (hS.mono hc.size)
  clear hS hd d21 d25
  simp only [List.drop_succ_cons, List.drop_zero]
  go_upto_region 3 with fail
  refine wp_region_obs 10 [27, 28, 29, 30, 31, 32, 33, 34, 35, 36] [.val (prv 0 0), .val (prv 0 0), .val (.bool true), .val (.bool true), .val (.int .i64 7), .val (.bool true), .val (.bool true), .val (.bool true), .val (.bool true), .val (.bool true)] (fun wz => Below y4.heap.size y4 wz) (by kernel_rfl) (fun wz wz' hz hb => hz.trans (hb.mono hz.size)) (Below.refl _ _) (fun u => by simp only [puts, List.foldl_cons, List.foldl_nil]; go_simp; exact rfl) ?_ ?_
  · simp only [List.take_succ_cons, List.take_zero]
    refine ObsS.cons (fun u w hS hd => ?_) ?_
    · exact Gv.run (prv 0 0) rfl (run_pload rfl rfl (O8.keep o3 hS)) rfl
    refine ObsS.cons (fun u w hS hd => ?_) ?_
    · exact Gv.run (prv 0 0) rfl (run_T0 rfl w) rfl
    refine ObsS.cons (fun u w hS hd => ?_) ?_
    · have d27 : u 27 = prv 0 0 := hd 0 (by decide)
      rw [d27]
      have d28 : u 28 = prv 0 0 := hd 1 (by decide)
      rw [d28]
      exact Gv.run (.bool true) rfl (run_eqT rfl rfl rfl W4_pos W4_pos W4_pos W4_pos (by decide) w) rfl
    refine ObsS.cons (fun u w hS hd => ?_) ?_
    · have d29 : u 29 = .bool true := hd 2 (by decide)
      rw [d29]
      exact Gv.run (.bool true) rfl (by go_simp) rfl
    refine ObsS.cons (fun u w hS hd => ?_) ?_
    · have d30 : u 30 = .bool true := hd 3 (by decide)
      rw [d30]
      exact Gv.run (.int .i64 7) rfl (by go_simp) rfl
    refine ObsS.cons (fun u w hS hd => ?_) ?_
    · have d30 : u 30 = .bool true := hd 3 (by decide)
      rw [d30]
      have d31 : u 31 = .int .i64 7 := hd 4 (by decide)
      rw [d31]
      exact Gv.run (.bool true) rfl (by go_simp) rfl
    refine ObsS.cons (fun u w hS hd => ?_) ?_
    · have d30 : u 30 = .bool true := hd 3 (by decide)
      rw [d30]
      have d32 : u 32 = .bool true := hd 5 (by decide)
      rw [d32]
      exact Gv.run (.bool true) rfl (by go_simp) rfl
    refine ObsS.cons (fun u w hS hd => ?_) ?_
    · have d33 : u 33 = .bool true := hd 6 (by decide)
      rw [d33]
      exact Gv.run (.bool true) rfl (by go_simp) rfl
    refine ObsS.cons (fun u w hS hd => ?_) ?_
    · have d34 : u 34 = .bool true := hd 7 (by decide)
      rw [d34]
      refine Gv.call 20 #[] rfl (by go_simp) ((K9.out w (GN.out _ _ HG.out hS)).mono ?_)
      rintro e w' ⟨rfl, hb⟩
      exact ⟨_, rfl, rfl, hb⟩
    refine ObsS.cons (fun u w hS hd => ?_) ?_
    · have d34 : u 34 = .bool true := hd 7 (by decide)
      rw [d34]
      have d35 : u 35 = .bool true := hd 8 (by decide)
      rw [d35]
      exact Gv.run (.bool true) rfl (by go_simp) rfl
    exact ObsS.nil
  intro uy5 y5 hS hd
  have d36 : uy5 36 = .bool true := hd 9 (by decide)
  rw [d36]
  replace o1 := O24.keep o1 hS
  replace o3 := O8.keep o3 hS
  replace HG := Lib.hid (GN.out _ _ HG.out hS)
  replace hc := hc.trans (hS.mono hc.size)
  clear hS hd d36
  simp only [List.drop_succ_cons, List.drop_zero]
  go_wp2_with fail
  go_ret
  exact ⟨rfl, hc⟩
set_option maxHeartbeats 6400000 in
theorem boths_b {G : World → Prop} (hGn : ∀ w w', G w → Below w.heap.size w w' → G w') {i j x y m n : Nat}
    (k1 : ∀ w, G w → Calls Tryd.prog 31 #[nv i, prv x y, nv j, prv m n] w fun e w' => e = .returned (.tuple #[prv 0 0, .int .i64 7]) ∧ Below w.heap.size w w')
    (k2 : ∀ w, Calls Tryd.prog 13 #[prv x y] w fun e w' => e = .returned (.bool true) ∧ Below w.heap.size w w')
    (k3 : ∀ w, Calls Tryd.prog 13 #[prv m n] w fun e w' => e = .returned (.bool false) ∧ Below w.heap.size w w')
    (k9 : ∀ w, G w → Calls Tryd.prog 20 #[] w fun e w' => e = .returned (.bool true) ∧ Below w.heap.size w w')
    (w : World) (hG : G w) : Calls Tryd.prog 7 #[rv24 i j x y m n] w fun e w' => e = .returned (.bool true) ∧ Below w.heap.size w w' := by
  have K1 := Lib.hid k1
  have K2 := Lib.hid k2
  have K3 := Lib.hid k3
  have K9 := Lib.hid k9
  have GN := Lib.hid hGn
  have HG := Lib.hid hG
  clear hGn hG k1 k2 k3 k9
  obtain ⟨v1, ev1⟩ : ∃ v, v = w.alloc (A24 i j x y m n) := ⟨_, rfl⟩
  have bv1 : Below w.heap.size w v1 := by rw [ev1]; exact (Below.refl _ _).alloc (Nat.le_refl _) _
  have sv1 : v1.heap.size = w.heap.size + 1 := by rw [ev1]; simp
  obtain ⟨g1, eg1⟩ : ∃ g, g = w.heap.size := ⟨_, rfl⟩
  have o1 : O24 v1 w.heap.size g1 i j x y m n := by rw [eg1, ev1]; exact O24.new (Nat.le_refl _) i j x y m n
  have hc := bv1
  have hs1 := hc.size
  go_enter Tryd.func7, Tryd.ntmps7
  go_upto_region 1 with fail
  rw [← ev1]
  rw [show Value.pointer (some ⟨w.heap.size, 0, none⟩) = .pointer (some ⟨g1, 0, none⟩) by rw [eg1]]
  clear ev1 bv1 sv1 eg1 hs1
  replace HG := Lib.hid (GN.out _ _ HG.out hc)
  refine wp_region_obs 12 [6, 7, 8, 9, 10, 11, 12, 13, 14, 5, 15, 16] [.val (.pointer (some ⟨g1, 0, none⟩)), .val (nv i), .val (.pointer (some ⟨g1, 8, none⟩)), .val (prv x y), .val (.pointer (some ⟨g1, 4, none⟩)), .val (nv j), .val (.pointer (some ⟨g1, 16, none⟩)), .val (prv m n), .val (.tuple #[prv 0 0, .int .i64 7]), .val (.tuple #[prv 0 0, .int .i64 7]), .val (prv 0 0), .val (.int .i64 7)] (fun wz => Below v1.heap.size v1 wz) (by kernel_rfl) (fun wz wz' hz hb => hz.trans (hb.mono hz.size)) (Below.refl _ _) (fun u => by simp only [puts, List.foldl_cons, List.foldl_nil]; go_simp; exact rfl) ?_ ?_
  · simp only [List.take_succ_cons, List.take_zero]
    refine ObsS.cons (fun u w hS hd => ?_) ?_
    · exact Gv.run (.pointer (some ⟨g1, 0, none⟩)) rfl (run_rfield0 rfl rfl) rfl
    refine ObsS.cons (fun u w hS hd => ?_) ?_
    · have d6 : u 6 = .pointer (some ⟨g1, 0, none⟩) := hd 0 (by decide)
      rw [d6]
      exact Gv.run (nv i) rfl (run_r0load rfl rfl (O24.keep o1 hS)) rfl
    refine ObsS.cons (fun u w hS hd => ?_) ?_
    · exact Gv.run (.pointer (some ⟨g1, 8, none⟩)) rfl (run_rfield2 rfl rfl) rfl
    refine ObsS.cons (fun u w hS hd => ?_) ?_
    · have d8 : u 8 = .pointer (some ⟨g1, 8, none⟩) := hd 2 (by decide)
      rw [d8]
      exact Gv.run (prv x y) rfl (run_r2load rfl rfl (O24.keep o1 hS)) rfl
    refine ObsS.cons (fun u w hS hd => ?_) ?_
    · exact Gv.run (.pointer (some ⟨g1, 4, none⟩)) rfl (run_rfield1 rfl rfl) rfl
    refine ObsS.cons (fun u w hS hd => ?_) ?_
    · have d10 : u 10 = .pointer (some ⟨g1, 4, none⟩) := hd 4 (by decide)
      rw [d10]
      exact Gv.run (nv j) rfl (run_r1load rfl rfl (O24.keep o1 hS)) rfl
    refine ObsS.cons (fun u w hS hd => ?_) ?_
    · exact Gv.run (.pointer (some ⟨g1, 16, none⟩)) rfl (run_rfield3 rfl rfl) rfl
    refine ObsS.cons (fun u w hS hd => ?_) ?_
    · have d12 : u 12 = .pointer (some ⟨g1, 16, none⟩) := hd 6 (by decide)
      rw [d12]
      exact Gv.run (prv m n) rfl (run_r3load rfl rfl (O24.keep o1 hS)) rfl
    refine ObsS.cons (fun u w hS hd => ?_) ?_
    · have d7 : u 7 = nv i := hd 1 (by decide)
      rw [d7]
      have d9 : u 9 = prv x y := hd 3 (by decide)
      rw [d9]
      have d11 : u 11 = nv j := hd 5 (by decide)
      rw [d11]
      have d13 : u 13 = prv m n := hd 7 (by decide)
      rw [d13]
      refine Gv.call 31 #[nv i, prv x y, nv j, prv m n] rfl (by go_simp) ((K1.out w (GN.out _ _ HG.out hS)).mono ?_)
      rintro e w' ⟨rfl, hb⟩
      exact ⟨_, rfl, rfl, hb⟩
    refine ObsS.cons (fun u w hS hd => ?_) ?_
    · have d14 : u 14 = .tuple #[prv 0 0, .int .i64 7] := hd 8 (by decide)
      rw [d14]
      exact Gv.run (.tuple #[prv 0 0, .int .i64 7]) rfl (by go_simp) rfl
    refine ObsS.cons (fun u w hS hd => ?_) ?_
    · have d5 : u 5 = .tuple #[prv 0 0, .int .i64 7] := hd 9 (by decide)
      rw [d5]
      exact Gv.run (prv 0 0) rfl (by go_simp) rfl
    refine ObsS.cons (fun u w hS hd => ?_) ?_
    · have d5 : u 5 = .tuple #[prv 0 0, .int .i64 7] := hd 9 (by decide)
      rw [d5]
      exact Gv.run (.int .i64 7) rfl (by go_simp) rfl
    exact ObsS.nil
  intro uy2 y2 hS hd
  have d15 : uy2 15 = prv 0 0 := hd 10 (by decide)
  have d16 : uy2 16 = .int .i64 7 := hd 11 (by decide)
  rw [d15, d16]
  replace o1 := O24.keep o1 hS
  replace HG := Lib.hid (GN.out _ _ HG.out hS)
  replace hc := hc.trans (hS.mono hc.size)
  clear hS hd d15 d16
  simp only [List.drop_succ_cons, List.drop_zero]
  have on0 := O8.newz (w := y2) (Nat.le_refl _)
  have o3 := (on0.put 0 0).mono hc.size
  have hbz := ((Below.refl _ y2).alloc (Nat.le_refl _) Z8p).trans (on0.below 0 0)
  replace o1 := O24.keep o1 hbz
  replace HG := Lib.hid (GN.out _ _ HG.out hbz)
  replace hc := hc.trans (hbz.mono hc.size)
  clear hbz
  go_upto_region 2 with ((with_reducible refine p_store on0 0 0 ?_ ?_ ?_); rfl; rfl)
  obtain ⟨y3, ev⟩ : ∃ v, v = set8p (y2.alloc Z8p) y2.heap.size 0 0 := ⟨_, rfl⟩
  obtain ⟨g3, eg⟩ : ∃ g, g = y2.heap.size := ⟨_, rfl⟩
  rw [← ev] at o1 o3 hc ⊢
  have HG2 : G y3 := by rw [ev]; exact HG.out
  replace HG := Lib.hid HG2
  clear HG2
  rw [← eg] at o3 ⊢
  clear ev eg on0
  refine wp_region_obs 9 [17, 18, 19, 20, 21, 22, 23, 24, 25] [.val (.pointer (some ⟨g1, 8, none⟩)), .val (prv x y), .val (.bool true), .val (.bool false), .val (.bool false), .val (.pointer (some ⟨g1, 16, none⟩)), .val (prv m n), .val (.bool false), .val (.bool true)] (fun wz => Below y3.heap.size y3 wz) (by kernel_rfl) (fun wz wz' hz hb => hz.trans (hb.mono hz.size)) (Below.refl _ _) (fun u => by simp only [puts, List.foldl_cons, List.foldl_nil]; go_simp; exact rfl) ?_ ?_
  · simp only [List.take_succ_cons, List.take_zero]
    refine ObsS.cons (fun u w hS hd => ?_) ?_
    · exact Gv.run (.pointer (some ⟨g1, 8, none⟩)) rfl (run_rfield2 rfl rfl) rfl
    refine ObsS.cons (fun u w hS hd => ?_) ?_
    · have d17 : u 17 = .pointer (some ⟨g1, 8, none⟩) := hd 0 (by decide)
      rw [d17]
      exact Gv.run (prv x y) rfl (run_r2load rfl rfl (O24.keep o1 hS)) rfl
    refine ObsS.cons (fun u w hS hd => ?_) ?_
    · have d18 : u 18 = prv x y := hd 1 (by decide)
      rw [d18]
      refine Gv.call 13 #[prv x y] rfl (by go_simp) ((K2.out w).mono ?_)
      rintro e w' ⟨rfl, hb⟩
      exact ⟨_, rfl, rfl, hb⟩
    refine ObsS.cons (fun u w hS hd => ?_) ?_
    · have d19 : u 19 = .bool true := hd 2 (by decide)
      rw [d19]
      exact Gv.run (.bool false) rfl (by go_simp) rfl
    refine ObsS.cons (fun u w hS hd => ?_) ?_
    · have d20 : u 20 = .bool false := hd 3 (by decide)
      rw [d20]
      exact Gv.run (.bool false) rfl (by go_simp) rfl
    refine ObsS.cons (fun u w hS hd => ?_) ?_
    · have d21 : u 21 = .bool false := hd 4 (by decide)
      rw [d21]
      exact Gv.run (.pointer (some ⟨g1, 16, none⟩)) (by rfl) (run_rfield3 rfl rfl) rfl
    refine ObsS.cons (fun u w hS hd => ?_) ?_
    · have d21 : u 21 = .bool false := hd 4 (by decide)
      rw [d21]
      have d22 : u 22 = .pointer (some ⟨g1, 16, none⟩) := hd 5 (by decide)
      rw [d22]
      exact Gv.run (prv m n) (by rfl) (run_r3load rfl rfl (O24.keep o1 hS)) rfl
    refine ObsS.cons (fun u w hS hd => ?_) ?_
    · have d21 : u 21 = .bool false := hd 4 (by decide)
      rw [d21]
      have d23 : u 23 = prv m n := hd 6 (by decide)
      rw [d23]
      refine Gv.call 13 #[prv m n] rfl (by go_simp) ((K3.out w).mono ?_)
      rintro e w' ⟨rfl, hb⟩
      exact ⟨_, rfl, rfl, hb⟩
    refine ObsS.cons (fun u w hS hd => ?_) ?_
    · have d21 : u 21 = .bool false := hd 4 (by decide)
      rw [d21]
      have d24 : u 24 = .bool false := hd 7 (by decide)
      rw [d24]
      exact Gv.run (.bool true) rfl (by go_simp) rfl
    exact ObsS.nil
  intro uy4 y4 hS hd
  have d21 : uy4 21 = .bool false := hd 4 (by decide)
  have d25 : uy4 25 = .bool true := hd 8 (by decide)
  rw [d21, d25]
  replace o1 := O24.keep o1 hS
  replace o3 := O8.keep o3 hS
  replace HG := Lib.hid (GN.out _ _ HG.out hS)
  replace hc := hc.trans (hS.mono hc.size)
  clear hS hd d21 d25
  simp only [List.drop_succ_cons, List.drop_zero]
  go_upto_region 3 with fail
  refine wp_region_obs 10 [27, 28, 29, 30, 31, 32, 33, 34, 35, 36] [.val (prv 0 0), .val (prv 0 0), .val (.bool true), .val (.bool true), .val (.int .i64 7), .val (.bool true), .val (.bool true), .val (.bool true), .val (.bool true), .val (.bool true)] (fun wz => Below y4.heap.size y4 wz) (by kernel_rfl) (fun wz wz' hz hb => hz.trans (hb.mono hz.size)) (Below.refl _ _) (fun u => by simp only [puts, List.foldl_cons, List.foldl_nil]; go_simp; exact rfl) ?_ ?_
  · simp only [List.take_succ_cons, List.take_zero]
    refine ObsS.cons (fun u w hS hd => ?_) ?_
    · exact Gv.run (prv 0 0) rfl (run_pload rfl rfl (O8.keep o3 hS)) rfl
    refine ObsS.cons (fun u w hS hd => ?_) ?_
    · exact Gv.run (prv 0 0) rfl (run_T0 rfl w) rfl
    refine ObsS.cons (fun u w hS hd => ?_) ?_
    · have d27 : u 27 = prv 0 0 := hd 0 (by decide)
      rw [d27]
      have d28 : u 28 = prv 0 0 := hd 1 (by decide)
      rw [d28]
      exact Gv.run (.bool true) rfl (run_eqT rfl rfl rfl W4_pos W4_pos W4_pos W4_pos (by decide) w) rfl
    refine ObsS.cons (fun u w hS hd => ?_) ?_
    · have d29 : u 29 = .bool true := hd 2 (by decide)
      rw [d29]
      exact Gv.run (.bool true) rfl (by go_simp) rfl
    refine ObsS.cons (fun u w hS hd => ?_) ?_
    · have d30 : u 30 = .bool true := hd 3 (by decide)
      rw [d30]
      exact Gv.run (.int .i64 7) rfl (by go_simp) rfl
    refine ObsS.cons (fun u w hS hd => ?_) ?_
    · have d30 : u 30 = .bool true := hd 3 (by decide)
      rw [d30]
      have d31 : u 31 = .int .i64 7 := hd 4 (by decide)
      rw [d31]
      exact Gv.run (.bool true) rfl (by go_simp) rfl
    refine ObsS.cons (fun u w hS hd => ?_) ?_
    · have d30 : u 30 = .bool true := hd 3 (by decide)
      rw [d30]
      have d32 : u 32 = .bool true := hd 5 (by decide)
      rw [d32]
      exact Gv.run (.bool true) rfl (by go_simp) rfl
    refine ObsS.cons (fun u w hS hd => ?_) ?_
    · have d33 : u 33 = .bool true := hd 6 (by decide)
      rw [d33]
      exact Gv.run (.bool true) rfl (by go_simp) rfl
    refine ObsS.cons (fun u w hS hd => ?_) ?_
    · have d34 : u 34 = .bool true := hd 7 (by decide)
      rw [d34]
      refine Gv.call 20 #[] rfl (by go_simp) ((K9.out w (GN.out _ _ HG.out hS)).mono ?_)
      rintro e w' ⟨rfl, hb⟩
      exact ⟨_, rfl, rfl, hb⟩
    refine ObsS.cons (fun u w hS hd => ?_) ?_
    · have d34 : u 34 = .bool true := hd 7 (by decide)
      rw [d34]
      have d35 : u 35 = .bool true := hd 8 (by decide)
      rw [d35]
      exact Gv.run (.bool true) rfl (by go_simp) rfl
    exact ObsS.nil
  intro uy5 y5 hS hd
  have d36 : uy5 36 = .bool true := hd 9 (by decide)
  rw [d36]
  replace o1 := O24.keep o1 hS
  replace o3 := O8.keep o3 hS
  replace HG := Lib.hid (GN.out _ _ HG.out hS)
  replace hc := hc.trans (hS.mono hc.size)
  clear hS hd d36
  simp only [List.drop_succ_cons, List.drop_zero]
  go_wp2_with fail
  go_ret
  exact ⟨rfl, hc⟩
set_option maxHeartbeats 6400000 in
theorem boths_c {G : World → Prop} (hGn : ∀ w w', G w → Below w.heap.size w w' → G w') {i j x y m n a b : Nat} {t1 t2 : Tr} {q1 q2 q3 : Pt E25} (hA : a < W4) (hB : b < W4)
    (kt1 : ∀ (A : Option Addr) (c k : Nat) (w : World), Dig w w.heap.size A c k i → Can k i → Calls Tryd.prog 29 #[.slice A k c, t3v t1] w fun e w' => ∃ r : Tr, e = .returned (t3v r) ∧ r.ok ∧ r.of q1 ∧ Below w.heap.size w w')
    (kt2 : ∀ (A : Option Addr) (c k : Nat) (w : World), Dig w w.heap.size A c k j → Can k j → Calls Tryd.prog 29 #[.slice A k c, t3v t2] w fun e w' => ∃ r : Tr, e = .returned (t3v r) ∧ r.ok ∧ r.of q2 ∧ Below w.heap.size w w')
    (kp3 : ∀ r : Tr, r.ok → r.of q3 → ∀ w, Calls Tryd.prog 19 #[t3v r] w fun e w' => e = .returned (prv a b) ∧ Below w.heap.size w w')
    (ks3 : ∀ r s : Tr, r.ok → s.ok → r.of q1 → s.of q2 → ∀ w, Calls Tryd.prog 27 #[t3v r, t3v s] w fun e w' => ∃ r : Tr, e = .returned (t3v r) ∧ r.ok ∧ r.of q3 ∧ Below w.heap.size w w')
    (kd1 : ∀ w, Calls Tryd.prog 30 #[nv i] w fun e w' => ∃ A c n, e = .returned (.slice A n c) ∧ DOwn w' w.heap.size A c n i ∧ Below w.heap.size w w')
    (kd2 : ∀ w, Calls Tryd.prog 30 #[nv j] w fun e w' => ∃ A c n, e = .returned (.slice A n c) ∧ DOwn w' w.heap.size A c n j ∧ Below w.heap.size w w')
    (k1 : ∀ w, G w → Calls Tryd.prog 31 #[nv i, prv x y, nv j, prv m n] w fun e w' => e = .returned (.tuple #[prv a b, .int .i64 0]) ∧ Below w.heap.size w w')
    (k2 : ∀ w, Calls Tryd.prog 13 #[prv x y] w fun e w' => e = .returned (.bool true) ∧ Below w.heap.size w w')
    (k3 : ∀ w, Calls Tryd.prog 13 #[prv m n] w fun e w' => e = .returned (.bool true) ∧ Below w.heap.size w w')
    (k10 : ∀ w, Calls Tryd.prog 23 #[prv x y] w fun e w' => e = .returned (t3v t1) ∧ Below w.heap.size w w')
    (k11 : ∀ w, Calls Tryd.prog 23 #[prv m n] w fun e w' => e = .returned (t3v t2) ∧ Below w.heap.size w w')
    (k9 : ∀ w, G w → Calls Tryd.prog 20 #[] w fun e w' => e = .returned (.bool true) ∧ Below w.heap.size w w')
    (w : World) (hG : G w) : Calls Tryd.prog 7 #[rv24 i j x y m n] w fun e w' => e = .returned (.bool true) ∧ Below w.heap.size w w' := by
  have K1 := Lib.hid k1
  have K2 := Lib.hid k2
  have K3 := Lib.hid k3
  have K10 := Lib.hid k10
  have K11 := Lib.hid k11
  have K9 := Lib.hid k9
  have GN := Lib.hid hGn
  have HG := Lib.hid hG
  clear hGn hG k1 k2 k3 k10 k11 k9
  have KT1 := Lib.hid kt1
  have KD1 := Lib.hid kd1
  clear kt1 kd1
  have KT2 := Lib.hid kt2
  have KD2 := Lib.hid kd2
  clear kt2 kd2
  have KP3 := Lib.hid kp3
  have KS3 := Lib.hid ks3
  clear kp3 ks3
  obtain ⟨v1, ev1⟩ : ∃ v, v = w.alloc (A24 i j x y m n) := ⟨_, rfl⟩
  have bv1 : Below w.heap.size w v1 := by rw [ev1]; exact (Below.refl _ _).alloc (Nat.le_refl _) _
  have sv1 : v1.heap.size = w.heap.size + 1 := by rw [ev1]; simp
  obtain ⟨g1, eg1⟩ : ∃ g, g = w.heap.size := ⟨_, rfl⟩
  have o1 : O24 v1 w.heap.size g1 i j x y m n := by rw [eg1, ev1]; exact O24.new (Nat.le_refl _) i j x y m n
  have hc := bv1
  have hs1 := hc.size
  go_enter Tryd.func7, Tryd.ntmps7
  go_upto_region 1 with fail
  rw [← ev1]
  rw [show Value.pointer (some ⟨w.heap.size, 0, none⟩) = .pointer (some ⟨g1, 0, none⟩) by rw [eg1]]
  clear ev1 bv1 sv1 eg1 hs1
  replace HG := Lib.hid (GN.out _ _ HG.out hc)
  refine wp_region_obs 12 [6, 7, 8, 9, 10, 11, 12, 13, 14, 5, 15, 16] [.val (.pointer (some ⟨g1, 0, none⟩)), .val (nv i), .val (.pointer (some ⟨g1, 8, none⟩)), .val (prv x y), .val (.pointer (some ⟨g1, 4, none⟩)), .val (nv j), .val (.pointer (some ⟨g1, 16, none⟩)), .val (prv m n), .val (.tuple #[prv a b, .int .i64 0]), .val (.tuple #[prv a b, .int .i64 0]), .val (prv a b), .val (.int .i64 0)] (fun wz => Below v1.heap.size v1 wz) (by kernel_rfl) (fun wz wz' hz hb => hz.trans (hb.mono hz.size)) (Below.refl _ _) (fun u => by simp only [puts, List.foldl_cons, List.foldl_nil]; go_simp; exact rfl) ?_ ?_
  · simp only [List.take_succ_cons, List.take_zero]
    refine ObsS.cons (fun u w hS hd => ?_) ?_
    · exact Gv.run (.pointer (some ⟨g1, 0, none⟩)) rfl (run_rfield0 rfl rfl) rfl
    refine ObsS.cons (fun u w hS hd => ?_) ?_
    · have d6 : u 6 = .pointer (some ⟨g1, 0, none⟩) := hd 0 (by decide)
      rw [d6]
      exact Gv.run (nv i) rfl (run_r0load rfl rfl (O24.keep o1 hS)) rfl
    refine ObsS.cons (fun u w hS hd => ?_) ?_
    · exact Gv.run (.pointer (some ⟨g1, 8, none⟩)) rfl (run_rfield2 rfl rfl) rfl
    refine ObsS.cons (fun u w hS hd => ?_) ?_
    · have d8 : u 8 = .pointer (some ⟨g1, 8, none⟩) := hd 2 (by decide)
      rw [d8]
      exact Gv.run (prv x y) rfl (run_r2load rfl rfl (O24.keep o1 hS)) rfl
    refine ObsS.cons (fun u w hS hd => ?_) ?_
    · exact Gv.run (.pointer (some ⟨g1, 4, none⟩)) rfl (run_rfield1 rfl rfl) rfl
    refine ObsS.cons (fun u w hS hd => ?_) ?_
    · have d10 : u 10 = .pointer (some ⟨g1, 4, none⟩) := hd 4 (by decide)
      rw [d10]
      exact Gv.run (nv j) rfl (run_r1load rfl rfl (O24.keep o1 hS)) rfl
    refine ObsS.cons (fun u w hS hd => ?_) ?_
    · exact Gv.run (.pointer (some ⟨g1, 16, none⟩)) rfl (run_rfield3 rfl rfl) rfl
    refine ObsS.cons (fun u w hS hd => ?_) ?_
    · have d12 : u 12 = .pointer (some ⟨g1, 16, none⟩) := hd 6 (by decide)
      rw [d12]
      exact Gv.run (prv m n) rfl (run_r3load rfl rfl (O24.keep o1 hS)) rfl
    refine ObsS.cons (fun u w hS hd => ?_) ?_
    · have d7 : u 7 = nv i := hd 1 (by decide)
      rw [d7]
      have d9 : u 9 = prv x y := hd 3 (by decide)
      rw [d9]
      have d11 : u 11 = nv j := hd 5 (by decide)
      rw [d11]
      have d13 : u 13 = prv m n := hd 7 (by decide)
      rw [d13]
      refine Gv.call 31 #[nv i, prv x y, nv j, prv m n] rfl (by go_simp) ((K1.out w (GN.out _ _ HG.out hS)).mono ?_)
      rintro e w' ⟨rfl, hb⟩
      exact ⟨_, rfl, rfl, hb⟩
    refine ObsS.cons (fun u w hS hd => ?_) ?_
    · have d14 : u 14 = .tuple #[prv a b, .int .i64 0] := hd 8 (by decide)
      rw [d14]
      exact Gv.run (.tuple #[prv a b, .int .i64 0]) rfl (by go_simp) rfl
    refine ObsS.cons (fun u w hS hd => ?_) ?_
    · have d5 : u 5 = .tuple #[prv a b, .int .i64 0] := hd 9 (by decide)
      rw [d5]
      exact Gv.run (prv a b) rfl (by go_simp) rfl
    refine ObsS.cons (fun u w hS hd => ?_) ?_
    · have d5 : u 5 = .tuple #[prv a b, .int .i64 0] := hd 9 (by decide)
      rw [d5]
      exact Gv.run (.int .i64 0) rfl (by go_simp) rfl
    exact ObsS.nil
  intro uy2 y2 hS hd
  have d15 : uy2 15 = prv a b := hd 10 (by decide)
  have d16 : uy2 16 = .int .i64 0 := hd 11 (by decide)
  rw [d15, d16]
  replace o1 := O24.keep o1 hS
  replace HG := Lib.hid (GN.out _ _ HG.out hS)
  replace hc := hc.trans (hS.mono hc.size)
  clear hS hd d15 d16
  simp only [List.drop_succ_cons, List.drop_zero]
  have on0 := O8.newz (w := y2) (Nat.le_refl _)
  have o3 := (on0.put a b).mono hc.size
  have hbz := ((Below.refl _ y2).alloc (Nat.le_refl _) Z8p).trans (on0.below a b)
  replace o1 := O24.keep o1 hbz
  replace HG := Lib.hid (GN.out _ _ HG.out hbz)
  replace hc := hc.trans (hbz.mono hc.size)
  clear hbz
  go_upto_region 2 with ((with_reducible refine p_store on0 a b ?_ ?_ ?_); rfl; rfl)
  obtain ⟨y3, ev⟩ : ∃ v, v = set8p (y2.alloc Z8p) y2.heap.size a b := ⟨_, rfl⟩
  obtain ⟨g3, eg⟩ : ∃ g, g = y2.heap.size := ⟨_, rfl⟩
  rw [← ev] at o1 o3 hc ⊢
  have HG2 : G y3 := by rw [ev]; exact HG.out
  replace HG := Lib.hid HG2
  clear HG2
  rw [← eg] at o3 ⊢
  clear ev eg on0
  refine wp_region_obs 9 [17, 18, 19, 20, 21, 22, 23, 24, 25] [.val (.pointer (some ⟨g1, 8, none⟩)), .val (prv x y), .val (.bool true), .val (.bool false), .val (.bool false), .val (.pointer (some ⟨g1, 16, none⟩)), .val (prv m n), .val (.bool true), .val (.bool false)] (fun wz => Below y3.heap.size y3 wz) (by kernel_rfl) (fun wz wz' hz hb => hz.trans (hb.mono hz.size)) (Below.refl _ _) (fun u => by simp only [puts, List.foldl_cons, List.foldl_nil]; go_simp; exact rfl) ?_ ?_
  · simp only [List.take_succ_cons, List.take_zero]
    refine ObsS.cons (fun u w hS hd => ?_) ?_
    · exact Gv.run (.pointer (some ⟨g1, 8, none⟩)) rfl (run_rfield2 rfl rfl) rfl
    refine ObsS.cons (fun u w hS hd => ?_) ?_
    · have d17 : u 17 = .pointer (some ⟨g1, 8, none⟩) := hd 0 (by decide)
      rw [d17]
      exact Gv.run (prv x y) rfl (run_r2load rfl rfl (O24.keep o1 hS)) rfl
    refine ObsS.cons (fun u w hS hd => ?_) ?_
    · have d18 : u 18 = prv x y := hd 1 (by decide)
      rw [d18]
      refine Gv.call 13 #[prv x y] rfl (by go_simp) ((K2.out w).mono ?_)
      rintro e w' ⟨rfl, hb⟩
      exact ⟨_, rfl, rfl, hb⟩
    refine ObsS.cons (fun u w hS hd => ?_) ?_
    · have d19 : u 19 = .bool true := hd 2 (by decide)
      rw [d19]
      exact Gv.run (.bool false) rfl (by go_simp) rfl
    refine ObsS.cons (fun u w hS hd => ?_) ?_
    · have d20 : u 20 = .bool false := hd 3 (by decide)
      rw [d20]
      exact Gv.run (.bool false) rfl (by go_simp) rfl
    refine ObsS.cons (fun u w hS hd => ?_) ?_
    · have d21 : u 21 = .bool false := hd 4 (by decide)
      rw [d21]
      exact Gv.run (.pointer (some ⟨g1, 16, none⟩)) (by rfl) (run_rfield3 rfl rfl) rfl
    refine ObsS.cons (fun u w hS hd => ?_) ?_
    · have d21 : u 21 = .bool false := hd 4 (by decide)
      rw [d21]
      have d22 : u 22 = .pointer (some ⟨g1, 16, none⟩) := hd 5 (by decide)
      rw [d22]
      exact Gv.run (prv m n) (by rfl) (run_r3load rfl rfl (O24.keep o1 hS)) rfl
    refine ObsS.cons (fun u w hS hd => ?_) ?_
    · have d21 : u 21 = .bool false := hd 4 (by decide)
      rw [d21]
      have d23 : u 23 = prv m n := hd 6 (by decide)
      rw [d23]
      refine Gv.call 13 #[prv m n] rfl (by go_simp) ((K3.out w).mono ?_)
      rintro e w' ⟨rfl, hb⟩
      exact ⟨_, rfl, rfl, hb⟩
    refine ObsS.cons (fun u w hS hd => ?_) ?_
    · have d21 : u 21 = .bool false := hd 4 (by decide)
      rw [d21]
      have d24 : u 24 = .bool true := hd 7 (by decide)
      rw [d24]
      exact Gv.run (.bool false) rfl (by go_simp) rfl
    exact ObsS.nil
  intro uy4 y4 hS hd
  have d21 : uy4 21 = .bool false := hd 4 (by decide)
  have d25 : uy4 25 = .bool false := hd 8 (by decide)
  rw [d21, d25]
  replace o1 := O24.keep o1 hS
  replace o3 := O8.keep o3 hS
  replace HG := Lib.hid (GN.out _ _ HG.out hS)
  replace hc := hc.trans (hS.mono hc.size)
  clear hS hd d21 d25
  simp only [List.drop_succ_cons, List.drop_zero]
  go_upto_region 4 with fail
  refine wp_region_inv 25 [37, 38, 39, 40, 41, 42, 43, 44, 45, 46, 47, 48, 49, 50, 51, 52, 53, 54, 55, 56, 57, 58, 59, 60, 61] [.val (prv a b), .val (.pointer (some ⟨g1, 0, none⟩)), .val (nv i), .dig i, .val (.pointer (some ⟨g1, 8, none⟩)), .val (prv x y), .val (t3v t1), .sat (trE q1) (trE_keep q1), .val (.pointer (some ⟨g1, 4, none⟩)), .val (nv j), .dig j, .val (.pointer (some ⟨g1, 16, none⟩)), .val (prv m n), .val (t3v t2), .sat (trE q2) (trE_keep q2), .sat (trE q3) (trE_keep q3), .val (prv a b), .val (.bool true), .val (.bool true), .val (.int .i64 0), .val (.bool true), .val (.bool true), .val (.bool true), .val (.bool true), .val (.bool true)] (fun wz => Below y4.heap.size y4 wz) (by kernel_rfl) (by kernel_rfl) (fun wz wz' hz hb => hz.trans (hb.mono hz.size)) ((Below.refl _ _).drew) (fun u => by simp only [puts, List.foldl_cons, List.foldl_nil]; go_simp; exact rfl) ?_ ?_
  · simp only [List.take_succ_cons, List.take_zero]
    refine Obs.cons (fun u w hS hd => ?_) ?_
    · exact Gv.run (prv a b) rfl (run_pload rfl rfl (O8.keep o3 hS)) rfl
    refine Obs.cons (fun u w hS hd => ?_) ?_
    · exact Gv.run (.pointer (some ⟨g1, 0, none⟩)) rfl (run_rfield0 rfl rfl) rfl
    refine Obs.cons (fun u w hS hd => ?_) ?_
    · have d38 : u 38 = .pointer (some ⟨g1, 0, none⟩) := dep hd 1 rfl
      rw [d38]
      exact Gv.run (nv i) rfl (run_r0load rfl rfl (O24.keep o1 hS)) rfl
    refine Obs.cons (fun u w hS hd => ?_) ?_
    · have d39 : u 39 = nv i := dep hd 2 rfl
      rw [d39]
      refine Gv.call 30 #[nv i] rfl (by go_simp) ((KD1.out w).mono ?_)
      rintro e w' ⟨A, c, n, rfl, D, hb⟩
      exact ⟨_, rfl, ⟨A, c, n, rfl, D.dig, D.can⟩, hb⟩
    refine Obs.cons (fun u w hS hd => ?_) ?_
    · exact Gv.run (.pointer (some ⟨g1, 8, none⟩)) rfl (run_rfield2 rfl rfl) rfl
    refine Obs.cons (fun u w hS hd => ?_) ?_
    · have d41 : u 41 = .pointer (some ⟨g1, 8, none⟩) := dep hd 4 rfl
      rw [d41]
      exact Gv.run (prv x y) rfl (run_r2load rfl rfl (O24.keep o1 hS)) rfl
    refine Obs.cons (fun u w hS hd => ?_) ?_
    · have d42 : u 42 = prv x y := dep hd 5 rfl
      rw [d42]
      refine Gv.call 23 #[prv x y] rfl (by go_simp) ((K10.out w).mono ?_)
      rintro e w' ⟨rfl, hb⟩
      exact ⟨_, rfl, rfl, hb⟩
    refine Obs.cons (fun u w hS hd => ?_) ?_
    · obtain ⟨A40, c40, n40, d40, g40, k40⟩ : (Know.dig i).ok (u 40) w := dep hd 3 rfl
      rw [d40]
      have d43 : u 43 = t3v t1 := dep hd 6 rfl
      rw [d43]
      refine Gv.call 29 #[.slice A40 n40 c40, t3v t1] rfl (by go_simp) ((KT1.out _ _ _ w g40 k40).mono ?_)
      rintro e w' ⟨r, rfl, h1, h2, hb⟩
      exact ⟨_, rfl, ⟨r, rfl, h1, h2⟩, hb⟩
    refine Obs.cons (fun u w hS hd => ?_) ?_
    · exact Gv.run (.pointer (some ⟨g1, 4, none⟩)) rfl (run_rfield1 rfl rfl) rfl
    refine Obs.cons (fun u w hS hd => ?_) ?_
    · have d45 : u 45 = .pointer (some ⟨g1, 4, none⟩) := dep hd 8 rfl
      rw [d45]
      exact Gv.run (nv j) rfl (run_r1load rfl rfl (O24.keep o1 hS)) rfl
    refine Obs.cons (fun u w hS hd => ?_) ?_
    · have d46 : u 46 = nv j := dep hd 9 rfl
      rw [d46]
      refine Gv.call 30 #[nv j] rfl (by go_simp) ((KD2.out w).mono ?_)
      rintro e w' ⟨A, c, n, rfl, D, hb⟩
      exact ⟨_, rfl, ⟨A, c, n, rfl, D.dig, D.can⟩, hb⟩
    refine Obs.cons (fun u w hS hd => ?_) ?_
    · exact Gv.run (.pointer (some ⟨g1, 16, none⟩)) rfl (run_rfield3 rfl rfl) rfl
    refine Obs.cons (fun u w hS hd => ?_) ?_
    · have d48 : u 48 = .pointer (some ⟨g1, 16, none⟩) := dep hd 11 rfl
      rw [d48]
      exact Gv.run (prv m n) rfl (run_r3load rfl rfl (O24.keep o1 hS)) rfl
    refine Obs.cons (fun u w hS hd => ?_) ?_
    · have d49 : u 49 = prv m n := dep hd 12 rfl
      rw [d49]
      refine Gv.call 23 #[prv m n] rfl (by go_simp) ((K11.out w).mono ?_)
      rintro e w' ⟨rfl, hb⟩
      exact ⟨_, rfl, rfl, hb⟩
    refine Obs.cons (fun u w hS hd => ?_) ?_
    · obtain ⟨A47, c47, n47, d47, g47, k47⟩ : (Know.dig j).ok (u 47) w := dep hd 10 rfl
      rw [d47]
      have d50 : u 50 = t3v t2 := dep hd 13 rfl
      rw [d50]
      refine Gv.call 29 #[.slice A47 n47 c47, t3v t2] rfl (by go_simp) ((KT2.out _ _ _ w g47 k47).mono ?_)
      rintro e w' ⟨r, rfl, h1, h2, hb⟩
      exact ⟨_, rfl, ⟨r, rfl, h1, h2⟩, hb⟩
    refine Obs.cons (fun u w hS hd => ?_) ?_
    · obtain ⟨r44, d44, h44, i44⟩ : (Know.sat (trE q1) (trE_keep q1)).ok (u 44) w := dep hd 7 rfl
      obtain ⟨r51, d51, h51, i51⟩ : (Know.sat (trE q2) (trE_keep q2)).ok (u 51) w := dep hd 14 rfl
      rw [d44, d51]
      refine Gv.call 27 #[t3v r44, t3v r51] rfl (by go_simp) ((KS3.out r44 r51 h44 h51 i44 i51 w).mono ?_)
      rintro e w' ⟨r, rfl, h1, h2, hb⟩
      exact ⟨_, rfl, ⟨r, rfl, h1, h2⟩, hb⟩
    refine Obs.cons (fun u w hS hd => ?_) ?_
    · obtain ⟨r52, d52, h52, i52⟩ : (Know.sat (trE q3) (trE_keep q3)).ok (u 52) w := dep hd 15 rfl
      rw [d52]
      refine Gv.call 19 #[t3v r52] rfl (by go_simp) ((KP3.out r52 h52 i52 w).mono ?_)
      rintro e w' ⟨rfl, hb⟩
      exact ⟨_, rfl, rfl, hb⟩
    refine Obs.cons (fun u w hS hd => ?_) ?_
    · have d37 : u 37 = prv a b := dep hd 0 rfl
      rw [d37]
      have d53 : u 53 = prv a b := dep hd 16 rfl
      rw [d53]
      exact Gv.run (.bool true) rfl (run_eqT rfl rfl rfl hA hB hA hB (by simp) w) rfl
    refine Obs.cons (fun u w hS hd => ?_) ?_
    · have d54 : u 54 = .bool true := dep hd 17 rfl
      rw [d54]
      exact Gv.run (.bool true) rfl (by go_simp) rfl
    refine Obs.cons (fun u w hS hd => ?_) ?_
    · have d55 : u 55 = .bool true := dep hd 18 rfl
      rw [d55]
      exact Gv.run (.int .i64 0) rfl (by go_simp) rfl
    refine Obs.cons (fun u w hS hd => ?_) ?_
    · have d55 : u 55 = .bool true := dep hd 18 rfl
      rw [d55]
      have d56 : u 56 = .int .i64 0 := dep hd 19 rfl
      rw [d56]
      exact Gv.run (.bool true) rfl (by go_simp) rfl
    refine Obs.cons (fun u w hS hd => ?_) ?_
    · have d55 : u 55 = .bool true := dep hd 18 rfl
      rw [d55]
      have d57 : u 57 = .bool true := dep hd 20 rfl
      rw [d57]
      exact Gv.run (.bool true) rfl (by go_simp) rfl
    refine Obs.cons (fun u w hS hd => ?_) ?_
    · have d58 : u 58 = .bool true := dep hd 21 rfl
      rw [d58]
      exact Gv.run (.bool true) rfl (by go_simp) rfl
    refine Obs.cons (fun u w hS hd => ?_) ?_
    · have d59 : u 59 = .bool true := dep hd 22 rfl
      rw [d59]
      refine Gv.call 20 #[] rfl (by go_simp) ((K9.out w (GN.out _ _ HG.out hS)).mono ?_)
      rintro e w' ⟨rfl, hb⟩
      exact ⟨_, rfl, rfl, hb⟩
    refine Obs.cons (fun u w hS hd => ?_) ?_
    · have d59 : u 59 = .bool true := dep hd 22 rfl
      rw [d59]
      have d60 : u 60 = .bool true := dep hd 23 rfl
      rw [d60]
      exact Gv.run (.bool true) rfl (by go_simp) rfl
    exact Obs.nil
  intro uy5 y5 hS hd
  have d61 : uy5 61 = .bool true := hd 24 (by decide)
  rw [d61]
  replace o1 := O24.keep o1 hS
  replace o3 := O8.keep o3 hS
  replace HG := Lib.hid (GN.out _ _ HG.out hS)
  replace hc := hc.trans (hS.mono hc.size)
  clear hS hd d61
  simp only [List.drop_succ_cons, List.drop_zero]
  go_wp2_with fail
  go_ret
  exact ⟨rfl, hc⟩
end
end Go.Proofs.YtckdifcelgooeaaDoor
