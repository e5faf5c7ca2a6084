import Derived.Test.YtecphnhdcphgbaaSLaw
namespace Go.Proofs.Ytecphnhdcphgbaa
open Go Go.RowKit
attribute [local irreducible] wd by8
set_option maxRecDepth 20000
set_option maxHeartbeats 3200000 in
theorem sord_gen {a b c p q r s t u_ x y z : Nat} (hbq : q < W4) (hbr : r < W4) (hbt : t < W4) (hbu_ : u_ < W4) (hbx : x < W4)
    (k1 : ∀ w, Calls Try.prog 25 #[nv b, nv c] w fun e w' => e = .returned (nv p) ∧ Below w.heap.size w w')
    (k2 : ∀ w, Calls Try.prog 25 #[nv a, nv p] w fun e w' => e = .returned (nv q) ∧ Below w.heap.size w w')
    (k3 : ∀ w, Calls Try.prog 25 #[nv a, nv b] w fun e w' => e = .returned (nv r) ∧ Below w.heap.size w w')
    (k4 : ∀ w, Calls Try.prog 25 #[nv r, nv c] w fun e w' => e = .returned (nv q) ∧ Below w.heap.size w w')
    (k5 : ∀ w, Calls Try.prog 25 #[nv b, nv a] w fun e w' => e = .returned (nv r) ∧ Below w.heap.size w w')
    (k6 : ∀ w, Calls Try.prog 30 #[nv b, nv c] w fun e w' => e = .returned (nv s) ∧ Below w.heap.size w w')
    (k7 : ∀ w, Calls Try.prog 30 #[nv a, nv s] w fun e w' => e = .returned (nv t) ∧ Below w.heap.size w w')
    (k8 : ∀ w, Calls Try.prog 30 #[nv a, nv b] w fun e w' => e = .returned (nv u_) ∧ Below w.heap.size w w')
    (k9 : ∀ w, Calls Try.prog 30 #[nv u_, nv c] w fun e w' => e = .returned (nv t) ∧ Below w.heap.size w w')
    (k10 : ∀ w, Calls Try.prog 30 #[nv b, nv a] w fun e w' => e = .returned (nv u_) ∧ Below w.heap.size w w')
    (k11 : ∀ w, Calls Try.prog 30 #[nv a, nv p] w fun e w' => e = .returned (nv x) ∧ Below w.heap.size w w')
    (k12 : ∀ w, Calls Try.prog 30 #[nv a, nv c] w fun e w' => e = .returned (nv y) ∧ Below w.heap.size w w')
    (k13 : ∀ w, Calls Try.prog 25 #[nv u_, nv y] w fun e w' => e = .returned (nv x) ∧ Below w.heap.size w w')
    (k14 : ∀ w, Calls Try.prog 28 #[nv a] w fun e w' => e = .returned (nv z) ∧ Below w.heap.size w w')
    (k15 : ∀ w, Calls Try.prog 25 #[nv a, nv z] w fun e w' => e = .returned (nv 0) ∧ Below w.heap.size w w') (w : World) :
    Calls Try.prog 8 #[nv a, nv b, nv c] w fun e w' => e = .returned (.bool true) ∧ Below w.heap.size w w' := by
  obtain ⟨v2, e2, oa, ob, oc, hc⟩ := threeS a b c w
  have K1 := Lib.hid k1
  have K2 := Lib.hid k2
  have K3 := Lib.hid k3
  have K4 := Lib.hid k4
  have K5 := Lib.hid k5
  have K6 := Lib.hid k6
  have K7 := Lib.hid k7
  have K8 := Lib.hid k8
  have K9 := Lib.hid k9
  have K10 := Lib.hid k10
  have K11 := Lib.hid k11
  have K12 := Lib.hid k12
  have K13 := Lib.hid k13
  have K14 := Lib.hid k14
  have K15 := Lib.hid k15
  clear k1 k2 k3 k4 k5 k6 k7 k8 k9 k10 k11 k12 k13 k14 k15
  unfold nv
  go_enter Try.func8, Try.ntmps8
  go_upto_region 1 with fail
  rw [← e2]
  clear e2
  have HS := Lib.hid (tkeep444 oa ob oc)
  have hs := hc.size
  refine wp_region_inv 20 [9, 10, 11, 12, 13, 14, 15, 16, 17, 18, 19, 20, 21, 22, 23, 24, 25, 26, 27, 28] [.val (nv a), .val (nv b), .val (nv c), .val (nv p), .val (nv q), .val (nv a), .val (nv b), .val (nv r), .val (nv c), .val (nv q), .val (.bool true), .val (.bool true), .val (nv a), .val (nv b), .val (nv r), .val (nv b), .val (nv a), .val (nv r), .val (.bool true), .val (.bool true)] (fun wz => Below v2.heap.size v2 wz) (by kernel_rfl) (by kernel_rfl) (fun wz wz' hz hb => hz.trans (hb.mono hz.size)) ((Below.refl _ _).drew) (fun u => by simp only [puts, List.foldl_cons, List.foldl_nil]; go_simp; exact rfl) ?_ ?_
  · simp only [List.take_succ_cons, List.take_zero]
    refine Obs.cons (fun u w hS hd => ?_) ?_
    · obtain ⟨s0, s1, s2, s3, -⟩ := HS.out w hS
      refine Gv.run (nv a) rfl (by go_simp) rfl
    refine Obs.cons (fun u w hS hd => ?_) ?_
    · obtain ⟨-, -, -, -, s0, s1, s2, s3, -⟩ := HS.out w hS
      refine Gv.run (nv b) rfl (by go_simp) rfl
    refine Obs.cons (fun u w hS hd => ?_) ?_
    · obtain ⟨-, -, -, -, -, -, -, -, s0, s1, s2, s3⟩ := HS.out w hS
      refine Gv.run (nv c) rfl (by go_simp) rfl
    refine Obs.cons (fun u w hS hd => ?_) ?_
    · have d10 : u 10 = nv b := dep hd 1 rfl
      rw [d10]
      have d11 : u 11 = nv c := dep hd 2 rfl
      rw [d11]
      refine Gv.call 25 #[nv b, nv c] rfl (by go_simp) ((K1.out w).mono ?_)
      rintro e w' ⟨rfl, hb⟩
      exact ⟨_, rfl, rfl, hb⟩
    refine Obs.cons (fun u w hS hd => ?_) ?_
    · have d9 : u 9 = nv a := dep hd 0 rfl
      rw [d9]
      have d12 : u 12 = nv p := dep hd 3 rfl
      rw [d12]
      refine Gv.call 25 #[nv a, nv p] rfl (by go_simp) ((K2.out w).mono ?_)
      rintro e w' ⟨rfl, hb⟩
      exact ⟨_, rfl, rfl, hb⟩
    refine Obs.cons (fun u w hS hd => ?_) ?_
    · obtain ⟨s0, s1, s2, s3, -⟩ := HS.out w hS
      refine Gv.run (nv a) rfl (by go_simp) rfl
    refine Obs.cons (fun u w hS hd => ?_) ?_
    · obtain ⟨-, -, -, -, s0, s1, s2, s3, -⟩ := HS.out w hS
      refine Gv.run (nv b) rfl (by go_simp) rfl
    refine Obs.cons (fun u w hS hd => ?_) ?_
    · have d14 : u 14 = nv a := dep hd 5 rfl
      rw [d14]
      have d15 : u 15 = nv b := dep hd 6 rfl
      rw [d15]
      refine Gv.call 25 #[nv a, nv b] rfl (by go_simp) ((K3.out w).mono ?_)
      rintro e w' ⟨rfl, hb⟩
      exact ⟨_, rfl, rfl, hb⟩
    refine Obs.cons (fun u w hS hd => ?_) ?_
    · obtain ⟨-, -, -, -, -, -, -, -, s0, s1, s2, s3⟩ := HS.out w hS
      refine Gv.run (nv c) rfl (by go_simp) rfl
    refine Obs.cons (fun u w hS hd => ?_) ?_
    · have d16 : u 16 = nv r := dep hd 7 rfl
      rw [d16]
      have d17 : u 17 = nv c := dep hd 8 rfl
      rw [d17]
      refine Gv.call 25 #[nv r, nv c] rfl (by go_simp) ((K4.out w).mono ?_)
      rintro e w' ⟨rfl, hb⟩
      exact ⟨_, rfl, rfl, hb⟩
    refine Obs.cons (fun u w hS hd => ?_) ?_
    · have d13 : u 13 = nv q := dep hd 4 rfl
      rw [d13]
      have d18 : u 18 = nv q := dep hd 9 rfl
      rw [d18]
      exact Gv.run (.bool true) rfl (run_eqS rfl rfl rfl hbq hbq (decide_eq_true rfl) w) rfl
    refine Obs.cons (fun u w hS hd => ?_) ?_
    · have d19 : u 19 = .bool true := dep hd 10 rfl
      rw [d19]
      exact Gv.run (.bool true) rfl (by go_simp) rfl
    refine Obs.cons (fun u w hS hd => ?_) ?_
    · have d20 : u 20 = .bool true := dep hd 11 rfl
      rw [d20]
      obtain ⟨s0, s1, s2, s3, -⟩ := HS.out w hS
      refine Gv.run (nv a) rfl (by go_simp) rfl
    refine Obs.cons (fun u w hS hd => ?_) ?_
    · have d20 : u 20 = .bool true := dep hd 11 rfl
      rw [d20]
      obtain ⟨-, -, -, -, s0, s1, s2, s3, -⟩ := HS.out w hS
      refine Gv.run (nv b) rfl (by go_simp) rfl
    refine Obs.cons (fun u w hS hd => ?_) ?_
    · have d20 : u 20 = .bool true := dep hd 11 rfl
      rw [d20]
      have d21 : u 21 = nv a := dep hd 12 rfl
      rw [d21]
      have d22 : u 22 = nv b := dep hd 13 rfl
      rw [d22]
      refine Gv.call 25 #[nv a, nv b] rfl (by go_simp) ((K3.out w).mono ?_)
      rintro e w' ⟨rfl, hb⟩
      exact ⟨_, rfl, rfl, hb⟩
    refine Obs.cons (fun u w hS hd => ?_) ?_
    · have d20 : u 20 = .bool true := dep hd 11 rfl
      rw [d20]
      obtain ⟨-, -, -, -, s0, s1, s2, s3, -⟩ := HS.out w hS
      refine Gv.run (nv b) rfl (by go_simp) rfl
    refine Obs.cons (fun u w hS hd => ?_) ?_
    · have d20 : u 20 = .bool true := dep hd 11 rfl
      rw [d20]
      obtain ⟨s0, s1, s2, s3, -⟩ := HS.out w hS
      refine Gv.run (nv a) rfl (by go_simp) rfl
    refine Obs.cons (fun u w hS hd => ?_) ?_
    · have d20 : u 20 = .bool true := dep hd 11 rfl
      rw [d20]
      have d24 : u 24 = nv b := dep hd 15 rfl
      rw [d24]
      have d25 : u 25 = nv a := dep hd 16 rfl
      rw [d25]
      refine Gv.call 25 #[nv b, nv a] rfl (by go_simp) ((K5.out w).mono ?_)
      rintro e w' ⟨rfl, hb⟩
      exact ⟨_, rfl, rfl, hb⟩
    refine Obs.cons (fun u w hS hd => ?_) ?_
    · have d20 : u 20 = .bool true := dep hd 11 rfl
      rw [d20]
      have d23 : u 23 = nv r := dep hd 14 rfl
      rw [d23]
      have d26 : u 26 = nv r := dep hd 17 rfl
      rw [d26]
      exact Gv.run (.bool true) rfl (run_eqS rfl rfl rfl hbr hbr (decide_eq_true rfl) w) rfl
    refine Obs.cons (fun u w hS hd => ?_) ?_
    · have d20 : u 20 = .bool true := dep hd 11 rfl
      rw [d20]
      have d27 : u 27 = .bool true := dep hd 18 rfl
      rw [d27]
      exact Gv.run (.bool true) rfl (by go_simp) rfl
    exact Obs.nil
  · intro u1 w1 hS1 hd1
    have dl : u1 28 = .bool true := hd1 19 (by decide)
    rw [dl]
    clear hd1 dl
    simp only [List.drop_succ_cons, List.drop_zero]
    go_upto_region 2 with fail
    refine wp_region_inv 20 [29, 30, 31, 32, 33, 34, 35, 36, 37, 38, 39, 40, 41, 42, 43, 44, 45, 46, 47, 48] [.val (nv a), .val (nv b), .val (nv c), .val (nv s), .val (nv t), .val (nv a), .val (nv b), .val (nv u_), .val (nv c), .val (nv t), .val (.bool true), .val (.bool true), .val (nv a), .val (nv b), .val (nv u_), .val (nv b), .val (nv a), .val (nv u_), .val (.bool true), .val (.bool true)] (fun wz => Below v2.heap.size v2 wz) (by kernel_rfl) (by kernel_rfl) (fun wz wz' hz hb => hz.trans (hb.mono hz.size)) (hS1.drew) (fun u => by simp only [puts, List.foldl_cons, List.foldl_nil]; go_simp; exact rfl) ?_ ?_
    · simp only [List.take_succ_cons, List.take_zero]
      refine Obs.cons (fun u w hS hd => ?_) ?_
      · obtain ⟨s0, s1, s2, s3, -⟩ := HS.out w hS
        refine Gv.run (nv a) rfl (by go_simp) rfl
      refine Obs.cons (fun u w hS hd => ?_) ?_
      · obtain ⟨-, -, -, -, s0, s1, s2, s3, -⟩ := HS.out w hS
        refine Gv.run (nv b) rfl (by go_simp) rfl
      refine Obs.cons (fun u w hS hd => ?_) ?_
      · obtain ⟨-, -, -, -, -, -, -, -, s0, s1, s2, s3⟩ := HS.out w hS
        refine Gv.run (nv c) rfl (by go_simp) rfl
      refine Obs.cons (fun u w hS hd => ?_) ?_
      · have d30 : u 30 = nv b := dep hd 1 rfl
        rw [d30]
        have d31 : u 31 = nv c := dep hd 2 rfl
        rw [d31]
        refine Gv.call 30 #[nv b, nv c] rfl (by go_simp) ((K6.out w).mono ?_)
        rintro e w' ⟨rfl, hb⟩
        exact ⟨_, rfl, rfl, hb⟩
      refine Obs.cons (fun u w hS hd => ?_) ?_
      · have d29 : u 29 = nv a := dep hd 0 rfl
        rw [d29]
        have d32 : u 32 = nv s := dep hd 3 rfl
        rw [d32]
        refine Gv.call 30 #[nv a, nv s] rfl (by go_simp) ((K7.out w).mono ?_)
        rintro e w' ⟨rfl, hb⟩
        exact ⟨_, rfl, rfl, hb⟩
      refine Obs.cons (fun u w hS hd => ?_) ?_
      · obtain ⟨s0, s1, s2, s3, -⟩ := HS.out w hS
        refine Gv.run (nv a) rfl (by go_simp) rfl
      refine Obs.cons (fun u w hS hd => ?_) ?_
      · obtain ⟨-, -, -, -, s0, s1, s2, s3, -⟩ := HS.out w hS
        refine Gv.run (nv b) rfl (by go_simp) rfl
      refine Obs.cons (fun u w hS hd => ?_) ?_
      · have d34 : u 34 = nv a := dep hd 5 rfl
        rw [d34]
        have d35 : u 35 = nv b := dep hd 6 rfl
        rw [d35]
        refine Gv.call 30 #[nv a, nv b] rfl (by go_simp) ((K8.out w).mono ?_)
        rintro e w' ⟨rfl, hb⟩
        exact ⟨_, rfl, rfl, hb⟩
      refine Obs.cons (fun u w hS hd => ?_) ?_
      · obtain ⟨-, -, -, -, -, -, -, -, s0, s1, s2, s3⟩ := HS.out w hS
        refine Gv.run (nv c) rfl (by go_simp) rfl
      refine Obs.cons (fun u w hS hd => ?_) ?_
      · have d36 : u 36 = nv u_ := dep hd 7 rfl
        rw [d36]
        have d37 : u 37 = nv c := dep hd 8 rfl
        rw [d37]
        refine Gv.call 30 #[nv u_, nv c] rfl (by go_simp) ((K9.out w).mono ?_)
        rintro e w' ⟨rfl, hb⟩
        exact ⟨_, rfl, rfl, hb⟩
      refine Obs.cons (fun u w hS hd => ?_) ?_
      · have d33 : u 33 = nv t := dep hd 4 rfl
        rw [d33]
        have d38 : u 38 = nv t := dep hd 9 rfl
        rw [d38]
        exact Gv.run (.bool true) rfl (run_eqS rfl rfl rfl hbt hbt (decide_eq_true rfl) w) rfl
      refine Obs.cons (fun u w hS hd => ?_) ?_
      · have d39 : u 39 = .bool true := dep hd 10 rfl
        rw [d39]
        exact Gv.run (.bool true) rfl (by go_simp) rfl
      refine Obs.cons (fun u w hS hd => ?_) ?_
      · have d40 : u 40 = .bool true := dep hd 11 rfl
        rw [d40]
        obtain ⟨s0, s1, s2, s3, -⟩ := HS.out w hS
        refine Gv.run (nv a) rfl (by go_simp) rfl
      refine Obs.cons (fun u w hS hd => ?_) ?_
      · have d40 : u 40 = .bool true := dep hd 11 rfl
        rw [d40]
        obtain ⟨-, -, -, -, s0, s1, s2, s3, -⟩ := HS.out w hS
        refine Gv.run (nv b) rfl (by go_simp) rfl
      refine Obs.cons (fun u w hS hd => ?_) ?_
      · have d40 : u 40 = .bool true := dep hd 11 rfl
        rw [d40]
        have d41 : u 41 = nv a := dep hd 12 rfl
        rw [d41]
        have d42 : u 42 = nv b := dep hd 13 rfl
        rw [d42]
        refine Gv.call 30 #[nv a, nv b] rfl (by go_simp) ((K8.out w).mono ?_)
        rintro e w' ⟨rfl, hb⟩
        exact ⟨_, rfl, rfl, hb⟩
      refine Obs.cons (fun u w hS hd => ?_) ?_
      · have d40 : u 40 = .bool true := dep hd 11 rfl
        rw [d40]
        obtain ⟨-, -, -, -, s0, s1, s2, s3, -⟩ := HS.out w hS
        refine Gv.run (nv b) rfl (by go_simp) rfl
      refine Obs.cons (fun u w hS hd => ?_) ?_
      · have d40 : u 40 = .bool true := dep hd 11 rfl
        rw [d40]
        obtain ⟨s0, s1, s2, s3, -⟩ := HS.out w hS
        refine Gv.run (nv a) rfl (by go_simp) rfl
      refine Obs.cons (fun u w hS hd => ?_) ?_
      · have d40 : u 40 = .bool true := dep hd 11 rfl
        rw [d40]
        have d44 : u 44 = nv b := dep hd 15 rfl
        rw [d44]
        have d45 : u 45 = nv a := dep hd 16 rfl
        rw [d45]
        refine Gv.call 30 #[nv b, nv a] rfl (by go_simp) ((K10.out w).mono ?_)
        rintro e w' ⟨rfl, hb⟩
        exact ⟨_, rfl, rfl, hb⟩
      refine Obs.cons (fun u w hS hd => ?_) ?_
      · have d40 : u 40 = .bool true := dep hd 11 rfl
        rw [d40]
        have d43 : u 43 = nv u_ := dep hd 14 rfl
        rw [d43]
        have d46 : u 46 = nv u_ := dep hd 17 rfl
        rw [d46]
        exact Gv.run (.bool true) rfl (run_eqS rfl rfl rfl hbu_ hbu_ (decide_eq_true rfl) w) rfl
      refine Obs.cons (fun u w hS hd => ?_) ?_
      · have d40 : u 40 = .bool true := dep hd 11 rfl
        rw [d40]
        have d47 : u 47 = .bool true := dep hd 18 rfl
        rw [d47]
        exact Gv.run (.bool true) rfl (by go_simp) rfl
      exact Obs.nil
    · intro u2 w2 hS2 hd2
      have dl : u2 48 = .bool true := hd2 19 (by decide)
      rw [dl]
      clear hd2 dl hS1
      simp only [List.drop_succ_cons, List.drop_zero]
      go_upto_region 3 with fail
      refine wp_region_inv 30 [49, 50, 51, 52, 53, 54, 55, 56, 57, 58, 59, 60, 61, 62, 63, 64, 65, 66, 67, 68, 69, 70, 71, 72, 73, 74, 75, 76, 77, 78] [.val (.bool true), .val (.bool true), .val (.bool true), .val (.bool true), .val (.bool true), .val (nv a), .val (nv b), .val (nv c), .val (nv p), .val (nv x), .val (nv a), .val (nv b), .val (nv u_), .val (nv a), .val (nv c), .val (nv y), .val (nv x), .val (.bool true), .val (.bool true), .val (.bool true), .val (nv a), .val (nv a), .val (nv z), .val (nv 0), .val (lit4 0 0 0 0), .val (.bool true), .val (.bool true), .val (.bool true), .val (.bool true), .val (.bool true)] (fun wz => Below v2.heap.size v2 wz) (by kernel_rfl) (by kernel_rfl) (fun wz wz' hz hb => hz.trans (hb.mono hz.size)) (hS2.drew) (fun u => by simp only [puts, List.foldl_cons, List.foldl_nil]; go_simp; exact rfl) ?_ ?_
      · simp only [List.take_succ_cons, List.take_zero]
        refine Obs.cons (fun u w hS hd => ?_) ?_
        · exact Gv.run (.bool true) rfl (by go_simp) rfl
        refine Obs.cons (fun u w hS hd => ?_) ?_
        · have d49 : u 49 = .bool true := dep hd 0 rfl
          rw [d49]
          exact Gv.run (.bool true) rfl (by go_simp) rfl
        refine Obs.cons (fun u w hS hd => ?_) ?_
        · have d50 : u 50 = .bool true := dep hd 1 rfl
          rw [d50]
          exact Gv.run (.bool true) rfl (by go_simp) rfl
        refine Obs.cons (fun u w hS hd => ?_) ?_
        · have d50 : u 50 = .bool true := dep hd 1 rfl
          rw [d50]
          have d51 : u 51 = .bool true := dep hd 2 rfl
          rw [d51]
          exact Gv.run (.bool true) rfl (by go_simp) rfl
        refine Obs.cons (fun u w hS hd => ?_) ?_
        · have d52 : u 52 = .bool true := dep hd 3 rfl
          rw [d52]
          exact Gv.run (.bool true) rfl (by go_simp) rfl
        refine Obs.cons (fun u w hS hd => ?_) ?_
        · have d53 : u 53 = .bool true := dep hd 4 rfl
          rw [d53]
          obtain ⟨s0, s1, s2, s3, -⟩ := HS.out w hS
          refine Gv.run (nv a) rfl (by go_simp) rfl
        refine Obs.cons (fun u w hS hd => ?_) ?_
        · have d53 : u 53 = .bool true := dep hd 4 rfl
          rw [d53]
          obtain ⟨-, -, -, -, s0, s1, s2, s3, -⟩ := HS.out w hS
          refine Gv.run (nv b) rfl (by go_simp) rfl
        refine Obs.cons (fun u w hS hd => ?_) ?_
        · have d53 : u 53 = .bool true := dep hd 4 rfl
          rw [d53]
          obtain ⟨-, -, -, -, -, -, -, -, s0, s1, s2, s3⟩ := HS.out w hS
          refine Gv.run (nv c) rfl (by go_simp) rfl
        refine Obs.cons (fun u w hS hd => ?_) ?_
        · have d53 : u 53 = .bool true := dep hd 4 rfl
          rw [d53]
          have d55 : u 55 = nv b := dep hd 6 rfl
          rw [d55]
          have d56 : u 56 = nv c := dep hd 7 rfl
          rw [d56]
          refine Gv.call 25 #[nv b, nv c] rfl (by go_simp) ((K1.out w).mono ?_)
          rintro e w' ⟨rfl, hb⟩
          exact ⟨_, rfl, rfl, hb⟩
        refine Obs.cons (fun u w hS hd => ?_) ?_
        · have d53 : u 53 = .bool true := dep hd 4 rfl
          rw [d53]
          have d54 : u 54 = nv a := dep hd 5 rfl
          rw [d54]
          have d57 : u 57 = nv p := dep hd 8 rfl
          rw [d57]
          refine Gv.call 30 #[nv a, nv p] rfl (by go_simp) ((K11.out w).mono ?_)
          rintro e w' ⟨rfl, hb⟩
          exact ⟨_, rfl, rfl, hb⟩
        refine Obs.cons (fun u w hS hd => ?_) ?_
        · have d53 : u 53 = .bool true := dep hd 4 rfl
          rw [d53]
          obtain ⟨s0, s1, s2, s3, -⟩ := HS.out w hS
          refine Gv.run (nv a) rfl (by go_simp) rfl
        refine Obs.cons (fun u w hS hd => ?_) ?_
        · have d53 : u 53 = .bool true := dep hd 4 rfl
          rw [d53]
          obtain ⟨-, -, -, -, s0, s1, s2, s3, -⟩ := HS.out w hS
          refine Gv.run (nv b) rfl (by go_simp) rfl
        refine Obs.cons (fun u w hS hd => ?_) ?_
        · have d53 : u 53 = .bool true := dep hd 4 rfl
          rw [d53]
          have d59 : u 59 = nv a := dep hd 10 rfl
          rw [d59]
          have d60 : u 60 = nv b := dep hd 11 rfl
          rw [d60]
          refine Gv.call 30 #[nv a, nv b] rfl (by go_simp) ((K8.out w).mono ?_)
          rintro e w' ⟨rfl, hb⟩
          exact ⟨_, rfl, rfl, hb⟩
        refine Obs.cons (fun u w hS hd => ?_) ?_
        · have d53 : u 53 = .bool true := dep hd 4 rfl
          rw [d53]
          obtain ⟨s0, s1, s2, s3, -⟩ := HS.out w hS
          refine Gv.run (nv a) rfl (by go_simp) rfl
        refine Obs.cons (fun u w hS hd => ?_) ?_
        · have d53 : u 53 = .bool true := dep hd 4 rfl
          rw [d53]
          obtain ⟨-, -, -, -, -, -, -, -, s0, s1, s2, s3⟩ := HS.out w hS
          refine Gv.run (nv c) rfl (by go_simp) rfl
        refine Obs.cons (fun u w hS hd => ?_) ?_
        · have d53 : u 53 = .bool true := dep hd 4 rfl
          rw [d53]
          have d62 : u 62 = nv a := dep hd 13 rfl
          rw [d62]
          have d63 : u 63 = nv c := dep hd 14 rfl
          rw [d63]
          refine Gv.call 30 #[nv a, nv c] rfl (by go_simp) ((K12.out w).mono ?_)
          rintro e w' ⟨rfl, hb⟩
          exact ⟨_, rfl, rfl, hb⟩
        refine Obs.cons (fun u w hS hd => ?_) ?_
        · have d53 : u 53 = .bool true := dep hd 4 rfl
          rw [d53]
          have d61 : u 61 = nv u_ := dep hd 12 rfl
          rw [d61]
          have d64 : u 64 = nv y := dep hd 15 rfl
          rw [d64]
          refine Gv.call 25 #[nv u_, nv y] rfl (by go_simp) ((K13.out w).mono ?_)
          rintro e w' ⟨rfl, hb⟩
          exact ⟨_, rfl, rfl, hb⟩
        refine Obs.cons (fun u w hS hd => ?_) ?_
        · have d53 : u 53 = .bool true := dep hd 4 rfl
          rw [d53]
          have d58 : u 58 = nv x := dep hd 9 rfl
          rw [d58]
          have d65 : u 65 = nv x := dep hd 16 rfl
          rw [d65]
          exact Gv.run (.bool true) rfl (run_eqS rfl rfl rfl hbx hbx (decide_eq_true rfl) w) rfl
        refine Obs.cons (fun u w hS hd => ?_) ?_
        · have d53 : u 53 = .bool true := dep hd 4 rfl
          rw [d53]
          have d66 : u 66 = .bool true := dep hd 17 rfl
          rw [d66]
          exact Gv.run (.bool true) rfl (by go_simp) rfl
        refine Obs.cons (fun u w hS hd => ?_) ?_
        · have d67 : u 67 = .bool true := dep hd 18 rfl
          rw [d67]
          exact Gv.run (.bool true) rfl (by go_simp) rfl
        refine Obs.cons (fun u w hS hd => ?_) ?_
        · have d68 : u 68 = .bool true := dep hd 19 rfl
          rw [d68]
          obtain ⟨s0, s1, s2, s3, -⟩ := HS.out w hS
          refine Gv.run (nv a) rfl (by go_simp) rfl
        refine Obs.cons (fun u w hS hd => ?_) ?_
        · have d68 : u 68 = .bool true := dep hd 19 rfl
          rw [d68]
          obtain ⟨s0, s1, s2, s3, -⟩ := HS.out w hS
          refine Gv.run (nv a) rfl (by go_simp) rfl
        refine Obs.cons (fun u w hS hd => ?_) ?_
        · have d68 : u 68 = .bool true := dep hd 19 rfl
          rw [d68]
          have d70 : u 70 = nv a := dep hd 21 rfl
          rw [d70]
          refine Gv.call 28 #[nv a] rfl (by go_simp) ((K14.out w).mono ?_)
          rintro e w' ⟨rfl, hb⟩
          exact ⟨_, rfl, rfl, hb⟩
        refine Obs.cons (fun u w hS hd => ?_) ?_
        · have d68 : u 68 = .bool true := dep hd 19 rfl
          rw [d68]
          have d69 : u 69 = nv a := dep hd 20 rfl
          rw [d69]
          have d71 : u 71 = nv z := dep hd 22 rfl
          rw [d71]
          refine Gv.call 25 #[nv a, nv z] rfl (by go_simp) ((K15.out w).mono ?_)
          rintro e w' ⟨rfl, hb⟩
          exact ⟨_, rfl, rfl, hb⟩
        refine Obs.cons (fun u w hS hd => ?_) ?_
        · have d68 : u 68 = .bool true := dep hd 19 rfl
          rw [d68]
          exact Gv.run (lit4 0 0 0 0) rfl (by go_simp) rfl
        refine Obs.cons (fun u w hS hd => ?_) ?_
        · have d68 : u 68 = .bool true := dep hd 19 rfl
          rw [d68]
          have d72 : u 72 = nv 0 := dep hd 23 rfl
          rw [d72]
          have d73 : u 73 = lit4 0 0 0 0 := dep hd 24 rfl
          rw [d73]
          exact Gv.run (.bool true) rfl (run_eqS (x := 0) (y := 0) rfl rfl (by exact nv_z.symm) W4_pos W4_pos (decide_eq_true rfl) w) rfl
        refine Obs.cons (fun u w hS hd => ?_) ?_
        · have d68 : u 68 = .bool true := dep hd 19 rfl
          rw [d68]
          have d74 : u 74 = .bool true := dep hd 25 rfl
          rw [d74]
          exact Gv.run (.bool true) rfl (by go_simp) rfl
        refine Obs.cons (fun u w hS hd => ?_) ?_
        · have d75 : u 75 = .bool true := dep hd 26 rfl
          rw [d75]
          exact Gv.run (.bool true) rfl (by go_simp) rfl
        refine Obs.cons (fun u w hS hd => ?_) ?_
        · have d76 : u 76 = .bool true := dep hd 27 rfl
          rw [d76]
          refine Gv.call 15 #[] rfl (by go_simp) ((awake_any w).mono ?_)
          rintro e w' ⟨rfl, hb⟩
          exact ⟨_, rfl, rfl, hb⟩
        refine Obs.cons (fun u w hS hd => ?_) ?_
        · have d76 : u 76 = .bool true := dep hd 27 rfl
          rw [d76]
          have d77 : u 77 = .bool true := dep hd 28 rfl
          rw [d77]
          exact Gv.run (.bool true) rfl (by go_simp) rfl
        exact Obs.nil
      · intro u3 w3 hS3 hd3
        have dl : u3 78 = .bool true := hd3 29 (by decide)
        rw [dl]
        simp only [List.drop_succ_cons, List.drop_zero]
        go_wp2_with fail
        go_ret
        exact ⟨rfl, hc.trans (hS3.mono hs)⟩
end Go.Proofs.Ytecphnhdcphgbaa
