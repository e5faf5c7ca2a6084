import Derived.Test.YtecphnhdcphgbaaSLaw
namespace Go.Proofs.Ytecphnhdcphgbaa
open Go Go.RowKit
attribute [local irreducible] wd by8
set_option maxRecDepth 20000
set_option maxHeartbeats 3200000 in
theorem sleft_gen {a d P : Nat} {bs : List UInt8} (hbd : d < W4) (hbP : P < W4) (hl : bs.length = 32)
    (k0 : ∀ w, Calls Try.prog 17 #[nv a] w fun e w' => ∃ A c n, e = .returned (.slice A n c) ∧ DOwn w' w.heap.size A c n a ∧ Below w.heap.size w w')
    (k00 : ∀ (w : World) (A : Option Addr) (c n : Nat), Dig w w.heap.size A c n a → Can n a → Calls Try.prog 16 #[.slice A n c] w fun e w' => ∃ A c n, e = .returned (.slice A n c) ∧ DOwn w' w.heap.size A c n d ∧ Below w.heap.size w w')
    (k1 : ∀ w, Calls Try.prog 18 #[nv a] w fun e w' => e = .returned (nv d) ∧ Below w.heap.size w w')
    (k2 : ∀ (w : World) (A : Option Addr) (c n : Nat), Dig w w.heap.size A c n d → Can n d → Calls Try.prog 14 #[nv d, .slice A n c] w fun e w' => e = .returned (.bool true) ∧ Below w.heap.size w w')
    (k3 : ∀ w, Calls Try.prog 19 #[nv a] w fun e w' => e = .returned (nv d) ∧ Below w.heap.size w w')
    (k4 : ∀ (w : World) (A : Option Addr) (c n : Nat), Dig w w.heap.size A c n d → Can n d → Calls Try.prog 20 #[.slice A n c] w fun e w' => e = .returned (nv d) ∧ Below w.heap.size w w')
    (k5 : ∀ w, Calls Try.prog 21 #[nv a] w fun e w' => ∃ A c, e = .returned (.slice A 32 c) ∧ Rd w' w'.heap.size A c bs ∧ Below w.heap.size w w')
    (k6 : ∀ (w : World) (A : Option Addr) (c n : Nat), Dig w w.heap.size A c n d → Can n d → Calls Try.prog 22 #[.slice A n c, .int .i64 32] w fun e w' => ∃ A c, e = .returned (.slice A 32 c) ∧ Rd w' w'.heap.size A c bs ∧ Below w.heap.size w w')
    (k7 : ∀ w, Calls Try.prog 23 #[] w fun e w' => e = .returned (nv P) ∧ Below w.heap.size w w')
    (k8 : ∀ w, Calls Try.prog 24 #[] w fun e w' => ∃ A c n, e = .returned (.slice A n c) ∧ DOwn w' w.heap.size A c n P ∧ Below w.heap.size w w')
    (k9 : ∀ (w : World) (A : Option Addr) (c n : Nat), Dig w w.heap.size A c n P → Can n P → Calls Try.prog 20 #[.slice A n c] w fun e w' => e = .returned (nv P) ∧ Below w.heap.size w w') (w : World) :
    Calls Try.prog 4 #[nv a] w fun e w' => e = .returned (.bool true) ∧ Below w.heap.size w w' := by
  have K0 := Lib.hid k0
  have K00 := Lib.hid k00
  have K1 := Lib.hid k1
  have K2 := Lib.hid k2
  have K3 := Lib.hid k3
  have K4 := Lib.hid k4
  have K5 := Lib.hid k5
  have K6 := Lib.hid k6
  have K7 := Lib.hid k7
  have K8 := Lib.hid k8
  have K9 := Lib.hid k9
  clear k0 k00 k1 k2 k3 k4 k5 k6 k7 k8 k9
  have oa := T4.new (w := w) (B := w.heap.size) (Nat.le_refl _) 35 a
  have hc := (Below.refl w.heap.size w).alloc (Nat.le_refl _) (AE 35 a)
  unfold nv
  go_enter Try.func4, Try.ntmps4
  go_wp2_with fail
  go_at_call 17
  refine (K0.out _).mono ?_
  rintro e v1 ⟨A1, c1, n1, rfl, d1, h0⟩
  replace oa := oa.keep h0
  replace hc := hc.trans (h0.mono hc.size)
  clear h0
  have KL := Lib.hid (K00.out v1 _ _ _ d1.dig d1.can)
  clear d1
  go_wp2_with fail
  go_at_call 16
  refine KL.out.mono ?_
  rintro e v2 ⟨A, c, n, rfl, d2, h0⟩
  replace oa := oa.keep h0
  replace hc := hc.trans (h0.mono hc.size)
  clear h0 KL
  obtain ⟨s0, s1, s2, s3⟩ := oa.c4
  go_upto_region 3 with fail
  clear s0 s1 s2 s3
  have hg := oa.lt
  have ob := T4.new (w := v2) (B := w.heap.size) hc.size 25 a
  have dd := d2.dig.next ((Below.refl _ v2).alloc (Nat.le_refl _) (AE 25 a))
  have HC := Lib.hid d2.can
  replace oa := oa.alloc (AE 25 a)
  replace hc := hc.alloc hc.size (AE 25 a)
  obtain ⟨v3, e3⟩ : ∃ v, v = v2.alloc (AE 25 a) := ⟨_, rfl⟩
  rw [← e3] at oa ob hc dd ⊢
  clear e3 d2
  have DD := Lib.hid (fun wz (hz : Below v3.heap.size v3 wz) => dd.next hz)
  clear dd
  have HS := Lib.hid (tkeep44 oa ob)
  have hs := hc.size
  refine wp_region_inv 29 [9, 10, 11, 12, 13, 14, 15, 16, 17, 18, 19, 20, 21, 22, 23, 24, 25, 26, 27, 28, 29, 30, 31, 32, 33, 34, 35, 36, 37] [.val (nv a), .val (nv d), .dig d, .val (.bool true), .val (.bool true), .val (nv a), .val (nv d), .dig d, .val (nv d), .val (.bool true), .val (.bool true), .val (.bool true), .val (nv a), .byt bs, .val (.string ⟨bs.toArray⟩), .dig d, .byt bs, .val (.string ⟨bs.toArray⟩), .val (.bool true), .val (.bool true), .val (.bool true), .val (nv P), .dig P, .val (nv P), .val (.bool true), .val (.bool true), .val (.bool true), .val (.bool true), .val (.bool true)] (fun wz => Below v3.heap.size v3 wz) (by kernel_rfl) (by kernel_rfl) (fun wz wz' hz hb => hz.trans (hb.mono hz.size)) ((Below.refl _ _).drew) (fun u => by simp only [puts, List.foldl_cons, List.foldl_nil]; go_simp; exact rfl) ?_ ?_
  · simp only [List.take_succ_cons, List.take_zero]
    refine Obs.cons (fun u w hS hd => ?_) ?_
    · obtain ⟨s0, s1, s2, s3, -⟩ := HS.out w hS
      refine Gv.run (nv a) rfl (by go_simp) rfl
    refine Obs.cons (fun u w hS hd => ?_) ?_
    · have d9 : u 9 = nv a := dep hd 0 rfl
      rw [d9]
      refine Gv.call 18 #[nv a] rfl (by go_simp) ((K1.out w).mono ?_)
      rintro e w' ⟨rfl, hb⟩
      exact ⟨_, rfl, rfl, hb⟩
    refine Obs.cons (fun u w hS hd => ?_) ?_
    · exact Gv.run (.slice A n c) rfl (by go_simp) (⟨_, _, _, rfl, DD.out w hS, HC.out⟩)
    refine Obs.cons (fun u w hS hd => ?_) ?_
    · have d10 : u 10 = nv d := dep hd 1 rfl
      rw [d10]
      obtain ⟨A11, c11, n11, d11, g11, k11⟩ : (Know.dig d).ok (u 11) w := dep hd 2 rfl
      rw [d11]
      refine Gv.call 14 #[nv d, .slice A11 n11 c11] rfl (by go_simp) ((K2.out w _ _ _ g11 k11).mono ?_)
      rintro e w' ⟨rfl, hb⟩
      exact ⟨_, rfl, rfl, hb⟩
    refine Obs.cons (fun u w hS hd => ?_) ?_
    · have d12 : u 12 = .bool true := dep hd 3 rfl
      rw [d12]
      exact Gv.run (.bool true) rfl (by go_simp) rfl
    refine Obs.cons (fun u w hS hd => ?_) ?_
    · have d13 : u 13 = .bool true := dep hd 4 rfl
      rw [d13]
      obtain ⟨-, -, -, -, s0, s1, s2, s3⟩ := HS.out w hS
      refine Gv.run (nv a) rfl (by go_simp) rfl
    refine Obs.cons (fun u w hS hd => ?_) ?_
    · have d13 : u 13 = .bool true := dep hd 4 rfl
      rw [d13]
      have d14 : u 14 = nv a := dep hd 5 rfl
      rw [d14]
      refine Gv.call 19 #[nv a] rfl (by go_simp) ((K3.out w).mono ?_)
      rintro e w' ⟨rfl, hb⟩
      exact ⟨_, rfl, rfl, hb⟩
    refine Obs.cons (fun u w hS hd => ?_) ?_
    · have d13 : u 13 = .bool true := dep hd 4 rfl
      rw [d13]
      exact Gv.run (.slice A n c) rfl (by go_simp) (⟨_, _, _, rfl, DD.out w hS, HC.out⟩)
    refine Obs.cons (fun u w hS hd => ?_) ?_
    · have d13 : u 13 = .bool true := dep hd 4 rfl
      rw [d13]
      obtain ⟨A16, c16, n16, d16, g16, k16⟩ : (Know.dig d).ok (u 16) w := dep hd 7 rfl
      rw [d16]
      refine Gv.call 20 #[.slice A16 n16 c16] rfl (by go_simp) ((K4.out w _ _ _ g16 k16).mono ?_)
      rintro e w' ⟨rfl, hb⟩
      exact ⟨_, rfl, rfl, hb⟩
    refine Obs.cons (fun u w hS hd => ?_) ?_
    · have d13 : u 13 = .bool true := dep hd 4 rfl
      rw [d13]
      have d15 : u 15 = nv d := dep hd 6 rfl
      rw [d15]
      have d17 : u 17 = nv d := dep hd 8 rfl
      rw [d17]
      exact Gv.run (.bool true) rfl (run_eq4 rfl rfl rfl hbd hbd (decide_eq_true rfl) w) rfl
    refine Obs.cons (fun u w hS hd => ?_) ?_
    · have d13 : u 13 = .bool true := dep hd 4 rfl
      rw [d13]
      have d18 : u 18 = .bool true := dep hd 9 rfl
      rw [d18]
      exact Gv.run (.bool true) rfl (by go_simp) rfl
    refine Obs.cons (fun u w hS hd => ?_) ?_
    · have d19 : u 19 = .bool true := dep hd 10 rfl
      rw [d19]
      exact Gv.run (.bool true) rfl (by go_simp) rfl
    refine Obs.cons (fun u w hS hd => ?_) ?_
    · have d20 : u 20 = .bool true := dep hd 11 rfl
      rw [d20]
      obtain ⟨-, -, -, -, s0, s1, s2, s3⟩ := HS.out w hS
      refine Gv.run (nv a) rfl (by go_simp) rfl
    refine Obs.cons (fun u w hS hd => ?_) ?_
    · have d20 : u 20 = .bool true := dep hd 11 rfl
      rw [d20]
      have d21 : u 21 = nv a := dep hd 12 rfl
      rw [d21]
      refine Gv.call 21 #[nv a] rfl (by go_simp) ((K5.out w).mono ?_)
      rintro e w' ⟨A, c, rfl, R, hb⟩
      exact ⟨_, rfl, ⟨A, c, by rw [hl], R⟩, hb⟩
    refine Obs.cons (fun u w hS hd => ?_) ?_
    · have d20 : u 20 = .bool true := dep hd 11 rfl
      rw [d20]
      obtain ⟨A22, c22, d22, g22⟩ : (Know.byt bs).ok (u 22) w := dep hd 13 rfl
      rw [hl] at d22
      rw [d22]
      exact Gv.run (.string ⟨bs.toArray⟩) rfl (run_conv rfl rfl (str32 w hl g22)) rfl
    refine Obs.cons (fun u w hS hd => ?_) ?_
    · have d20 : u 20 = .bool true := dep hd 11 rfl
      rw [d20]
      exact Gv.run (.slice A n c) rfl (by go_simp) (⟨_, _, _, rfl, DD.out w hS, HC.out⟩)
    refine Obs.cons (fun u w hS hd => ?_) ?_
    · have d20 : u 20 = .bool true := dep hd 11 rfl
      rw [d20]
      obtain ⟨A24, c24, n24, d24, g24, k24⟩ : (Know.dig d).ok (u 24) w := dep hd 15 rfl
      rw [d24]
      refine Gv.call 22 #[.slice A24 n24 c24, .int .i64 32] rfl (by go_simp) ((K6.out w _ _ _ g24 k24).mono ?_)
      rintro e w' ⟨A, c, rfl, R, hb⟩
      exact ⟨_, rfl, ⟨A, c, by rw [hl], R⟩, hb⟩
    refine Obs.cons (fun u w hS hd => ?_) ?_
    · have d20 : u 20 = .bool true := dep hd 11 rfl
      rw [d20]
      obtain ⟨A25, c25, d25, g25⟩ : (Know.byt bs).ok (u 25) w := dep hd 16 rfl
      rw [hl] at d25
      rw [d25]
      exact Gv.run (.string ⟨bs.toArray⟩) rfl (run_conv rfl rfl (str32 w hl g25)) rfl
    refine Obs.cons (fun u w hS hd => ?_) ?_
    · have d20 : u 20 = .bool true := dep hd 11 rfl
      rw [d20]
      have d23 : u 23 = .string ⟨bs.toArray⟩ := dep hd 14 rfl
      rw [d23]
      have d26 : u 26 = .string ⟨bs.toArray⟩ := dep hd 17 rfl
      rw [d26]
      exact Gv.run (.bool true) rfl (by go_simp) rfl
    refine Obs.cons (fun u w hS hd => ?_) ?_
    · have d20 : u 20 = .bool true := dep hd 11 rfl
      rw [d20]
      have d27 : u 27 = .bool true := dep hd 18 rfl
      rw [d27]
      exact Gv.run (.bool true) rfl (by go_simp) rfl
    refine Obs.cons (fun u w hS hd => ?_) ?_
    · have d28 : u 28 = .bool true := dep hd 19 rfl
      rw [d28]
      exact Gv.run (.bool true) rfl (by go_simp) rfl
    refine Obs.cons (fun u w hS hd => ?_) ?_
    · have d29 : u 29 = .bool true := dep hd 20 rfl
      rw [d29]
      refine Gv.call 23 #[] rfl (by go_simp) ((K7.out w).mono ?_)
      rintro e w' ⟨rfl, hb⟩
      exact ⟨_, rfl, rfl, hb⟩
    refine Obs.cons (fun u w hS hd => ?_) ?_
    · have d29 : u 29 = .bool true := dep hd 20 rfl
      rw [d29]
      refine Gv.call 24 #[] rfl (by go_simp) ((K8.out w).mono ?_)
      rintro e w' ⟨A, c, n, rfl, D, hb⟩
      exact ⟨_, rfl, ⟨A, c, n, rfl, D.dig, D.can⟩, hb⟩
    refine Obs.cons (fun u w hS hd => ?_) ?_
    · have d29 : u 29 = .bool true := dep hd 20 rfl
      rw [d29]
      obtain ⟨A31, c31, n31, d31, g31, k31⟩ : (Know.dig P).ok (u 31) w := dep hd 22 rfl
      rw [d31]
      refine Gv.call 20 #[.slice A31 n31 c31] rfl (by go_simp) ((K9.out w _ _ _ g31 k31).mono ?_)
      rintro e w' ⟨rfl, hb⟩
      exact ⟨_, rfl, rfl, hb⟩
    refine Obs.cons (fun u w hS hd => ?_) ?_
    · have d29 : u 29 = .bool true := dep hd 20 rfl
      rw [d29]
      have d30 : u 30 = nv P := dep hd 21 rfl
      rw [d30]
      have d32 : u 32 = nv P := dep hd 23 rfl
      rw [d32]
      exact Gv.run (.bool true) rfl (run_eq4 rfl rfl rfl hbP hbP (decide_eq_true rfl) w) rfl
    refine Obs.cons (fun u w hS hd => ?_) ?_
    · have d29 : u 29 = .bool true := dep hd 20 rfl
      rw [d29]
      have d33 : u 33 = .bool true := dep hd 24 rfl
      rw [d33]
      exact Gv.run (.bool true) rfl (by go_simp) rfl
    refine Obs.cons (fun u w hS hd => ?_) ?_
    · have d34 : u 34 = .bool true := dep hd 25 rfl
      rw [d34]
      exact Gv.run (.bool true) rfl (by go_simp) rfl
    refine Obs.cons (fun u w hS hd => ?_) ?_
    · have d35 : u 35 = .bool true := dep hd 26 rfl
      rw [d35]
      refine Gv.call 15 #[] rfl (by go_simp) ((awake_any w).mono ?_)
      rintro e w' ⟨rfl, hb⟩
      exact ⟨_, rfl, rfl, hb⟩
    refine Obs.cons (fun u w hS hd => ?_) ?_
    · have d35 : u 35 = .bool true := dep hd 26 rfl
      rw [d35]
      have d36 : u 36 = .bool true := dep hd 27 rfl
      rw [d36]
      exact Gv.run (.bool true) rfl (by go_simp) rfl
    exact Obs.nil
  · intro u w hS hd
    have dl : u 37 = .bool true := hd 28 (by decide)
    rw [dl]
    simp only [List.drop_succ_cons, List.drop_zero]
    go_wp2_with fail
    go_ret
    exact ⟨rfl, hc.trans (hS.mono hs)⟩
end Go.Proofs.Ytecphnhdcphgbaa
