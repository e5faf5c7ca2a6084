import Derived.Test.YtecphnhdcphgbaaSLaw
namespace Go.Proofs.Ytecphnhdcphgbaa
open Go Go.RowKit
attribute [local irreducible] wd by8
set_option maxRecDepth 20000
set_option maxHeartbeats 3200000 in
theorem ssum_gen {a b r s x y : Nat}
    (k1 : ∀ w, Calls Try.prog 25 #[nv a, nv b] w fun e w' => e = .returned (nv r) ∧ Below w.heap.size w w')
    (k2 : ∀ w, Calls Try.prog 27 #[nv a] w fun e w' => ∃ A c n, e = .returned (.slice A n c) ∧ DOwn w' w.heap.size A c n x ∧ Below w.heap.size w w')
    (k3 : ∀ w, Calls Try.prog 27 #[nv b] w fun e w' => ∃ A c n, e = .returned (.slice A n c) ∧ DOwn w' w.heap.size A c n y ∧ Below w.heap.size w w')
    (k4 : ∀ (w : World) (A A' : Option Addr) (c c' n n' : Nat), Dig w w.heap.size A c n x → Can n x → Dig w w.heap.size A' c' n' y → Can n' y → Calls Try.prog 26 #[.slice A n c, .slice A' n' c'] w fun e w' => ∃ A c n, e = .returned (.slice A n c) ∧ DOwn w' w.heap.size A c n r ∧ Below w.heap.size w w')
    (k5 : ∀ (w : World) (A : Option Addr) (c n : Nat), Dig w w.heap.size A c n r → Can n r → Calls Try.prog 14 #[nv r, .slice A n c] w fun e w' => e = .returned (.bool true) ∧ Below w.heap.size w w')
    (k6 : ∀ w, Calls Try.prog 28 #[nv a] w fun e w' => e = .returned (nv s) ∧ Below w.heap.size w w')
    (k7 : ∀ (w : World) (A : Option Addr) (c n : Nat), Dig w w.heap.size A c n x → Can n x → Calls Try.prog 29 #[.slice A n c] w fun e w' => ∃ A c n, e = .returned (.slice A n c) ∧ DOwn w' w.heap.size A c n s ∧ Below w.heap.size w w')
    (k8 : ∀ (w : World) (A : Option Addr) (c n : Nat), Dig w w.heap.size A c n s → Can n s → Calls Try.prog 14 #[nv s, .slice A n c] w fun e w' => e = .returned (.bool true) ∧ Below w.heap.size w w') (w : World) :
    Calls Try.prog 5 #[nv a, nv b] w fun e w' => e = .returned (.bool true) ∧ Below w.heap.size w w' := by
  obtain ⟨v2, e2, oa, ob, hc⟩ := twoS a b w
  have K1 := Lib.hid k1
  have K2 := Lib.hid k2
  have K3 := Lib.hid k3
  have K4 := Lib.hid k4
  have K5 := Lib.hid k5
  have K6 := Lib.hid k6
  have K7 := Lib.hid k7
  have K8 := Lib.hid k8
  clear k1 k2 k3 k4 k5 k6 k7 k8
  unfold nv
  go_enter Try.func5, Try.ntmps5
  go_upto_region 1 with fail
  rw [← e2]
  clear e2
  have HS := Lib.hid (tkeep44 oa ob)
  have hs := hc.size
  refine wp_region_inv 20 [5, 6, 7, 8, 9, 10, 11, 12, 13, 14, 15, 16, 17, 18, 19, 20, 21, 22, 23, 24] [.val (nv a), .val (nv b), .val (nv r), .val (nv a), .dig x, .val (nv b), .dig y, .dig r, .val (.bool true), .val (.bool true), .val (nv a), .val (nv s), .val (nv a), .dig x, .dig s, .val (.bool true), .val (.bool true), .val (.bool true), .val (.bool true), .val (.bool true)] (fun wz => Below v2.heap.size v2 wz) (by kernel_rfl) (by kernel_rfl) (fun wz wz' hz hb => hz.trans (hb.mono hz.size)) ((Below.refl _ _).drew) (fun u => by simp only [puts, List.foldl_cons, List.foldl_nil]; go_simp; exact rfl) ?_ ?_
  · simp only [List.take_succ_cons, List.take_zero]
    refine Obs.cons (fun u w hS hd => ?_) ?_
    · obtain ⟨s0, s1, s2, s3, -⟩ := HS.out w hS
      refine Gv.run (nv a) rfl (by go_simp) rfl
    refine Obs.cons (fun u w hS hd => ?_) ?_
    · obtain ⟨-, -, -, -, s0, s1, s2, s3⟩ := HS.out w hS
      refine Gv.run (nv b) rfl (by go_simp) rfl
    refine Obs.cons (fun u w hS hd => ?_) ?_
    · have d5 : u 5 = nv a := dep hd 0 rfl
      rw [d5]
      have d6 : u 6 = nv b := dep hd 1 rfl
      rw [d6]
      refine Gv.call 25 #[nv a, nv b] rfl (by go_simp) ((K1.out w).mono ?_)
      rintro e w' ⟨rfl, hb⟩
      exact ⟨_, rfl, rfl, hb⟩
    refine Obs.cons (fun u w hS hd => ?_) ?_
    · obtain ⟨s0, s1, s2, s3, -⟩ := HS.out w hS
      refine Gv.run (nv a) rfl (by go_simp) rfl
    refine Obs.cons (fun u w hS hd => ?_) ?_
    · have d8 : u 8 = nv a := dep hd 3 rfl
      rw [d8]
      refine Gv.call 27 #[nv a] rfl (by go_simp) ((K2.out w).mono ?_)
      rintro e w' ⟨A, c, n, rfl, D, hb⟩
      exact ⟨_, rfl, ⟨A, c, n, rfl, D.dig, D.can⟩, hb⟩
    refine Obs.cons (fun u w hS hd => ?_) ?_
    · obtain ⟨-, -, -, -, s0, s1, s2, s3⟩ := HS.out w hS
      refine Gv.run (nv b) rfl (by go_simp) rfl
    refine Obs.cons (fun u w hS hd => ?_) ?_
    · have d10 : u 10 = nv b := dep hd 5 rfl
      rw [d10]
      refine Gv.call 27 #[nv b] rfl (by go_simp) ((K3.out w).mono ?_)
      rintro e w' ⟨A, c, n, rfl, D, hb⟩
      exact ⟨_, rfl, ⟨A, c, n, rfl, D.dig, D.can⟩, hb⟩
    refine Obs.cons (fun u w hS hd => ?_) ?_
    · obtain ⟨A9, c9, n9, d9, g9, k9⟩ : (Know.dig x).ok (u 9) w := dep hd 4 rfl
      rw [d9]
      obtain ⟨A11, c11, n11, d11, g11, k11⟩ : (Know.dig y).ok (u 11) w := dep hd 6 rfl
      rw [d11]
      refine Gv.call 26 #[.slice A9 n9 c9, .slice A11 n11 c11] rfl (by go_simp) ((K4.out w _ _ _ _ _ _ g9 k9 g11 k11).mono ?_)
      rintro e w' ⟨A, c, n, rfl, D, hb⟩
      exact ⟨_, rfl, ⟨A, c, n, rfl, D.dig, D.can⟩, hb⟩
    refine Obs.cons (fun u w hS hd => ?_) ?_
    · have d7 : u 7 = nv r := dep hd 2 rfl
      rw [d7]
      obtain ⟨A12, c12, n12, d12, g12, k12⟩ : (Know.dig r).ok (u 12) w := dep hd 7 rfl
      rw [d12]
      refine Gv.call 14 #[nv r, .slice A12 n12 c12] rfl (by go_simp) ((K5.out w _ _ _ g12 k12).mono ?_)
      rintro e w' ⟨rfl, hb⟩
      exact ⟨_, rfl, rfl, hb⟩
    refine Obs.cons (fun u w hS hd => ?_) ?_
    · have d13 : u 13 = .bool true := dep hd 8 rfl
      rw [d13]
      exact Gv.run (.bool true) rfl (by go_simp) rfl
    refine Obs.cons (fun u w hS hd => ?_) ?_
    · have d14 : u 14 = .bool true := dep hd 9 rfl
      rw [d14]
      obtain ⟨s0, s1, s2, s3, -⟩ := HS.out w hS
      refine Gv.run (nv a) rfl (by go_simp) rfl
    refine Obs.cons (fun u w hS hd => ?_) ?_
    · have d14 : u 14 = .bool true := dep hd 9 rfl
      rw [d14]
      have d15 : u 15 = nv a := dep hd 10 rfl
      rw [d15]
      refine Gv.call 28 #[nv a] rfl (by go_simp) ((K6.out w).mono ?_)
      rintro e w' ⟨rfl, hb⟩
      exact ⟨_, rfl, rfl, hb⟩
    refine Obs.cons (fun u w hS hd => ?_) ?_
    · have d14 : u 14 = .bool true := dep hd 9 rfl
      rw [d14]
      obtain ⟨s0, s1, s2, s3, -⟩ := HS.out w hS
      refine Gv.run (nv a) rfl (by go_simp) rfl
    refine Obs.cons (fun u w hS hd => ?_) ?_
    · have d14 : u 14 = .bool true := dep hd 9 rfl
      rw [d14]
      have d17 : u 17 = nv a := dep hd 12 rfl
      rw [d17]
      refine Gv.call 27 #[nv a] rfl (by go_simp) ((K2.out w).mono ?_)
      rintro e w' ⟨A, c, n, rfl, D, hb⟩
      exact ⟨_, rfl, ⟨A, c, n, rfl, D.dig, D.can⟩, hb⟩
    refine Obs.cons (fun u w hS hd => ?_) ?_
    · have d14 : u 14 = .bool true := dep hd 9 rfl
      rw [d14]
      obtain ⟨A18, c18, n18, d18, g18, k18⟩ : (Know.dig x).ok (u 18) w := dep hd 13 rfl
      rw [d18]
      refine Gv.call 29 #[.slice A18 n18 c18] rfl (by go_simp) ((K7.out w _ _ _ g18 k18).mono ?_)
      rintro e w' ⟨A, c, n, rfl, D, hb⟩
      exact ⟨_, rfl, ⟨A, c, n, rfl, D.dig, D.can⟩, hb⟩
    refine Obs.cons (fun u w hS hd => ?_) ?_
    · have d14 : u 14 = .bool true := dep hd 9 rfl
      rw [d14]
      have d16 : u 16 = nv s := dep hd 11 rfl
      rw [d16]
      obtain ⟨A19, c19, n19, d19, g19, k19⟩ : (Know.dig s).ok (u 19) w := dep hd 14 rfl
      rw [d19]
      refine Gv.call 14 #[nv s, .slice A19 n19 c19] rfl (by go_simp) ((K8.out w _ _ _ g19 k19).mono ?_)
      rintro e w' ⟨rfl, hb⟩
      exact ⟨_, rfl, rfl, hb⟩
    refine Obs.cons (fun u w hS hd => ?_) ?_
    · have d14 : u 14 = .bool true := dep hd 9 rfl
      rw [d14]
      have d20 : u 20 = .bool true := dep hd 15 rfl
      rw [d20]
      exact Gv.run (.bool true) rfl (by go_simp) rfl
    refine Obs.cons (fun u w hS hd => ?_) ?_
    · have d21 : u 21 = .bool true := dep hd 16 rfl
      rw [d21]
      exact Gv.run (.bool true) rfl (by go_simp) rfl
    refine Obs.cons (fun u w hS hd => ?_) ?_
    · have d22 : u 22 = .bool true := dep hd 17 rfl
      rw [d22]
      refine Gv.call 15 #[] rfl (by go_simp) ((awake_any w).mono ?_)
      rintro e w' ⟨rfl, hb⟩
      exact ⟨_, rfl, rfl, hb⟩
    refine Obs.cons (fun u w hS hd => ?_) ?_
    · have d22 : u 22 = .bool true := dep hd 17 rfl
      rw [d22]
      have d23 : u 23 = .bool true := dep hd 18 rfl
      rw [d23]
      exact Gv.run (.bool true) rfl (by go_simp) rfl
    exact Obs.nil
  · intro u w hS hd
    have dl : u 24 = .bool true := hd 19 (by decide)
    rw [dl]
    simp only [List.drop_succ_cons, List.drop_zero]
    go_wp2_with fail
    go_ret
    exact ⟨rfl, hc.trans (hS.mono hs)⟩
end Go.Proofs.Ytecphnhdcphgbaa
