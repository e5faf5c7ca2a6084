import Derived.Test.YtecphnhdcphgbaaSLaw
namespace Go.Proofs.Ytecphnhdcphgbaa
open Go Go.RowKit
attribute [local irreducible] wd by8
set_option maxRecDepth 20000
set_option maxHeartbeats 1600000 in
theorem sprod_gen {a b r x y : Nat}
    (k1 : ∀ w, Calls Try.prog 30 #[nv a, nv b] w fun e w' => e = .returned (nv r) ∧ Below w.heap.size w w')
    (k2 : ∀ w, Calls Try.prog 27 #[nv a] w fun e w' => ∃ A c n, e = .returned (.slice A n c) ∧ DOwn w' w.heap.size A c n x ∧ Below w.heap.size w w')
    (k3 : ∀ w, Calls Try.prog 27 #[nv b] w fun e w' => ∃ A c n, e = .returned (.slice A n c) ∧ DOwn w' w.heap.size A c n y ∧ Below w.heap.size w w')
    (k4 : ∀ (w : World) (A A' : Option Addr) (c c' n n' : Nat), Dig w w.heap.size A c n x → Can n x → Dig w w.heap.size A' c' n' y → Can n' y → Calls Try.prog 31 #[.slice A n c, .slice A' n' c'] w fun e w' => ∃ A c n, e = .returned (.slice A n c) ∧ DOwn w' w.heap.size A c n r ∧ Below w.heap.size w w')
    (k5 : ∀ (w : World) (A : Option Addr) (c n : Nat), Dig w w.heap.size A c n r → Can n r → Calls Try.prog 14 #[nv r, .slice A n c] w fun e w' => e = .returned (.bool true) ∧ Below w.heap.size w w') (w : World) :
    Calls Try.prog 6 #[nv a, nv b] w fun e w' => e = .returned (.bool true) ∧ Below w.heap.size w w' := by
  obtain ⟨v2, e2, oa, ob, hc⟩ := twoS a b w
  have K1 := Lib.hid k1
  have K2 := Lib.hid k2
  have K3 := Lib.hid k3
  have K4 := Lib.hid (fun (w : World) A A' c c' n n' h1 h2 h3 h4 => k4 w A A' c c' n n' h1 h2 h3 h4)
  have K5 := Lib.hid k5
  clear k1 k2 k3 k4 k5
  unfold nv
  go_enter Try.func6, Try.ntmps6
  go_upto_region 1 with fail
  rw [← e2]
  clear e2
  have HS := Lib.hid (tkeep44 oa ob)
  have hs := hc.size
  refine wp_region_inv 12 [5, 6, 7, 8, 9, 10, 11, 12, 13, 14, 15, 16] [.val (nv a), .val (nv b), .val (nv r), .val (nv a), .dig x, .val (nv b), .dig y, .dig r, .val (.bool true), .val (.bool true), .val (.bool true), .val (.bool true)] (fun wz => Below v2.heap.size v2 wz) (by kernel_rfl) (by kernel_rfl) (fun wz wz' hz hb => hz.trans (hb.mono hz.size)) ((Below.refl _ _).drew) (fun u => by simp only [puts, List.foldl_cons, List.foldl_nil]; go_simp; exact rfl) ?_ ?_
  · simp only [List.take_succ_cons, List.take_zero]
    refine Obs.cons (fun u w hS hd => ?_) ?_
    · obtain ⟨s0, s1, s2, s3, -⟩ := HS.out w hS
      refine Gv.run (nv a) rfl (by go_simp) rfl
    refine Obs.cons (fun u w hS hd => ?_) ?_
    · obtain ⟨-, -, -, -, s0, s1, s2, s3⟩ := HS.out w hS
      refine Gv.run (nv b) rfl (by go_simp) rfl
    refine Obs.cons (fun u w hS hd => ?_) ?_
    · have d5 : u 5 = nv a := dep hd 0 rfl
      rw [d5]
      have d6 : u 6 = nv b := dep hd 1 rfl
      rw [d6]
      refine Gv.call 30 #[nv a, nv b] rfl (by go_simp) ((K1.out w).mono ?_)
      rintro e w' ⟨rfl, hb⟩
      exact ⟨_, rfl, rfl, hb⟩
    refine Obs.cons (fun u w hS hd => ?_) ?_
    · obtain ⟨s0, s1, s2, s3, -⟩ := HS.out w hS
      refine Gv.run (nv a) rfl (by go_simp) rfl
    refine Obs.cons (fun u w hS hd => ?_) ?_
    · have d8 : u 8 = nv a := dep hd 3 rfl
      rw [d8]
      refine Gv.call 27 #[nv a] rfl (by go_simp) ((K2.out w).mono ?_)
      rintro e w' ⟨A, c, n, rfl, D, hb⟩
      exact ⟨_, rfl, ⟨A, c, n, rfl, D.dig, D.can⟩, hb⟩
    refine Obs.cons (fun u w hS hd => ?_) ?_
    · obtain ⟨-, -, -, -, s0, s1, s2, s3⟩ := HS.out w hS
      refine Gv.run (nv b) rfl (by go_simp) rfl
    refine Obs.cons (fun u w hS hd => ?_) ?_
    · have d10 : u 10 = nv b := dep hd 5 rfl
      rw [d10]
      refine Gv.call 27 #[nv b] rfl (by go_simp) ((K3.out w).mono ?_)
      rintro e w' ⟨A, c, n, rfl, D, hb⟩
      exact ⟨_, rfl, ⟨A, c, n, rfl, D.dig, D.can⟩, hb⟩
    refine Obs.cons (fun u w hS hd => ?_) ?_
    · obtain ⟨A9, c9, n9, d9, g9, k9⟩ : (Know.dig x).ok (u 9) w := dep hd 4 rfl
      rw [d9]
      obtain ⟨A11, c11, n11, d11, g11, k11⟩ : (Know.dig y).ok (u 11) w := dep hd 6 rfl
      rw [d11]
      refine Gv.call 31 #[.slice A9 n9 c9, .slice A11 n11 c11] rfl (by go_simp) ((K4.out w _ _ _ _ _ _ g9 k9 g11 k11).mono ?_)
      rintro e w' ⟨A, c, n, rfl, D, hb⟩
      exact ⟨_, rfl, ⟨A, c, n, rfl, D.dig, D.can⟩, hb⟩
    refine Obs.cons (fun u w hS hd => ?_) ?_
    · have d7 : u 7 = nv r := dep hd 2 rfl
      rw [d7]
      obtain ⟨A12, c12, n12, d12, g12, k12⟩ : (Know.dig r).ok (u 12) w := dep hd 7 rfl
      rw [d12]
      refine Gv.call 14 #[nv r, .slice A12 n12 c12] rfl (by go_simp) ((K5.out w _ _ _ g12 k12).mono ?_)
      rintro e w' ⟨rfl, hb⟩
      exact ⟨_, rfl, rfl, hb⟩
    refine Obs.cons (fun u w hS hd => ?_) ?_
    · have d13 : u 13 = .bool true := dep hd 8 rfl
      rw [d13]
      exact Gv.run (.bool true) rfl (by go_simp) rfl
    refine Obs.cons (fun u w hS hd => ?_) ?_
    · have d14 : u 14 = .bool true := dep hd 9 rfl
      rw [d14]
      refine Gv.call 15 #[] rfl (by go_simp) ((awake_any w).mono ?_)
      rintro e w' ⟨rfl, hb⟩
      exact ⟨_, rfl, rfl, hb⟩
    refine Obs.cons (fun u w hS hd => ?_) ?_
    · have d14 : u 14 = .bool true := dep hd 9 rfl
      rw [d14]
      have d15 : u 15 = .bool true := dep hd 10 rfl
      rw [d15]
      exact Gv.run (.bool true) rfl (by go_simp) rfl
    exact Obs.nil
  · intro u w hS hd
    have d16 : u 16 = .bool true := hd 11 (by decide)
    rw [d16]
    simp only [List.drop_succ_cons, List.drop_zero]
    go_wp2_with fail
    go_ret
    exact ⟨rfl, hc.trans (hS.mono hs)⟩
end Go.Proofs.Ytecphnhdcphgbaa
