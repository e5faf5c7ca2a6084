/-
  Layer 8's CurveMultiples over contracts. Written by tools/gen_e21.py. By an AI agent.
-/
import Derived.Test.YtckdifcelgooeaaDoorE18
import Derived.Test.YtckdifcelgooeaaDoorNb
namespace Go.Proofs.YtckdifcelgooeaaDoor
open Go Go.RowKit
section
attribute [local irreducible] wd by8 d16 set16w fl rl setA t3f set8p set4w
set_option maxRecDepth 20000
set_option maxHeartbeats 6400000 in
theorem multiples_a {G : World → Prop} (hGn : ∀ w w', G w → Below w.heap.size w w' → G w') {x y m n : Nat}
    (k1 : ∀ w, G w → Calls Tryd.prog 12 #[prv x y] w fun e w' => e = .returned (.bool false) ∧ Below w.heap.size w w')
    (k9 : ∀ w, G w → Calls Tryd.prog 20 #[] w fun e w' => e = .returned (.bool true) ∧ Below w.heap.size w w')
    (w : World) (hG : G w) : Calls Tryd.prog 10 #[.int .u64 (m : Int), .int .u64 (n : Int), prv x y] w fun e w' => e = .returned (.bool true) ∧ Below w.heap.size w w' := by
  have K1 := Lib.hid k1
  have K9 := Lib.hid k9
  have GN := Lib.hid hGn
  have HG := Lib.hid hG
  clear hGn hG k1 k9
  obtain ⟨v1, ev1⟩ : ∃ v, v = w.alloc (A8p x y) := ⟨_, rfl⟩
  have bv1 : Below w.heap.size w v1 := by rw [ev1]; exact (Below.refl _ _).alloc (Nat.le_refl _) _
  have sv1 : v1.heap.size = w.heap.size + 1 := by rw [ev1]; simp
  obtain ⟨g5, eg5⟩ : ∃ g, g = w.heap.size := ⟨_, rfl⟩
  have o5 : O8 v1 w.heap.size g5 x y := by rw [eg5, ev1]; exact O8.new (Nat.le_refl _) x y
  have hc := bv1
  have hs1 := hc.size
  go_enter Tryd.func10, Tryd.ntmps10
  go_upto_region 1 with fail
  rw [← ev1]
  rw [show Value.pointer (some ⟨w.heap.size, 0, none⟩) = .pointer (some ⟨g5, 0, none⟩) by rw [eg5]]
  clear ev1 bv1 sv1 eg5 hs1
  replace HG := Lib.hid (GN.out _ _ HG.out hc)
  go_wp2_with (first | ((with_reducible refine p_load o5 ?_ ?_); rfl))
  go_at_call 12
  refine (K1.out _ HG.out).mono ?_
  rintro e y2 ⟨rfl, h0⟩
  replace o5 := O8.keep o5 h0
  replace HG := Lib.hid (GN.out _ _ HG.out h0)
  replace hc := hc.trans (h0.mono hc.size)
  clear h0
  go_wp2_with (first | ((with_reducible refine p_load o5 ?_ ?_); rfl))
  go_at_call 20
  refine (K9.out _ HG.out).mono ?_
  rintro e y3 ⟨rfl, h0⟩
  replace o5 := O8.keep o5 h0
  replace HG := Lib.hid (GN.out _ _ HG.out h0)
  replace hc := hc.trans (h0.mono hc.size)
  clear h0
  go_wp2_with fail
  go_ret
  exact ⟨rfl, hc⟩
set_option maxHeartbeats 6400000 in
theorem multiples_b {G : World → Prop} (hGn : ∀ w w', G w → Below w.heap.size w w' → G w') {x y m n a b k l s t z j X Y L : Nat} (hm : m < 18446744073709551616) (hn : n < 18446744073709551616) (hj : j < 18446744073709551616) (hs : s < W4) (ht : t < W4) (hz : z = j + 18446744073709551616 * 0)
    (hw : IntKind.u64.wrap ((m : Int) + (n : Int)) = (j : Int)) (hlt : ¬ j < m)
    (ko : ∀ w, Calls Tryd.prog 37 #[] w fun e w' => ∃ A c, e = .returned (.slice A 32 c) ∧ DOwn w' w.heap.size A c 32 L ∧ Below w.heap.size w w')
    (kf : ∀ (A : Option Addr) (c n : Nat) (w : World), Dig w w.heap.size A c n L → Can n L → Calls Tryd.prog 36 #[.slice A n c] w fun e w' => e = .returned (nv L) ∧ Below w.heap.size w w')
    (k1 : ∀ w, G w → Calls Tryd.prog 12 #[prv x y] w fun e w' => e = .returned (.bool true) ∧ Below w.heap.size w w')
    (k2 : ∀ w, G w → Calls Tryd.prog 28 #[nv m, prv x y] w fun e w' => e = .returned (.tuple #[prv a b, .int .i64 0]) ∧ Below w.heap.size w w')
    (k3 : ∀ w, G w → Calls Tryd.prog 28 #[nv n, prv x y] w fun e w' => e = .returned (.tuple #[prv k l, .int .i64 0]) ∧ Below w.heap.size w w')
    (k4 : ∀ w, G w → Calls Tryd.prog 24 #[prv a b, prv k l] w fun e w' => e = .returned (.tuple #[prv s t, .int .i64 0]) ∧ Below w.heap.size w w')
    (k5 : ∀ w, G w → Calls Tryd.prog 28 #[nv z, prv x y] w fun e w' => e = .returned (.tuple #[prv s t, .int .i64 0]) ∧ Below w.heap.size w w')
    (k6 : ∀ w, G w → Calls Tryd.prog 17 #[] w fun e w' => e = .returned (prv X Y) ∧ Below w.heap.size w w')
    (k7 : ∀ w, G w → Calls Tryd.prog 28 #[nv L, prv X Y] w fun e w' => e = .returned (.tuple #[prv 0 1, .int .i64 0]) ∧ Below w.heap.size w w')
    (k10 : ∀ w, Calls Tryd.prog 26 #[] w fun e w' => e = .returned (prv 0 1) ∧ Below w.heap.size w w')
    (k9 : ∀ w, G w → Calls Tryd.prog 20 #[] w fun e w' => e = .returned (.bool true) ∧ Below w.heap.size w w')
    (w : World) (hG : G w) : Calls Tryd.prog 10 #[.int .u64 (m : Int), .int .u64 (n : Int), prv x y] w fun e w' => e = .returned (.bool true) ∧ Below w.heap.size w w' := by
  have K1 := Lib.hid k1
  have K2 := Lib.hid k2
  have K3 := Lib.hid k3
  have K4 := Lib.hid k4
  have K5 := Lib.hid k5
  have K6 := Lib.hid k6
  have K7 := Lib.hid k7
  have K10 := Lib.hid k10
  have K9 := Lib.hid k9
  have GN := Lib.hid hGn
  have HG := Lib.hid hG
  clear hGn hG k1 k2 k3 k4 k5 k6 k7 k10 k9
  have KO := Lib.hid ko
  have KF := Lib.hid kf
  have EZ := Lib.hid hz
  have LM := Lib.hid hm
  have LN := Lib.hid hn
  have LJ := Lib.hid hj
  clear ko kf hz hm hn hj
  obtain ⟨v1, ev1⟩ : ∃ v, v = w.alloc (A8p x y) := ⟨_, rfl⟩
  have bv1 : Below w.heap.size w v1 := by rw [ev1]; exact (Below.refl _ _).alloc (Nat.le_refl _) _
  have sv1 : v1.heap.size = w.heap.size + 1 := by rw [ev1]; simp
  obtain ⟨g5, eg5⟩ : ∃ g, g = w.heap.size := ⟨_, rfl⟩
  have o5 : O8 v1 w.heap.size g5 x y := by rw [eg5, ev1]; exact O8.new (Nat.le_refl _) x y
  have hc := bv1
  have hs1 := hc.size
  go_enter Tryd.func10, Tryd.ntmps10
  go_upto_region 1 with fail
  rw [← ev1]
  rw [show Value.pointer (some ⟨w.heap.size, 0, none⟩) = .pointer (some ⟨g5, 0, none⟩) by rw [eg5]]
  clear ev1 bv1 sv1 eg5 hs1
  replace HG := Lib.hid (GN.out _ _ HG.out hc)
  go_wp2_with (first | ((with_reducible refine p_load o5 ?_ ?_); rfl))
  go_at_call 12
  refine (K1.out _ HG.out).mono ?_
  rintro e y2 ⟨rfl, h0⟩
  replace o5 := O8.keep o5 h0
  replace HG := Lib.hid (GN.out _ _ HG.out h0)
  replace hc := hc.trans (h0.mono hc.size)
  clear h0
  go_wp2_with (first | ((with_reducible refine p_load o5 ?_ ?_); rfl) | ((with_reducible refine N1_to (z := m) ?_ LM.out ?_); rfl))
  go_at_call 28
  refine (K2.out _ HG.out).mono ?_
  rintro e y3 ⟨rfl, h0⟩
  replace o5 := O8.keep o5 h0
  replace HG := Lib.hid (GN.out _ _ HG.out h0)
  replace hc := hc.trans (h0.mono hc.size)
  clear h0
  have on0 := O8.newz (w := y3) (Nat.le_refl _)
  have o7 := (on0.put a b).mono hc.size
  have hbz := ((Below.refl _ y3).alloc (Nat.le_refl _) Z8p).trans (on0.below a b)
  replace o5 := O8.keep o5 hbz
  replace HG := Lib.hid (GN.out _ _ HG.out hbz)
  replace hc := hc.trans (hbz.mono hc.size)
  clear hbz
  go_upto_region 4 with ((with_reducible refine p_store on0 a b ?_ ?_ ?_); rfl; rfl)
  obtain ⟨y4, ev⟩ : ∃ v, v = set8p (y3.alloc Z8p) y3.heap.size a b := ⟨_, rfl⟩
  obtain ⟨g7, eg⟩ : ∃ g, g = y3.heap.size := ⟨_, rfl⟩
  rw [← ev] at o5 o7 hc ⊢
  have HG2 : G y4 := by rw [ev]; exact HG.out
  replace HG := Lib.hid HG2
  clear HG2
  rw [← eg] at o7 ⊢
  clear ev eg on0
  go_wp2_with (first | ((with_reducible refine p_load o5 ?_ ?_); rfl) | ((with_reducible refine p_load o7 ?_ ?_); rfl) | ((with_reducible refine N1_to (z := n) ?_ LN.out ?_); rfl))
  go_at_call 28
  refine (K3.out _ HG.out).mono ?_
  rintro e y5 ⟨rfl, h0⟩
  replace o5 := O8.keep o5 h0
  replace o7 := O8.keep o7 h0
  replace HG := Lib.hid (GN.out _ _ HG.out h0)
  replace hc := hc.trans (h0.mono hc.size)
  clear h0
  have on0 := O8.newz (w := y5) (Nat.le_refl _)
  have o9 := (on0.put k l).mono hc.size
  have hbz := ((Below.refl _ y5).alloc (Nat.le_refl _) Z8p).trans (on0.below k l)
  replace o5 := O8.keep o5 hbz
  replace o7 := O8.keep o7 hbz
  replace HG := Lib.hid (GN.out _ _ HG.out hbz)
  replace hc := hc.trans (hbz.mono hc.size)
  clear hbz
  go_upto_region 5 with ((with_reducible refine p_store on0 k l ?_ ?_ ?_); rfl; rfl)
  obtain ⟨y6, ev⟩ : ∃ v, v = set8p (y5.alloc Z8p) y5.heap.size k l := ⟨_, rfl⟩
  obtain ⟨g9, eg⟩ : ∃ g, g = y5.heap.size := ⟨_, rfl⟩
  rw [← ev] at o5 o7 o9 hc ⊢
  have HG2 : G y6 := by rw [ev]; exact HG.out
  replace HG := Lib.hid HG2
  clear HG2
  rw [← eg] at o9 ⊢
  clear ev eg on0
  go_wp2_with (first | ((with_reducible refine p_load o5 ?_ ?_); rfl) | ((with_reducible refine p_load o7 ?_ ?_); rfl) | ((with_reducible refine p_load o9 ?_ ?_); rfl))
  go_at_call 24
  refine (K4.out _ HG.out).mono ?_
  rintro e y7 ⟨rfl, h0⟩
  replace o5 := O8.keep o5 h0
  replace o7 := O8.keep o7 h0
  replace o9 := O8.keep o9 h0
  replace HG := Lib.hid (GN.out _ _ HG.out h0)
  replace hc := hc.trans (h0.mono hc.size)
  clear h0
  have on0 := O8.newz (w := y7) (Nat.le_refl _)
  have o11 := (on0.put s t).mono hc.size
  have hbz := ((Below.refl _ y7).alloc (Nat.le_refl _) Z8p).trans (on0.below s t)
  replace o5 := O8.keep o5 hbz
  replace o7 := O8.keep o7 hbz
  replace o9 := O8.keep o9 hbz
  replace HG := Lib.hid (GN.out _ _ HG.out hbz)
  replace hc := hc.trans (hbz.mono hc.size)
  clear hbz
  go_upto_region 6 with ((with_reducible refine p_store on0 s t ?_ ?_ ?_); rfl; rfl)
  obtain ⟨y8, ev⟩ : ∃ v, v = set8p (y7.alloc Z8p) y7.heap.size s t := ⟨_, rfl⟩
  obtain ⟨g11, eg⟩ : ∃ g, g = y7.heap.size := ⟨_, rfl⟩
  rw [← ev] at o5 o7 o9 o11 hc ⊢
  have HG2 : G y8 := by rw [ev]; exact HG.out
  replace HG := Lib.hid HG2
  clear HG2
  rw [← eg] at o11 ⊢
  clear ev eg on0
  go_upto_region 9 with fail
  go_wp2_with (first | ((with_reducible refine p_load o5 ?_ ?_); rfl) | ((with_reducible refine p_load o7 ?_ ?_); rfl) | ((with_reducible refine p_load o9 ?_ ?_); rfl) | ((with_reducible refine p_load o11 ?_ ?_); rfl) | ((with_reducible refine N2_to (j := j) (c := 0) (z := z) ?_ ?_ LJ.out (by decide) EZ.out ?_); rfl; rfl))
  go_at_call 28
  refine (K5.out _ HG.out).mono ?_
  rintro e y9 ⟨rfl, h0⟩
  replace o5 := O8.keep o5 h0
  replace o7 := O8.keep o7 h0
  replace o9 := O8.keep o9 h0
  replace o11 := O8.keep o11 h0
  replace HG := Lib.hid (GN.out _ _ HG.out h0)
  replace hc := hc.trans (h0.mono hc.size)
  clear h0
  have on0 := O8.newz (w := y9) (Nat.le_refl _)
  have o15 := (on0.put s t).mono hc.size
  have hbz := ((Below.refl _ y9).alloc (Nat.le_refl _) Z8p).trans (on0.below s t)
  replace o5 := O8.keep o5 hbz
  replace o7 := O8.keep o7 hbz
  replace o9 := O8.keep o9 hbz
  replace o11 := O8.keep o11 hbz
  replace HG := Lib.hid (GN.out _ _ HG.out hbz)
  replace hc := hc.trans (hbz.mono hc.size)
  clear hbz
  go_upto_region 10 with ((with_reducible refine p_store on0 s t ?_ ?_ ?_); rfl; rfl)
  obtain ⟨y10, ev⟩ : ∃ v, v = set8p (y9.alloc Z8p) y9.heap.size s t := ⟨_, rfl⟩
  obtain ⟨g15, eg⟩ : ∃ g, g = y9.heap.size := ⟨_, rfl⟩
  rw [← ev] at o5 o7 o9 o11 o15 hc ⊢
  have HG2 : G y10 := by rw [ev]; exact HG.out
  replace HG := Lib.hid HG2
  clear HG2
  rw [← eg] at o15 ⊢
  clear ev eg on0
  go_wp2_with fail
  go_at_call 37
  refine (KO.out _).mono ?_
  rintro e vo ⟨Ao, co, rfl, Do, h0⟩
  replace o5 := O8.keep o5 h0
  replace o7 := O8.keep o7 h0
  replace o9 := O8.keep o9 h0
  replace o11 := O8.keep o11 h0
  replace o15 := O8.keep o15 h0
  replace HG := Lib.hid (GN.out _ _ HG.out h0)
  replace hc := hc.trans (h0.mono hc.size)
  clear h0
  go_wp2_with fail
  go_at_call 36
  refine (KF.out _ _ _ _ Do.dig Do.can).mono ?_
  rintro e vf ⟨rfl, h0⟩
  replace o5 := O8.keep o5 h0
  replace o7 := O8.keep o7 h0
  replace o9 := O8.keep o9 h0
  replace o11 := O8.keep o11 h0
  replace o15 := O8.keep o15 h0
  replace HG := Lib.hid (GN.out _ _ HG.out h0)
  replace hc := hc.trans (h0.mono hc.size)
  clear h0 Do
  go_wp2_with (first | ((with_reducible refine p_load o5 ?_ ?_); rfl) | ((with_reducible refine p_load o7 ?_ ?_); rfl) | ((with_reducible refine p_load o9 ?_ ?_); rfl) | ((with_reducible refine p_load o11 ?_ ?_); rfl) | ((with_reducible refine p_load o15 ?_ ?_); rfl))
  go_at_call 17
  refine (K6.out _ HG.out).mono ?_
  rintro e y11 ⟨rfl, h0⟩
  replace o5 := O8.keep o5 h0
  replace o7 := O8.keep o7 h0
  replace o9 := O8.keep o9 h0
  replace o11 := O8.keep o11 h0
  replace o15 := O8.keep o15 h0
  replace HG := Lib.hid (GN.out _ _ HG.out h0)
  replace hc := hc.trans (h0.mono hc.size)
  clear h0
  go_wp2_with (first | ((with_reducible refine p_load o5 ?_ ?_); rfl) | ((with_reducible refine p_load o7 ?_ ?_); rfl) | ((with_reducible refine p_load o9 ?_ ?_); rfl) | ((with_reducible refine p_load o11 ?_ ?_); rfl) | ((with_reducible refine p_load o15 ?_ ?_); rfl))
  go_at_call 28
  refine (K7.out _ HG.out).mono ?_
  rintro e y12 ⟨rfl, h0⟩
  replace o5 := O8.keep o5 h0
  replace o7 := O8.keep o7 h0
  replace o9 := O8.keep o9 h0
  replace o11 := O8.keep o11 h0
  replace o15 := O8.keep o15 h0
  replace HG := Lib.hid (GN.out _ _ HG.out h0)
  replace hc := hc.trans (h0.mono hc.size)
  clear h0
  have on0 := O8.newz (w := y12) (Nat.le_refl _)
  have o17 := (on0.put 0 1).mono hc.size
  have hbz := ((Below.refl _ y12).alloc (Nat.le_refl _) Z8p).trans (on0.below 0 1)
  replace o5 := O8.keep o5 hbz
  replace o7 := O8.keep o7 hbz
  replace o9 := O8.keep o9 hbz
  replace o11 := O8.keep o11 hbz
  replace o15 := O8.keep o15 hbz
  replace HG := Lib.hid (GN.out _ _ HG.out hbz)
  replace hc := hc.trans (hbz.mono hc.size)
  clear hbz
  go_upto_region 11 with ((with_reducible refine p_store on0 0 1 ?_ ?_ ?_); rfl; rfl)
  obtain ⟨y13, ev⟩ : ∃ v, v = set8p (y12.alloc Z8p) y12.heap.size 0 1 := ⟨_, rfl⟩
  obtain ⟨g17, eg⟩ : ∃ g, g = y12.heap.size := ⟨_, rfl⟩
  rw [← ev] at o5 o7 o9 o11 o15 o17 hc ⊢
  have HG2 : G y13 := by rw [ev]; exact HG.out
  replace HG := Lib.hid HG2
  clear HG2
  rw [← eg] at o17 ⊢
  clear ev eg on0
  refine wp_region_inv 31 [64, 65, 66, 67, 68, 69, 70, 71, 72, 73, 74, 75, 76, 77, 78, 79, 80, 81, 82, 83, 84, 85, 86, 87, 88, 89, 90, 91, 92, 93, 94] [.val (prv s t), .val (prv s t), .val (.bool true), .val (.bool true), .val (prv 0 1), .val (prv 0 1), .val (.bool true), .val (.bool true), .val (.bool true), .val (.int .i64 0), .val (.bool true), .val (.bool true), .val (.bool true), .val (.int .i64 0), .val (.bool true), .val (.bool true), .val (.bool true), .val (.int .i64 0), .val (.bool true), .val (.bool true), .val (.bool true), .val (.int .i64 0), .val (.bool true), .val (.bool true), .val (.bool true), .val (.int .i64 0), .val (.bool true), .val (.bool true), .val (.bool true), .val (.bool true), .val (.bool true)] (fun wz => Below y13.heap.size y13 wz) (by kernel_rfl) (by kernel_rfl) (fun wz wz' hz hb => hz.trans (hb.mono hz.size)) ((Below.refl _ _).drew) (fun u => by simp only [puts, List.foldl_cons, List.foldl_nil]; go_simp; exact rfl) ?_ ?_
  · simp only [List.take_succ_cons, List.take_zero]
    refine Obs.cons (fun u w hS hd => ?_) ?_
    · exact Gv.run (prv s t) rfl (run_pload rfl rfl (O8.keep o11 hS)) rfl
    refine Obs.cons (fun u w hS hd => ?_) ?_
    · exact Gv.run (prv s t) rfl (run_pload rfl rfl (O8.keep o15 hS)) rfl
    refine Obs.cons (fun u w hS hd => ?_) ?_
    · have d64 : u 64 = prv s t := dep hd 0 rfl
      rw [d64]
      have d65 : u 65 = prv s t := dep hd 1 rfl
      rw [d65]
      exact Gv.run (.bool true) rfl (run_eqT rfl rfl rfl hs ht hs ht (by simp) w) rfl
    refine Obs.cons (fun u w hS hd => ?_) ?_
    · have d66 : u 66 = .bool true := dep hd 2 rfl
      rw [d66]
      exact Gv.run (.bool true) rfl (by go_simp) rfl
    refine Obs.cons (fun u w hS hd => ?_) ?_
    · have d67 : u 67 = .bool true := dep hd 3 rfl
      rw [d67]
      exact Gv.run (prv 0 1) (by rfl) (run_pload rfl rfl (O8.keep o17 hS)) rfl
    refine Obs.cons (fun u w hS hd => ?_) ?_
    · have d67 : u 67 = .bool true := dep hd 3 rfl
      rw [d67]
      refine Gv.call 26 #[] rfl (by go_simp) ((K10.out w).mono ?_)
      rintro e w' ⟨rfl, hb⟩
      exact ⟨_, rfl, rfl, hb⟩
    refine Obs.cons (fun u w hS hd => ?_) ?_
    · have d67 : u 67 = .bool true := dep hd 3 rfl
      rw [d67]
      have d68 : u 68 = prv 0 1 := dep hd 4 rfl
      rw [d68]
      have d69 : u 69 = prv 0 1 := dep hd 5 rfl
      rw [d69]
      exact Gv.run (.bool true) (by rfl) (run_eqT rfl rfl rfl W4_pos W4_one W4_pos W4_one (by decide) w) rfl
    refine Obs.cons (fun u w hS hd => ?_) ?_
    · have d67 : u 67 = .bool true := dep hd 3 rfl
      rw [d67]
      have d70 : u 70 = .bool true := dep hd 6 rfl
      rw [d70]
      exact Gv.run (.bool true) rfl (by go_simp) rfl
    refine Obs.cons (fun u w hS hd => ?_) ?_
    · have d71 : u 71 = .bool true := dep hd 7 rfl
      rw [d71]
      exact Gv.run (.bool true) rfl (by go_simp) rfl
    refine Obs.cons (fun u w hS hd => ?_) ?_
    · have d72 : u 72 = .bool true := dep hd 8 rfl
      rw [d72]
      exact Gv.run (.int .i64 0) rfl (by go_simp) rfl
    refine Obs.cons (fun u w hS hd => ?_) ?_
    · have d72 : u 72 = .bool true := dep hd 8 rfl
      rw [d72]
      have d73 : u 73 = .int .i64 0 := dep hd 9 rfl
      rw [d73]
      exact Gv.run (.bool true) rfl (by go_simp) rfl
    refine Obs.cons (fun u w hS hd => ?_) ?_
    · have d72 : u 72 = .bool true := dep hd 8 rfl
      rw [d72]
      have d74 : u 74 = .bool true := dep hd 10 rfl
      rw [d74]
      exact Gv.run (.bool true) rfl (by go_simp) rfl
    refine Obs.cons (fun u w hS hd => ?_) ?_
    · have d75 : u 75 = .bool true := dep hd 11 rfl
      rw [d75]
      exact Gv.run (.bool true) rfl (by go_simp) rfl
    refine Obs.cons (fun u w hS hd => ?_) ?_
    · have d76 : u 76 = .bool true := dep hd 12 rfl
      rw [d76]
      exact Gv.run (.int .i64 0) rfl (by go_simp) rfl
    refine Obs.cons (fun u w hS hd => ?_) ?_
    · have d76 : u 76 = .bool true := dep hd 12 rfl
      rw [d76]
      have d77 : u 77 = .int .i64 0 := dep hd 13 rfl
      rw [d77]
      exact Gv.run (.bool true) rfl (by go_simp) rfl
    refine Obs.cons (fun u w hS hd => ?_) ?_
    · have d76 : u 76 = .bool true := dep hd 12 rfl
      rw [d76]
      have d78 : u 78 = .bool true := dep hd 14 rfl
      rw [d78]
      exact Gv.run (.bool true) rfl (by go_simp) rfl
    refine Obs.cons (fun u w hS hd => ?_) ?_
    · have d79 : u 79 = .bool true := dep hd 15 rfl
      rw [d79]
      exact Gv.run (.bool true) rfl (by go_simp) rfl
    refine Obs.cons (fun u w hS hd => ?_) ?_
    · have d80 : u 80 = .bool true := dep hd 16 rfl
      rw [d80]
      exact Gv.run (.int .i64 0) rfl (by go_simp) rfl
    refine Obs.cons (fun u w hS hd => ?_) ?_
    · have d80 : u 80 = .bool true := dep hd 16 rfl
      rw [d80]
      have d81 : u 81 = .int .i64 0 := dep hd 17 rfl
      rw [d81]
      exact Gv.run (.bool true) rfl (by go_simp) rfl
    refine Obs.cons (fun u w hS hd => ?_) ?_
    · have d80 : u 80 = .bool true := dep hd 16 rfl
      rw [d80]
      have d82 : u 82 = .bool true := dep hd 18 rfl
      rw [d82]
      exact Gv.run (.bool true) rfl (by go_simp) rfl
    refine Obs.cons (fun u w hS hd => ?_) ?_
    · have d83 : u 83 = .bool true := dep hd 19 rfl
      rw [d83]
      exact Gv.run (.bool true) rfl (by go_simp) rfl
    refine Obs.cons (fun u w hS hd => ?_) ?_
    · have d84 : u 84 = .bool true := dep hd 20 rfl
      rw [d84]
      exact Gv.run (.int .i64 0) rfl (by go_simp) rfl
    refine Obs.cons (fun u w hS hd => ?_) ?_
    · have d84 : u 84 = .bool true := dep hd 20 rfl
      rw [d84]
      have d85 : u 85 = .int .i64 0 := dep hd 21 rfl
      rw [d85]
      exact Gv.run (.bool true) rfl (by go_simp) rfl
    refine Obs.cons (fun u w hS hd => ?_) ?_
    · have d84 : u 84 = .bool true := dep hd 20 rfl
      rw [d84]
      have d86 : u 86 = .bool true := dep hd 22 rfl
      rw [d86]
      exact Gv.run (.bool true) rfl (by go_simp) rfl
    refine Obs.cons (fun u w hS hd => ?_) ?_
    · have d87 : u 87 = .bool true := dep hd 23 rfl
      rw [d87]
      exact Gv.run (.bool true) rfl (by go_simp) rfl
    refine Obs.cons (fun u w hS hd => ?_) ?_
    · have d88 : u 88 = .bool true := dep hd 24 rfl
      rw [d88]
      exact Gv.run (.int .i64 0) rfl (by go_simp) rfl
    refine Obs.cons (fun u w hS hd => ?_) ?_
    · have d88 : u 88 = .bool true := dep hd 24 rfl
      rw [d88]
      have d89 : u 89 = .int .i64 0 := dep hd 25 rfl
      rw [d89]
      exact Gv.run (.bool true) rfl (by go_simp) rfl
    refine Obs.cons (fun u w hS hd => ?_) ?_
    · have d88 : u 88 = .bool true := dep hd 24 rfl
      rw [d88]
      have d90 : u 90 = .bool true := dep hd 26 rfl
      rw [d90]
      exact Gv.run (.bool true) rfl (by go_simp) rfl
    refine Obs.cons (fun u w hS hd => ?_) ?_
    · have d91 : u 91 = .bool true := dep hd 27 rfl
      rw [d91]
      exact Gv.run (.bool true) rfl (by go_simp) rfl
    refine Obs.cons (fun u w hS hd => ?_) ?_
    · have d92 : u 92 = .bool true := dep hd 28 rfl
      rw [d92]
      refine Gv.call 20 #[] rfl (by go_simp) ((K9.out w (GN.out _ _ HG.out hS)).mono ?_)
      rintro e w' ⟨rfl, hb⟩
      exact ⟨_, rfl, rfl, hb⟩
    refine Obs.cons (fun u w hS hd => ?_) ?_
    · have d92 : u 92 = .bool true := dep hd 28 rfl
      rw [d92]
      have d93 : u 93 = .bool true := dep hd 29 rfl
      rw [d93]
      exact Gv.run (.bool true) rfl (by go_simp) rfl
    exact Obs.nil
  intro uy14 y14 hS hd
  have d94 : uy14 94 = .bool true := hd 30 (by decide)
  rw [d94]
  replace o5 := O8.keep o5 hS
  replace o7 := O8.keep o7 hS
  replace o9 := O8.keep o9 hS
  replace o11 := O8.keep o11 hS
  replace o15 := O8.keep o15 hS
  replace o17 := O8.keep o17 hS
  replace HG := Lib.hid (GN.out _ _ HG.out hS)
  replace hc := hc.trans (hS.mono hc.size)
  clear hS hd d94
  simp only [List.drop_succ_cons, List.drop_zero]
  go_wp2_with fail
  go_ret
  exact ⟨rfl, hc⟩
set_option maxHeartbeats 6400000 in
theorem multiples_c {G : World → Prop} (hGn : ∀ w w', G w → Below w.heap.size w w' → G w') {x y m n a b k l s t z j X Y L : Nat} (hm : m < 18446744073709551616) (hn : n < 18446744073709551616) (hj : j < 18446744073709551616) (hs : s < W4) (ht : t < W4) (hz : z = j + 18446744073709551616 * 1)
    (hw : IntKind.u64.wrap ((m : Int) + (n : Int)) = (j : Int)) (hlt : j < m)
    (ko : ∀ w, Calls Tryd.prog 37 #[] w fun e w' => ∃ A c, e = .returned (.slice A 32 c) ∧ DOwn w' w.heap.size A c 32 L ∧ Below w.heap.size w w')
    (kf : ∀ (A : Option Addr) (c n : Nat) (w : World), Dig w w.heap.size A c n L → Can n L → Calls Tryd.prog 36 #[.slice A n c] w fun e w' => e = .returned (nv L) ∧ Below w.heap.size w w')
    (k1 : ∀ w, G w → Calls Tryd.prog 12 #[prv x y] w fun e w' => e = .returned (.bool true) ∧ Below w.heap.size w w')
    (k2 : ∀ w, G w → Calls Tryd.prog 28 #[nv m, prv x y] w fun e w' => e = .returned (.tuple #[prv a b, .int .i64 0]) ∧ Below w.heap.size w w')
    (k3 : ∀ w, G w → Calls Tryd.prog 28 #[nv n, prv x y] w fun e w' => e = .returned (.tuple #[prv k l, .int .i64 0]) ∧ Below w.heap.size w w')
    (k4 : ∀ w, G w → Calls Tryd.prog 24 #[prv a b, prv k l] w fun e w' => e = .returned (.tuple #[prv s t, .int .i64 0]) ∧ Below w.heap.size w w')
    (k5 : ∀ w, G w → Calls Tryd.prog 28 #[nv z, prv x y] w fun e w' => e = .returned (.tuple #[prv s t, .int .i64 0]) ∧ Below w.heap.size w w')
    (k6 : ∀ w, G w → Calls Tryd.prog 17 #[] w fun e w' => e = .returned (prv X Y) ∧ Below w.heap.size w w')
    (k7 : ∀ w, G w → Calls Tryd.prog 28 #[nv L, prv X Y] w fun e w' => e = .returned (.tuple #[prv 0 1, .int .i64 0]) ∧ Below w.heap.size w w')
    (k10 : ∀ w, Calls Tryd.prog 26 #[] w fun e w' => e = .returned (prv 0 1) ∧ Below w.heap.size w w')
    (k9 : ∀ w, G w → Calls Tryd.prog 20 #[] w fun e w' => e = .returned (.bool true) ∧ Below w.heap.size w w')
    (w : World) (hG : G w) : Calls Tryd.prog 10 #[.int .u64 (m : Int), .int .u64 (n : Int), prv x y] w fun e w' => e = .returned (.bool true) ∧ Below w.heap.size w w' := by
  have K1 := Lib.hid k1
  have K2 := Lib.hid k2
  have K3 := Lib.hid k3
  have K4 := Lib.hid k4
  have K5 := Lib.hid k5
  have K6 := Lib.hid k6
  have K7 := Lib.hid k7
  have K10 := Lib.hid k10
  have K9 := Lib.hid k9
  have GN := Lib.hid hGn
  have HG := Lib.hid hG
  clear hGn hG k1 k2 k3 k4 k5 k6 k7 k10 k9
  have KO := Lib.hid ko
  have KF := Lib.hid kf
  have EZ := Lib.hid hz
  have LM := Lib.hid hm
  have LN := Lib.hid hn
  have LJ := Lib.hid hj
  clear ko kf hz hm hn hj
  obtain ⟨v1, ev1⟩ : ∃ v, v = w.alloc (A8p x y) := ⟨_, rfl⟩
  have bv1 : Below w.heap.size w v1 := by rw [ev1]; exact (Below.refl _ _).alloc (Nat.le_refl _) _
  have sv1 : v1.heap.size = w.heap.size + 1 := by rw [ev1]; simp
  obtain ⟨g5, eg5⟩ : ∃ g, g = w.heap.size := ⟨_, rfl⟩
  have o5 : O8 v1 w.heap.size g5 x y := by rw [eg5, ev1]; exact O8.new (Nat.le_refl _) x y
  have hc := bv1
  have hs1 := hc.size
  go_enter Tryd.func10, Tryd.ntmps10
  go_upto_region 1 with fail
  rw [← ev1]
  rw [show Value.pointer (some ⟨w.heap.size, 0, none⟩) = .pointer (some ⟨g5, 0, none⟩) by rw [eg5]]
  clear ev1 bv1 sv1 eg5 hs1
  replace HG := Lib.hid (GN.out _ _ HG.out hc)
  go_wp2_with (first | ((with_reducible refine p_load o5 ?_ ?_); rfl))
  go_at_call 12
  refine (K1.out _ HG.out).mono ?_
  rintro e y2 ⟨rfl, h0⟩
  replace o5 := O8.keep o5 h0
  replace HG := Lib.hid (GN.out _ _ HG.out h0)
  replace hc := hc.trans (h0.mono hc.size)
  clear h0
  go_wp2_with (first | ((with_reducible refine p_load o5 ?_ ?_); rfl) | ((with_reducible refine N1_to (z := m) ?_ LM.out ?_); rfl))
  go_at_call 28
  refine (K2.out _ HG.out).mono ?_
  rintro e y3 ⟨rfl, h0⟩
  replace o5 := O8.keep o5 h0
  replace HG := Lib.hid (GN.out _ _ HG.out h0)
  replace hc := hc.trans (h0.mono hc.size)
  clear h0
  have on0 := O8.newz (w := y3) (Nat.le_refl _)
  have o7 := (on0.put a b).mono hc.size
  have hbz := ((Below.refl _ y3).alloc (Nat.le_refl _) Z8p).trans (on0.below a b)
  replace o5 := O8.keep o5 hbz
  replace HG := Lib.hid (GN.out _ _ HG.out hbz)
  replace hc := hc.trans (hbz.mono hc.size)
  clear hbz
  go_upto_region 4 with ((with_reducible refine p_store on0 a b ?_ ?_ ?_); rfl; rfl)
  obtain ⟨y4, ev⟩ : ∃ v, v = set8p (y3.alloc Z8p) y3.heap.size a b := ⟨_, rfl⟩
  obtain ⟨g7, eg⟩ : ∃ g, g = y3.heap.size := ⟨_, rfl⟩
  rw [← ev] at o5 o7 hc ⊢
  have HG2 : G y4 := by rw [ev]; exact HG.out
  replace HG := Lib.hid HG2
  clear HG2
  rw [← eg] at o7 ⊢
  clear ev eg on0
  go_wp2_with (first | ((with_reducible refine p_load o5 ?_ ?_); rfl) | ((with_reducible refine p_load o7 ?_ ?_); rfl) | ((with_reducible refine N1_to (z := n) ?_ LN.out ?_); rfl))
  go_at_call 28
  refine (K3.out _ HG.out).mono ?_
  rintro e y5 ⟨rfl, h0⟩
  replace o5 := O8.keep o5 h0
  replace o7 := O8.keep o7 h0
  replace HG := Lib.hid (GN.out _ _ HG.out h0)
  replace hc := hc.trans (h0.mono hc.size)
  clear h0
  have on0 := O8.newz (w := y5) (Nat.le_refl _)
  have o9 := (on0.put k l).mono hc.size
  have hbz := ((Below.refl _ y5).alloc (Nat.le_refl _) Z8p).trans (on0.below k l)
  replace o5 := O8.keep o5 hbz
  replace o7 := O8.keep o7 hbz
  replace HG := Lib.hid (GN.out _ _ HG.out hbz)
  replace hc := hc.trans (hbz.mono hc.size)
  clear hbz
  go_upto_region 5 with ((with_reducible refine p_store on0 k l ?_ ?_ ?_); rfl; rfl)
  obtain ⟨y6, ev⟩ : ∃ v, v = set8p (y5.alloc Z8p) y5.heap.size k l := ⟨_, rfl⟩
  obtain ⟨g9, eg⟩ : ∃ g, g = y5.heap.size := ⟨_, rfl⟩
  rw [← ev] at o5 o7 o9 hc ⊢
  have HG2 : G y6 := by rw [ev]; exact HG.out
  replace HG := Lib.hid HG2
  clear HG2
  rw [← eg] at o9 ⊢
  clear ev eg on0
  go_wp2_with (first | ((with_reducible refine p_load o5 ?_ ?_); rfl) | ((with_reducible refine p_load o7 ?_ ?_); rfl) | ((with_reducible refine p_load o9 ?_ ?_); rfl))
  go_at_call 24
  refine (K4.out _ HG.out).mono ?_
  rintro e y7 ⟨rfl, h0⟩
  replace o5 := O8.keep o5 h0
  replace o7 := O8.keep o7 h0
  replace o9 := O8.keep o9 h0
  replace HG := Lib.hid (GN.out _ _ HG.out h0)
  replace hc := hc.trans (h0.mono hc.size)
  clear h0
  have on0 := O8.newz (w := y7) (Nat.le_refl _)
  have o11 := (on0.put s t).mono hc.size
  have hbz := ((Below.refl _ y7).alloc (Nat.le_refl _) Z8p).trans (on0.below s t)
  replace o5 := O8.keep o5 hbz
  replace o7 := O8.keep o7 hbz
  replace o9 := O8.keep o9 hbz
  replace HG := Lib.hid (GN.out _ _ HG.out hbz)
  replace hc := hc.trans (hbz.mono hc.size)
  clear hbz
  go_upto_region 6 with ((with_reducible refine p_store on0 s t ?_ ?_ ?_); rfl; rfl)
  obtain ⟨y8, ev⟩ : ∃ v, v = set8p (y7.alloc Z8p) y7.heap.size s t := ⟨_, rfl⟩
  obtain ⟨g11, eg⟩ : ∃ g, g = y7.heap.size := ⟨_, rfl⟩
  rw [← ev] at o5 o7 o9 o11 hc ⊢
  have HG2 : G y8 := by rw [ev]; exact HG.out
  replace HG := Lib.hid HG2
  clear HG2
  rw [← eg] at o11 ⊢
  clear ev eg on0
  go_upto_region 9 with fail
  go_wp2_with (first | ((with_reducible refine p_load o5 ?_ ?_); rfl) | ((with_reducible refine p_load o7 ?_ ?_); rfl) | ((with_reducible refine p_load o9 ?_ ?_); rfl) | ((with_reducible refine p_load o11 ?_ ?_); rfl) | ((with_reducible refine N2_to (j := j) (c := 1) (z := z) ?_ ?_ LJ.out (by decide) EZ.out ?_); rfl; rfl))
  go_at_call 28
  refine (K5.out _ HG.out).mono ?_
  rintro e y9 ⟨rfl, h0⟩
  replace o5 := O8.keep o5 h0
  replace o7 := O8.keep o7 h0
  replace o9 := O8.keep o9 h0
  replace o11 := O8.keep o11 h0
  replace HG := Lib.hid (GN.out _ _ HG.out h0)
  replace hc := hc.trans (h0.mono hc.size)
  clear h0
  have on0 := O8.newz (w := y9) (Nat.le_refl _)
  have o15 := (on0.put s t).mono hc.size
  have hbz := ((Below.refl _ y9).alloc (Nat.le_refl _) Z8p).trans (on0.below s t)
  replace o5 := O8.keep o5 hbz
  replace o7 := O8.keep o7 hbz
  replace o9 := O8.keep o9 hbz
  replace o11 := O8.keep o11 hbz
  replace HG := Lib.hid (GN.out _ _ HG.out hbz)
  replace hc := hc.trans (hbz.mono hc.size)
  clear hbz
  go_upto_region 10 with ((with_reducible refine p_store on0 s t ?_ ?_ ?_); rfl; rfl)
  obtain ⟨y10, ev⟩ : ∃ v, v = set8p (y9.alloc Z8p) y9.heap.size s t := ⟨_, rfl⟩
  obtain ⟨g15, eg⟩ : ∃ g, g = y9.heap.size := ⟨_, rfl⟩
  rw [← ev] at o5 o7 o9 o11 o15 hc ⊢
  have HG2 : G y10 := by rw [ev]; exact HG.out
  replace HG := Lib.hid HG2
  clear HG2
  rw [← eg] at o15 ⊢
  clear ev eg on0
  go_wp2_with fail
  go_at_call 37
  refine (KO.out _).mono ?_
  rintro e vo ⟨Ao, co, rfl, Do, h0⟩
  replace o5 := O8.keep o5 h0
  replace o7 := O8.keep o7 h0
  replace o9 := O8.keep o9 h0
  replace o11 := O8.keep o11 h0
  replace o15 := O8.keep o15 h0
  replace HG := Lib.hid (GN.out _ _ HG.out h0)
  replace hc := hc.trans (h0.mono hc.size)
  clear h0
  go_wp2_with fail
  go_at_call 36
  refine (KF.out _ _ _ _ Do.dig Do.can).mono ?_
  rintro e vf ⟨rfl, h0⟩
  replace o5 := O8.keep o5 h0
  replace o7 := O8.keep o7 h0
  replace o9 := O8.keep o9 h0
  replace o11 := O8.keep o11 h0
  replace o15 := O8.keep o15 h0
  replace HG := Lib.hid (GN.out _ _ HG.out h0)
  replace hc := hc.trans (h0.mono hc.size)
  clear h0 Do
  go_wp2_with (first | ((with_reducible refine p_load o5 ?_ ?_); rfl) | ((with_reducible refine p_load o7 ?_ ?_); rfl) | ((with_reducible refine p_load o9 ?_ ?_); rfl) | ((with_reducible refine p_load o11 ?_ ?_); rfl) | ((with_reducible refine p_load o15 ?_ ?_); rfl))
  go_at_call 17
  refine (K6.out _ HG.out).mono ?_
  rintro e y11 ⟨rfl, h0⟩
  replace o5 := O8.keep o5 h0
  replace o7 := O8.keep o7 h0
  replace o9 := O8.keep o9 h0
  replace o11 := O8.keep o11 h0
  replace o15 := O8.keep o15 h0
  replace HG := Lib.hid (GN.out _ _ HG.out h0)
  replace hc := hc.trans (h0.mono hc.size)
  clear h0
  go_wp2_with (first | ((with_reducible refine p_load o5 ?_ ?_); rfl) | ((with_reducible refine p_load o7 ?_ ?_); rfl) | ((with_reducible refine p_load o9 ?_ ?_); rfl) | ((with_reducible refine p_load o11 ?_ ?_); rfl) | ((with_reducible refine p_load o15 ?_ ?_); rfl))
  go_at_call 28
  refine (K7.out _ HG.out).mono ?_
  rintro e y12 ⟨rfl, h0⟩
  replace o5 := O8.keep o5 h0
  replace o7 := O8.keep o7 h0
  replace o9 := O8.keep o9 h0
  replace o11 := O8.keep o11 h0
  replace o15 := O8.keep o15 h0
  replace HG := Lib.hid (GN.out _ _ HG.out h0)
  replace hc := hc.trans (h0.mono hc.size)
  clear h0
  have on0 := O8.newz (w := y12) (Nat.le_refl _)
  have o17 := (on0.put 0 1).mono hc.size
  have hbz := ((Below.refl _ y12).alloc (Nat.le_refl _) Z8p).trans (on0.below 0 1)
  replace o5 := O8.keep o5 hbz
  replace o7 := O8.keep o7 hbz
  replace o9 := O8.keep o9 hbz
  replace o11 := O8.keep o11 hbz
  replace o15 := O8.keep o15 hbz
  replace HG := Lib.hid (GN.out _ _ HG.out hbz)
  replace hc := hc.trans (hbz.mono hc.size)
  clear hbz
  go_upto_region 11 with ((with_reducible refine p_store on0 0 1 ?_ ?_ ?_); rfl; rfl)
  obtain ⟨y13, ev⟩ : ∃ v, v = set8p (y12.alloc Z8p) y12.heap.size 0 1 := ⟨_, rfl⟩
  obtain ⟨g17, eg⟩ : ∃ g, g = y12.heap.size := ⟨_, rfl⟩
  rw [← ev] at o5 o7 o9 o11 o15 o17 hc ⊢
  have HG2 : G y13 := by rw [ev]; exact HG.out
  replace HG := Lib.hid HG2
  clear HG2
  rw [← eg] at o17 ⊢
  clear ev eg on0
  refine wp_region_inv 31 [64, 65, 66, 67, 68, 69, 70, 71, 72, 73, 74, 75, 76, 77, 78, 79, 80, 81, 82, 83, 84, 85, 86, 87, 88, 89, 90, 91, 92, 93, 94] [.val (prv s t), .val (prv s t), .val (.bool true), .val (.bool true), .val (prv 0 1), .val (prv 0 1), .val (.bool true), .val (.bool true), .val (.bool true), .val (.int .i64 0), .val (.bool true), .val (.bool true), .val (.bool true), .val (.int .i64 0), .val (.bool true), .val (.bool true), .val (.bool true), .val (.int .i64 0), .val (.bool true), .val (.bool true), .val (.bool true), .val (.int .i64 0), .val (.bool true), .val (.bool true), .val (.bool true), .val (.int .i64 0), .val (.bool true), .val (.bool true), .val (.bool true), .val (.bool true), .val (.bool true)] (fun wz => Below y13.heap.size y13 wz) (by kernel_rfl) (by kernel_rfl) (fun wz wz' hz hb => hz.trans (hb.mono hz.size)) ((Below.refl _ _).drew) (fun u => by simp only [puts, List.foldl_cons, List.foldl_nil]; go_simp; exact rfl) ?_ ?_
  · simp only [List.take_succ_cons, List.take_zero]
    refine Obs.cons (fun u w hS hd => ?_) ?_
    · exact Gv.run (prv s t) rfl (run_pload rfl rfl (O8.keep o11 hS)) rfl
    refine Obs.cons (fun u w hS hd => ?_) ?_
    · exact Gv.run (prv s t) rfl (run_pload rfl rfl (O8.keep o15 hS)) rfl
    refine Obs.cons (fun u w hS hd => ?_) ?_
    · have d64 : u 64 = prv s t := dep hd 0 rfl
      rw [d64]
      have d65 : u 65 = prv s t := dep hd 1 rfl
      rw [d65]
      exact Gv.run (.bool true) rfl (run_eqT rfl rfl rfl hs ht hs ht (by simp) w) rfl
    refine Obs.cons (fun u w hS hd => ?_) ?_
    · have d66 : u 66 = .bool true := dep hd 2 rfl
      rw [d66]
      exact Gv.run (.bool true) rfl (by go_simp) rfl
    refine Obs.cons (fun u w hS hd => ?_) ?_
    · have d67 : u 67 = .bool true := dep hd 3 rfl
      rw [d67]
      exact Gv.run (prv 0 1) (by rfl) (run_pload rfl rfl (O8.keep o17 hS)) rfl
    refine Obs.cons (fun u w hS hd => ?_) ?_
    · have d67 : u 67 = .bool true := dep hd 3 rfl
      rw [d67]
      refine Gv.call 26 #[] rfl (by go_simp) ((K10.out w).mono ?_)
      rintro e w' ⟨rfl, hb⟩
      exact ⟨_, rfl, rfl, hb⟩
    refine Obs.cons (fun u w hS hd => ?_) ?_
    · have d67 : u 67 = .bool true := dep hd 3 rfl
      rw [d67]
      have d68 : u 68 = prv 0 1 := dep hd 4 rfl
      rw [d68]
      have d69 : u 69 = prv 0 1 := dep hd 5 rfl
      rw [d69]
      exact Gv.run (.bool true) (by rfl) (run_eqT rfl rfl rfl W4_pos W4_one W4_pos W4_one (by decide) w) rfl
    refine Obs.cons (fun u w hS hd => ?_) ?_
    · have d67 : u 67 = .bool true := dep hd 3 rfl
      rw [d67]
      have d70 : u 70 = .bool true := dep hd 6 rfl
      rw [d70]
      exact Gv.run (.bool true) rfl (by go_simp) rfl
    refine Obs.cons (fun u w hS hd => ?_) ?_
    · have d71 : u 71 = .bool true := dep hd 7 rfl
      rw [d71]
      exact Gv.run (.bool true) rfl (by go_simp) rfl
    refine Obs.cons (fun u w hS hd => ?_) ?_
    · have d72 : u 72 = .bool true := dep hd 8 rfl
      rw [d72]
      exact Gv.run (.int .i64 0) rfl (by go_simp) rfl
    refine Obs.cons (fun u w hS hd => ?_) ?_
    · have d72 : u 72 = .bool true := dep hd 8 rfl
      rw [d72]
      have d73 : u 73 = .int .i64 0 := dep hd 9 rfl
      rw [d73]
      exact Gv.run (.bool true) rfl (by go_simp) rfl
    refine Obs.cons (fun u w hS hd => ?_) ?_
    · have d72 : u 72 = .bool true := dep hd 8 rfl
      rw [d72]
      have d74 : u 74 = .bool true := dep hd 10 rfl
      rw [d74]
      exact Gv.run (.bool true) rfl (by go_simp) rfl
    refine Obs.cons (fun u w hS hd => ?_) ?_
    · have d75 : u 75 = .bool true := dep hd 11 rfl
      rw [d75]
      exact Gv.run (.bool true) rfl (by go_simp) rfl
    refine Obs.cons (fun u w hS hd => ?_) ?_
    · have d76 : u 76 = .bool true := dep hd 12 rfl
      rw [d76]
      exact Gv.run (.int .i64 0) rfl (by go_simp) rfl
    refine Obs.cons (fun u w hS hd => ?_) ?_
    · have d76 : u 76 = .bool true := dep hd 12 rfl
      rw [d76]
      have d77 : u 77 = .int .i64 0 := dep hd 13 rfl
      rw [d77]
      exact Gv.run (.bool true) rfl (by go_simp) rfl
    refine Obs.cons (fun u w hS hd => ?_) ?_
    · have d76 : u 76 = .bool true := dep hd 12 rfl
      rw [d76]
      have d78 : u 78 = .bool true := dep hd 14 rfl
      rw [d78]
      exact Gv.run (.bool true) rfl (by go_simp) rfl
    refine Obs.cons (fun u w hS hd => ?_) ?_
    · have d79 : u 79 = .bool true := dep hd 15 rfl
      rw [d79]
      exact Gv.run (.bool true) rfl (by go_simp) rfl
    refine Obs.cons (fun u w hS hd => ?_) ?_
    · have d80 : u 80 = .bool true := dep hd 16 rfl
      rw [d80]
      exact Gv.run (.int .i64 0) rfl (by go_simp) rfl
    refine Obs.cons (fun u w hS hd => ?_) ?_
    · have d80 : u 80 = .bool true := dep hd 16 rfl
      rw [d80]
      have d81 : u 81 = .int .i64 0 := dep hd 17 rfl
      rw [d81]
      exact Gv.run (.bool true) rfl (by go_simp) rfl
    refine Obs.cons (fun u w hS hd => ?_) ?_
    · have d80 : u 80 = .bool true := dep hd 16 rfl
      rw [d80]
      have d82 : u 82 = .bool true := dep hd 18 rfl
      rw [d82]
      exact Gv.run (.bool true) rfl (by go_simp) rfl
    refine Obs.cons (fun u w hS hd => ?_) ?_
    · have d83 : u 83 = .bool true := dep hd 19 rfl
      rw [d83]
      exact Gv.run (.bool true) rfl (by go_simp) rfl
    refine Obs.cons (fun u w hS hd => ?_) ?_
    · have d84 : u 84 = .bool true := dep hd 20 rfl
      rw [d84]
      exact Gv.run (.int .i64 0) rfl (by go_simp) rfl
    refine Obs.cons (fun u w hS hd => ?_) ?_
    · have d84 : u 84 = .bool true := dep hd 20 rfl
      rw [d84]
      have d85 : u 85 = .int .i64 0 := dep hd 21 rfl
      rw [d85]
      exact Gv.run (.bool true) rfl (by go_simp) rfl
    refine Obs.cons (fun u w hS hd => ?_) ?_
    · have d84 : u 84 = .bool true := dep hd 20 rfl
      rw [d84]
      have d86 : u 86 = .bool true := dep hd 22 rfl
      rw [d86]
      exact Gv.run (.bool true) rfl (by go_simp) rfl
    refine Obs.cons (fun u w hS hd => ?_) ?_
    · have d87 : u 87 = .bool true := dep hd 23 rfl
      rw [d87]
      exact Gv.run (.bool true) rfl (by go_simp) rfl
    refine Obs.cons (fun u w hS hd => ?_) ?_
    · have d88 : u 88 = .bool true := dep hd 24 rfl
      rw [d88]
      exact Gv.run (.int .i64 0) rfl (by go_simp) rfl
    refine Obs.cons (fun u w hS hd => ?_) ?_
    · have d88 : u 88 = .bool true := dep hd 24 rfl
      rw [d88]
      have d89 : u 89 = .int .i64 0 := dep hd 25 rfl
      rw [d89]
      exact Gv.run (.bool true) rfl (by go_simp) rfl
    refine Obs.cons (fun u w hS hd => ?_) ?_
    · have d88 : u 88 = .bool true := dep hd 24 rfl
      rw [d88]
      have d90 : u 90 = .bool true := dep hd 26 rfl
      rw [d90]
      exact Gv.run (.bool true) rfl (by go_simp) rfl
    refine Obs.cons (fun u w hS hd => ?_) ?_
    · have d91 : u 91 = .bool true := dep hd 27 rfl
      rw [d91]
      exact Gv.run (.bool true) rfl (by go_simp) rfl
    refine Obs.cons (fun u w hS hd => ?_) ?_
    · have d92 : u 92 = .bool true := dep hd 28 rfl
      rw [d92]
      refine Gv.call 20 #[] rfl (by go_simp) ((K9.out w (GN.out _ _ HG.out hS)).mono ?_)
      rintro e w' ⟨rfl, hb⟩
      exact ⟨_, rfl, rfl, hb⟩
    refine Obs.cons (fun u w hS hd => ?_) ?_
    · have d92 : u 92 = .bool true := dep hd 28 rfl
      rw [d92]
      have d93 : u 93 = .bool true := dep hd 29 rfl
      rw [d93]
      exact Gv.run (.bool true) rfl (by go_simp) rfl
    exact Obs.nil
  intro uy14 y14 hS hd
  have d94 : uy14 94 = .bool true := hd 30 (by decide)
  rw [d94]
  replace o5 := O8.keep o5 hS
  replace o7 := O8.keep o7 hS
  replace o9 := O8.keep o9 hS
  replace o11 := O8.keep o11 hS
  replace o15 := O8.keep o15 hS
  replace o17 := O8.keep o17 hS
  replace HG := Lib.hid (GN.out _ _ HG.out hS)
  replace hc := hc.trans (hS.mono hc.size)
  clear hS hd d94
  simp only [List.drop_succ_cons, List.drop_zero]
  go_wp2_with fail
  go_ret
  exact ⟨rfl, hc⟩
end
end Go.Proofs.YtckdifcelgooeaaDoor
