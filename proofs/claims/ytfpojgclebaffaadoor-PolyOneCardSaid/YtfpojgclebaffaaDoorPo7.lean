/-
  Layer 11's code: step, settle. By an AI agent.
-/
import Derived.Test.YtfpojgclebaffaaDoorPo6
namespace Go.Proofs.YtfpojgclebaffaaDoor
open Go Go.RowKit
set_option maxRecDepth 20000
theorem l_p130 : nv P130 = lit4 18446744073709551611 18446744073709551615 3 0 := by kernel_rfl
theorem p130_W4 : P130 < W4 := by decide +kernel
theorem stepN_W4 {a n r : Nat} (ha : a < 1701411834604692317316873037158841057280) (hn : n < 680564733841876926926749214863536422912) (hr : r < 21267647932558653966460912964485513216) : a + n < W4 ∧ (a + n) * r < 57896044618658097711785492504343953926634992332820282019728792003956564819968 := by
  have h1 : a + n < 2722258935367507707706996859454145691648 := by omega
  refine ⟨Nat.lt_trans h1 (by decide +kernel), ?_⟩
  exact Nat.lt_of_lt_of_le (Nat.mul_lt_mul'' h1 hr) (by decide +kernel)
section
attribute [local irreducible] wd
set_option maxHeartbeats 3200000 in
theorem step_walk {a n r s p q : Nat} (kadd : ∀ w, Calls Tryd.prog 16 #[nv a, nv n] w fun e w' => e = .returned (.tuple #[nv s, .int .u64 (cw a n 4 : Int)]) ∧ Below w.heap.size w w')
    (kmul : ∀ w, Calls Tryd.prog 26 #[nv s, nv r] w fun e w' => e = .returned (dv p) ∧ Below w.heap.size w w')
    (kfold : ∀ w, Calls Tryd.prog 27 #[nv p] w fun e w' => e = .returned (nv q) ∧ Below w.heap.size w w') (w : World) :
    Calls Tryd.prog 14 #[nv a, nv n, nv r] w fun e w' => e = .returned (nv q) ∧ Below w.heap.size w w' := by
  have KA := Lib.hid kadd
  have KM := Lib.hid kmul
  have KF := Lib.hid kfold
  clear kadd kmul kfold
  generalize cw a n 4 = cy at *
  have s1 : (w.alloc (A4 a)).heap.size = w.heap.size + 1 := by simp
  have s2 : ((w.alloc (A4 a)).alloc (A4 n)).heap.size = w.heap.size + 2 := by simp
  have s3 : (((w.alloc (A4 a)).alloc (A4 n)).alloc (A4 r)).heap.size = w.heap.size + 3 := by simp
  have oa : O4 ((((w.alloc (A4 a)).alloc (A4 n)).alloc (A4 r)).alloc Z4) w.heap.size w.heap.size a := (((O4.new (w := w) (Nat.le_refl _) a).alloc (A4 n)).alloc (A4 r)).alloc Z4
  have on : O4 ((((w.alloc (A4 a)).alloc (A4 n)).alloc (A4 r)).alloc Z4) w.heap.size (w.alloc (A4 a)).heap.size n := ((O4.new (w := w.alloc (A4 a)) (by omega) n).alloc (A4 r)).alloc Z4
  have or : O4 ((((w.alloc (A4 a)).alloc (A4 n)).alloc (A4 r)).alloc Z4) w.heap.size ((w.alloc (A4 a)).alloc (A4 n)).heap.size r := (O4.new (w := (w.alloc (A4 a)).alloc (A4 n)) (by omega) r).alloc Z4
  have oz : O4 ((((w.alloc (A4 a)).alloc (A4 n)).alloc (A4 r)).alloc Z4) w.heap.size (((w.alloc (A4 a)).alloc (A4 n)).alloc (A4 r)).heap.size 0 := O4.zero (own_Z4 (w := ((w.alloc (A4 a)).alloc (A4 n)).alloc (A4 r)) (B := w.heap.size) (by omega))
  have hc : Below w.heap.size w ((((w.alloc (A4 a)).alloc (A4 n)).alloc (A4 r)).alloc Z4) := ((((Below.refl _ w).alloc (Nat.le_refl _) _).alloc (by omega) _).alloc (by omega) _).alloc (by omega) _
  rw [s1] at on
  rw [s2] at or
  rw [s3] at oz
  unfold nv
  go_enter Tryd.func14, Tryd.ntmps14
  go_upto_region 1 with fail
  obtain ⟨v0, e0⟩ : ∃ v, v = (((w.alloc (A4 a)).alloc (A4 n)).alloc (A4 r)).alloc Z4 := ⟨_, rfl⟩
  obtain ⟨g1, f1⟩ : ∃ g, g = w.heap.size := ⟨_, rfl⟩
  obtain ⟨g2, f2⟩ : ∃ g, g = w.heap.size + 1 := ⟨_, rfl⟩
  obtain ⟨g3, f3⟩ : ∃ g, g = w.heap.size + 1 + 1 := ⟨_, rfl⟩
  obtain ⟨g4, f4⟩ : ∃ g, g = w.heap.size + 1 + 1 + 1 := ⟨_, rfl⟩
  rw [← e0] at oa on or oz hc ⊢
  replace oa : O4 v0 w.heap.size g1 a := by rw [f1]; exact oa
  replace on : O4 v0 w.heap.size g2 n := by rw [f2]; exact on
  replace or : O4 v0 w.heap.size g3 r := by rw [f3]; exact or
  replace oz : O4 v0 w.heap.size g4 0 := by rw [f4]; exact oz
  rw [← f4, ← f3, ← f2, ← f1]
  clear e0 f1 f2 f3 f4 s1 s2 s3
  obtain ⟨a0, a1, a2, a3⟩ := oa.c4
  obtain ⟨b0, b1, b2, b3⟩ := on.c4
  go_wp2_with fail
  go_at_call 16
  refine (KA.out v0).mono ?_
  rintro e v1 ⟨rfl, h0⟩
  clear a0 a1 a2 a3 b0 b1 b2 b3 oa on
  replace or := or.keep h0
  replace oz := oz.keep h0
  replace hc := hc.trans (h0.mono hc.size)
  clear h0
  have os := O4.new (w := v1) (B := w.heap.size) hc.size s
  replace or := or.alloc (A4 s)
  replace oz := oz.alloc (A4 s)
  replace hc := hc.alloc hc.size (A4 s)
  obtain ⟨a0, a1, a2, a3⟩ := os.c4
  obtain ⟨b0, b1, b2, b3⟩ := or.c4
  go_wp2_with fail
  go_at_call 26
  refine (KM.out _).mono ?_
  rintro e v2 ⟨rfl, h0⟩
  clear a0 a1 a2 a3 b0 b1 b2 b3 os or
  replace oz := oz.keep h0
  replace hc := hc.trans (h0.mono hc.size)
  clear h0
  have op := own_A8 (w := v2) (B := w.heap.size) hc.size p
  replace oz := oz.alloc (A8 p)
  replace hc := hc.alloc hc.size (A8 p)
  obtain ⟨p0, p1, p2, p3⟩ : (v2.alloc (A8 p)).cell? ⟨v2.heap.size, 0, none⟩ = some (.int .u64 (wd p 0 : Int)) ∧ (v2.alloc (A8 p)).cell? ⟨v2.heap.size, 1, none⟩ = some (.int .u64 (wd p 1 : Int)) ∧ (v2.alloc (A8 p)).cell? ⟨v2.heap.size, 2, none⟩ = some (.int .u64 (wd p 2 : Int)) ∧ (v2.alloc (A8 p)).cell? ⟨v2.heap.size, 3, none⟩ = some (.int .u64 (wd p 3 : Int)) := ⟨OwnF.cell op (k := 0) (by decide), OwnF.cell op (k := 1) (by decide), OwnF.cell op (k := 2) (by decide), OwnF.cell op (k := 3) (by decide)⟩
  unfold dv
  go_wp2_with fail
  go_at_call 27
  refine (KF.out _).mono ?_
  rintro e v3 ⟨rfl, h0⟩
  clear p0 p1 p2 p3 op
  replace oz := oz.keep h0
  replace hc := hc.trans (h0.mono hc.size)
  clear h0
  obtain ⟨z0, z1, z2, z3⟩ := oz.c4
  obtain ⟨f0, f1, f2, f3⟩ := oz.f4
  obtain ⟨wz, ez, or, hb, _⟩ := oz.out q
  obtain ⟨r0, r1, r2, r3⟩ := or.c4
  go_wp2_with fail
  rw [← ez]
  refine bodyPost_ret (v := nv q) (by simp [results, Tryd.results14, go_sem, r0, r1, r2, r3]) rfl ⟨rfl, hc.trans hb⟩
theorem step_any {a n r : Nat} (ha : a < 1701411834604692317316873037158841057280) (hn : n < 680564733841876926926749214863536422912) (hr : r < 21267647932558653966460912964485513216) (w : World) :
    Calls Tryd.prog 14 #[nv a, nv n, nv r] w fun e w' => e = .returned (nv (foldN ((a + n) * r))) ∧ Below w.heap.size w w' := by
  obtain ⟨h1, h2⟩ := stepN_W4 ha hn hr
  exact step_walk (fun w => add_any a n w) (fun w => mul_any (a + n) r h1 (Nat.lt_trans hr (by decide +kernel)) w) (fun w => fold_any (Nat.lt_trans h2 (by decide +kernel)) w) w
set_option maxHeartbeats 3200000 in
theorem settle_walk {x y b q P : Nat} (hP : nv P = lit4 18446744073709551611 18446744073709551615 3 0) (ksub : ∀ w, Calls Tryd.prog 29 #[nv x, nv P] w fun e w' => e = .returned (.tuple #[nv y, .int .u64 (b : Int)]) ∧ Below w.heap.size w w')
    (kpick : ∀ w, Calls Tryd.prog 30 #[.int .u64 (b : Int), nv y, nv x] w fun e w' => e = .returned (nv q) ∧ Below w.heap.size w w') (w : World) :
    Calls Tryd.prog 17 #[nv x] w fun e w' => e = .returned (nv q) ∧ Below w.heap.size w w' := by
  rw [hP] at ksub
  have KS := Lib.hid ksub
  have KP := Lib.hid kpick
  clear ksub kpick hP
  have oa := (O4.new (w := w) (Nat.le_refl _) x).alloc Z4
  obtain ⟨a0, a1, a2, a3⟩ := oa.c4
  unfold nv
  go_enter Tryd.func17, Tryd.ntmps17
  go_wp2_with fail
  go_at_call 29
  refine (KS.out _).mono ?_
  rintro e v1 ⟨rfl, h0⟩
  obtain ⟨oz, hc⟩ := zres2 h0
  replace oa := oa.keep h0
  clear a0 a1 a2 a3 h0
  have oy := O4.new (w := v1) (B := w.heap.size) hc.size y
  replace oa := oa.alloc (A4 y)
  replace oz := oz.alloc (A4 y)
  replace hc := hc.alloc hc.size (A4 y)
  obtain ⟨a0, a1, a2, a3⟩ := oa.c4
  obtain ⟨b0, b1, b2, b3⟩ := oy.c4
  go_wp2_with fail
  go_at_call 30
  refine (KP.out _).mono ?_
  rintro e v2 ⟨rfl, h0⟩
  clear a0 a1 a2 a3 b0 b1 b2 b3 oa oy
  replace oz := oz.keep h0
  replace hc := hc.trans (h0.mono hc.size)
  clear h0
  obtain ⟨z0, z1, z2, z3⟩ := oz.c4
  obtain ⟨f0, f1, f2, f3⟩ := oz.f4
  obtain ⟨wz, ez, or, hb, _⟩ := oz.out q
  obtain ⟨r0, r1, r2, r3⟩ := or.c4
  go_wp2_with fail
  rw [← ez]
  refine bodyPost_ret (v := nv q) (by simp [results, Tryd.results17, go_sem, r0, r1, r2, r3]) rfl ⟨rfl, hc.trans hb⟩
theorem settle_any {x : Nat} (hx : x < 2 * P130) (w : World) :
    Calls Tryd.prog 17 #[nv x] w fun e w' => e = .returned (nv (x % P130)) ∧ Below w.heap.size w w' := by
  have hxW : x < W4 := Nat.lt_trans hx (by decide +kernel)
  refine settle_walk (y := x + W4 - P130) (b := bw x P130 4) l_p130 (fun w => sub_any x P130 p130_W4 w) (fun w => ?_) w
  have h := pick_any (bw x P130 4) (x + W4 - P130) x (Nat.lt_of_le_of_lt (bw_le _ _ _) (by decide)) w
  have e : nv (if bw x P130 4 = 0 then x + W4 - P130 else x) = nv (x % P130) := by
    rw [bw_four hxW p130_W4]
    by_cases hlt : x < P130
    · rw [if_pos hlt, if_neg (by decide), Nat.mod_eq_of_lt hlt]
    · rw [if_neg hlt, if_pos rfl, show x % P130 = x - P130 by rw [Nat.mod_eq_sub_mod (by omega), Nat.mod_eq_of_lt (by omega)], ← nv_mod, show x + W4 - P130 = x - P130 + W4 by have := p130_W4; omega, Nat.add_mod_right, nv_mod]
  rw [e] at h
  exact h
end
end Go.Proofs.YtfpojgclebaffaaDoor
