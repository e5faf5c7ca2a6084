import Derived.Test.YtckdifcelgooeaaDoorMS
import Derived.Test.YtckdifcelgooeaaDoorInv
import Derived.Test.YtckdifcelgooeaaDoorBox
namespace Go.Proofs.YtckdifcelgooeaaDoor
open Go Go.RowKit
/-- The sum's digits: the first k of them are added. -/
def sumd (x y k j : Nat) : Nat := if j < k then d16 x j + d16 y j else d16 x j
theorem sumd_set {x y k : Nat} {v : Value} (hv : v = .int .i64 ((d16 x k + d16 y k : Nat) : Int)) (j : Nat) : (if j = k then v else nvf (sumd x y k) j) = nvf (sumd x y (k + 1)) j := by
  unfold nvf sumd
  by_cases e : j = k
  · rw [if_pos e, hv, e, if_pos (by omega)]
  · rw [if_neg e]
    by_cases h : j < k
    · rw [if_pos h, if_pos (by omega)]
    · rw [if_neg h, if_neg (by omega)]
theorem sumd_val {x y : Nat} (hx : x < W4) (hy : y < W4) : val 0 (fun j => d16 x j + d16 y j) 16 = x + y := by
  rw [W4_d16] at hx hy
  rw [val_add, val_self, val_self, Nat.mod_eq_of_lt hx, Nat.mod_eq_of_lt hy]
theorem sumd_BB (x y : Nat) : ∀ j, d16 x j + d16 y j ≤ BB := fun j => by
  have := d16_lt x j
  have := d16_lt y j
  have hB : 131072 ≤ BB := by decide
  omega
attribute [local irreducible] wd by8 d16 set16w fl val cyr FF gl sumd
set_option maxRecDepth 20000
set_option maxHeartbeats 1600000 in
theorem radd_any {x y : Nat} (hx : x < W4) (hy : y < W4) (w : World) :
    Calls Tryd.prog 46 #[fv x, fv y] w fun e w' => e = .returned (fv ((x + y) % P25)) ∧ Below w.heap.size w w' := by
  obtain ⟨r, hr⟩ : ∃ r, r = (x + y) % P25 := ⟨_, rfl⟩
  rw [← hr]
  have HR := Lib.hid hr
  have HV := Lib.hid (sumd_val hx hy)
  have s1 : (w.alloc (A16 x)).heap.size = w.heap.size + 1 := by simp
  have s2 : ((w.alloc (A16 x)).alloc (A16 y)).heap.size = w.heap.size + 2 := by simp
  have ox0 := ((O16.new (w := w) (Nat.le_refl _) x).alloc (A16 y)).alloc Z16
  have oy := (O16.new (w := w.alloc (A16 x)) (B := w.heap.size) (by omega) y).alloc Z16
  have oz := O16.zero (own_Z16 (w := (w.alloc (A16 x)).alloc (A16 y)) (B := w.heap.size) (by omega))
  have ox : OwnF (((w.alloc (A16 x)).alloc (A16 y)).alloc Z16) w.heap.size 30 (some ⟨w.heap.size, 0, none⟩) 16 16 (nvf (sumd x y 0)) := OwnF.congr ox0 fun j _ => by unfold dv16 nvf sumd; rw [if_neg (by omega)]
  rw [s1] at oy
  rw [s2] at oz
  have hc := (((Below.refl _ w).alloc (Nat.le_refl _) (A16 x)).alloc (by omega) (A16 y)).alloc (by omega) Z16
  clear hr hx hy s1 s2 ox0
  go_enter Tryd.func46, Tryd.ntmps46
  go_wp2_with fail
  obtain ⟨v0, e0⟩ : ∃ u, u = ((w.alloc (A16 x)).alloc (A16 y)).alloc Z16 := ⟨_, rfl⟩
  rw [← e0] at ox oy oz hc ⊢
  clear e0
  have hne1 : w.heap.size ≠ w.heap.size + 1 := by omega
  have hne2 : w.heap.size ≠ w.heap.size + 2 := by omega
  go_loopw [5] (fun ii wr => ∃ k : Nat, k ≤ 16 ∧ ii = .int .i64 k ∧ OwnF wr w.heap.size 30 (some ⟨w.heap.size, 0, none⟩) 16 16 (nvf (sumd x y k)) ∧ O16 wr w.heap.size (w.heap.size + 1) y ∧ O16 wr w.heap.size (w.heap.size + 2) 0 ∧ Below w.heap.size w wr)
    (fun ii _ => 16 - (intOf ii).toNat)
  case atStart => exact ⟨0, by omega, rfl, ox, oy, oz, hc⟩
  case round =>
    clear ox oy oz hc
    obtain ⟨k, hk, rfl, ox, oy, oz, hc⟩ := hrel
    by_cases hlt : k < 16
    · have g1 : (k : Int) < 16 := by omega
      have c1 : wr.cell? ⟨w.heap.size, k, none⟩ = some (.int .i64 (d16 x k : Int)) := by
        have := OwnF.cell ox hlt
        unfold nvf sumd at this
        rwa [if_neg (by omega)] at this
      have c2 : wr.cell? ⟨w.heap.size + 1, k, none⟩ = some (.int .i64 (d16 y k : Int)) := OwnF.cell oy hlt
      have f1 := OwnF.free ox k
      obtain ⟨s, hs⟩ : ∃ s, s = d16 x k + d16 y k := ⟨_, rfl⟩
      have b1 := d16_lt x k
      have b2 := d16_lt y k
      have a2 : IntKind.i64.wrap ((d16 x k : Int) + (d16 y k : Int)) = (s : Int) := by rw [hs, IntKind.wrap_i64]; omega
      have HS := Lib.hid hs
      clear hs b1 b2
      go_wp2_with fail
      refine wp_region_still_tail 8 (by kernel_rfl) (by kernel_rfl) ?_
      simp only [List.take_succ_cons, List.take_zero, List.drop_succ_cons, List.drop_zero]
      repeat still_step
      refine wpStill_nil ?_
      change wpList _ _ _ _ _ wr.drew
      go_wp2_with fail
      go_roundw
      case rel =>
        refine ⟨k + 1, by omega, by go_num, ?_, (oy.oth (p := ⟨w.heap.size, k, none⟩) hne1 _).drew, (oz.oth (p := ⟨w.heap.size, k, none⟩) hne2 _).drew, (hc.setCell (by first | (simp; done) | (simp; omega)) _).drew⟩
        exact (OwnF.congr (OwnF.set_ ox k _) fun j _ => sumd_set (v := .int .i64 (s : Int)) (by rw [HS.out]) j).drew
      case measure => simp [intOf]; omega
    · obtain rfl : k = 16 := by omega
      have oo : OwnF wr w.heap.size 30 (some ⟨w.heap.size, 0, none⟩) 16 16 (nvf (fun j => d16 x j + d16 y j)) := OwnF.congr ox fun j hj => by unfold nvf sumd; rw [if_pos hj]
      have kst := fun w => settled_any (sumd_BB x y) w
      rw [HV.out, ← HR.out] at kst
      have KST := Lib.hid kst
      clear kst ox oy
      go_wp2_with ((with_reducible refine gl_load oo ?_ ?_); rfl)
      go_at_call 79
      refine (KST.out _).mono ?_
      rintro e v9 ⟨rfl, h0⟩
      replace oz := oz.keep h0
      replace hc := hc.trans (h0.mono hc.size)
      clear h0 oo
      have hop := Lib.hid (oz.put r)
      have hbz := oz.below r
      go_wp2_with (first | ((with_reducible refine fl_store oz r ?_ ?_ ?_); rfl; rfl))
      exact bodyPost_ret (fres Tryd.results46 _ hop.out rfl) rfl ⟨rfl, hc.trans hbz⟩
end Go.Proofs.YtckdifcelgooeaaDoor

namespace Go.Proofs.YtckdifcelgooeaaDoor
open Go Go.RowKit
attribute [local irreducible] wd by8 d16 set16w fl
set_option maxRecDepth 20000
set_option maxHeartbeats 1600000 in
theorem rfrom_any {A : Option Addr} {B c n x : Nat} (w : World) (h : Dig w B A c n x) (hB : B ≤ w.heap.size) (hn : n ≤ 32) :
    Calls Tryd.prog 80 #[.slice A n c] w fun e w' => e = .returned (fv x) ∧ Below w.heap.size w w' := by
  have oz := O16.zero (own_Z16 (w := w) (Nat.le_refl _))
  have hc := (Below.refl w.heap.size w).alloc (Nat.le_refl _) Z16
  have hk := (h.mono hB).keep hc
  have hs : w.heap.size ≤ (w.alloc Z16).heap.size := hc.size
  clear h
  go_enter Tryd.func80, Tryd.ntmps80
  go_wp2_with fail
  obtain ⟨v0, e0⟩ : ∃ u, u = w.alloc Z16 := ⟨_, rfl⟩
  rw [← e0] at oz hc hk hs ⊢
  clear e0
  go_at_call 76
  refine (pairs_any _ hk (by omega) hn).mono ?_
  rintro e v1 ⟨rfl, h0⟩
  replace oz := oz.keep h0
  replace hc := hc.trans (h0.mono hc.size)
  clear h0 hk
  have hop := Lib.hid (oz.put x)
  have hbz := oz.below x
  go_wp2_with (first | ((with_reducible refine fl_store oz x ?_ ?_ ?_); rfl; rfl))
  exact bodyPost_ret (fres Tryd.results80 _ hop.out rfl) rfl ⟨rfl, hc.trans hbz⟩
theorem fl_facts (x : Nat) : (fl x).length = 16 ∧ (Tryd.prog.info? 30).map (·.size) = some (fl x).length ∧ (∀ v ∈ fl x, v.oneCell' = true) ∧ (Tryd.prog.info? 30).map (·.size) = some (fl x).toArray.size := by
  refine ⟨fl_len x, by rw [fl_len]; exact f_info, fun v hv => ?_, by rw [List.size_toArray, fl_len]; exact f_info⟩
  have h := fl_one x
  rw [Array.all_eq_true_iff_forall_mem] at h
  exact h v (by simpa using hv)
end Go.Proofs.YtckdifcelgooeaaDoor

namespace Go.Proofs.YtckdifcelgooeaaDoor
open Go Go.RowKit
theorem run_fload {o : Oper} {a : Act} {w : World} {B g x : Nat} {s : Operand} (ho : o.op = .load 30 s) (h1 : a.eval s = .pointer (some ⟨g, 0, none⟩)) (h : O16 w B g x) : (execOp a.eval o).run Tryd.prog w = .ok (.value (fv x)) w := by
  unfold execOp
  simp only [ho, h1, Sem.run_bind, h.load, Result.andThen_ok, Sem.run_pure]
attribute [local irreducible] wd by8 d16 set16w fl
set_option maxRecDepth 20000
set_option maxHeartbeats 800000 in
theorem rneg_gen {P x d r : Nat}
    (k1 : ∀ w, Calls Tryd.prog 78 #[] w fun e w' => ∃ A c, e = .returned (.slice A 32 c) ∧ DOwn w' w.heap.size A c 32 P ∧ Below w.heap.size w w')
    (kP : ∀ w, Calls Tryd.prog 50 #[fv P] w fun e w' => ∃ A c n, e = .returned (.slice A n c) ∧ DOwn w' w.heap.size A c n P ∧ Below w.heap.size w w')
    (kX : ∀ w, Calls Tryd.prog 50 #[fv x] w fun e w' => ∃ A c n, e = .returned (.slice A n c) ∧ DOwn w' w.heap.size A c n x ∧ Below w.heap.size w w')
    (kM : ∀ (A A' : Option Addr) (c c' n n' : Nat) (w : World), Dig w w.heap.size A c n P → Can n P → Dig w w.heap.size A' c' n' x → Calls Tryd.prog 81 #[.slice A n c, .slice A' n' c'] w fun e w' => ∃ A c n, e = .returned (.slice A n c) ∧ DOwn w' w.heap.size A c n d ∧ Below w.heap.size w w')
    (kF : ∀ (A : Option Addr) (c n : Nat) (w : World), Dig w w.heap.size A c n d → Can n d → Calls Tryd.prog 80 #[.slice A n c] w fun e w' => e = .returned (fv d) ∧ Below w.heap.size w w')
    (k5 : ∀ w, Calls Tryd.prog 79 #[fv d] w fun e w' => e = .returned (fv r) ∧ Below w.heap.size w w')
    (w : World) :
    Calls Tryd.prog 48 #[fv x] w fun e w' => e = .returned (fv r) ∧ Below w.heap.size w w' := by
  have K1 := Lib.hid k1
  have KP := Lib.hid kP
  have KX := Lib.hid kX
  have KM := Lib.hid kM
  have KF := Lib.hid kF
  have K5 := Lib.hid k5
  clear k1 kP kX kM kF k5
  have hs0 : (w.alloc (A16 x)).heap.size = w.heap.size + 1 := by simp
  have ox := (O16.new (w := w) (Nat.le_refl _) x).alloc Z16
  have oz := O16.zero (own_Z16 (w := w.alloc (A16 x)) (B := w.heap.size) (by omega))
  rw [hs0] at oz
  have hc := ((Below.refl _ w).alloc (Nat.le_refl _) (A16 x)).alloc (by omega) Z16
  clear hs0
  go_enter Tryd.func48, Tryd.ntmps48
  go_wp2_with fail
  obtain ⟨v0, e0⟩ : ∃ u, u = (w.alloc (A16 x)).alloc Z16 := ⟨_, rfl⟩
  rw [← e0] at ox oz hc ⊢
  clear e0
  go_at_call 78
  refine (K1.out _).mono ?_
  rintro e v1 ⟨A, c, rfl, dp, h0⟩
  replace ox := ox.keep h0
  replace oz := oz.keep h0
  replace hc := hc.trans (h0.mono hc.size)
  clear h0
  go_wp2_with fail
  go_at_call 76
  refine (pairs_any _ dp.dig (Nat.le_refl _) (Nat.le_refl _)).mono ?_
  rintro e v2 ⟨rfl, h0⟩
  replace ox := ox.keep h0
  replace oz := oz.keep h0
  replace hc := hc.trans (h0.mono hc.size)
  clear h0 dp
  have op0 := O16.zero (own_Z16 (w := v2) (B := w.heap.size) hc.size)
  have op := Lib.hid (op0.put P)
  have hb0 := op0.below P
  have hvs := ox.lt
  have hvz := oz.lt
  replace ox := (ox.alloc Z16).other (g' := v2.heap.size) (by omega) P
  replace oz := (oz.alloc Z16).other (g' := v2.heap.size) (by omega) P
  replace hc := (hc.alloc hc.size Z16).trans hb0
  clear op0 hb0
  obtain ⟨op0⟩ : Nonempty (O16 (v2.alloc Z16) w.heap.size v2.heap.size 0) := ⟨O16.zero (own_Z16 (w := v2) (B := w.heap.size) (by have := hvz; omega))⟩
  go_upto_region 2 with (first | ((with_reducible refine fl_store op0 P ?_ ?_ ?_); rfl; rfl))
  replace op := op.out
  obtain ⟨vr, er⟩ : ∃ u, u = set16w (v2.alloc Z16) v2.heap.size P := ⟨_, rfl⟩
  rw [← er] at ox oz op hc ⊢
  obtain ⟨g, hg⟩ : ∃ g, g = v2.heap.size := ⟨_, rfl⟩
  rw [← hg] at op ⊢
  clear er op0 hvs hvz hg
  have hs := hc.size
  refine wp_region_inv 7 [6, 7, 8, 9, 10, 11, 12] [.val (fv P), .dig P, .val (fv x), .dig x, .dig d, .val (fv d), .val (fv r)] (fun wz => Below vr.heap.size vr wz) (by kernel_rfl) (by kernel_rfl) (fun wz wz' hz hb => hz.trans (hb.mono hz.size)) ((Below.refl _ _).drew) (fun u => by simp only [puts, List.foldl_cons, List.foldl_nil]; go_simp; exact rfl) ?_ ?_
  · simp only [List.take_succ_cons, List.take_zero]
    refine Obs.cons (fun u w hS hd => ?_) ?_
    · exact Gv.run (fv P) rfl (run_fload rfl rfl (op.keep hS)) rfl
    refine Obs.cons (fun u w hS hd => ?_) ?_
    · have d6 : u 6 = fv P := dep hd 0 rfl
      rw [d6]
      refine Gv.call 50 #[fv P] rfl (by go_simp) ((KP.out w).mono ?_)
      rintro e w' ⟨A, c, n, rfl, D, hb⟩
      exact ⟨_, rfl, ⟨A, c, n, rfl, D.dig, D.can⟩, hb⟩
    refine Obs.cons (fun u w hS hd => ?_) ?_
    · exact Gv.run (fv x) rfl (run_fload rfl rfl (ox.keep hS)) rfl
    refine Obs.cons (fun u w hS hd => ?_) ?_
    · have d8 : u 8 = fv x := dep hd 2 rfl
      rw [d8]
      refine Gv.call 50 #[fv x] rfl (by go_simp) ((KX.out w).mono ?_)
      rintro e w' ⟨A, c, n, rfl, D, hb⟩
      exact ⟨_, rfl, ⟨A, c, n, rfl, D.dig, D.can⟩, hb⟩
    refine Obs.cons (fun u w hS hd => ?_) ?_
    · obtain ⟨A7, c7, n7, d7, g7, k7⟩ : (Know.dig P).ok (u 7) w := dep hd 1 rfl
      rw [d7]
      obtain ⟨A9, c9, n9, d9, g9, k9⟩ : (Know.dig x).ok (u 9) w := dep hd 3 rfl
      rw [d9]
      refine Gv.call 81 #[.slice A7 n7 c7, .slice A9 n9 c9] rfl (by go_simp) ((KM.out _ _ _ _ _ _ w g7 k7 g9).mono ?_)
      rintro e w' ⟨A, c, n, rfl, D, hb⟩
      exact ⟨_, rfl, ⟨A, c, n, rfl, D.dig, D.can⟩, hb⟩
    refine Obs.cons (fun u w hS hd => ?_) ?_
    · obtain ⟨A10, c10, n10, d10, g10, k10⟩ : (Know.dig d).ok (u 10) w := dep hd 4 rfl
      rw [d10]
      refine Gv.call 80 #[.slice A10 n10 c10] rfl (by go_simp) ((KF.out _ _ _ w g10 k10).mono ?_)
      rintro e w' ⟨rfl, hb⟩
      exact ⟨_, rfl, rfl, hb⟩
    refine Obs.cons (fun u w hS hd => ?_) ?_
    · have d11 : u 11 = fv d := dep hd 5 rfl
      rw [d11]
      refine Gv.call 79 #[fv d] rfl (by go_simp) ((K5.out w).mono ?_)
      rintro e w' ⟨rfl, hb⟩
      exact ⟨_, rfl, rfl, hb⟩
    exact Obs.nil
  · intro u w9 hS hd
    have dl : u 12 = fv r := hd 6 (by decide)
    rw [dl]
    simp only [List.drop_succ_cons, List.drop_zero]
    replace oz := oz.keep hS
    replace hc := hc.trans (hS.mono hs)
    clear hd dl hS ox op
    have hop := Lib.hid (oz.put r)
    have hbz := oz.below r
    go_wp2_with (first | ((with_reducible refine fl_store oz r ?_ ?_ ?_); rfl; rfl))
    exact bodyPost_ret (fres Tryd.results48 _ hop.out rfl) rfl ⟨rfl, hc.trans hbz⟩
theorem rneg_any {x : Nat} (hx : x ≤ P25) (w : World) :
    Calls Tryd.prog 48 #[fv x] w fun e w' => e = .returned (fv ((P25 - x) % P25)) ∧ Below w.heap.size w w' := by
  have hd : P25 - x < 256 ^ 32 := Nat.lt_of_le_of_lt (Nat.sub_le _ _) P_lt
  refine rneg_gen (P := P25) (d := P25 - x) rprime_any (fun w => rbytes_any P25_W4 w) (fun w => rbytes_any (Nat.lt_of_le_of_lt hx P25_W4) w) (fun A A' c c' n n' w h hc h' => minus_any w h h' (Nat.le_refl _) (Nat.le_trans (hc 32 P_lt) (by decide)) hx)
    (fun A c n w h hc => rfrom_any w h (Nat.le_refl _) (hc 32 hd)) (fun w => ?_) w
  have h := settled_any (f := d16 (P25 - x)) (fun j => Nat.le_trans (Nat.le_of_lt (d16_lt _ _)) (by decide)) w
  rw [val_self, ← W4_d16, Nat.mod_eq_of_lt (show P25 - x < W4 by rw [W4_256]; exact hd), gl_d16] at h
  exact h
end Go.Proofs.YtckdifcelgooeaaDoor

namespace Go.Proofs.YtckdifcelgooeaaDoor
open Go Go.RowKit
attribute [local irreducible] wd by8 d16 set16w fl
set_option maxRecDepth 20000
set_option maxHeartbeats 800000 in
theorem rsub_gen {x y m r : Nat}
    (k1 : ∀ w, Calls Tryd.prog 48 #[fv y] w fun e w' => e = .returned (fv m) ∧ Below w.heap.size w w')
    (k2 : ∀ w, Calls Tryd.prog 46 #[fv x, fv m] w fun e w' => e = .returned (fv r) ∧ Below w.heap.size w w')
    (w : World) :
    Calls Tryd.prog 45 #[fv x, fv y] w fun e w' => e = .returned (fv r) ∧ Below w.heap.size w w' := by
  have K1 := Lib.hid k1
  have K2 := Lib.hid k2
  clear k1 k2
  have s1 : (w.alloc (A16 x)).heap.size = w.heap.size + 1 := by simp
  have s2 : ((w.alloc (A16 x)).alloc (A16 y)).heap.size = w.heap.size + 2 := by simp
  have ox := ((O16.new (w := w) (Nat.le_refl _) x).alloc (A16 y)).alloc Z16
  have oy := (O16.new (w := w.alloc (A16 x)) (B := w.heap.size) (by omega) y).alloc Z16
  have oz := O16.zero (own_Z16 (w := (w.alloc (A16 x)).alloc (A16 y)) (B := w.heap.size) (by omega))
  rw [s1] at oy
  rw [s2] at oz
  have hc := (((Below.refl _ w).alloc (Nat.le_refl _) (A16 x)).alloc (by omega) (A16 y)).alloc (by omega) Z16
  clear s1 s2
  go_enter Tryd.func45, Tryd.ntmps45
  go_upto_region 1 with fail
  obtain ⟨vr, e0⟩ : ∃ u, u = ((w.alloc (A16 x)).alloc (A16 y)).alloc Z16 := ⟨_, rfl⟩
  rw [← e0] at ox oy oz hc ⊢
  clear e0
  have hs := hc.size
  refine wp_region_inv 4 [5, 6, 7, 8] [.val (fv x), .val (fv y), .val (fv m), .val (fv r)] (fun wz => Below vr.heap.size vr wz) (by kernel_rfl) (by kernel_rfl) (fun wz wz' hz hb => hz.trans (hb.mono hz.size)) ((Below.refl _ _).drew) (fun u => by simp only [puts, List.foldl_cons, List.foldl_nil]; go_simp; exact rfl) ?_ ?_
  · simp only [List.take_succ_cons, List.take_zero]
    refine Obs.cons (fun u w hS hd => ?_) ?_
    · exact Gv.run (fv x) rfl (run_fload rfl rfl (ox.keep hS)) rfl
    refine Obs.cons (fun u w hS hd => ?_) ?_
    · exact Gv.run (fv y) rfl (run_fload rfl rfl (oy.keep hS)) rfl
    refine Obs.cons (fun u w hS hd => ?_) ?_
    · have d6 : u 6 = fv y := dep hd 1 rfl
      rw [d6]
      refine Gv.call 48 #[fv y] rfl (by go_simp) ((K1.out w).mono ?_)
      rintro e w' ⟨rfl, hb⟩
      exact ⟨_, rfl, rfl, hb⟩
    refine Obs.cons (fun u w hS hd => ?_) ?_
    · have d5 : u 5 = fv x := dep hd 0 rfl
      have d7 : u 7 = fv m := dep hd 2 rfl
      rw [d5, d7]
      refine Gv.call 46 #[fv x, fv m] rfl (by go_simp) ((K2.out w).mono ?_)
      rintro e w' ⟨rfl, hb⟩
      exact ⟨_, rfl, rfl, hb⟩
    exact Obs.nil
  · intro u w9 hS hd
    have dl : u 8 = fv r := hd 3 (by decide)
    rw [dl]
    simp only [List.drop_succ_cons, List.drop_zero]
    replace oz := oz.keep hS
    replace hc := hc.trans (hS.mono hs)
    clear hd dl hS ox oy
    have hop := Lib.hid (oz.put r)
    have hbz := oz.below r
    go_wp2_with (first | ((with_reducible refine fl_store oz r ?_ ?_ ?_); rfl; rfl))
    exact bodyPost_ret (fres Tryd.results45 _ hop.out rfl) rfl ⟨rfl, hc.trans hbz⟩
theorem rsub_any {x y : Nat} (hx : x < P25) (hy : y < P25) (w : World) :
    Calls Tryd.prog 45 #[fv x, fv y] w fun e w' => e = .returned (fv ((x + (P25 - y)) % P25)) ∧ Below w.heap.size w w' := by
  refine rsub_gen (m := (P25 - y) % P25) (fun w => rneg_any (Nat.le_of_lt hy) w) (fun w => ?_) w
  have h := radd_any (Nat.lt_trans hx P25_W4) (red_W4 (P25 - y)) w
  rw [Nat.add_mod, Nat.mod_mod, ← Nat.add_mod] at h
  exact h
theorem only16 (w : World) (g x : Nat) : Only g w (set16w w g x) := by
  unfold set16w
  generalize fl x = vs
  generalize 0 = o
  induction vs generalizing w o with
  | nil => exact Only.refl g w
  | cons v r ih => exact (Only.setCell w ⟨g, o, none⟩ v).trans (ih _ _)
theorem run_fstore {o : Oper} {a : Act} {w : World} {B g z : Nat} {f : Nat → Value} {s1 s2 : Operand} (ho : o.op = .store 30 s1 s2) (h1 : a.eval s1 = .pointer (some ⟨g, 0, none⟩)) (h2 : a.eval s2 = fv z) (h : OwnF w B 30 (some ⟨g, 0, none⟩) 16 16 f) : (execOp a.eval o).run Tryd.prog w = .ok .skip (set16w w g z) := by
  unfold execOp
  simp only [ho, h1, h2, Sem.run_bind, fstore h z, Result.andThen_ok, Sem.run_pure]
end Go.Proofs.YtckdifcelgooeaaDoor
