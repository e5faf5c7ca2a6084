/-
  The document's Base (layer 8), over letters. Written by tools/gen_e10.py. By an AI agent. (and more)
-/
import Derived.Test.YtkbkalhcdbklkaaGreatDoorJ15
import Derived.Test.YtkbkalhcdbklkaaGreatDoorE9
namespace Go.Proofs.YtkbkalhcdbklkaaGreatDoor
section
open Go Go.RowKit
section
attribute [local irreducible] wd by8 d16 set16w fl rl setA t3f set8p set4w
set_option maxRecDepth 20000
set_option maxHeartbeats 6400000 in
theorem Base_gen {n4 n5 iv y : Nat} {p : Tr}
  (k1 : ∀ w, Calls Tryz.prog 83 #[.int .i64 4] w fun e w' => e = .returned (fv n4) ∧ Below w.heap.size w w')
  (k2 : ∀ w, Calls Tryz.prog 83 #[.int .i64 5] w fun e w' => e = .returned (fv n5) ∧ Below w.heap.size w w')
  (k3 : ∀ w, Calls Tryz.prog 84 #[fv n5] w fun e w' => e = .returned (fv iv) ∧ Below w.heap.size w w')
  (k4 : ∀ w, Calls Tryz.prog 82 #[fv n4, fv iv] w fun e w' => e = .returned (fv y) ∧ Below w.heap.size w w')
  (k5 : ∀ w, Calls Tryz.prog 78 #[fv y, .int .i64 0] w fun e w' => e = .returned (.tuple #[t3v p, .bool true]) ∧ Below w.heap.size w w')
  (w : World) : Calls Tryz.prog 40 #[] w fun e w' => e = .returned (t3v p) ∧ Below w.heap.size w w' := by
 have K1 := Lib.hid k1
 have K2 := Lib.hid k2
 have K3 := Lib.hid k3
 have K4 := Lib.hid k4
 have K5 := Lib.hid k5
 clear k1 k2 k3 k4 k5
 obtain ⟨v1, ev1⟩ : ∃ v, v = w.alloc (Z48) := ⟨_, rfl⟩
 have bv1 := bnw ev1
 have sv1 := bsz ev1
 obtain ⟨g0, eg0⟩ : ∃ g, g = w.heap.size := ⟨_, rfl⟩
 have o0 : OwnF v1 w.heap.size 70 (some ⟨g0, 0, none⟩) 48 48 (fun _ => .int .i64 0) := by rw [eg0, ev1]; exact z48_new (Nat.le_refl _)
 have hc := bv1
 have hs1 := hc.size
 go_enter Tryz.func40, Tryz.ntmps40
 go_upto_region 1 with fail
 rw [← ev1]
 rw [show Value.pointer (some ⟨w.heap.size, 0, none⟩) = .pointer (some ⟨g0, 0, none⟩) by rw [eg0]]
 clear ev1 bv1 sv1 eg0 hs1
 go_wp2_with fail
 go_at_call 83
 refine (K1.out _).mono ?_
 rintro e y2 ⟨rfl, h0⟩
 replace o0 := OwnF.keep o0 h0
 replace hc := bnx hc h0
 clear h0
 go_wp2_with fail
 go_at_call 83
 refine (K2.out _).mono ?_
 rintro e y3 ⟨rfl, h0⟩
 replace o0 := OwnF.keep o0 h0
 replace hc := bnx hc h0
 clear h0
 go_wp2_with fail
 go_at_call 84
 refine (K3.out _).mono ?_
 rintro e y4 ⟨rfl, h0⟩
 replace o0 := OwnF.keep o0 h0
 replace hc := bnx hc h0
 clear h0
 go_wp2_with fail
 go_at_call 82
 refine (K4.out _).mono ?_
 rintro e y5 ⟨rfl, h0⟩
 replace o0 := OwnF.keep o0 h0
 replace hc := bnx hc h0
 clear h0
 have on0 : O16 (y5.alloc Z16) y5.heap.size y5.heap.size 0 := O16.zero (own_Z16 (Nat.le_refl _))
 have o1 := (on0.put y).mono hc.size
 have hbz := ((Below.refl _ y5).alloc (Nat.le_refl _) Z16).trans (on0.below y)
 replace o0 := OwnF.keep o0 hbz
 replace hc := bnx hc hbz
 clear hbz
 go_upto_region 2 with ((with_reducible refine fl_store on0 y ?_ ?_ ?_); rfl; rfl)
 obtain ⟨y6, ev⟩ : ∃ v, v = set16w (y5.alloc Z16) y5.heap.size y := ⟨_, rfl⟩
 obtain ⟨g1, eg⟩ : ∃ g, g = y5.heap.size := ⟨_, rfl⟩
 rw [← ev] at o0 o1 hc ⊢
 rw [← eg] at o1 ⊢
 clear ev eg on0
 go_wp2_with (first | ((with_reducible refine fl_load o1 ?_ ?_); rfl))
 go_at_call 78
 refine (K5.out _).mono ?_
 rintro e y7 ⟨rfl, h0⟩
 replace o0 := OwnF.keep o0 h0
 replace o1 := O16.keep o1 h0
 replace hc := bnx hc h0
 clear h0
 have on0 := z48_new (w := y7) (Nat.le_refl _)
 have o2 := (t3_put on0 (p)).mono hc.size
 have hbz := ((Below.refl _ y7).alloc (Nat.le_refl _) Z48).trans (t3_below on0 (p))
 replace o0 := OwnF.keep o0 hbz
 replace o1 := O16.keep o1 hbz
 replace hc := bnx hc hbz
 clear hbz
 go_upto_region 3 with ((with_reducible refine t3_store on0 (p) ?_ ?_ ?_); rfl; rfl)
 obtain ⟨y8, ev⟩ : ∃ v, v = setA (y7.alloc Z48) y7.heap.size 0 48 (t3f (p)) := ⟨_, rfl⟩
 obtain ⟨g2, eg⟩ : ∃ g, g = y7.heap.size := ⟨_, rfl⟩
 rw [← ev] at o0 o1 o2 hc ⊢
 rw [← eg] at o2 ⊢
 clear ev eg on0
 have hfb := Lib.hid (hc.trans (t3_below o0 p))
 have HR := Lib.hid (t3_put o0 p)
 go_wp2_with (first | ((with_reducible refine t3_load o2 ?_ ?_); rfl) | ((with_reducible refine t3_store o0 p ?_ ?_ ?_); rfl; rfl))
 exact bodyPost_ret (t3_res Tryz.results40 _ HR.out rfl) rfl ⟨rfl, hfb.out⟩
end
end
section
open Go Go.RowKit
def withN (y bit : Nat) : Tr := if wokN y bit = true then ⟨wxN y bit, y, 1⟩ else ⟨0, 0, 0⟩
theorem uN_is (y : Nat) : uN y = mlN (sbN (mlN y y) 1) (ivN (adN 1 (mlN ed (mlN y y)))) := rfl
section
attribute [local irreducible] wd by8 d16 set16w fl rl setA t3f ivN mlN adN sbN uN rtr rtq
theorem refwith_any {y bit : Nat} (hy : y < P25) (_hb : bit < 2) (w : World) : Calls Tryz.prog 78 #[fv y, .int .i64 (bit : Int)] w fun e w' => e = .returned (.tuple #[t3v (withN y bit), .bool (wokN y bit)]) ∧ Below w.heap.size w w' := by
 have k1 := fun w => lMul hy hy w
 have k2 : ∀ w, Calls Tryz.prog 83 #[.int .i64 1] w fun e w' => e = .returned (fv 1) ∧ Below w.heap.size w w' := fun w => int_any (n := 1) (by decide) w
 have k3 := fun w => lSub (mlN_lt y y) P25_one w
 have k5 := fun w => lMul ed_lt (mlN_lt y y) w
 have k6 := fun w => lAdd P25_one (mlN_lt ed (mlN y y)) w
 have k7 := fun w => lInv (adN_lt 1 (mlN ed (mlN y y))) w
 have k8 := fun w => lMul (sbN_lt (mlN y y) 1) (ivN_lt (adN 1 (mlN ed (mlN y y)))) w
 rw [← uN_is] at k8
 have k9 := fun w => rroot_any (uN_lt y) w
 have k10 : ∀ w, Calls Tryz.prog 83 #[.int .i64 0] w fun e w' => e = .returned (fv 0) ∧ Below w.heap.size w w' := fun w => int_any (n := 0) (by decide) w
 unfold withN
 by_cases hq : rtq (uN y) = 1
 ·rw [decide_eq_true hq] at k9
  have hr : rtr (uN y) < P25 := by
   rw [rtr_sq ((rtq_iff _).1 hq)]
   exact rt2_lt _
  have k11 := fun w => lNeg hr w
  by_cases h0 : rtr (uN y) = 0
  ·by_cases h1 : bit = 1
   ·have e : wokN y bit = false := by unfold wokN; rw [decide_eq_true hq, decide_eq_true h0, decide_eq_true h1]; rfl
    rw [e, if_neg (by decide)]
    exact with_nought (lt_W hr) (lt_W P25_pos) h0 (by omega) k1 k2 k3 refD_any k5 k6 k7 k8 k9 k10 w
   ·have e : wokN y bit = true := by unfold wokN; rw [decide_eq_true hq, decide_eq_true h0, decide_eq_false h1]; rfl
    have e2 : wxN y bit = rtr (uN y) := by unfold wxN; rw [if_neg h1]
    rw [e, if_pos rfl, e2]
    exact with_zero (lt_W hr) (lt_W P25_pos) h0 (by omega) k1 k2 k3 refD_any k5 k6 k7 k8 k9 k10 w
  ·by_cases h1 : bit = 1
   ·have e : wokN y bit = true := by unfold wokN; rw [decide_eq_true hq, decide_eq_false h0, decide_eq_true h1]; rfl
    have e2 : wxN y bit = (P25 - rtr (uN y)) % P25 := by unfold wxN; rw [if_pos h1]
    rw [e, if_pos rfl, e2]
    exact with_odd (lt_W hr) (lt_W P25_pos) h0 (by omega) k1 k2 k3 refD_any k5 k6 k7 k8 k9 k10 k11 w
   ·have e : wokN y bit = true := by unfold wokN; rw [decide_eq_true hq, decide_eq_false h0, decide_eq_false h1]; rfl
    have e2 : wxN y bit = rtr (uN y) := by unfold wxN; rw [if_neg h1]
    rw [e, if_pos rfl, e2]
    exact with_even (lt_W hr) (lt_W P25_pos) h0 (by omega) k1 k2 k3 refD_any k5 k6 k7 k8 k9 k10 w
 ·rw [decide_eq_false hq] at k9
  have e : wokN y bit = false := by unfold wokN; rw [decide_eq_false hq]; rfl
  rw [e, if_neg (by decide)]
  exact with_no k1 k2 k3 refD_any k5 k6 k7 k8 k9 w
theorem refBase_any (w : World) : Calls Tryz.prog 40 #[] w fun e w' => e = .returned (t3v ⟨bx, by_, 1⟩) ∧ Below w.heap.size w w' := by
 obtain ⟨n4, h4⟩ : ∃ n, n = 4 := ⟨_, rfl⟩
 obtain ⟨n5, h5⟩ : ∃ n, n = 5 := ⟨_, rfl⟩
 have l4 : n4 < P25 := by rw [h4]; decide +kernel
 have l5 : n5 < P25 := by rw [h5]; decide +kernel
 have e4 : mlN n4 (ivN n5) = by_ := by rw [h4, h5]; exact base_y
 have hw := fun w => refwith_any (y := by_) (bit := 0) by_lt (by decide) w
 have ew : withN by_ 0 = ⟨bx, by_, 1⟩ := by unfold withN; rw [if_pos base_wok.1, base_wok.2]
 rw [ew, base_wok.1] at hw
 have h := fun w => lMul l4 (ivN_lt n5) w
 rw [e4] at h
 exact Base_gen (n4 := n4) (n5 := n5) (fun w => by rw [h4]; exact int_any (n := 4) (by decide) w) (fun w => by rw [h5]; exact int_any (n := 5) (by decide) w) (fun w => lInv l5 w) h hw w
end
end
end Go.Proofs.YtkbkalhcdbklkaaGreatDoor
