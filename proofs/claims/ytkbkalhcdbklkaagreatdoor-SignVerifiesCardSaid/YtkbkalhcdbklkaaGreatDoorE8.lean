/-
  The document's Times (layer 8): so many times, by the digits from the lowest. Written by tools/gen_e8.py. By an AI agent.
-/
import Derived.Test.YtkbkalhcdbklkaaGreatDoorJ15
namespace Go.Proofs.YtkbkalhcdbklkaaGreatDoor
open Go Go.RowKit
section
variable {C : Cv}
theorem times_dbl {s : Tr} {p : Pt E25} {k : Nat} (hs : s.of (p.mul k)) : (Tr.plus ed s s).of (p.mul (2 * k)) := by
 rw [Pt.mul_two]
 exact Tr.plus_of rfl hs hs
theorem times_put {r s : Tr} {p : Pt E25} {j k : Nat} (hr : r.of (p.mul j)) (hs : s.of (p.mul k)) : (Tr.plus ed r s).of (p.mul (j + k)) := by
 rw [Pt.mul_add]
 exact Tr.plus_of rfl hr hs
end
theorem by8_succ (x k : Nat) : x % 256 ^ (k + 1) = x % 256 ^ k + 256 ^ k * by8 x k := mod_pow_succ' 256 x k
theorem low_bits (d k : Nat) : d % 2 ^ (k + 1) = d % 2 ^ k + 2 ^ k * (d / 2 ^ k % 2) := by rw [Nat.pow_succ, Nat.mod_mul]
section
attribute [local irreducible] wd by8 d16 set16w fl rl setA t3f Tr.plus
set_option maxRecDepth 20000
set_option maxHeartbeats 6400000 in
theorem refTimes_any {A : Option Addr} {c m x : Nat} {t : Tr} {p : Pt E25} (hm : m ≤ 1000) (w : World) (hx : Dig w w.heap.size A c m x) (ht : t.ok) (hp : t.of p) :
  Calls Tryz.prog 39 #[.slice A m c, t3v t] w fun e w' => ∃ r : Tr, e = .returned (t3v r) ∧ r.ok ∧ r.of (p.mul x) ∧ Below w.heap.size w w' := by
 have KD := Lib.hid refD_any
 have KN := Lib.hid refNought_any
 have KP := Lib.hid (fun (p q : Tr) (hp : p.ok) (hq : q.ok) w => refplus_any ed_lt hp hq w)
 have HP := Lib.hid hp
 clear hp
 obtain ⟨v1, ev1⟩ : ∃ v, v = w.alloc (AP t) := ⟨_, rfl⟩
 have bv1 := bnw ev1
 have sv1 := bsz ev1
 obtain ⟨g3, eg3⟩ : ∃ g, g = w.heap.size := ⟨_, rfl⟩
 have o3 : O48 v1 w.heap.size g3 t := by rw [eg3, ev1]; exact O48.new (Nat.le_refl _) t
 have hc := bv1
 have hs1 := hc.size
 obtain ⟨v2, ev2⟩ : ∃ v, v = v1.alloc (Z48) := ⟨_, rfl⟩
 have bv2 := bnw ev2
 have sv2 := bsz ev2
 obtain ⟨g4, eg4⟩ : ∃ g, g = v1.heap.size := ⟨_, rfl⟩
 have o4 : OwnF v2 v1.heap.size 70 (some ⟨g4, 0, none⟩) 48 48 (fun _ => .int .i64 0) := by rw [eg4, ev2]; exact z48_new (Nat.le_refl _)
 have n4_3 : g4 ≠ g3 := by have := OwnF.lt o3; omega
 replace o3 := o3.keep bv2
 replace hc := bnx hc bv2
 replace o4 := o4.mono hs1
 have hs2 := hc.size
 go_enter Tryz.func39, Tryz.ntmps39
 go_upto_region 1 with fail
 rw [← ev1, ← ev2]
 rw [show Value.pointer (some ⟨w.heap.size, 0, none⟩) = .pointer (some ⟨g3, 0, none⟩) by rw [eg3]]
 rw [show Value.pointer (some ⟨w.heap.size + 1, 0, none⟩) = .pointer (some ⟨g4, 0, none⟩) by rw [eg4, sv1]]
 clear ev1 bv1 sv1 ev2 bv2 sv2 eg3 eg4 hs1 hs2
 go_wp2_with (first | ((with_reducible refine t3x_load o3 ?_ ?_); rfl) | ((with_reducible refine t3y_load o3 ?_ ?_); rfl) | ((with_reducible refine t3z_load o3 ?_ ?_); rfl) | ((with_reducible refine t3_load o3 ?_ ?_); rfl))
 go_at_call 80
 refine (KD.out _).mono ?_
 rintro e y3 ⟨rfl, h0⟩
 replace o3 := O48.keep o3 h0
 replace o4 := OwnF.keep o4 h0
 replace hc := bnx hc h0
 clear h0
 have on0 : O16 (y3.alloc Z16) y3.heap.size y3.heap.size 0 := O16.zero (own_Z16 (Nat.le_refl _))
 have hl3 := OwnF.lt o3
 have hl4 := OwnF.lt o4
 have o5 := (on0.put ed).mono hc.size
 have hbz := ((Below.refl _ y3).alloc (Nat.le_refl _) Z16).trans (on0.below ed)
 replace o3 := O48.keep o3 hbz
 replace o4 := OwnF.keep o4 hbz
 replace hc := bnx hc hbz
 clear hbz
 go_upto_region 2 with ((with_reducible refine fl_store on0 ed ?_ ?_ ?_); rfl; rfl)
 obtain ⟨y4, ev⟩ : ∃ v, v = set16w (y3.alloc Z16) y3.heap.size ed := ⟨_, rfl⟩
 obtain ⟨g5, eg⟩ : ∃ g, g = y3.heap.size := ⟨_, rfl⟩
 rw [← ev] at o3 o4 o5 hc ⊢
 rw [← eg] at o5 ⊢
 have n5_3 : g5 ≠ g3 := by omega
 have n5_4 : g5 ≠ g4 := by omega
 clear hl3 hl4
 clear ev eg on0
 go_wp2_with (first | ((with_reducible refine t3x_load o3 ?_ ?_); rfl) | ((with_reducible refine t3y_load o3 ?_ ?_); rfl) | ((with_reducible refine t3z_load o3 ?_ ?_); rfl) | ((with_reducible refine t3_load o3 ?_ ?_); rfl) | ((with_reducible refine fl_load o5 ?_ ?_); rfl))
 go_at_call 79
 refine (KN.out _).mono ?_
 rintro e y5 ⟨rfl, h0⟩
 replace o3 := O48.keep o3 h0
 replace o4 := OwnF.keep o4 h0
 replace o5 := O16.keep o5 h0
 replace hc := bnx hc h0
 clear h0
 have on0 := z48_new (w := y5) (Nat.le_refl _)
 have hl3 := OwnF.lt o3
 have hl4 := OwnF.lt o4
 have hl5 := OwnF.lt o5
 have o6 := (t3_put on0 (⟨0, 1, 1⟩)).mono hc.size
 have hbz := ((Below.refl _ y5).alloc (Nat.le_refl _) Z48).trans (t3_below on0 (⟨0, 1, 1⟩))
 replace o3 := O48.keep o3 hbz
 replace o4 := OwnF.keep o4 hbz
 replace o5 := O16.keep o5 hbz
 replace hc := bnx hc hbz
 clear hbz
 go_upto_region 3 with ((with_reducible refine t3_store on0 (⟨0, 1, 1⟩) ?_ ?_ ?_); rfl; rfl)
 obtain ⟨y6, ev⟩ : ∃ v, v = setA (y5.alloc Z48) y5.heap.size 0 48 (t3f (⟨0, 1, 1⟩)) := ⟨_, rfl⟩
 obtain ⟨g6, eg⟩ : ∃ g, g = y5.heap.size := ⟨_, rfl⟩
 rw [← ev] at o3 o4 o5 o6 hc ⊢
 rw [← eg] at o6 ⊢
 have n6_3 : g6 ≠ g3 := by omega
 have n6_4 : g6 ≠ g4 := by omega
 have n6_5 : g6 ≠ g5 := by omega
 clear hl3 hl4 hl5
 clear ev eg on0
 have hx0 := Lib.hid hx.rd
 have HXL := Lib.hid hx.lt
 clear hx KD KN
 go_wp2_with fail
 go_loopw [7, 8, 9] (fun i _ _ wr => ∃ k : Nat, k ≤ m ∧ i = .int .i64 (k : Int) ∧ (∃ r s : Tr, O48 wr w.heap.size g6 r ∧ O48 wr w.heap.size g3 s ∧ r.ok ∧ s.ok ∧ r.of (p.mul (x % 256 ^ k)) ∧ s.of (p.mul (256 ^ k))) ∧ O16 wr w.heap.size g5 ed ∧ OwnF wr w.heap.size 70 (some ⟨g4, 0, none⟩) 48 48 (fun _ => .int .i64 0) ∧ Below w.heap.size w wr)
  (fun i _ _ _ => m - (intOf i).toNat)
 case atStart => exact ⟨0, Nat.zero_le _, rfl, ⟨⟨0, 1, 1⟩, t, o6.mono (Nat.le_refl _), o3, ⟨show 0 < P25 from P25_pos, show 1 < P25 from P25_one, show 1 < P25 from P25_one⟩, ht, by rw [Nat.pow_zero, Nat.mod_one]; exact Tr.nought_of E25, by rw [Nat.pow_zero, Pt.mul_one]; exact HP.out⟩, o5, OwnF.mono o4 (Nat.le_refl _), hc⟩
 case round =>
  clear o3 o4 o5 o6 ht
  obtain ⟨k, hk, rfl, ⟨r, s, o6, o3, hrk, hsk, hrp, hsp⟩, o5, o4, hb⟩ := hrel
  by_cases hlt : k < m
  ·have q1 : (k : Int) < (m : Int) := by omega
   have q2 : (0 : Int) ≤ (k : Int) := by omega
   have hk1000 : k < 1000 := by omega
   obtain ⟨ba, oa, rfl, hba, cc0⟩ := hx0.out.at_ hlt
   have cc := (hb.cell (p := ⟨ba, oa + k, none⟩) hba).trans cc0
   obtain ⟨D, hD⟩ : ∃ D, D = by8 x k := ⟨_, rfl⟩
   have hD256 : D < 256 := by rw [hD]; exact by8_lt x k
   replace cc : wr.cell? ⟨ba, oa + k, none⟩ = some (.int .i64 (D : Int)) := by rw [hD]; exact cc
   have hxk : x % 256 ^ (k + 1) = x % 256 ^ k + 256 ^ k * D := by rw [hD]; exact by8_succ x k
   have HXK := Lib.hid hxk
   have HLT := Lib.hid hlt
   obtain ⟨b0, hb0⟩ : ∃ b, b = x % 256 ^ k := ⟨_, rfl⟩
   obtain ⟨u0, hu0⟩ : ∃ u, u = 256 ^ k := ⟨_, rfl⟩
   rw [← hb0] at hrp
   rw [← hu0] at hsp
   rw [← hb0, ← hu0] at HXK
   have HU0 := Lib.hid hu0
   clear hxk hD cc0 hb0 hu0 hlt hk
   go_wp2_with fail
   go_loopw [8, 9] (fun d i wq => ∃ j : Nat, j ≤ 8 ∧ i = .int .i64 (j : Int) ∧ d = .int .i64 ((D / 2 ^ j : Nat) : Int) ∧ (∃ r s : Tr, O48 wq w.heap.size g6 r ∧ O48 wq w.heap.size g3 s ∧ r.ok ∧ s.ok ∧ r.of (p.mul (b0 + u0 * (D % 2 ^ j))) ∧ s.of (p.mul (u0 * 2 ^ j))) ∧ O16 wq w.heap.size g5 ed ∧ OwnF wq w.heap.size 70 (some ⟨g4, 0, none⟩) 48 48 (fun _ => .int .i64 0) ∧ Below w.heap.size w wq)
    (fun _ i _ => 8 - (intOf i).toNat)
   case atStart => exact ⟨0, by omega, rfl, by rw [Nat.pow_zero, Nat.div_one], ⟨r, s, o6, o3, hrk, hsk, by rw [Nat.pow_zero, Nat.mod_one, Nat.mul_zero, Nat.add_zero]; exact hrp, by rw [Nat.pow_zero, Nat.mul_one]; exact hsp⟩, o5, o4, hb⟩
   case round =>
    clear o3 o4 o5 o6 hrk hsk hrp hsp hb cc
    obtain ⟨j, hj, rfl, rfl, ⟨r, s, o6, o3, hrk, hsk, hrp, hsp⟩, o5, o4, hb⟩ := hrel
    by_cases hl8 : j < 8
    ·have q3 : (j : Int) < 8 := by omega
     obtain ⟨E, hE⟩ : ∃ E, E = D / 2 ^ j := ⟨_, rfl⟩
     obtain ⟨E2, hE2a⟩ : ∃ E2, E2 = E / 2 := ⟨_, rfl⟩
     have hE2 : D / 2 ^ (j + 1) = E2 := by rw [hE2a, hE, Nat.pow_succ, Nat.div_div_eq_div_mul]
     rw [← hE]
     have f1 : (E : Int) / 2 = (E2 : Int) := by omega
     have f2 : (E : Int).tdiv 2 = (E2 : Int) := by rw [Int.tdiv_eq_ediv_of_nonneg (by omega)]; omega
     have hEl : E < 256 := Nat.lt_of_le_of_lt (hE ▸ Nat.div_le_self D _) hD256
     have f3 : IntKind.i64.wrap (E2 : Int) = (E2 : Int) := by rw [IntKind.wrap_i64]; omega
     rcases Nat.mod_two_eq_zero_or_one E with hbit | hbit
     ·have f4 : (E : Int) % 2 = 0 := by omega
      have f5 : (E : Int).tmod 2 = 0 := by rw [Int.tmod_eq_emod_of_nonneg (by omega)]; omega
      clear hE2a
      have HRP := Lib.hid (show r.of (p.mul (b0 + u0 * (D % 2 ^ (j + 1)))) by rw [low_bits, ← hE, hbit, Nat.mul_zero, Nat.add_zero]; exact hrp)
      have HSP := Lib.hid (show (Tr.plus ed s s).of (p.mul (u0 * 2 ^ (j + 1))) by rw [show u0 * 2 ^ (j + 1) = 2 * (u0 * 2 ^ j) by rw [Nat.pow_succ, ← Nat.mul_assoc, Nat.mul_comm]]; exact times_dbl hsp)
      have HE2 := Lib.hid hE2
      have HR2 := Lib.hid hrk
      have HS2 := Lib.hid (plus_ok ed s s)
      clear hE hE2 hbit hrp hsp
      go_wp2_with (first | ((with_reducible refine fl_load o5 ?_ ?_); rfl) | ((with_reducible refine t3_load o6 ?_ ?_); rfl) | ((with_reducible refine t3_load o3 ?_ ?_); rfl))
      go_at_call 81
      refine (KP.out s s hsk hsk _).mono ?_
      rintro e y2 ⟨rfl, h0⟩
      replace o3 := O48.keep o3 h0
      replace o4 := OwnF.keep o4 h0
      replace o5 := O16.keep o5 h0
      replace o6 := O48.keep o6 h0
      replace hb := bnx hb h0
      clear h0
      have on0 : OwnF _ w.heap.size 70 (some ⟨g3, 0, none⟩) 48 48 _ := o3
      have ho := t3_only y2 g3 (Tr.plus ed s s)
      replace o3 := t3_put on0 (Tr.plus ed s s)
      replace o6 := OwnF.only o6 ho n6_3.symm
      replace o5 : O16 _ w.heap.size g5 ed := OwnF.only o5 ho n5_3.symm
      replace o4 := OwnF.only o4 ho n4_3.symm
      replace hb := hb.trans (t3_below on0 (Tr.plus ed s s))
      clear ho
      go_upto_region 13 with ((with_reducible refine t3_store on0 (Tr.plus ed s s) ?_ ?_ ?_); rfl; rfl)
      obtain ⟨z3, ev⟩ : ∃ v, v = setA y2 g3 0 48 (t3f (Tr.plus ed s s)) := ⟨_, rfl⟩
      rw [← ev] at o3 o4 o5 o6 hb ⊢
      clear ev on0
      go_wp2_with fail
      exact ⟨⟨j + 1, by omega, by go_num, by rw [HE2.out], ⟨r, Tr.plus ed s s, o6, o3, HR2.out, HS2.out, HRP.out, HSP.out⟩, o5, o4, hb⟩, by simp [intOf]; omega⟩
     ·have f4 : (E : Int) % 2 = 1 := by omega
      have f5 : (E : Int).tmod 2 = 1 := by rw [Int.tmod_eq_emod_of_nonneg (by omega)]; omega
      clear hE2a
      have HRP := Lib.hid (show (Tr.plus ed r s).of (p.mul (b0 + u0 * (D % 2 ^ (j + 1)))) by rw [low_bits, ← hE, hbit, Nat.mul_one, Nat.mul_add, ← Nat.add_assoc]; exact times_put hrp hsp)
      have HSP := Lib.hid (show (Tr.plus ed s s).of (p.mul (u0 * 2 ^ (j + 1))) by rw [show u0 * 2 ^ (j + 1) = 2 * (u0 * 2 ^ j) by rw [Nat.pow_succ, ← Nat.mul_assoc, Nat.mul_comm]]; exact times_dbl hsp)
      have HE2 := Lib.hid hE2
      have HR2 := Lib.hid (plus_ok ed r s)
      have HS2 := Lib.hid (plus_ok ed s s)
      clear hE hE2 hbit hrp hsp
      go_wp2_with (first | ((with_reducible refine fl_load o5 ?_ ?_); rfl) | ((with_reducible refine t3_load o6 ?_ ?_); rfl) | ((with_reducible refine t3_load o3 ?_ ?_); rfl))
      go_at_call 81
      refine (KP.out r s hrk hsk _).mono ?_
      rintro e y1 ⟨rfl, h0⟩
      replace o3 := O48.keep o3 h0
      replace o4 := OwnF.keep o4 h0
      replace o5 := O16.keep o5 h0
      replace o6 := O48.keep o6 h0
      replace hb := bnx hb h0
      clear h0
      have on0 : OwnF _ w.heap.size 70 (some ⟨g6, 0, none⟩) 48 48 _ := o6
      have ho := t3_only y1 g6 (Tr.plus ed r s)
      replace o6 := t3_put on0 (Tr.plus ed r s)
      replace o3 : O48 _ w.heap.size g3 s := OwnF.only o3 ho n6_3
      replace o5 : O16 _ w.heap.size g5 ed := OwnF.only o5 ho n6_5
      replace o4 := OwnF.only o4 ho n6_4
      replace hb := hb.trans (t3_below on0 (Tr.plus ed r s))
      clear ho
      go_upto_region 12 with ((with_reducible refine t3_store on0 (Tr.plus ed r s) ?_ ?_ ?_); rfl; rfl)
      obtain ⟨z6, ev⟩ : ∃ v, v = setA y1 g6 0 48 (t3f (Tr.plus ed r s)) := ⟨_, rfl⟩
      rw [← ev] at o3 o4 o5 o6 hb ⊢
      clear ev on0
      go_wp2_with (first | ((with_reducible refine fl_load o5 ?_ ?_); rfl) | ((with_reducible refine t3_load o6 ?_ ?_); rfl) | ((with_reducible refine t3_load o3 ?_ ?_); rfl))
      go_at_call 81
      refine (KP.out s s hsk hsk _).mono ?_
      rintro e y2 ⟨rfl, h0⟩
      replace o3 := O48.keep o3 h0
      replace o4 := OwnF.keep o4 h0
      replace o5 := O16.keep o5 h0
      replace o6 := O48.keep o6 h0
      replace hb := bnx hb h0
      clear h0
      have on0 : OwnF _ w.heap.size 70 (some ⟨g3, 0, none⟩) 48 48 _ := o3
      have ho := t3_only y2 g3 (Tr.plus ed s s)
      replace o3 := t3_put on0 (Tr.plus ed s s)
      replace o6 := OwnF.only o6 ho n6_3.symm
      replace o5 : O16 _ w.heap.size g5 ed := OwnF.only o5 ho n5_3.symm
      replace o4 := OwnF.only o4 ho n4_3.symm
      replace hb := hb.trans (t3_below on0 (Tr.plus ed s s))
      clear ho
      go_upto_region 13 with ((with_reducible refine t3_store on0 (Tr.plus ed s s) ?_ ?_ ?_); rfl; rfl)
      obtain ⟨z3, ev⟩ : ∃ v, v = setA y2 g3 0 48 (t3f (Tr.plus ed s s)) := ⟨_, rfl⟩
      rw [← ev] at o3 o4 o5 o6 hb ⊢
      clear ev on0
      go_wp2_with fail
      exact ⟨⟨j + 1, by omega, by go_num, by rw [HE2.out], ⟨Tr.plus ed r s, Tr.plus ed s s, o6, o3, HR2.out, HS2.out, HRP.out, HSP.out⟩, o5, o4, hb⟩, by simp [intOf]; omega⟩
    ·obtain rfl : j = 8 := by omega
     have e1 : D % 2 ^ 8 = D := Nat.mod_eq_of_lt hD256
     rw [e1] at hrp
     have hrp2 : r.of (p.mul (x % 256 ^ (k + 1))) := by rw [HXK.out]; exact hrp
     have hsp2 : s.of (p.mul (256 ^ (k + 1))) := by rw [Nat.pow_succ, ← HU0.out]; exact hsp
     have FIN := Lib.hid (And.intro hrp2 hsp2)
     clear hrp hsp hrp2 hsp2 e1
     go_wp2_with fail
     exact ⟨⟨k + 1, HLT.out, by go_num, ⟨r, s, o6, o3, hrk, hsk, FIN.out.1, FIN.out.2⟩, o5, o4, hb⟩, by have := HLT.out; simp [intOf]; omega⟩
  ·obtain rfl : k = m := by omega
   have e1 : x % 256 ^ k = x := Nat.mod_eq_of_lt HXL.out
   rw [e1] at hrp
   have hfb := Lib.hid (hb.trans (t3_below o4 r))
   have HR := Lib.hid (t3_put o4 r)
   have FIN := Lib.hid hrp
   clear hrp hsp
   go_wp2_with (first | ((with_reducible refine t3_load o6 ?_ ?_); rfl) | ((with_reducible refine t3_store o4 r ?_ ?_ ?_); rfl; rfl))
   exact bodyPost_ret (t3_res Tryz.results39 _ HR.out rfl) rfl ⟨r, rfl, hrk, FIN.out, hfb.out⟩
end
end Go.Proofs.YtkbkalhcdbklkaaGreatDoor
