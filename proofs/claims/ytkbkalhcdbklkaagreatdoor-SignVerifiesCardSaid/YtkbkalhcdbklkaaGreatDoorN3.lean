/-
  The document's root (layer 6), over letters. By an AI agent.
-/
import Derived.Test.YtkbkalhcdbklkaaGreatDoorJ05
namespace Go.Proofs.YtkbkalhcdbklkaaGreatDoor
open Go Go.RowKit
def gr (p e : Nat) : Nat → Nat
 | 0 => 0
 | k + 1 => if p * 65536 ^ (4 * e) < (gr p e k + 2 ^ (79 - k)) ^ e then gr p e k else gr p e k + 2 ^ (79 - k)
theorem gr_inv (p e : Nat) : ∀ k, k ≤ 80 → gr p e k % 2 ^ (80 - k) = 0 ∧ gr p e k + 2 ^ (80 - k) ≤ 2 ^ 80
 | 0, _ => ⟨by simp [gr], by simp [gr]⟩
 | k + 1, hk => by
  obtain ⟨h1, h2⟩ := gr_inv p e k (by omega)
  have e1 : 80 - k = (79 - k) + 1 := by omega
  have e2 : 80 - (k + 1) = 79 - k := by omega
  rw [e1, Nat.pow_succ] at h1 h2
  rw [e2]
  have hd : gr p e k % 2 ^ (79 - k) = 0 := by
   have := Nat.mod_mul_right_mod (gr p e k) (2 ^ (79 - k)) 2
   rw [h1] at this
   simpa using this.symm
  unfold gr
  split
  ·exact ⟨hd, by omega⟩
  ·exact ⟨by rw [Nat.add_mod, hd]; simp, by omega⟩
theorem up_mod {z s : Nat} (hs : s < 16) (h : z % 2 ^ (s + 1) = 0) : (z + 2 ^ s) % 65536 = z % 65536 + 2 ^ s ∧ (z + 2 ^ s) / 65536 = z / 65536 := by
 have : s = 0 ∨ s = 1 ∨ s = 2 ∨ s = 3 ∨ s = 4 ∨ s = 5 ∨ s = 6 ∨ s = 7 ∨ s = 8 ∨ s = 9 ∨ s = 10 ∨ s = 11 ∨ s = 12 ∨ s = 13 ∨ s = 14 ∨ s = 15 := by omega
 rcases this with rfl | rfl | rfl | rfl | rfl | rfl | rfl | rfl | rfl | rfl | rfl | rfl | rfl | rfl | rfl | rfl <;> (simp only [Nat.reducePow, Nat.reduceAdd] at h ⊢; omega)
theorem pow_is (i s : Nat) : (2 : Nat) ^ (16 * i + s) = 65536 ^ i * 2 ^ s := by rw [Nat.pow_add, Nat.pow_mul]
theorem low_div {X i s : Nat} (h : X % 2 ^ (16 * i + s + 1) = 0) : X / 65536 ^ i % 2 ^ (s + 1) = 0 := by
 have e : 16 * i + s + 1 = 16 * i + (s + 1) := by omega
 rw [e, pow_is] at h
 obtain ⟨c, hc⟩ := Nat.dvd_of_mod_eq_zero h
 rw [hc, Nat.mul_assoc, Nat.mul_div_cancel_left _ (Nat.pow_pos (by decide))]
 exact Nat.mul_mod_right _ _
theorem d6_up {X i s : Nat} (hs : s < 16) (h : X % 2 ^ (16 * i + s + 1) = 0) (j : Nat) : d6 (X + 2 ^ (16 * i + s)) j = if j = i then d6 X i + 2 ^ s else d6 X j := by
 have hz := up_mod hs (low_div h)
 have hdiv : (X + 2 ^ (16 * i + s)) / 65536 ^ i = X / 65536 ^ i + 2 ^ s := by rw [pow_is, Nat.add_mul_div_left _ _ (Nat.pow_pos (by decide))]
 by_cases hj : j = i
 ·subst hj
  rw [if_pos rfl]
  unfold d6 dgt
  rw [hdiv, hz.1]
 ·rw [if_neg hj]
  by_cases hlt : j < i
  ·rw [pow_is]; exact dgt_add_mul _ _ hlt
  ·obtain ⟨t, rfl⟩ : ∃ t, j = i + (1 + t) := ⟨j - i - 1, by omega⟩
   unfold d6 dgt
   rw [show (65536 : Nat) ^ (i + (1 + t)) = 65536 ^ i * (65536 * 65536 ^ t) by rw [Nat.pow_add, Nat.pow_add 65536 1, Nat.pow_one], ← Nat.div_div_eq_div_mul, ← Nat.div_div_eq_div_mul, hdiv, hz.2, ← Nat.div_div_eq_div_mul, ← Nat.div_div_eq_div_mul]
theorem d6_room {X i s : Nat} (hs : s < 16) (h : X % 2 ^ (16 * i + s + 1) = 0) : d6 X i + 2 ^ s < 65536 := by
 have h1 := d6_up hs h i
 rw [if_pos rfl] at h1
 rw [← h1]
 exact d6_lt _ _
theorem root_out {X : Nat} : X % 18446744073709551616 = d6 X 3 * 281474976710656 + d6 X 2 * 4294967296 + d6 X 1 * 65536 + d6 X 0 := by
 unfold d6 dgt
 simp only [Nat.reducePow, Nat.div_one]
 omega
theorem gr_succ (p e k : Nat) : gr p e (k + 1) = if p * 65536 ^ (4 * e) < (gr p e k + 2 ^ (79 - k)) ^ e then gr p e k else gr p e k + 2 ^ (79 - k) := rfl
attribute [local irreducible] d6 gr
set_option maxRecDepth 20000 in
set_option maxHeartbeats 1600000 in
theorem root_any {p e : Nat} (hp : p < 65536) (he : e = 2 ∨ e = 3) (w : World) :
  Calls Tryz.prog 141 #[.int .i64 (p : Int), .int .i64 (e : Int)] w fun en w' => en = .returned (.int .u64 ((gr p e 80 % 18446744073709551616 : Nat) : Int)) ∧ Below w.heap.size w w' := by
 obtain ⟨i0, hi, hz0, hz1, hz2⟩ := info_parts infoU64
 have hmk := run_mkF (P := Tryz.prog) 117 33 i0 Tryz.underlying117 hi hz0 rfl hz1 hz2 (l := 5) (n := 5) rfl (by omega) (by omega)
 have hm := OwnF.made (w := w) (B := w.heap.size) 33 (.int .u64 0) (n := 5) (Nat.le_refl _) (by unfold maxLen; omega)
 have hb0 : Below w.heap.size w (w.alloc (.cells (madeCells #[.int .u64 0] 5) 33)) := (Below.refl _ w).alloc (Nat.le_refl _) _
 have g4e : IntKind.i64.wrap (4 * (e : Int)) = ((4 * e : Nat) : Int) := by rw [IntKind.wrap_i64]; omega
 obtain ⟨R, hR⟩ : ∃ r, r = gr p e 80 % 18446744073709551616 := ⟨_, rfl⟩
 rw [← hR]
 have HR := Lib.hid hR
 clear hR
 have HG := Lib.hid (fun k hk => gr_inv p e k hk)
 have hgs := gr_succ p e
 have HS := Lib.hid hgs
 clear hgs
 go_enter Tryz.func141, Tryz.ntmps141
 go_wp2_with fail
 go_loopw [6] (fun i wr => ∃ m : Nat, m ≤ 5 ∧ i = .int .i64 ((m : Int) - 1) ∧ OwnF wr w.heap.size 33 (some ⟨w.heap.size, 0, none⟩) 5 5 (dv6 (gr p e (16 * (5 - m)))) ∧ Below w.heap.size w wr)
  (fun i _ => (intOf i + 1).toNat)
 case atStart => exact ⟨5, by omega, rfl, hm.congr (fun j _ => by rw [show gr p e (16 * (5 - 5)) = 0 from by simp [gr], dv6_zero]), hb0⟩
 case round =>
  obtain ⟨m, hm5, rfl, os, hb⟩ := hrel
  clear hmk hm hb0
  by_cases hlt : m = 0
  ·subst hlt
   have g1 : ((0 : Nat) : Int) - 1 = -1 := by decide
   have c0 := os.cell (k := 0) (by decide)
   have c1 := os.cell (k := 1) (by decide)
   have c2 := os.cell (k := 2) (by decide)
   have c3 := os.cell (k := 3) (by decide)
   unfold dv6 at c0 c1 c2 c3
   have hro := @root_out (gr p e 80)
   have t0 := d6_lt (gr p e 80) 0
   have t1 := d6_lt (gr p e 80) 1
   have t2 := d6_lt (gr p e 80) 2
   have t3 := d6_lt (gr p e 80) 3
   have hR := HR.out
   rw [hro] at hR
   simp only [show 16 * (5 - 0) = 80 from rfl] at c0 c1 c2 c3
   generalize d6 (gr p e 80) 0 = x0 at *
   generalize d6 (gr p e 80) 1 = x1 at *
   generalize d6 (gr p e 80) 2 = x2 at *
   generalize d6 (gr p e 80) 3 = x3 at *
   clear hro os HR HG HS
   have k3 : IntKind.u64.wrap ((x3 : Int) * 281474976710656) = (x3 : Int) * 281474976710656 := by rw [IntKind.wrap_u64]; omega
   have k2 : IntKind.u64.wrap ((x2 : Int) * 4294967296) = (x2 : Int) * 4294967296 := by rw [IntKind.wrap_u64]; omega
   have k1 : IntKind.u64.wrap ((x1 : Int) * 65536) = (x1 : Int) * 65536 := by rw [IntKind.wrap_u64]; omega
   have k4 : IntKind.u64.wrap ((x3 : Int) * 281474976710656 + (x2 : Int) * 4294967296) = (x3 : Int) * 281474976710656 + (x2 : Int) * 4294967296 := by rw [IntKind.wrap_u64]; omega
   have k5 : IntKind.u64.wrap ((x3 : Int) * 281474976710656 + (x2 : Int) * 4294967296 + (x1 : Int) * 65536) = (x3 : Int) * 281474976710656 + (x2 : Int) * 4294967296 + (x1 : Int) * 65536 := by rw [IntKind.wrap_u64]; omega
   have k6 : IntKind.u64.wrap ((x3 : Int) * 281474976710656 + (x2 : Int) * 4294967296 + (x1 : Int) * 65536 + (x0 : Int)) = (R : Int) := by rw [IntKind.wrap_u64]; omega
   clear t0 t1 t2 t3 hR
   go_upto_region 14 with fail
   refine wp_region_still_tail 18 (by kernel_rfl) (by kernel_rfl) ?_
   simp only [List.take_succ_cons, List.take_zero, List.drop_succ_cons, List.drop_zero]
   repeat still_step
   refine wpStill_nil ?_
   change wpList _ _ _ _ _ wr.drew
   replace hb := hb.drew
   go_wp2_with fail
   go_ret
   exact ⟨rfl, hb⟩
  ·obtain ⟨i, rfl⟩ : ∃ i, m = i + 1 := ⟨m - 1, by omega⟩
   have g1 : ((i + 1 : Nat) : Int) - 1 = (i : Int) := by omega
   rw [g1]
   have g2 : (0 : Int) ≤ (i : Int) := by omega
   have g3 : (i : Int) < 5 := by omega
   have gw : IntKind.i64.wrap ((i : Int) - 1) = ((i : Nat) : Int) - 1 := by rw [IntKind.wrap_i64]; omega
   go_wp2_with fail
   obtain ⟨w0, e0⟩ : ∃ w0 : World, w0 = wr := ⟨_, rfl⟩
   subst e0
   go_loopw [7] (fun st wr => ∃ j : Nat, j ≤ 16 ∧ st = .int .u64 ((32768 / 2 ^ j : Nat) : Int) ∧ OwnF wr w.heap.size 33 (some ⟨w.heap.size, 0, none⟩) 5 5 (dv6 (gr p e (16 * (4 - i) + j))) ∧ Below w.heap.size w wr)
    (fun st _ => (intOf st).toNat)
   case atStart => exact ⟨0, by omega, rfl, by rw [show 16 * (4 - i) + 0 = 16 * (5 - (i + 1)) by omega]; exact os, hb⟩
   case round =>
    clear os hb
    obtain ⟨j, hj, rfl, os, hb⟩ := hrel
    by_cases hj16 : j = 16
    ·subst hj16
     have k1 : ((32768 / 2 ^ 16 : Nat) : Int) = 0 := by decide
     rw [k1]
     go_wp2_with fail
     go_roundw
     case rel => exact ⟨i, by omega, by go_num, by rw [show 16 * (5 - i) = 16 * (4 - i) + 16 by omega]; exact os, hb⟩
     case measure => simp [intOf]
    ·obtain ⟨s, hs⟩ : ∃ s, s = 15 - j := ⟨_, rfl⟩
     obtain ⟨k, hk⟩ : ∃ k, k = 16 * (4 - i) + j := ⟨_, rfl⟩
     have hs16 : s < 16 := by omega
     have hk79 : 79 - k = 16 * i + s := by omega
     have hk80 : 80 - k = 16 * i + s + 1 := by omega
     have hst : 32768 / 2 ^ j = 2 ^ s := by rw [show 32768 = 2 ^ (s + j) by rw [hs, show 15 - j + j = 15 by omega], Nat.pow_add]; exact Nat.mul_div_cancel _ (Nat.pow_pos (by decide))
     have hst2 : 32768 / 2 ^ (j + 1) = 2 ^ s / 2 := by rw [Nat.pow_succ, ← Nat.div_div_eq_div_mul, hst]
     obtain ⟨hv1, hv2⟩ := HG.out k (by omega)
     rw [hk80] at hv1 hv2
     rw [← hk] at os
     rw [hst]
     obtain ⟨X, hX⟩ : ∃ X, X = gr p e k := ⟨_, rfl⟩
     have hXk := hX.symm
     rw [hXk] at hv1 hv2 os
     obtain ⟨Y, hYd⟩ : ∃ Y, Y = X + 2 ^ (16 * i + s) := ⟨_, rfl⟩
     have hYe := hYd.symm
     have hY : Y < 65536 ^ 5 := by
      have h1 : (2 : Nat) ^ 80 = 65536 ^ 5 := by decide
      have h2 : 0 < 2 ^ (16 * i + s) := Nat.pow_pos (by decide)
      rw [Nat.pow_succ] at hv2
      omega
     have hu := d6_up hs16 hv1
     rw [hYe] at hu
     have hyi : d6 Y i = d6 X i + 2 ^ s := by rw [hu i, if_pos rfl]
     have hroom := d6_room hs16 hv1
     have HU := Lib.hid hu
     have hpos : 0 < 2 ^ s := Nat.pow_pos (by decide)
     have hS32 : 2 ^ s ≤ 32768 := by rw [show 32768 = 2 ^ 15 from rfl]; exact Nat.pow_le_pow_right (by decide) (by omega)
     obtain ⟨sv, hsv⟩ : ∃ x, x = 2 ^ s := ⟨_, rfl⟩
     rw [← hsv] at hyi hroom hpos hS32 hst2 ⊢
     have k0 : (0 : Int) < (sv : Int) := by omega
     have k2 : IntKind.u64.wrap ((d6 X i : Int) + (sv : Int)) = (d6 Y i : Int) := by rw [hyi, IntKind.wrap_u64]; omega
     have k3 : IntKind.u64.wrap ((d6 Y i : Int) - (sv : Int)) = (d6 X i : Int) := by rw [hyi, IntKind.wrap_u64]; omega
     have k4 : (sv : Int) / 2 = ((32768 / 2 ^ (j + 1) : Nat) : Int) := by rw [hst2]; omega
     have k4' : (sv : Int).tdiv 2 = ((32768 / 2 ^ (j + 1) : Nat) : Int) := by rw [Int.tdiv_eq_ediv_of_nonneg (by omega), k4]
     have k5 : IntKind.u64.wrap ((32768 / 2 ^ (j + 1) : Nat) : Int) = ((32768 / 2 ^ (j + 1) : Nat) : Int) := by rw [hst2, IntKind.wrap_u64]; omega
     have hdec : 32768 / 2 ^ (j + 1) < sv := by omega
     clear hyi hst hst2 hv1 hv2 hu hYd hX hsv hs hpos hS32 hroom
     generalize hN : 32768 / 2 ^ (j + 1) = nx at *
     have cx := os.cell (k := i) (by omega)
     have fx := os.free i
     rw [show dv6 X i = .int .u64 (d6 X i : Int) from rfl] at cx
     have o2 : OwnF _ w.heap.size 33 (some ⟨w.heap.size, 0, none⟩) 5 5 (dv6 Y) := (os.set_ i (.int .u64 (d6 Y i : Int))).congr fun t _ => by
      by_cases ht : t = i
      ·rw [if_pos ht, ht]; rfl
      ·rw [if_neg ht]; unfold dv6; rw [HU.out t, if_neg ht]
     have hb2 : Below w.heap.size w _ := hb.setCell (p := ⟨w.heap.size, i, none⟩) (Nat.le_refl _) (.int .u64 (d6 Y i : Int))
     go_upto_region 9 with fail
     obtain ⟨w1, e1⟩ : ∃ v, v = wr.setCell ⟨w.heap.size, i, none⟩ (.int .u64 (d6 Y i : Int)) := ⟨_, rfl⟩
     rw [← e1] at o2 hb2 ⊢
     clear e1 os hb cx fx
     have os := o2
     have hb := hb2
     clear o2 hb2 HR HG
     rcases he with he2 | he2
     ·have g4 : IntKind.i64.wrap (4 * (e : Int)) = 8 := by rw [g4e, he2]; rfl
      have ge3 : ((e : Int) == 3) = false := by rw [he2]; rfl
      have hcond : (p * 65536 ^ (4 * e) < Y ^ e) ↔ (p * 65536 ^ 8 < Y ^ 2) := by rw [he2]
      have hsc := HS.out k
      rw [hk79, hXk, hYe] at hsc
      simp only [hcond] at hsc
      clear g4e he2 hcond
      go_wp2_with fail
      go_at_call 151
      refine (mul6_any (x := Y) (y := Y) _ os.rd hY os.rd hY (Nat.le_refl _) (by decide) (by decide)).mono ?_
      rintro en w2 ⟨rfl, ox, h0⟩
      replace os := os.keep h0
      replace hb := bnx hb h0
      have hxx : Y * Y < 65536 ^ 10 := by rw [show (65536 : Nat) ^ 10 = 65536 ^ 5 * 65536 ^ 5 by decide]; exact Nat.mul_lt_mul_of_lt_of_le hY (Nat.le_of_lt hY) (by decide)
      clear h0
      go_wp2_with fail
      go_at_call 152
      refine (most_any (X := Y * Y) (q := 8) _ ox.rd hxx hp (by decide) (by decide)).mono ?_
      rintro en w3 ⟨rfl, rfl⟩
      rw [← Nat.pow_two]
      by_cases hlt : p * 65536 ^ 8 < Y ^ 2
      ·rw [if_pos hlt] at hsc
       rw [decide_eq_true hlt]
       have cy := os.cell (k := i) (by omega)
       have fy := os.free i
       rw [show dv6 Y i = .int .u64 (d6 Y i : Int) from rfl] at cy
       have o3 := os.set_ i (.int .u64 (d6 X i : Int))
       have o4 : OwnF _ w.heap.size 33 (some ⟨w.heap.size, 0, none⟩) 5 5 (dv6 (gr p e (16 * (4 - i) + (j + 1)))) := o3.congr fun t _ => by
        rw [show 16 * (4 - i) + (j + 1) = k + 1 by omega, hsc]
        by_cases ht : t = i
        ·rw [if_pos ht, ht]; rfl
        ·rw [if_neg ht]; unfold dv6; rw [HU.out t, if_neg ht]
       have hb4 : Below w.heap.size w _ := hb.setCell (p := ⟨w.heap.size, i, none⟩) (Nat.le_refl _) (.int .u64 (d6 X i : Int))
       clear hlt hsc HS o3 os hb hdec
       go_wp2_with fail
       exact ⟨⟨j + 1, by omega, by go_num, o4, hb4⟩, by simp [intOf]; omega⟩
      ·rw [if_neg hlt] at hsc
       rw [decide_eq_false hlt]
       have o4 : OwnF w3 w.heap.size 33 (some ⟨w.heap.size, 0, none⟩) 5 5 (dv6 (gr p e (16 * (4 - i) + (j + 1)))) := by
        rw [show 16 * (4 - i) + (j + 1) = k + 1 by omega, hsc]; exact os
       clear hlt hsc HS os
       go_wp2_with fail
       exact ⟨⟨j + 1, by omega, by go_num, o4, hb⟩, by simp [intOf]; omega⟩
     ·have g4 : IntKind.i64.wrap (4 * (e : Int)) = 12 := by rw [g4e, he2]; rfl
      have ge3 : ((e : Int) == 3) = true := by rw [he2]; rfl
      have hcond : (p * 65536 ^ (4 * e) < Y ^ e) ↔ (p * 65536 ^ 12 < Y ^ 3) := by rw [he2]
      have hsc := HS.out k
      rw [hk79, hXk, hYe] at hsc
      simp only [hcond] at hsc
      clear g4e he2 hcond
      go_wp2_with fail
      go_at_call 151
      refine (mul6_any (x := Y) (y := Y) _ os.rd hY os.rd hY (Nat.le_refl _) (by decide) (by decide)).mono ?_
      rintro en w2 ⟨rfl, ox, h0⟩
      replace os := os.keep h0
      replace hb := bnx hb h0
      have hxx : Y * Y < 65536 ^ 10 := by rw [show (65536 : Nat) ^ 10 = 65536 ^ 5 * 65536 ^ 5 by decide]; exact Nat.mul_lt_mul_of_lt_of_le hY (Nat.le_of_lt hY) (by decide)
      clear h0
      go_wp2_with fail
      go_at_call 151
      refine (mul6_any (x := Y * Y) (y := Y) _ ox.rd hxx os.rd hY (Nat.le_refl _) (by decide) (by decide)).mono ?_
      rintro en w4 ⟨rfl, oz, h0⟩
      replace os := os.keep h0
      replace hb := bnx hb h0
      have hxxx : Y * Y * Y < 65536 ^ 15 := by rw [show (65536 : Nat) ^ 15 = 65536 ^ 10 * 65536 ^ 5 by decide]; exact Nat.mul_lt_mul_of_lt_of_le hxx (Nat.le_of_lt hY) (by decide)
      clear h0 ox hxx
      go_wp2_with fail
      go_at_call 152
      refine (most_any (X := Y * Y * Y) (q := 12) _ oz.rd hxxx hp (by decide) (by decide)).mono ?_
      rintro en w3 ⟨rfl, rfl⟩
      rw [← Nat.pow_two, ← Nat.pow_succ]
      by_cases hlt : p * 65536 ^ 12 < Y ^ 3
      ·rw [if_pos hlt] at hsc
       rw [decide_eq_true hlt]
       have cy := os.cell (k := i) (by omega)
       have fy := os.free i
       rw [show dv6 Y i = .int .u64 (d6 Y i : Int) from rfl] at cy
       have o3 := os.set_ i (.int .u64 (d6 X i : Int))
       have o4 : OwnF _ w.heap.size 33 (some ⟨w.heap.size, 0, none⟩) 5 5 (dv6 (gr p e (16 * (4 - i) + (j + 1)))) := o3.congr fun t _ => by
        rw [show 16 * (4 - i) + (j + 1) = k + 1 by omega, hsc]
        by_cases ht : t = i
        ·rw [if_pos ht, ht]; rfl
        ·rw [if_neg ht]; unfold dv6; rw [HU.out t, if_neg ht]
       have hb4 : Below w.heap.size w _ := hb.setCell (p := ⟨w.heap.size, i, none⟩) (Nat.le_refl _) (.int .u64 (d6 X i : Int))
       clear hlt hsc HS o3 os hb hdec
       go_wp2_with fail
       exact ⟨⟨j + 1, by omega, by go_num, o4, hb4⟩, by simp [intOf]; omega⟩
      ·rw [if_neg hlt] at hsc
       rw [decide_eq_false hlt]
       have o4 : OwnF w3 w.heap.size 33 (some ⟨w.heap.size, 0, none⟩) 5 5 (dv6 (gr p e (16 * (4 - i) + (j + 1)))) := by
        rw [show 16 * (4 - i) + (j + 1) = k + 1 by omega, hsc]; exact os
       clear hlt hsc HS os
       go_wp2_with fail
       exact ⟨⟨j + 1, by omega, by go_num, o4, hb⟩, by simp [intOf]; omega⟩
end Go.Proofs.YtkbkalhcdbklkaaGreatDoor
