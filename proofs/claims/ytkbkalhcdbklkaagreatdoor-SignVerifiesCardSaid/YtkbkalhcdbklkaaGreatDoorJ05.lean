/-
  The document's mul (layer 6), digits to the base 65536, over letters. By an AI agent. (and more)
-/
import Derived.Test.YtkbkalhcdbklkaaGreatDoorJ04
import Derived.Deep.Cut
namespace Go.Proofs.YtkbkalhcdbklkaaGreatDoor
section
open Go Go.RowKit
def d6 (x k : Nat) : Nat := dgt 65536 x k
def dv6 (x k : Nat) : Value := .int .u64 (d6 x k : Int)
theorem d6_lt (x k : Nat) : d6 x k < 65536 := dgt_lt (by decide) x k
theorem d6_top {x n k : Nat} (h : x < 65536 ^ n) (hk : n ≤ k) : d6 x k = 0 := dgt_zero_of_lt (Nat.lt_of_lt_of_le h (Nat.pow_le_pow_right (by decide) hk))
def tT (x y i : Nat) : Nat := mT 65536 x y i
def tS (x y i k : Nat) : Nat := mS 65536 x y i k
def tO (x y i k : Nat) : Nat := mO 65536 x y i k
def tc (x y i k j : Nat) : Value := .int .u64 ((if j < i + k then d6 (tS x y i k) j else d6 (tT x y i) j : Nat) : Int)
def tp (x y i k : Nat) : Nat := d6 x i * d6 y k
def tu (x y i k : Nat) : Nat := d6 (tT x y i) (i + k) + tp x y i k
def tt6 (x y i k : Nat) : Nat := tu x y i k + tO x y i k
theorem tc_start (x y i j : Nat) : tc x y i 0 j = dv6 (tT x y i) j := by
 unfold tc dv6
 by_cases h : j < i + 0
 ·rw [if_pos h]
  unfold tS d6; rw [mS_zero, dgt_mod (n := i) _ h]; rfl
 ·rw [if_neg h]
theorem tc_at (x y i k : Nat) : tc x y i k (i + k) = .int .u64 (d6 (tT x y i) (i + k) : Int) := by
 unfold tc; rw [if_neg (by omega)]
theorem tO_lt (x y i k : Nat) : tO x y i k < 65536 := mO_lt (by decide)
theorem tt6_eq (x y i k : Nat) : tt6 x y i k = dgt 65536 x i * dgt 65536 y k + dgt 65536 (mT 65536 x y i) (i + k) + mO 65536 x y i k := by
 unfold tt6 tu tp d6 tT tO; omega
theorem tt6_div (x y i k : Nat) : tt6 x y i k / 65536 = tO x y i (k + 1) := by
 rw [tt6_eq]; exact (mO_succ (b := 65536) (by decide)).symm
theorem tt6_mod (x y i k : Nat) : tt6 x y i k % 65536 = d6 (tS x y i (k + 1)) (i + k) := by
 rw [tt6_eq]; exact (mS_new (b := 65536) (by decide)).symm
theorem tp_le (x y i k : Nat) : tp x y i k ≤ 4294836225 := Nat.mul_le_mul (show d6 x i ≤ 65535 by have := d6_lt x i; omega) (show d6 y k ≤ 65535 by have := d6_lt y k; omega)
theorem tc_set (x y i k j : Nat) : (if j = i + k then .int .u64 (d6 (tS x y i (k + 1)) (i + k) : Int) else tc x y i k j) = tc x y i (k + 1) j := by
 by_cases h : j = i + k
 ·subst h
  rw [if_pos rfl]
  unfold tc
  rw [if_pos (by omega)]
 ·rw [if_neg h]
  unfold tc
  by_cases h2 : j < i + k
  ·rw [if_pos h2, if_pos (by omega), show d6 (tS x y i (k + 1)) j = d6 (tS x y i k) j from mS_old h2]
  ·rw [if_neg h2, if_neg (by omega)]
theorem tS_full {x y i n : Nat} (hy : y < 65536 ^ n) : tS x y i n = tT x y (i + 1) := mS_full (by decide) hy
theorem tT_lt {x y i n : Nat} (hy : y < 65536 ^ n) : tT x y i < 65536 ^ (i + n) := mT_lt (by decide) hy
theorem tO_full {x y i n : Nat} (hy : y < 65536 ^ n) : tO x y i n = d6 (tT x y (i + 1)) (i + n) := by
 have h : tO x y i n = tS x y i n / 65536 ^ (i + n) := rfl
 rw [h, tS_full hy]
 unfold d6 dgt
 have h1 := tT_lt (x := x) (i := i + 1) hy
 rw [Nat.mod_eq_of_lt]
 refine Nat.div_lt_of_lt_mul ?_
 rw [← Nat.pow_succ, show (i + n).succ = i + 1 + n by omega]
 exact h1
theorem tc_end {x y i n : Nat} (hy : y < 65536 ^ n) (j : Nat) : (if j = i + n then .int .u64 (tO x y i n : Int) else tc x y i n j) = dv6 (tT x y (i + 1)) j := by
 unfold dv6
 by_cases h : j = i + n
 ·subst h; rw [if_pos rfl, tO_full hy]
 ·rw [if_neg h]
  unfold tc
  by_cases h2 : j < i + n
  ·rw [if_pos h2, tS_full hy]
  ·rw [if_neg h2, d6_top (tT_lt hy) (show i + n ≤ j by omega), d6_top (tT_lt (i := i + 1) hy) (by omega)]
theorem tT_zero (x y : Nat) : tT x y 0 = 0 := mT_zero _ _ _
theorem tT_full {x n : Nat} (y : Nat) (hx : x < 65536 ^ n) : tT x y n = x * y := mT_full hx
theorem dv6_zero (j : Nat) : dv6 0 j = .int .u64 0 := by unfold dv6 d6 dgt; simp
theorem wrap6 (x y i k : Nat) : IntKind.u64.wrap ((d6 x i : Int) * (d6 y k : Int)) = (tp x y i k : Int) ∧ IntKind.u64.wrap ((d6 (tT x y i) (i + k) : Int) + (tp x y i k : Int)) = (tu x y i k : Int) ∧ IntKind.u64.wrap ((tu x y i k : Int) + (tO x y i k : Int)) = (tt6 x y i k : Int) := by
 have h1 := tp_le x y i k
 have h2 := d6_lt (tT x y i) (i + k)
 have h3 := tO_lt x y i k
 have e1 : (d6 x i : Int) * (d6 y k : Int) = (tp x y i k : Int) := by unfold tp; rw [Int.natCast_mul]
 rw [e1]
 unfold tt6 tu
 generalize tp x y i k = p at *
 generalize d6 (tT x y i) (i + k) = q at *
 generalize tO x y i k = r at *
 refine ⟨?_, ?_, ?_⟩ <;> (rw [IntKind.wrap_u64]; omega)
theorem nmod6 {a b : Nat} (h : a % 65536 = b) : (a : Int).tmod 65536 = (b : Int) ∧ (a : Int) % 65536 = (b : Int) := by
 have e : (a : Int) % 65536 = (b : Int) := by omega
 exact ⟨by rw [Int.tmod_eq_emod_of_nonneg (by omega)]; exact e, e⟩
theorem ndiv6 {a b : Nat} (h : a / 65536 = b) : (a : Int).tdiv 65536 = (b : Int) ∧ (a : Int) / 65536 = (b : Int) := by
 have e : (a : Int) / 65536 = (b : Int) := by omega
 exact ⟨by rw [Int.tdiv_eq_ediv_of_nonneg (by omega)]; exact e, e⟩
attribute [local irreducible] d6 tS tT tO tp tu tt6
set_option maxRecDepth 20000 in
set_option maxHeartbeats 800000 in
theorem mul6_any {A A' : Option Addr} {B c c' n n' x y : Nat} (w : World) (h : RdF w B A c n (dv6 x)) (hx : x < 65536 ^ n) (h' : RdF w B A' c' n' (dv6 y)) (hy : y < 65536 ^ n') (hB : B ≤ w.heap.size) (hn : n ≤ 1000) (hn' : n' ≤ 1000) :
  Calls Tryz.prog 151 #[.slice A n c, .slice A' n' c'] w fun e w' => e = .returned (.slice (some ⟨w.heap.size, 0, none⟩) (n + n') (n + n')) ∧ OwnF w' w.heap.size 33 (some ⟨w.heap.size, 0, none⟩) (n + n') (n + n') (dv6 (x * y)) ∧ Below w.heap.size w w' := by
 obtain ⟨i0, hi, hz0, hz1, hz2⟩ := info_parts infoU64
 obtain ⟨L, hL⟩ : ∃ L, L = n + n' := ⟨_, rfl⟩
 have hl2 : IntKind.i64.wrap ((n : Int) + (n' : Int)) = (L : Int) := by rw [IntKind.wrap_i64]; omega
 have hLb : L ≤ 2001 := by omega
 have hmk := run_mkF (P := Tryz.prog) 117 33 i0 Tryz.underlying117 hi hz0 rfl hz1 hz2 (l := (L : Int)) (n := L) rfl (by omega) (by omega)
 have hm := OwnF.made (w := w) (B := w.heap.size) 33 (.int .u64 0) (n := L) (Nat.le_refl _) (by unfold maxLen; omega)
 have hb0 : Below w.heap.size w (w.alloc (.cells (madeCells #[.int .u64 0] L) 33)) := (Below.refl _ w).alloc (Nat.le_refl _) _
 rw [← hL]
 have HL := Lib.hid hL
 clear hL
 go_enter Tryz.func151, Tryz.ntmps151
 go_wp2_with fail
 go_loopw [6] (fun i wr => ∃ k : Nat, k ≤ n ∧ i = .int .i64 k ∧ OwnF wr w.heap.size 33 (some ⟨w.heap.size, 0, none⟩) L L (dv6 (tT x y k)) ∧ Below w.heap.size w wr)
  (fun i _ => n - (intOf i).toNat)
 case atStart => exact ⟨0, by omega, rfl, hm.congr (fun j _ => by rw [tT_zero, dv6_zero]), hb0⟩
 case round =>
  obtain ⟨i, hi', rfl, os, hb⟩ := hrel
  clear hmk hm hb0
  by_cases hlt : i < n
  ·have g1 : (i : Int) < (n : Int) := by omega
   go_wp2_with fail
   obtain ⟨w0, e0⟩ : ∃ w0 : World, w0 = wr := ⟨_, rfl⟩
   subst e0
   go_loopw [7, 8] (fun cc kk wr => ∃ k : Nat, k ≤ n' ∧ kk = .int .i64 k ∧ cc = .int .u64 (tO x y i k : Int) ∧ OwnF wr w.heap.size 33 (some ⟨w.heap.size, 0, none⟩) L L (tc x y i k) ∧ Below w.heap.size w wr)
    (fun _ kk _ => n' - (intOf kk).toNat)
   case atStart => exact ⟨0, by omega, rfl, by rw [show tO x y i 0 = 0 from by unfold tO; exact mO_zero (by decide)]; rfl, os.congr (fun j _ => (tc_start _ _ _ _).symm), hb⟩
   case round =>
    clear os hb
    obtain ⟨k, hk, rfl, rfl, os, hb⟩ := hrel
    by_cases hkn : k < n'
    ·have g2 : (k : Int) < (n' : Int) := by omega
     have ha := h.keep (hb.mono hB)
     have ha' := h'.keep (hb.mono hB)
     obtain ⟨b1, o1, rfl, hb1, c1⟩ := ha.at_ hlt
     obtain ⟨b2, o2, rfl, hb2, c3⟩ := ha'.at_ hkn
     unfold dv6 at c1 c3
     have c2 := os.cell (k := i + k) (by have := HL.out; omega)
     rw [tc_at] at c2
     have f2 := os.free (i + k)
     have q1 : IntKind.i64.wrap ((i : Int) + (k : Int)) = (i : Int) + (k : Int) := by rw [IntKind.wrap_i64]; omega
     have q2 : (i : Int) + (k : Int) < (L : Int) := by have := HL.out; omega
     have q3 : 0 ≤ (i : Int) + (k : Int) := by omega
     have q4 : ((i : Int) + (k : Int)).toNat = i + k := by omega
     obtain ⟨p1, p2, p3⟩ := wrap6 x y i k
     obtain ⟨e1, e1'⟩ := nmod6 (tt6_mod x y i k)
     obtain ⟨e2, e2'⟩ := ndiv6 (tt6_div x y i k)
     have gw6 : IntKind.u64.wrap (tO x y i (k + 1) : Int) = (tO x y i (k + 1) : Int) := by have := tO_lt x y i (k + 1); rw [IntKind.wrap_u64]; omega
     have hset : ∀ w1 : World, Below w.heap.size w1 (w1.setCell ⟨w.heap.size, i + k, none⟩ (.int .u64 (d6 (tS x y i (k + 1)) (i + k) : Int))) := fun w1 => (Below.refl w.heap.size w1).setCell (Nat.le_refl w.heap.size) _
     have HS := Lib.hid hset
     clear hset ha ha'
     go_upto_region 9 with fail
     refine wp_region_still_tail 18 (by kernel_rfl) (by kernel_rfl) ?_
     simp only [List.take_succ_cons, List.take_zero, List.drop_succ_cons, List.drop_zero]
     repeat still_step
     refine wpStill_nil ?_
     change wpList _ _ _ _ _ wr.drew
     obtain ⟨w1, hw1⟩ : ∃ w1, w1 = wr.drew := ⟨_, rfl⟩
     have os1 := os.drew
     have hb1' := hb.drew
     rw [← hw1] at os1 hb1' ⊢
     clear os hb c1 c2 c3 f2 hw1 hb1
     have c2 := os1.cell (k := i + k) (by have := HL.out; omega)
     rw [tc_at] at c2
     have f2 := os1.free (i + k)
     go_wp2_with fail
     refine ⟨⟨k + 1, by omega, by go_num, rfl, ?_, hb1'.trans (HS.out w1)⟩, by simp [intOf]; omega⟩
     exact (os1.set_ (i + k) (.int .u64 (d6 (tS x y i (k + 1)) (i + k) : Int))).congr fun j _ => tc_set _ _ _ _ _
    ·obtain rfl : k = n' := by omega
     have g2 : ¬ (k : Int) < (k : Int) := by omega
     have q1 : IntKind.i64.wrap ((i : Int) + (k : Int)) = (i : Int) + (k : Int) := by rw [IntKind.wrap_i64]; omega
     have q2 : (i : Int) + (k : Int) < (L : Int) := by have := HL.out; omega
     have q3 : 0 ≤ (i : Int) + (k : Int) := by omega
     have q4 : ((i : Int) + (k : Int)).toNat = i + k := by omega
     have c2 := os.cell (k := i + k) (by have := HL.out; omega)
     have f2 := os.free (i + k)
     have os' := (os.set_ (i + k) (.int .u64 (tO x y i k : Int))).congr (g := dv6 (tT x y (i + 1))) fun j _ => tc_end hy j
     have hb' : Below w.heap.size w (wr.setCell ⟨w.heap.size, i + k, none⟩ (.int .u64 (tO x y i k : Int))) := hb.setCell (p := ⟨w.heap.size, i + k, none⟩) (Nat.le_refl _) _
     go_wp2_with fail
     go_roundw
     case rel => exact ⟨i + 1, by omega, by go_num, os', hb'⟩
     case measure => simp [intOf]; omega
  ·have hk' : i = n := by omega
   subst hk'
   rw [tT_full y hx] at os
   go_wp2_with fail
   go_ret
   exact ⟨rfl, os, hb⟩
end
section
open Go Go.RowKit
theorem d6_step {x n : Nat} (h : x < 65536 ^ (n + 1)) (h0 : d6 x n = 0) : x < 65536 ^ n := by
 unfold d6 dgt at h0
 have h1 : x / 65536 ^ n < 65536 := Nat.div_lt_of_lt_mul (by rw [← Nat.pow_succ]; exact h)
 rw [Nat.mod_eq_of_lt h1] at h0
 rcases Nat.div_eq_zero_iff.1 h0 with h2 | h2
 ·exact absurd h2 (Nat.ne_of_gt (Nat.pow_pos (by decide)))
 ·exact h2
theorem d6_pos {x n : Nat} (h0 : d6 x n ≠ 0) : 65536 ^ n ≤ x := Nat.le_of_not_lt fun h => h0 (d6_top h (Nat.le_refl _))
theorem most_high {X p q m : Nat} (hp : p < 65536) (hm : q < m) (h0 : d6 X m ≠ 0) : p * 65536 ^ q < X := by
 refine Nat.lt_of_lt_of_le ?_ (d6_pos h0)
 refine Nat.lt_of_lt_of_le (Nat.mul_lt_mul_of_pos_right hp (Nat.pow_pos (by decide))) ?_
 rw [Nat.mul_comm, ← Nat.pow_succ]
 exact Nat.pow_le_pow_right (by decide) hm
theorem d6_last {X q : Nat} (h : X < 65536 ^ (q + 1)) : d6 X q = X / 65536 ^ q := by
 unfold d6 dgt
 exact Nat.mod_eq_of_lt (Nat.div_lt_of_lt_mul (by rw [← Nat.pow_succ]; exact h))
theorem most_lt {X p q : Nat} (h : X < 65536 ^ (q + 1)) (h1 : d6 X q < p) : ¬ p * 65536 ^ q < X := by
 rw [d6_last h] at h1
 have h2 := (Nat.div_lt_iff_lt_mul (Nat.pow_pos (by decide))).1 h1
 omega
theorem most_gt {X p q : Nat} (h : X < 65536 ^ (q + 1)) (h1 : p < d6 X q) : p * 65536 ^ q < X := by
 rw [d6_last h] at h1
 have h2 : (p + 1) * 65536 ^ q ≤ X := (Nat.le_div_iff_mul_le (Nat.pow_pos (by decide))).1 h1
 have h3 : 0 < 65536 ^ q := Nat.pow_pos (by decide)
 rw [Nat.add_mul, Nat.one_mul] at h2
 omega
theorem most_eq {X p q : Nat} (h : X < 65536 ^ (q + 1)) (h1 : d6 X q = p) : p * 65536 ^ q < X ↔ X % 65536 ^ q ≠ 0 := by
 rw [d6_last h] at h1
 have h2 := Nat.div_add_mod X (65536 ^ q)
 rw [h1, Nat.mul_comm] at h2
 omega
theorem mod_step6 (X i : Nat) : X % 65536 ^ (i + 1) = X % 65536 ^ i + 65536 ^ i * d6 X i := mod_pow_succ' _ _ _
theorem mod_up6 {X i q : Nat} (hi : i < q) (h : d6 X i ≠ 0) : X % 65536 ^ q ≠ 0 := by
 intro h0
 refine h ?_
 have := dgt_mod (b := 65536) X hi
 rw [h0] at this
 unfold d6
 rw [← this]
 simp [dgt]
attribute [local irreducible] d6
set_option maxRecDepth 20000 in
set_option maxHeartbeats 800000 in
theorem most_any {A : Option Addr} {B c n X p q : Nat} (w : World) (h : RdF w B A c n (dv6 X)) (hX : X < 65536 ^ n) (hp : p < 65536) (hq : q < n) (hn : n ≤ 1000) :
  Calls Tryz.prog 152 #[.slice A n c, .int .i64 (p : Int), .int .i64 (q : Int)] w fun e w' => e = .returned (.bool (decide (p * 65536 ^ q < X))) ∧ w' = w := by
 obtain ⟨r, hr⟩ : ∃ r, r = decide (p * 65536 ^ q < X) := ⟨_, rfl⟩
 rw [← hr]
 have HR := Lib.hid hr
 clear hr
 have g1 : IntKind.i64.wrap ((n : Int) - 1) = (n : Int) - 1 := by rw [IntKind.wrap_i64]; omega
 have gp : IntKind.u64.wrap (p : Int) = (p : Int) := by rw [IntKind.wrap_u64]; omega
 go_enter Tryz.func152, Tryz.ntmps152
 go_wp2_with fail
 go_loop [7] (fun v => ∃ m : Nat, q + 1 ≤ m ∧ m ≤ n ∧ v = .int .i64 ((m : Int) - 1) ∧ X < 65536 ^ m)
  (fun v => (intOf v).toNat)
 case atStart => exact ⟨n, hq, Nat.le_refl _, rfl, hX⟩
 case round =>
  obtain ⟨m, hm1, hm2, rfl, hXm⟩ := hrel
  by_cases hlt : q + 1 < m
  ·have g2 : (q : Int) < (m : Int) - 1 := by omega
   have g3 : (m : Int) - 1 < (n : Int) := by omega
   have g4 : (0 : Int) ≤ (m : Int) - 1 := by omega
   have g5 : ((m : Int) - 1).toNat = m - 1 := by omega
   obtain ⟨b1, o1, rfl, hb1, c1⟩ := h.at_ (k := m - 1) (by omega)
   unfold dv6 at c1
   have gw : IntKind.i64.wrap ((m : Int) - 1 - 1) = ((m - 1 : Nat) : Int) - 1 := by rw [IntKind.wrap_i64]; omega
   by_cases h0 : d6 X (m - 1) = 0
   ·have g6 : (d6 X (m - 1) : Int) = 0 := by omega
    have hs := d6_step (x := X) (n := m - 1) (by rwa [show m - 1 + 1 = m by omega]) h0
    have HS := Lib.hid hs
    clear hs h0
    rw [g6] at c1
    go_wp2_with fail
    go_round
    case rel => exact ⟨m - 1, by omega, by omega, by go_num, HS.out⟩
    case measure => simp [intOf]; omega
   ·have g6 : (0 : Int) < (d6 X (m - 1) : Int) := by omega
    have hres : r = true := by rw [HR.out]; exact decide_eq_true (most_high hp (by omega) h0)
    subst hres
    clear h0 HR
    go_wp2_with fail
    go_ret
    exact ⟨rfl, rfl⟩
  ·obtain rfl : m = q + 1 := by omega
   have g2 : ¬ (q : Int) < ((q + 1 : Nat) : Int) - 1 := by omega
   have g3 : ¬ (n : Int) ≤ (q : Int) := by omega
   have g4 : (q : Int) < (n : Int) := by omega
   obtain ⟨b1, o1, rfl, hb1, c1⟩ := h.at_ (k := q) (by omega)
   unfold dv6 at c1
   rcases Nat.lt_trichotomy (d6 X q) p with h1 | h1 | h1
   ·have g5 : (d6 X q : Int) < (p : Int) := by omega
    have hres : r = false := by rw [HR.out]; exact decide_eq_false (most_lt hXm h1)
    subst hres
    clear h1 HR
    go_wp2_with fail
    go_ret
    exact ⟨rfl, rfl⟩
   ·have g5 : ¬ (d6 X q : Int) < (p : Int) := by omega
    have g6 : ¬ (p : Int) < (d6 X q : Int) := by omega
    have hme := most_eq hXm h1
    have HM := Lib.hid hme
    clear hme h1
    go_wp2_with fail
    go_loop [8] (fun v => ∃ i : Nat, i ≤ q ∧ v = .int .i64 (i : Int) ∧ X % 65536 ^ i = 0)
     (fun v => q - (intOf v).toNat)
    case atStart => exact ⟨0, by omega, rfl, by simp [Nat.mod_one]⟩
    case round =>
     obtain ⟨i, hi, rfl, h0⟩ := hrel
     by_cases hlt : i < q
     ·have k1 : (i : Int) < (q : Int) := by omega
      have k2 : (i : Int) < (n : Int) := by omega
      have c2 : w.cell? ⟨b1, o1 + i, none⟩ = some (.int .u64 (d6 X i : Int)) := by
       obtain ⟨b2, o2, e2, _, c2⟩ := h.at_ (k := i) (by omega)
       simp only [Option.some.injEq, Addr.mk.injEq] at e2
       obtain ⟨rfl, rfl, _⟩ := e2
       exact c2
      by_cases hd : d6 X i = 0
      ·have k3 : (d6 X i : Int) = 0 := by omega
       have hs : X % 65536 ^ (i + 1) = 0 := by rw [mod_step6, h0, hd, Nat.mul_zero]
       have HS := Lib.hid hs
       clear hs h0 hd
       rw [k3] at c2
       go_wp2_with fail
       go_round
       case rel => exact ⟨i + 1, by omega, by go_num, HS.out⟩
       case measure => simp [intOf]; omega
      ·have k3 : (0 : Int) < (d6 X i : Int) := by omega
       have hres : r = true := by rw [HR.out]; exact decide_eq_true (HM.out.2 (mod_up6 hlt hd))
       subst hres
       clear h0 hd HR HM
       go_wp2_with fail
       go_ret
       exact ⟨rfl, rfl⟩
     ·obtain rfl : i = q := by omega
      have k1 : ¬ (i : Int) < (i : Int) := by omega
      have hres : r = false := by rw [HR.out]; exact decide_eq_false fun hh => HM.out.1 hh h0
      subst hres
      clear h0 HR HM
      go_wp2_with fail
      go_ret
      exact ⟨rfl, rfl⟩
   ·have g5 : ¬ (d6 X q : Int) < (p : Int) := by omega
    have g6 : (p : Int) < (d6 X q : Int) := by omega
    have hres : r = true := by rw [HR.out]; exact decide_eq_true (most_gt hXm h1)
    subst hres
    clear h1 HR
    go_wp2_with fail
    go_ret
    exact ⟨rfl, rfl⟩
end
end Go.Proofs.YtkbkalhcdbklkaaGreatDoor
