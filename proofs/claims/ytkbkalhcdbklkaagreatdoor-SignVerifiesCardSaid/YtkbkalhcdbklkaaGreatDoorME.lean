
import Derived.Test.YtkbkalhcdbklkaaGreatDoorJ01
namespace Go.Proofs.YtkbkalhcdbklkaaGreatDoor
open Go Go.RowKit
def dc (L b k : Nat) : Nat := (2 * (L % 18446744073709551616 ^ k) + b) / 18446744073709551616 ^ k
theorem dc_zero (L b : Nat) : dc L b 0 = b := by simp [dc, Nat.mod_one]
theorem dc_le {L b : Nat} (hb : b ≤ 1) (k : Nat) : dc L b k ≤ 1 := by
 unfold dc
 have hp : 0 < 18446744073709551616 ^ k := Nat.pow_pos (by decide)
 have h1 := Nat.mod_lt L hp
 generalize 18446744073709551616 ^ k = P at *
 have : (2 * (L % P) + b) / P < 2 := Nat.div_lt_of_lt_mul (by omega)
 omega
theorem dc_succ {L b : Nat} (hb : b ≤ 1) (k : Nat) : dc L b (k + 1) = wd L k / 9223372036854775808 := by
 have h := dc_le (L := L) hb k
 have hl := wd_lt L k
 have hp : 0 < 18446744073709551616 ^ k := Nat.pow_pos (by decide)
 have e : dc L b (k + 1) = (2 * wd L k + dc L b k) / 18446744073709551616 := by
  unfold dc
  rw [mod_pow_succ', Nat.pow_succ, ← Nat.div_div_eq_div_mul]
  rw [show 2 * (L % 18446744073709551616 ^ k + 18446744073709551616 ^ k * dgt 18446744073709551616 L k) + b = (2 * (L % 18446744073709551616 ^ k) + b) + 18446744073709551616 ^ k * (2 * dgt 18446744073709551616 L k) by
   rw [Nat.mul_add, Nat.mul_left_comm 2]; omega]
  rw [Nat.add_mul_div_left _ _ hp, Nat.add_comm]; rfl
 rw [e]
 omega
theorem wd_dbl (L b k : Nat) : wd (2 * L + b) k = (2 * wd L k + dc L b k) % 18446744073709551616 := by
 have hp : 0 < 18446744073709551616 ^ k := Nat.pow_pos (by decide)
 unfold wd dgt dc
 have e : 2 * L + b = (2 * (L % 18446744073709551616 ^ k) + b) + 18446744073709551616 ^ k * (2 * (L / 18446744073709551616 ^ k)) := by
  have := Nat.mod_add_div L (18446744073709551616 ^ k)
  rw [Nat.mul_left_comm]
  omega
 conv => lhs; rw [e, Nat.add_mul_div_left _ _ hp]
 omega
theorem dbl_word (L b k : Nat) (hb : b ≤ 1) : bits .or .u64 (IntKind.u64.wrap ((wd L k : Int) * 2)) (dc L b k : Int) = (wd (2 * L + b) k : Int) := by
 have h := dc_le (L := L) hb k
 have hl := wd_lt L k
 rw [wd_dbl]
 generalize wd L k = a at *
 generalize dc L b k = c at *
 have e : IntKind.u64.wrap ((a : Int) * 2) = ((2 * (a % 9223372036854775808) : Nat) : Int) := by rw [IntKind.wrap_u64]; omega
 rw [e, bits_or_u64_nat _ _ (by omega) (by omega)]
 have e3 : 2 * (a % 9223372036854775808) ||| c = 2 * (a % 9223372036854775808) + c := by
  have := Nat.shiftLeft_add_eq_or_of_lt (i := 1) (b := c) (by omega) (a % 9223372036854775808)
  rw [Nat.shiftLeft_eq] at this
  rw [show 2 * (a % 9223372036854775808) = a % 9223372036854775808 * 2 ^ 1 by omega, ← this]
 rw [e3]
 congr 1
 omega
theorem dc_four {L b : Nat} (hL : L < W4) : dc L b 4 = (2 * L + b) / W4 := by unfold dc; rw [show (18446744073709551616 : Nat) ^ 4 = W4 from rfl, Nat.mod_eq_of_lt hL]
theorem wd_add_W4 (x : Nat) {k : Nat} (hk : k < 4) : wd (x + W4) k = wd x k := by
 rw [← wd_mod _ hk, Nat.add_mod_right, wd_mod _ hk]
theorem nv_congr {x y : Nat} (h : ∀ k, k < 4 → wd x k = wd y k) : nv x = nv y := by
 unfold nv
 rw [h 0 (by decide), h 1 (by decide), h 2 (by decide), h 3 (by decide)]
def pbE (o b : Nat) : Nat := if o = 0 ∧ b = 1 then 0 else 1
theorem pb_eq {o b : Nat} (ho : o ≤ 1) (hb : b ≤ 1) : bits .or .u64 (o : Int) (IntKind.u64.wrap (1 - (b : Int))) = (pbE o b : Int) := by
 have h1 : o = 0 ∨ o = 1 := by omega
 have h2 : b = 0 ∨ b = 1 := by omega
 rcases h1 with rfl | rfl <;> rcases h2 with rfl | rfl <;> decide
theorem bring_val {L b m : Nat} (hL : L < m) (hm : m < W4) (hb : b ≤ 1) : nv (if pbE (dc L b 4) (bw (2 * L + b) m 4) = 0 then 2 * L + b else 2 * L + b + W4 - m) = nv ((2 * L + b) % m) := by
 have hD : 2 * L + b < 2 * m := by omega
 rw [dc_four (by omega)]
 have hbw : bw (2 * L + b) m 4 = if (2 * L + b) % W4 < m then 1 else 0 := by
  unfold bw brw
  rw [show (18446744073709551616 : Nat) ^ 4 = W4 from rfl, Nat.mod_eq_of_lt hm]
 rw [hbw]
 generalize 2 * L + b = D at *
 unfold pbE
 by_cases h : D < m
 ·have e1 : D / W4 = 0 := Nat.div_eq_of_lt (by omega)
  have e2 : D % W4 = D := Nat.mod_eq_of_lt (by omega)
  rw [e1, e2, if_pos h, Nat.mod_eq_of_lt h]
  rfl
 ·have e : ¬ (D / W4 = 0 ∧ (if D % W4 < m then 1 else 0) = 1) := by
   rintro ⟨h1, h2⟩
   have h3 : D < W4 := by
    rcases Nat.div_eq_zero_iff.1 h1 with h3 | h3
    ·exact absurd h3 (by decide)
    ·exact h3
   rw [Nat.mod_eq_of_lt h3, if_neg h] at h2
   exact absurd h2 (by decide)
  rw [if_neg e, if_neg (by decide), show D + W4 - m = (D - m) + W4 by omega]
  rw [show D % m = D - m by rw [Nat.mod_eq_sub_mod (by omega), Nat.mod_eq_of_lt (by omega)]]
  exact nv_congr fun k hk => wd_add_W4 _ hk
theorem start5 (x y : Nat) (w : World) : RdF (((((w.alloc (A4 x)).alloc (A4 y)).alloc Z4).alloc Z4).alloc Z4) (w.heap.size + 2) (some ⟨w.heap.size, 0, none⟩) 4 4 (wv x) ∧
  RdF (((((w.alloc (A4 x)).alloc (A4 y)).alloc Z4).alloc Z4).alloc Z4) (w.heap.size + 2) (some ⟨w.heap.size + 1, 0, none⟩) 4 4 (wv y) ∧
  OwnF (((((w.alloc (A4 x)).alloc (A4 y)).alloc Z4).alloc Z4).alloc Z4) w.heap.size 35 (some ⟨w.heap.size + 2, 0, none⟩) 4 4 (fun _ => .int .u64 0) ∧
  OwnF (((((w.alloc (A4 x)).alloc (A4 y)).alloc Z4).alloc Z4).alloc Z4) w.heap.size 35 (some ⟨w.heap.size + 3, 0, none⟩) 4 4 (fun _ => .int .u64 0) ∧
  OwnF (((((w.alloc (A4 x)).alloc (A4 y)).alloc Z4).alloc Z4).alloc Z4) w.heap.size 35 (some ⟨w.heap.size + 4, 0, none⟩) 4 4 (fun _ => .int .u64 0) ∧
  Below w.heap.size w (((((w.alloc (A4 x)).alloc (A4 y)).alloc Z4).alloc Z4).alloc Z4) := by
 obtain ⟨rx, ry, oz, os, hb⟩ := start4 x y w
 have s4 : ((((w.alloc (A4 x)).alloc (A4 y)).alloc Z4).alloc Z4).heap.size = w.heap.size + 4 := by simp
 have b4 := (Below.refl (w.heap.size + 4) ((((w.alloc (A4 x)).alloc (A4 y)).alloc Z4).alloc Z4)).alloc (by omega) Z4
 have o5 := own_Z4 (w := (((w.alloc (A4 x)).alloc (A4 y)).alloc Z4).alloc Z4) (B := w.heap.size) (by omega)
 rw [s4] at o5
 have fx : ∀ (g : Nat) (z : Nat), g < w.heap.size + 2 → RdF ((((w.alloc (A4 x)).alloc (A4 y)).alloc Z4).alloc Z4) (w.heap.size + 3) (some ⟨g, 0, none⟩) 4 4 (wv z) → RdF (((((w.alloc (A4 x)).alloc (A4 y)).alloc Z4).alloc Z4).alloc Z4) (w.heap.size + 2) (some ⟨g, 0, none⟩) 4 4 (wv z) := by
  intro g z hg h
  have h' := h.keep (b4.mono (by omega))
  exact ⟨h'.cap, (fun h => nomatch h), fun _ => ⟨g, 0, rfl, hg, fun k hk => by simpa using h'.cell0 hk⟩⟩
 exact ⟨fx _ _ (by omega) rx, fx _ _ (by omega) ry, oz.keepAt (b4.mono (by omega)), os.keepAt (b4.mono (by omega)), o5, hb.alloc (by omega) _⟩
end Go.Proofs.YtkbkalhcdbklkaaGreatDoor
namespace Go.Proofs.YtkbkalhcdbklkaaGreatDoor
open Go Go.RowKit
set_option maxRecDepth 20000 in
set_option maxHeartbeats 400000 in
theorem bring_any {L b m : Nat} (hL : L < m) (hm : m < W4) (hb1 : b ≤ 1) (w : World) :
  Calls Tryz.prog 127 #[nv L, .int .u64 (b : Int), nv m] w fun e w' => e = .returned (nv ((2 * L + b) % m)) ∧ Below w.heap.size w w' := by
 obtain ⟨irx, iry, ioz, iod, ios, bb⟩ := start5 L m w
 rw [← bring_val hL hm hb1]
 obtain ⟨D, hD⟩ : ∃ D, D = 2 * L + b := ⟨_, rfl⟩
 rw [← hD]
 obtain ⟨p, hp⟩ : ∃ p, p = if pbE (dc L b 4) (bw D m 4) = 0 then D else D + W4 - m := ⟨_, rfl⟩
 rw [← hp]
 have HD := Lib.hid hD
 clear hD
 have HP := Lib.hid hp
 clear hp
 unfold nv
 go_enter Tryz.func127, Tryz.ntmps127
 go_wp2
 go_loopw [9, 10, 13] (fun o c i wr => ∃ k : Nat, k ≤ 4 ∧ i = .int .i64 k ∧ o = .int .u64 (dc L b k : Int) ∧ c = .int .u64 (bw D m k : Int) ∧ RdF wr (w.heap.size + 2) (some ⟨w.heap.size, 0, none⟩) 4 4 (wv L) ∧ RdF wr (w.heap.size + 2) (some ⟨w.heap.size + 1, 0, none⟩) 4 4 (wv m) ∧
   OwnF wr w.heap.size 35 (some ⟨w.heap.size + 2, 0, none⟩) 4 4 (fun _ => .int .u64 0) ∧ OwnF wr w.heap.size 35 (some ⟨w.heap.size + 3, 0, none⟩) 4 4 (fw D k) ∧ OwnF wr w.heap.size 35 (some ⟨w.heap.size + 4, 0, none⟩) 4 4 (fw (D + W4 - m) k) ∧ Below w.heap.size w wr)
  (fun _ _ i _ => 4 - (intOf i).toNat)
 case atStart => exact ⟨0, by omega, rfl, by rw [dc_zero], by rw [bw_zero]; rfl, irx, iry, ioz, iod.congr (fun j _ => by rw [fw_out (by omega)]), ios.congr (fun j _ => by rw [fw_out (by omega)]), bb⟩
 case round =>
  obtain ⟨k, hk, rfl, rfl, rfl, rx, ry, oz, od, os, hb⟩ := hrel
  clear irx iry ioz iod ios bb
  by_cases hlt : k < 4
  ·have g1 : (k : Int) < 4 := by omega
   have c1 : wr.cell? ⟨w.heap.size, k, none⟩ = some (.int .u64 (wd L k : Int)) := rx.cell0 hlt
   have c3 := od.cell hlt
   rw [fw_out (by omega)] at c3
   have f3 := od.free k
   have e1 := dbl_word L b k hb1
   rw [← HD.out] at e1
   have e2 : (wd L k : Int) / 9223372036854775808 = (dc L b (k + 1) : Int) := by rw [dc_succ hb1]; rfl
   go_wp2
   go_region
   have hset : Below (w.heap.size + 3) wr (wr.setCell ⟨w.heap.size + 3, k, none⟩ (.int .u64 (wd D k : Int))) := (Below.refl (w.heap.size + 3) wr).setCell (Nat.le_refl (w.heap.size + 3)) _
   have od' := ((od.set_ k (.int .u64 (wd D k : Int))).congr fun j _ => fw_set _ _ _).drew
   have rx' := (rx.keep (hset.mono (by omega))).drew
   have ry' := (ry.keep (hset.mono (by omega))).drew
   have oz' := (oz.keepAt hset).drew
   have os' := (os.other (p := ⟨w.heap.size + 3, k, none⟩) (by simp) (.int .u64 (wd D k : Int))).drew
   have hb' := (hb.trans (hset.mono (by omega))).drew
   have es : w.heap.size + 1 + 1 + 1 = w.heap.size + 3 := rfl
   rw [es]
   obtain ⟨w1, hw1⟩ : ∃ w1, w1 = (wr.setCell ⟨w.heap.size + 3, k, none⟩ (.int .u64 (wd D k : Int))).drew := ⟨_, rfl⟩
   rw [← hw1] at od' rx' ry' oz' os' hb' ⊢
   clear hw1 od rx ry oz os hb c1 c3 f3 hset e1 e2
   have c1 := od'.cell hlt
   rw [fw_in (by omega)] at c1
   have c2 : w1.cell? ⟨w.heap.size + 1, k, none⟩ = some (.int .u64 (wd m k : Int)) := ry'.cell0 hlt
   have c3 := os'.cell hlt
   rw [fw_out (by omega)] at c3
   have f3 := os'.free k
   have hsub := sub64_wd D m hlt hm
   go_wp2
   go_region
   have hset : Below (w.heap.size + 4) w1 (w1.setCell ⟨w.heap.size + 4, k, none⟩ (.int .u64 (wd (D + W4 - m) k : Int))) := (Below.refl (w.heap.size + 4) w1).setCell (Nat.le_refl (w.heap.size + 4)) _
   have os2 := ((os'.set_ k (.int .u64 (wd (D + W4 - m) k : Int))).congr fun j _ => fw_set _ _ _).drew
   go_wp2
   refine ⟨?_, ?measure⟩
   repeat apply Exists.intro
   refine ⟨?rel, rfl⟩
   case rel => refine ⟨k + 1, by omega, ?_⟩; exact ⟨by go_num, by go_num, by go_num, (rx'.keep (hset.mono (by omega))).drew, (ry'.keep (hset.mono (by omega))).drew, (oz'.keepAt (hset.mono (by omega))).drew, (od'.keepAt hset).drew, os2, (hb'.trans (hset.mono (by omega))).drew⟩
   case measure => simp [intOf]; omega
  ·have hk' : k = 4 := by omega
   subst hk'
   have e1 := pb_eq (dc_le (L := L) hb1 4) (bw_le D m 4)
   have e2 : IntKind.u64.wrap (1 - (bw D m 4 : Int)) = 1 - (bw D m 4 : Int) := by have := bw_le D m 4; rw [IntKind.wrap_u64]; omega
   rw [e2] at e1
   have hpb : pbE (dc L b 4) (bw D m 4) < 18446744073709551616 := by unfold pbE; split <;> omega
   replace od := od.congr (g := wv D) fun j hj => by rw [fw_in hj]; rfl
   replace os := os.congr (g := wv (D + W4 - m)) fun j hj => by rw [fw_in hj]; rfl
   have c0 := (od).cell (k := 0) (by decide)
   have c1 := (od).cell (k := 1) (by decide)
   have c2 := (od).cell (k := 2) (by decide)
   have c3 := (od).cell (k := 3) (by decide)
   have d0 := (oz).cell (k := 0) (by decide)
   have d1 := (oz).cell (k := 1) (by decide)
   have d2 := (oz).cell (k := 2) (by decide)
   have d3 := (oz).cell (k := 3) (by decide)
   have f0 := (oz).free 0
   have f1 := (oz).free 1
   have f2 := (oz).free 2
   have f3 := (oz).free 3
   have x0 := os.cell (k := 0) (by decide)
   have x1 := os.cell (k := 1) (by decide)
   have x2 := os.cell (k := 2) (by decide)
   have x3 := os.cell (k := 3) (by decide)
   unfold wv at c0 c1 c2 c3 x0 x1 x2 x3
   go_wp2_with fail
   go_at_call 132
   refine (pick_any _ D (D + W4 - m) hpb _).mono ?_
   rintro e w1 ⟨rfl, hb2⟩
   rw [← HP.out]
   have hsz := os.lt
   have oz' := oz.keepAt (hb2.mono (by omega))
   clear c0 c1 c2 c3 d0 d1 d2 d3 f0 f1 f2 f3 x0 x1 x2 x3
   have c0 := (oz').cell (k := 0) (by decide)
   have c1 := (oz').cell (k := 1) (by decide)
   have c2 := (oz').cell (k := 2) (by decide)
   have c3 := (oz').cell (k := 3) (by decide)
   have d0 := (oz').cell (k := 0) (by decide)
   have d1 := (oz').cell (k := 1) (by decide)
   have d2 := (oz').cell (k := 2) (by decide)
   have d3 := (oz').cell (k := 3) (by decide)
   have f0 := (oz').free 0
   have f1 := (oz').free 1
   have f2 := (oz').free 2
   have f3 := (oz').free 3
   obtain ⟨wz, ez, r0, r1, r2, r3, rb⟩ := set4 oz' (.int .u64 (wd p 0 : Int)) (.int .u64 (wd p 1 : Int)) (.int .u64 (wd p 2 : Int)) (.int .u64 (wd p 3 : Int))
   go_wp2
   rw [← ez]
   refine bodyPost_ret (v := .agg #[.int .u64 (wd p 0 : Int), .int .u64 (wd p 1 : Int), .int .u64 (wd p 2 : Int), .int .u64 (wd p 3 : Int)]) (by simp [results, Tryz.results127, go_sem, r0, r1, r2, r3]) rfl ⟨rfl, (hb.trans (hb2.mono (by omega))).trans rb⟩
end Go.Proofs.YtkbkalhcdbklkaaGreatDoor
namespace Go.Proofs.YtkbkalhcdbklkaaGreatDoor
open Go Go.RowKit
def shr (x e : Nat) : Nat := x / 2 ^ e
theorem shr_step (x e : Nat) : shr x e = 2 * shr x (e + 1) + bt x e := by
 unfold shr bt
 rw [Nat.pow_succ, ← Nat.div_div_eq_div_mul]
 omega
theorem shr_zero (x : Nat) : shr x 0 = x := by simp [shr]
theorem shr_all {x : Nat} (h : x < W8) : shr x 512 = 0 := Nat.div_eq_of_lt (by rw [show (2 : Nat) ^ 512 = W8 from by decide +kernel]; exact h)
theorem mod_step (x m e : Nat) : (2 * (shr x (e + 1) % m) + bt x e) % m = shr x e % m := by
 rw [shr_step x e, Nat.add_mod, Nat.mul_mod, Nat.mod_mod, ← Nat.mul_mod, ← Nat.add_mod]
theorem bt_wd8 (x i k : Nat) (hi : i < 8) (hk : k < 64) : wd x (7 - i) / 2 ^ (63 - k) % 2 = bt x (64 * (7 - i) + (63 - k)) := by
 rw [← bt_wd x (64 * (7 - i) + (63 - k))]
 rw [show (64 * (7 - i) + (63 - k)) / 64 = 7 - i by omega, show (64 * (7 - i) + (63 - k)) % 64 = 63 - k by omega]
theorem bt_le (x i : Nat) : bt x i ≤ 1 := by unfold bt; omega
theorem startM (x y : Nat) (w : World) : RdF ((((w.alloc (A8 x)).alloc (A4 y)).alloc Z4).alloc Z4) (w.heap.size + 2) (some ⟨w.heap.size, 0, none⟩) 8 8 (wv x) ∧
  RdF ((((w.alloc (A8 x)).alloc (A4 y)).alloc Z4).alloc Z4) (w.heap.size + 2) (some ⟨w.heap.size + 1, 0, none⟩) 4 4 (wv y) ∧
  OwnF ((((w.alloc (A8 x)).alloc (A4 y)).alloc Z4).alloc Z4) w.heap.size 35 (some ⟨w.heap.size + 2, 0, none⟩) 4 4 (fun _ => .int .u64 0) ∧
  OwnF ((((w.alloc (A8 x)).alloc (A4 y)).alloc Z4).alloc Z4) w.heap.size 35 (some ⟨w.heap.size + 3, 0, none⟩) 4 4 (fun _ => .int .u64 0) ∧
  Below w.heap.size w ((((w.alloc (A8 x)).alloc (A4 y)).alloc Z4).alloc Z4) := by
 have s1 : (w.alloc (A8 x)).heap.size = w.heap.size + 1 := by simp
 have s2 : ((w.alloc (A8 x)).alloc (A4 y)).heap.size = w.heap.size + 2 := by simp
 have s3 : (((w.alloc (A8 x)).alloc (A4 y)).alloc Z4).heap.size = w.heap.size + 3 := by simp
 have b1 := (Below.refl (w.heap.size + 1) (w.alloc (A8 x))).alloc (by omega) (A4 y)
 have b2 := (Below.refl (w.heap.size + 2) ((w.alloc (A8 x)).alloc (A4 y))).alloc (by omega) Z4
 have b3 := (Below.refl (w.heap.size + 3) (((w.alloc (A8 x)).alloc (A4 y)).alloc Z4)).alloc (by omega) Z4
 have irx := (((own_A8 (w := w) (Nat.le_refl _) x).rd.mono (B' := w.heap.size + 1) (by omega)).keep ((b1.trans (b2.mono (by omega))).trans (b3.mono (by omega)))).mono (B' := w.heap.size + 2) (by omega)
 have iry := (((own_A4 (w := w.alloc (A8 x)) (B := w.heap.size) (by omega) y).rd.mono (B' := w.heap.size + 2) (by omega)).keep (b2.trans (b3.mono (by omega))))
 have ioz := (own_Z4 (w := (w.alloc (A8 x)).alloc (A4 y)) (B := w.heap.size) (by omega)).keepAt (by rw [s2]; exact b3)
 have ios := own_Z4 (w := ((w.alloc (A8 x)).alloc (A4 y)).alloc Z4) (B := w.heap.size) (by omega)
 have bb : Below w.heap.size w ((((w.alloc (A8 x)).alloc (A4 y)).alloc Z4).alloc Z4) := ((((Below.refl _ w).alloc (by omega) _).alloc (by omega) _).alloc (by omega) _).alloc (by omega) _
 rw [s1] at iry
 rw [s2] at ioz
 rw [s3] at ios
 exact ⟨irx, iry, ioz, ios, bb⟩
theorem put4 {w : World} {B g : Nat} {e : TypeId} {f : Nat → Value} (h : OwnF w B e (some ⟨g, 0, none⟩) 4 4 f) (z : Nat) :
  OwnF ((((w.setCell ⟨g, 0, none⟩ (.int .u64 (wd z 0 : Int))).setCell ⟨g, 1, none⟩ (.int .u64 (wd z 1 : Int))).setCell ⟨g, 2, none⟩ (.int .u64 (wd z 2 : Int))).setCell ⟨g, 3, none⟩ (.int .u64 (wd z 3 : Int))) B e (some ⟨g, 0, none⟩) 4 4 (wv z) ∧
  Below g w ((((w.setCell ⟨g, 0, none⟩ (.int .u64 (wd z 0 : Int))).setCell ⟨g, 1, none⟩ (.int .u64 (wd z 1 : Int))).setCell ⟨g, 2, none⟩ (.int .u64 (wd z 2 : Int))).setCell ⟨g, 3, none⟩ (.int .u64 (wd z 3 : Int))) := by
 have h4 := (((h.set_ 0 (.int .u64 (wd z 0 : Int))).set_ 1 (.int .u64 (wd z 1 : Int))).set_ 2 (.int .u64 (wd z 2 : Int))).set_ 3 (.int .u64 (wd z 3 : Int))
 refine ⟨h4.congr fun j hj => ?_, ((((Below.refl g w).setCell (Nat.le_refl g) _).setCell (Nat.le_refl g) _).setCell (Nat.le_refl g) _).setCell (Nat.le_refl g) _⟩
 have : j = 0 ∨ j = 1 ∨ j = 2 ∨ j = 3 := by omega
 rcases this with rfl | rfl | rfl | rfl <;> rfl
theorem eq4z (y : Nat) (hy : y < W4) (w : World) : (Op.equalIn 10000 35 (nv y) (.agg #[.int .u64 0, .int .u64 0, .int .u64 0, .int .u64 0])).run Tryz.prog w = .ok (decide (y = 0)) w := by
 rw [← nv_zero]
 exact eq4 y 0 hy W4_pos w
end Go.Proofs.YtkbkalhcdbklkaaGreatDoor
namespace Go.Proofs.YtkbkalhcdbklkaaGreatDoor
open Go Go.RowKit
set_option maxRecDepth 20000 in
set_option maxHeartbeats 800000 in
theorem mod_any {a m : Nat} (ha : a < W8) (hm : m < W4) (h0 : 0 < m) (w : World) :
  Calls Tryz.prog 96 #[dv a, nv m] w fun e w' => e = .returned (.tuple #[nv (a % m), .int .i64 0]) ∧ Below w.heap.size w w' := by
 obtain ⟨irx, iry, ioz, ios, bb⟩ := startM a m w
 have heq := eq4z m hm
 have hd : decide (m = 0) = false := by simp; omega
 unfold nv at heq
 unfold nv dv
 go_enter Tryz.func96, Tryz.ntmps96
 go_wp2_with fail
 clear heq hd
 go_loopw [14] (fun i wr => ∃ k : Nat, k ≤ 8 ∧ i = .int .i64 k ∧ RdF wr (w.heap.size + 2) (some ⟨w.heap.size, 0, none⟩) 8 8 (wv a) ∧ RdF wr (w.heap.size + 2) (some ⟨w.heap.size + 1, 0, none⟩) 4 4 (wv m) ∧
   OwnF wr w.heap.size 35 (some ⟨w.heap.size + 2, 0, none⟩) 4 4 (fun _ => .int .u64 0) ∧ OwnF wr w.heap.size 35 (some ⟨w.heap.size + 3, 0, none⟩) 4 4 (wv (shr a (64 * (8 - k)) % m)) ∧ Below w.heap.size w wr)
  (fun i _ => 8 - (intOf i).toNat)
 case atStart => exact ⟨0, by omega, rfl, irx, iry, ioz, ios.congr (fun j _ => by rw [show shr a (64 * (8 - 0)) = 0 from shr_all ha]; unfold wv wd dgt; simp), bb⟩
 case round =>
  obtain ⟨i, hi, rfl, rx, ry, oz, os, hb⟩ := hrel
  clear irx iry ioz ios bb
  by_cases hlt : i < 8
  ·have g1 : (i : Int) < 8 := by omega
   have c1 := rx.cell0 (k := 7 - i) (by omega)
   unfold wv at c1
   have g2 : IntKind.i64.wrap (7 - (i : Int)) = 7 - (i : Int) := by rw [IntKind.wrap_i64]; omega
   have g3 : 0 ≤ 7 - (i : Int) := by omega
   have g4 : 7 - (i : Int) < 8 := by omega
   have g5 : (7 - (i : Int)).toNat = 7 - i := by omega
   go_wp2_with fail
   obtain ⟨w0, e0⟩ : ∃ w0 : World, w0 = wr := ⟨_, rfl⟩
   subst e0
   go_loopw [21] (fun kk wr => ∃ k : Nat, k ≤ 64 ∧ kk = .int .i64 k ∧ RdF wr (w.heap.size + 2) (some ⟨w.heap.size, 0, none⟩) 8 8 (wv a) ∧ RdF wr (w.heap.size + 2) (some ⟨w.heap.size + 1, 0, none⟩) 4 4 (wv m) ∧
     OwnF wr w.heap.size 35 (some ⟨w.heap.size + 2, 0, none⟩) 4 4 (fun _ => .int .u64 0) ∧ OwnF wr w.heap.size 35 (some ⟨w.heap.size + 3, 0, none⟩) 4 4 (wv (shr a (64 * (8 - i) - k) % m)) ∧ Below w.heap.size w wr)
    (fun kk _ => 64 - (intOf kk).toNat)
   case atStart => exact ⟨0, by omega, rfl, rx, ry, oz, os, hb⟩
   case round =>
    clear rx ry oz os hb c1 g2 g3 g4 g5
    obtain ⟨k, hk, rfl, rx, ry, oz, os, hb⟩ := hrel
    by_cases hlt2 : k < 64
    ·have g1 : (k : Int) < 64 := by omega
     have g2 : IntKind.i64.wrap (63 - (k : Int)) = 63 - (k : Int) := by rw [IntKind.wrap_i64]; omega
     have g3 : 0 ≤ 63 - (k : Int) := by omega
     have g5 : (63 - (k : Int)).toNat = 63 - k := by omega
     have e1 : bits .and .u64 ((wd a (7 - i) : Int) / 2 ^ (63 - k)) 1 = (bt a (64 * (7 - i) + (63 - k)) : Int) := by rw [and_one _ _ (wd_lt _ _), bt_wd8 _ _ _ hlt hlt2]
     obtain ⟨L, hL⟩ : ∃ L, L = shr a (64 * (8 - i) - k) % m := ⟨_, rfl⟩
     rw [← hL] at os
     have HL := Lib.hid hL
     clear hL
     have hLm : L < m := by rw [HL.out]; exact Nat.mod_lt _ h0
     have b1 := bt_le a (64 * (7 - i) + (63 - k))
     have hnext : (2 * L + bt a (64 * (7 - i) + (63 - k))) % m = shr a (64 * (8 - i) - (k + 1)) % m := by
      rw [HL.out, show 64 * (8 - i) - k = (64 * (7 - i) + (63 - k)) + 1 by omega, mod_step, show 64 * (8 - i) - (k + 1) = 64 * (7 - i) + (63 - k) by omega]
     have c0 := os.cell (k := 0) (by decide)
     have c1 := os.cell (k := 1) (by decide)
     have c2 := os.cell (k := 2) (by decide)
     have c3 := os.cell (k := 3) (by decide)
     have d0 := ry.cell0 (k := 0) (by decide)
     have d1 := ry.cell0 (k := 1) (by decide)
     have d2 := ry.cell0 (k := 2) (by decide)
     have d3 := ry.cell0 (k := 3) (by decide)
     unfold wv at c0 c1 c2 c3 d0 d1 d2 d3
     have HN := Lib.hid hnext
     clear hnext
     go_wp2_with fail
     refine wp_region_still_tail 7 (by kernel_rfl) (by kernel_rfl) ?_
     simp only [List.take_succ_cons, List.take_zero, List.drop_succ_cons, List.drop_zero]
     repeat still_step
     refine wpStill_nil ?_
     change wpList _ _ _ _ _ wr.drew
     go_wp2_with fail
     go_at_call 127
     refine (bring_any hLm hm b1 _).mono ?_
     rintro e w1 ⟨rfl, hb2⟩
     rw [HN.out]
     have hb3 : Below (w.heap.size + 4) wr w1 := (Below.refl _ wr).drew.trans (hb2.mono (by have := os.lt; simp; omega))
     have os' := os.keepAt (hb3.mono (by omega))
     have f0 := os'.free 0
     have f1 := os'.free 1
     have f2 := os'.free 2
     have f3 := os'.free 3
     clear c0 c1 c2 c3 d0 d1 d2 d3 HN hb2
     have c0 := os'.cell (k := 0) (by decide)
     have c1 := os'.cell (k := 1) (by decide)
     have c2 := os'.cell (k := 2) (by decide)
     have c3 := os'.cell (k := 3) (by decide)
     unfold wv at c0 c1 c2 c3
     obtain ⟨op, hbp⟩ := put4 os' (shr a (64 * (8 - i) - (k + 1)) % m)
     go_wp2
     have hbp3 := (hb3.mono (by omega : w.heap.size + 3 ≤ w.heap.size + 4)).trans hbp
     refine ⟨⟨k + 1, by omega, by go_num, rx.keep (hbp3.mono (by omega)), ry.keep (hbp3.mono (by omega)), oz.keepAt hbp3, op, hb.trans (hbp3.mono (by omega))⟩, by simp [intOf]; omega⟩
    ·have hk' : k = 64 := by omega
     subst hk'
     go_wp2_with fail
     go_roundw
     case rel => exact ⟨i + 1, by omega, by go_num, rx, ry, oz, by rw [show 64 * (8 - (i + 1)) = 64 * (8 - i) - 64 by omega]; exact os, hb⟩
     case measure => simp [intOf]; omega
  ·have hk' : i = 8 := by omega
   subst hk'
   rw [show 64 * (8 - 8) = 0 from rfl, shr_zero] at os
   have c0 := (os).cell (k := 0) (by decide)
   have c1 := (os).cell (k := 1) (by decide)
   have c2 := (os).cell (k := 2) (by decide)
   have c3 := (os).cell (k := 3) (by decide)
   have d0 := (oz).cell (k := 0) (by decide)
   have d1 := (oz).cell (k := 1) (by decide)
   have d2 := (oz).cell (k := 2) (by decide)
   have d3 := (oz).cell (k := 3) (by decide)
   have f0 := (oz).free 0
   have f1 := (oz).free 1
   have f2 := (oz).free 2
   have f3 := (oz).free 3
   unfold wv at c0 c1 c2 c3
   obtain ⟨wz, ez, r0, r1, r2, r3, rb⟩ := set4 oz (.int .u64 (wd (a % m) 0 : Int)) (.int .u64 (wd (a % m) 1 : Int)) (.int .u64 (wd (a % m) 2 : Int)) (.int .u64 (wd (a % m) 3 : Int))
   go_wp2
   rw [← ez]
   refine bodyPost_ret (v := .tuple #[.agg #[.int .u64 (wd (a % m) 0 : Int), .int .u64 (wd (a % m) 1 : Int), .int .u64 (wd (a % m) 2 : Int), .int .u64 (wd (a % m) 3 : Int)], .int .i64 0]) (by simp [results, Tryz.results96, go_sem, r0, r1, r2, r3]) rfl ⟨rfl, hb.trans rb⟩
end Go.Proofs.YtkbkalhcdbklkaaGreatDoor
