
import Derived.Test.YtkbkalhcdbklkaaGreatDoorMR
import Derived.Test.YtkbkalhcdbklkaaGreatDoorJ13
namespace Go.Proofs.YtkbkalhcdbklkaaGreatDoor
open Go Go.RowKit
theorem Can.le32 {n x : Nat} (h : Can n x) (hx : x < W4) : n ≤ 32 := h 32 (by rw [← W4_256]; exact hx)
theorem fl_small {n : Nat} (h : n < 65536) : fl n = [.int .i64 (n : Int), .int .i64 0, .int .i64 0, .int .i64 0, .int .i64 0, .int .i64 0, .int .i64 0, .int .i64 0, .int .i64 0, .int .i64 0, .int .i64 0, .int .i64 0, .int .i64 0, .int .i64 0, .int .i64 0, .int .i64 0] := by
 have h0 : d16 n 0 = n := by unfold d16 dgt; rw [Nat.pow_zero, Nat.div_one, Nat.mod_eq_of_lt h]
 have hk : ∀ k, 1 ≤ k → d16 n k = 0 := fun k hk => dgt_zero_of_lt (Nat.lt_of_lt_of_le h (by have := Nat.pow_le_pow_right (n := 65536) (by decide) hk; rwa [Nat.pow_one] at this))
 refine List.ext_getElem (by rw [fl_len]; rfl) fun i h1 h2 => ?_
 have hi : i < 16 := by rwa [fl_len] at h1
 have hg : (fl n)[i] = dv16 n i := by
  have := fl_get (x := n) hi
  rw [List.getElem?_eq_getElem h1] at this
  exact Option.some.inj this
 refine hg.trans ?_
 unfold dv16
 rcases (show i = 0 ∨ 1 ≤ i by omega) with rfl | h3
 ·rw [h0]; rfl
 ·rw [hk i h3]
  have : i = 1 ∨ i = 2 ∨ i = 3 ∨ i = 4 ∨ i = 5 ∨ i = 6 ∨ i = 7 ∨ i = 8 ∨ i = 9 ∨ i = 10 ∨ i = 11 ∨ i = 12 ∨ i = 13 ∨ i = 14 ∨ i = 15 := by omega
  rcases this with rfl | rfl | rfl | rfl | rfl | rfl | rfl | rfl | rfl | rfl | rfl | rfl | rfl | rfl | rfl <;> rfl
theorem A16_small {n : Nat} (h : n < 65536) : A16 n = .cells #[.int .i64 (n : Int), .int .i64 0, .int .i64 0, .int .i64 0, .int .i64 0, .int .i64 0, .int .i64 0, .int .i64 0, .int .i64 0, .int .i64 0, .int .i64 0, .int .i64 0, .int .i64 0, .int .i64 0, .int .i64 0, .int .i64 0] 68 := by
 unfold A16; rw [fl_small h]
attribute [local irreducible] wd by8 d16 set16w fl
set_option maxRecDepth 20000
set_option maxHeartbeats 800000 in
theorem int_any {n : Nat} (hn : n < 65536) (w : World) :
  Calls Tryz.prog 83 #[.int .i64 (n : Int)] w fun e w' => e = .returned (fv n) ∧ Below w.heap.size w w' := by
 have hs : (w.alloc Z16).heap.size = w.heap.size + 1 := by simp
 have oz := (O16.zero (own_Z16 (w := w) (Nat.le_refl _))).alloc (A16 n)
 have ox := O16.new (w := w.alloc Z16) (B := w.heap.size) (by omega) n
 have hc := ((Below.refl _ w).alloc (Nat.le_refl _) Z16).alloc (by omega) (A16 n)
 rw [hs] at ox
 rw [A16_small hn] at ox oz hc
 clear hs hn
 go_enter Tryz.func83, Tryz.ntmps83
 have hop := Lib.hid (oz.put n)
 have hbz := oz.below n
 go_wp2_with (first | ((with_reducible refine fl_store oz n ?_ ?_ ?_); rfl; rfl) | ((with_reducible refine fl_load ox ?_ ?_); rfl))
 exact bodyPost_ret (fres Tryz.results83 _ hop.out rfl) rfl ⟨rfl, hc.trans hbz⟩
set_option maxHeartbeats 800000 in
theorem rdec_walk {A : Option Addr} {c : Nat} {bs : List UInt8} {q : Bool} (h32 : bs.length = 32) (w : World) (hr : Rd w w.heap.size A c bs) (hq : decide (vb bs < P25) = q) :
  Calls Tryz.prog 77 #[.slice A 32 c] w fun e w' => e = .returned (.tuple #[fv (if q then vb bs else 0), .int .i64 (if q then 0 else 6)]) ∧ Below w.heap.size w w' := by
 have k := fun w => int_any (n := 0) (by decide) w
 have K := Lib.hid k
 have hW := vb_lt h32
 have krd := read_any (w.alloc Z16) (hr.keep ((Below.refl _ w).alloc (Nat.le_refl _) Z16)) (by simp) (by omega)
 rw [h32] at krd
 obtain ⟨x, hx⟩ : ∃ x, x = vb bs := ⟨_, rfl⟩
 rw [← hx] at krd hq hW ⊢
 obtain ⟨P, hPe⟩ : ∃ P, P = P25 := ⟨_, rfl⟩
 have kp := rprime_any
 rw [← hPe] at kp hq
 have KP := Lib.hid kp
 have KRD := Lib.hid krd
 have HQ := Lib.hid hq
 have HW := Lib.hid hW
 clear k hx krd kp hPe hq hW h32
 cases q
 ·rw [if_neg (by decide), if_neg (by decide)]
  go_enter Tryz.func77, Tryz.ntmps77
  go_wp2_with fail
  go_at_call 48
  refine KRD.out.mono ?_
  rintro e v1 ⟨A1, c1, n1, rfl, d1, h0⟩
  obtain ⟨oz, hc⟩ := fres1 h0
  clear h0 KRD
  have p1 := d1.dig
  have l1 := Can.le32 d1.can HW.out
  clear d1
  go_wp2_with fail
  go_at_call 108
  refine (KP.out _).mono ?_
  rintro e v2 ⟨A2, c2, rfl, d2, h0⟩
  replace oz := oz.keep h0
  replace p1 := p1.next h0
  replace hc := bnx hc h0
  clear h0
  have p2 := d2.dig
  clear d2
  go_wp2_with fail
  go_at_call 76
  refine (less_any _ p1 p2 (by omega) (by omega)).mono ?_
  rintro e v3 ⟨rfl, rfl⟩
  rw [HQ.out]
  go_wp2_with fail
  go_at_call 83
  refine (K.out _).mono ?_
  rintro e v4 ⟨rfl, h0⟩
  replace oz := oz.keep h0
  replace hc := bnx hc h0
  clear h0 p1 p2
  have hop := Lib.hid (oz.put 0)
  have hbz := oz.below 0
  go_wp2_with ((with_reducible refine fl_store oz 0 ?_ ?_ ?_); rfl; rfl)
  exact bodyPost_ret (fresv Tryz.results77 _ hop.out rfl rfl) rfl ⟨rfl, hc.trans hbz⟩
 ·rw [if_pos rfl, if_pos rfl]
  go_enter Tryz.func77, Tryz.ntmps77
  go_wp2_with fail
  go_at_call 48
  refine KRD.out.mono ?_
  rintro e v1 ⟨A1, c1, n1, rfl, d1, h0⟩
  obtain ⟨oz, hc⟩ := fres1 h0
  clear h0 KRD
  have p1 := d1.dig
  have l1 := Can.le32 d1.can HW.out
  clear d1
  go_wp2_with fail
  go_at_call 108
  refine (KP.out _).mono ?_
  rintro e v2 ⟨A2, c2, rfl, d2, h0⟩
  replace oz := oz.keep h0
  replace p1 := p1.next h0
  replace hc := bnx hc h0
  clear h0
  have p2 := d2.dig
  clear d2
  go_wp2_with fail
  go_at_call 76
  refine (less_any _ p1 p2 (by omega) (by omega)).mono ?_
  rintro e v3 ⟨rfl, rfl⟩
  rw [HQ.out]
  go_wp2_with fail
  go_at_call 109
  refine (pairs_any _ p1 (Nat.le_refl _) l1).mono ?_
  rintro e v4 ⟨rfl, h0⟩
  replace oz := oz.keep h0
  replace hc := bnx hc h0
  clear h0 p1 p2
  have hop := Lib.hid (oz.put x)
  have hbz := oz.below x
  go_wp2_with ((with_reducible refine fl_store oz x ?_ ?_ ?_); rfl; rfl)
  exact bodyPost_ret (fresv Tryz.results77 _ hop.out rfl rfl) rfl ⟨rfl, hc.trans hbz⟩
end Go.Proofs.YtkbkalhcdbklkaaGreatDoor
namespace Go.Proofs.YtkbkalhcdbklkaaGreatDoor
open Go Go.RowKit
def val (c : Nat) (f : Nat → Nat) : Nat → Nat
 | 0 => c
 | n + 1 => val c f n + 65536 ^ n * f n
def cyr (c : Nat) (f : Nat → Nat) (i : Nat) : Nat := val c f i / 65536 ^ i
theorem cyr_zero (c : Nat) (f : Nat → Nat) : cyr c f 0 = c := by simp [cyr, val]
theorem cyr_succ (c : Nat) (f : Nat → Nat) (i : Nat) : cyr c f (i + 1) = (f i + cyr c f i) / 65536 := by
 unfold cyr
 rw [val, Nat.pow_succ, ← Nat.div_div_eq_div_mul, Nat.add_mul_div_left _ _ (Nat.pow_pos (by decide)), Nat.add_comm]
theorem val_dig0 (c : Nat) (f : Nat → Nat) (i : Nat) : d16 (val c f (i + 1)) i = (f i + cyr c f i) % 65536 := by
 show val c f (i + 1) / _ % _ = _
 rw [val, Nat.add_mul_div_left _ _ (Nat.pow_pos (by decide)), Nat.add_comm]
 rfl
theorem val_dig (c : Nat) (f : Nat → Nat) (i : Nat) : ∀ m, d16 (val c f (i + 1 + m)) i = (f i + cyr c f i) % 65536
 | 0 => val_dig0 c f i
 | m + 1 => by
  rw [show i + 1 + (m + 1) = i + 1 + m + 1 by omega, val]
  exact (dgt_add_mul (b := 65536) _ _ (by omega)).trans (val_dig c f i m)
theorem val_at {c i : Nat} {f : Nat → Nat} (h : i < 16) : d16 (val c f 16) i = (f i + cyr c f i) % 65536 := by
 have := val_dig c f i (15 - i)
 rwa [show i + 1 + (15 - i) = 16 by omega] at this
def BB : Nat := 70368744177664
theorem cyr_le {c : Nat} {f : Nat → Nat} (hf : ∀ j, f j ≤ BB) (hc : c ≤ 1073758208) : ∀ i, cyr c f i ≤ 1073758208
 | 0 => by rw [cyr_zero]; exact hc
 | i + 1 => by
  have h1 := cyr_le hf hc i
  have h2 := hf i
  rw [cyr_succ]
  unfold BB at h2
  omega
theorem val_self (x : Nat) : ∀ n, val 0 (d16 x) n = x % 65536 ^ n
 | 0 => by simp [val, Nat.mod_one]
 | n + 1 => by rw [val, val_self x n, mod_pow_succ']; rfl
theorem val_c (c : Nat) (f : Nat → Nat) : ∀ n, val c f n = c + val 0 f n
 | 0 => by simp [val]
 | n + 1 => by rw [val, val, val_c c f n, Nat.add_assoc]
theorem val_first (e : Nat) (f : Nat → Nat) : ∀ n, val 0 (fun j => f j + if j = 0 then e else 0) (n + 1) = e + val 0 f (n + 1)
 | 0 => by simp only [val, Nat.pow_zero, Nat.one_mul, if_true]; omega
 | n + 1 => by
  show val 0 (fun j => f j + if j = 0 then e else 0) (n + 1) + 65536 ^ (n + 1) * (f (n + 1) + if n + 1 = 0 then e else 0) = e + (val 0 f (n + 1) + 65536 ^ (n + 1) * f (n + 1))
  rw [val_first e f n, if_neg (by omega), Nat.add_assoc]
  rfl
theorem val_congr {c : Nat} {f g : Nat → Nat} : ∀ n, (∀ j, j < n → f j = g j) → val c f n = val c g n
 | 0, _ => rfl
 | n + 1, h => by rw [val, val, val_congr n (fun j hj => h j (by omega)), h n (by omega)]
def GG (v : Nat) : Nat := v % W4 + 38 * (v / W4)
theorem GG_mod (v : Nat) : GG v % P25 = v % P25 := by
 have h := Nat.mod_add_div v W4
 have h5 : W4 = P25 * 2 + 38 := by decide +kernel
 unfold GG
 generalize v / W4 = q at *
 have e : v = v % W4 + 38 * q + P25 * (2 * q) := by
  have : W4 * q = P25 * (2 * q) + 38 * q := by conv => lhs; rw [h5]
                                               rw [Nat.add_mul, Nat.mul_assoc]
  omega
 conv => rhs; rw [e, Nat.add_mul_mod_self_left]
def FF (f : Nat → Nat) : Nat → Nat → Nat
 | 0 => f
 | n + 1 => fun j => d16 (val 0 (FF f n) 16) j + if j = 0 then 38 * (val 0 (FF f n) 16 / W4) else 0
theorem cyr16 (f : Nat → Nat) : val 0 f 16 / W4 = cyr 0 f 16 := by unfold cyr; rw [W4_d16]
theorem FF_le {f : Nat → Nat} (hf : ∀ j, f j ≤ BB) : ∀ n j, FF f n j ≤ BB
 | 0, j => hf j
 | n + 1, j => by
  have h1 := cyr_le (c := 0) (FF_le hf n) (by decide) 16
  have h2 := d16_lt (val 0 (FF f n) 16) j
  show d16 _ j + (if j = 0 then 38 * (val 0 (FF f n) 16 / W4) else 0) ≤ BB
  rw [cyr16]
  unfold BB
  split <;> omega
theorem FF_val (f : Nat → Nat) (n : Nat) : val 0 (FF f (n + 1)) 16 = GG (val 0 (FF f n) 16) := by
 have := val_first (38 * (val 0 (FF f n) 16 / W4)) (d16 (val 0 (FF f n) 16)) 15
 show val 0 (fun j => d16 (val 0 (FF f n) 16) j + if j = 0 then 38 * (val 0 (FF f n) 16 / W4) else 0) 16 = _
 rw [this, val_self, ← W4_d16]
 unfold GG; omega
theorem FF_end {f : Nat → Nat} (hf : ∀ j, f j ≤ BB) : ∃ v, v < W4 ∧ v % P25 = val 0 f 16 % P25 ∧ ∀ j, j < 16 → FF f 5 j = d16 v j := by
 have hW : W4 = 115792089237316195423570985008687907853269984665640564039457584007913129639936 := W4_eq
 have h0 := cyr_le (c := 0) hf (by decide) 16
 rw [← cyr16] at h0
 have e1 := FF_val f 0
 have e2 := FF_val f 1
 have e3 := FF_val f 2
 have e4 := FF_val f 3
 have small : ∀ v, v < W4 → GG v = v := fun v hv => by unfold GG; rw [Nat.mod_eq_of_lt hv, Nat.div_eq_of_lt hv]; omega
 have h1 : GG (val 0 f 16) < W4 + 40802812000 := by
  have := Nat.mod_lt (val 0 f 16) W4_pos
  unfold GG; omega
 have h2 : GG (GG (val 0 f 16)) < W4 := by
  generalize GG (val 0 f 16) = u at *
  unfold GG
  rw [hW] at *
  omega
 have f0 : FF f 0 = f := rfl
 rw [f0] at e1
 rw [e1] at e2
 rw [e2] at e3
 rw [small _ h2] at e3
 rw [e3, small _ h2] at e4
 refine ⟨GG (GG (val 0 f 16)), h2, by rw [GG_mod, GG_mod], fun j _ => ?_⟩
 show d16 (val 0 (FF f 4) 16) j + (if j = 0 then 38 * (val 0 (FF f 4) 16 / W4) else 0) = _
 rw [e4, Nat.div_eq_of_lt h2]
 simp
def HH (v : Nat) : Nat := 19 * (v / H25) + v % H25
theorem HH_mod (v : Nat) : HH v % P25 = v % P25 := by
 have h := Nat.mod_add_div v H25
 unfold HH
 generalize v / H25 = q at *
 have e : v = 19 * q + v % H25 + P25 * q := by
  have : H25 * q = P25 * q + 19 * q := by conv => lhs; rw [H25_P]
                                          rw [Nat.add_mul]
  omega
 conv => rhs; rw [e, Nat.add_mul_mod_self_left]
theorem H25_lit : H25 = 57896044618658097711785492504343953926634992332820282019728792003956564819968 := rfl
theorem HH_lt {v : Nat} (h : v < W4) : HH v < W4 := by
 unfold HH; rw [W4_eq] at *; rw [H25_lit]; omega
theorem HH_two {v : Nat} (h : v < W4) : HH (HH v) < H25 := by
 unfold HH; rw [W4_eq] at *; rw [H25_lit]; omega
theorem d16_top {v : Nat} (h : v < W4) : d16 v 15 / 32768 = v / H25 := by
 unfold d16 dgt
 have h1 : v / 65536 ^ 15 < 65536 := Nat.div_lt_of_lt_mul (by rw [← Nat.pow_succ, ← W4_d16]; exact h)
 rw [Nat.mod_eq_of_lt h1, Nat.div_div_eq_div_mul]
 congr 1
theorem H25_16 : H25 = 65536 ^ 15 * 32768 := by decide +kernel
theorem d16_low {v j : Nat} (hj : j < 15) : d16 (v % H25) j = d16 v j := by
 have h1 : (v % H25) % 65536 ^ 15 = v % 65536 ^ 15 := by rw [H25_16, Nat.mod_mul_right_mod]
 unfold d16
 rw [← dgt_mod _ hj, h1, dgt_mod _ hj]
theorem d16_mod {v : Nat} (h : v < W4) : d16 (v % H25) 15 = d16 v 15 % 32768 := by
 have h1 : v / 65536 ^ 15 < 65536 := Nat.div_lt_of_lt_mul (by rw [← Nat.pow_succ, ← W4_d16]; exact h)
 unfold d16 dgt
 rw [H25_16, Nat.mod_mul_right_div_self, Nat.mod_eq_of_lt h1, Nat.mod_eq_of_lt (by have := Nat.mod_lt (v / 65536 ^ 15) (show 0 < 32768 by decide); omega)]
theorem HH_val {v : Nat} (h : v < W4) : val (19 * (v / H25)) (d16 (v % H25)) 16 = HH v := by
 rw [val_c, val_self, ← W4_d16, Nat.mod_eq_of_lt (Nat.lt_of_le_of_lt (Nat.mod_le _ _) h)]
 rfl
end Go.Proofs.YtkbkalhcdbklkaaGreatDoor
namespace Go.Proofs.YtkbkalhcdbklkaaGreatDoor
open Go Go.RowKit
theorem P_dig16 : ∀ t, t < 19 → ∀ i, i < 16 → d16 (P25 + t) i = if i = 0 then 65517 + t else if i = 15 then 32767 else 65535 := by unfold d16; decide +kernel
theorem big_dig {v : Nat} (hv : v < H25) (h : P25 ≤ v) : ∃ t, t < 19 ∧ v = P25 + t := ⟨v - P25, by have := H25_P; omega, by omega⟩
theorem least_one {v i : Nat} (hv : v < H25) (h1 : 1 ≤ i) (h2 : i < 15) (h : d16 v i ≠ 65535) : v % P25 = v := by
 refine Nat.mod_eq_of_lt (Nat.lt_of_not_le fun hle => h ?_)
 obtain ⟨t, ht, rfl⟩ := big_dig hv hle
 rw [P_dig16 t ht i (by omega), if_neg (by omega), if_neg (by omega)]
theorem least_two {v : Nat} (hv : v < H25) (h : d16 v 15 ≠ 32767 ∨ d16 v 0 < 65517) : v % P25 = v := by
 refine Nat.mod_eq_of_lt (Nat.lt_of_not_le fun hle => ?_)
 obtain ⟨t, ht, rfl⟩ := big_dig hv hle
 rcases h with h | h
 ·exact h (by rw [P_dig16 t ht 15 (by omega)]; rfl)
 ·rw [P_dig16 t ht 0 (by omega), if_pos rfl] at h; omega
theorem least_three {v : Nat} (hv : v < H25) (h1 : ∀ i, 1 ≤ i → i < 15 → d16 v i = 65535) (h2 : d16 v 15 = 32767) (h3 : 65517 ≤ d16 v 0) : v % P25 = d16 v 0 - 65517 := by
 have h0 := d16_lt v 0
 have ht : d16 v 0 - 65517 < 19 := by omega
 have e : v = P25 + (d16 v 0 - 65517) := by
  have hPW : P25 + 19 < W4 := by decide +kernel
  refine dgt_ext (b := 65536) (n := 16) (by rw [← W4_d16]; exact Nat.lt_trans hv (by decide +kernel)) (by rw [← W4_d16]; omega) fun i hi => ?_
  show d16 v i = d16 _ i
  rw [P_dig16 _ ht i hi]
  by_cases hi0 : i = 0
  ·rw [if_pos hi0, hi0]; omega
  ·rw [if_neg hi0]
   by_cases hi1 : i = 15
   ·rw [if_pos hi1, hi1, h2]
   ·rw [if_neg hi1, h1 i (by omega) (by omega)]
 have hP := P25_pos
 have hP2 : 19 < P25 := by decide +kernel
 generalize d16 v 0 - 65517 = t at *
 rw [e, Nat.add_mod_left, Nat.mod_eq_of_lt (by omega)]
attribute [local irreducible] wd by8 d16 set16w fl
set_option maxRecDepth 20000
set_option maxHeartbeats 1600000 in
theorem least_any {v : Nat} (hv : v < H25) (w : World) :
  Calls Tryz.prog 136 #[fv v] w fun e w' => e = .returned (fv (v % P25)) ∧ Below w.heap.size w w' := by
 have HV := Lib.hid hv
 obtain ⟨r, hr⟩ : ∃ r, r = v % P25 := ⟨_, rfl⟩
 rw [← hr]
 have HR := Lib.hid hr
 have hs : (w.alloc (A16 v)).heap.size = w.heap.size + 1 := by simp
 have ox := (O16.new (w := w) (Nat.le_refl _) v).alloc Z16
 have oz := O16.zero (own_Z16 (w := w.alloc (A16 v)) (B := w.heap.size) (by omega))
 rw [hs] at oz
 have hc := ((Below.refl _ w).alloc (Nat.le_refl _) (A16 v)).alloc (by omega) Z16
 have hne : w.heap.size + 1 ≠ w.heap.size := by omega
 clear hr hv hs
 go_enter Tryz.func136, Tryz.ntmps136
 go_wp2_with fail
 obtain ⟨v0, e0⟩ : ∃ u, u = (w.alloc (A16 v)).alloc Z16 := ⟨_, rfl⟩
 rw [← e0] at ox oz hc ⊢
 clear e0
 go_loopw [3] (fun i wr => ∃ k : Nat, 1 ≤ k ∧ k ≤ 15 ∧ i = .int .i64 k ∧ (∀ j, 1 ≤ j → j < k → d16 v j = 65535) ∧ wr = v0)
  (fun i _ => 15 - (intOf i).toNat)
 case atStart => exact ⟨1, by omega, by omega, rfl, fun j h1 h2 => absurd h2 (by omega), rfl⟩
 case round =>
  obtain ⟨k, hk1, hk, rfl, hall, rfl⟩ := hrel
  have HA := Lib.hid hall
  clear hall
  by_cases hlt : k < 15
  ·have g1 : (k : Int) < 15 := by omega
   have c1 : wr.cell? ⟨w.heap.size, k, none⟩ = some (.int .i64 (d16 v k : Int)) := OwnF.cell ox (by omega)
   by_cases hd : d16 v k = 65535
   ·have g2 : ((d16 v k : Int) != 65535) = false := by simp; omega
    have g3 : ((d16 v k : Int) == 65535) = true := by simp; omega
    have HD := Lib.hid hd
    clear hd
    go_wp2_with fail
    go_roundw
    case rel => exact ⟨k + 1, by omega, by omega, by go_num, fun j h1 h2 => (by by_cases e : j = k; (· subst e; exact HD.out); exact HA.out j h1 (by omega)), trivial⟩
    case measure => simp [intOf]; omega
   ·have g2 : ((d16 v k : Int) != 65535) = true := by simp; omega
    have g3 : ((d16 v k : Int) == 65535) = false := by simp; omega
    have er : r = v := by rw [HR.out, least_one HV.out hk1 hlt hd]
    subst er
    clear hd
    have hop := Lib.hid (oz.put r)
    have hbz := oz.below r
    go_wp2_with (first | ((with_reducible refine fl_store oz r ?_ ?_ ?_); rfl; rfl) | ((with_reducible refine fl_load ox ?_ ?_); rfl))
    exact bodyPost_ret (fres Tryz.results136 _ hop.out rfl) rfl ⟨rfl, hc.trans hbz⟩
  ·obtain rfl : k = 15 := by omega
   have c15 : wr.cell? ⟨w.heap.size, 15, none⟩ = some (.int .i64 (d16 v 15 : Int)) := OwnF.cell ox (by omega)
   have c0 : wr.cell? ⟨w.heap.size, 0, none⟩ = some (.int .i64 (d16 v 0 : Int)) := OwnF.cell ox (by omega)
   by_cases h15 : d16 v 15 = 32767
   ·have g2 : ((d16 v 15 : Int) != 32767) = false := by simp; omega
    have g3 : ((d16 v 15 : Int) == 32767) = true := by simp; omega
    by_cases h0 : d16 v 0 < 65517
    ·have g4 : (d16 v 0 : Int) < 65517 := by omega
     have er : r = v := by rw [HR.out, least_two HV.out (.inr h0)]
     subst er
     clear h15 h0
     have hop := Lib.hid (oz.put r)
     have hbz := oz.below r
     go_wp2_with (first | ((with_reducible refine fl_store oz r ?_ ?_ ?_); rfl; rfl) | ((with_reducible refine fl_load ox ?_ ?_); rfl))
     exact bodyPost_ret (fres Tryz.results136 _ hop.out rfl) rfl ⟨rfl, hc.trans hbz⟩
    ·have g4 : ¬ (d16 v 0 : Int) < 65517 := by omega
     have er := least_three HV.out (fun i h1 h2 => HA.out i h1 h2) h15 (by omega)
     rw [← HR.out] at er
     have hl := d16_lt v 0
     have hr16 : r < 65536 := by omega
     have g5 : IntKind.i64.wrap ((d16 v 0 : Int) - 65517) = (r : Int) := by rw [IntKind.wrap_i64]; omega
     have c0a : (wr.alloc Z16).cell? ⟨w.heap.size, 0, none⟩ = some (.int .i64 (d16 v 0 : Int)) := OwnF.cell (ox.alloc Z16) (by omega)
     have hz1 := oz.alloc (A16 r)
     have ho := O16.new (w := wr) hc.size r
     have hc1 := hc.alloc hc.size (A16 r)
     rw [A16_small hr16] at hz1 ho hc1
     clear h15 h0 er hl hr16
     have hop := Lib.hid (hz1.put r)
     have hbz := hz1.below r
     go_wp2_with (first | ((with_reducible refine fl_store hz1 r ?_ ?_ ?_); rfl; rfl) | ((with_reducible refine fl_load ho ?_ ?_); rfl))
     exact bodyPost_ret (fres Tryz.results136 _ hop.out rfl) rfl ⟨rfl, hc1.trans hbz⟩
   ·have g2 : ((d16 v 15 : Int) != 32767) = true := by simp; omega
    have g3 : ((d16 v 15 : Int) == 32767) = false := by simp; omega
    have er : r = v := by rw [HR.out, least_two HV.out (.inl h15)]
    subst er
    clear h15
    have hop := Lib.hid (oz.put r)
    have hbz := oz.below r
    go_wp2_with (first | ((with_reducible refine fl_store oz r ?_ ?_ ?_); rfl; rfl) | ((with_reducible refine fl_load ox ?_ ?_); rfl))
    exact bodyPost_ret (fres Tryz.results136 _ hop.out rfl) rfl ⟨rfl, hc.trans hbz⟩
end Go.Proofs.YtkbkalhcdbklkaaGreatDoor
namespace Go.Proofs.YtkbkalhcdbklkaaGreatDoor
open Go Go.RowKit
def gl (f : Nat → Nat) : List Value := (List.range 16).map fun j => .int .i64 (f j : Int)
theorem gl_d16 (x : Nat) : gl (d16 x) = fl x := rfl
def nvf (f : Nat → Nat) (j : Nat) : Value := .int .i64 (f j : Int)
def psv (c : Nat) (f : Nat → Nat) (k j : Nat) : Value := .int .i64 ((if j < k then d16 (val c f 16) j else f j : Nat) : Int)
theorem psv_zero (c : Nat) (f : Nat → Nat) (j : Nat) : psv c f 0 j = nvf f j := by simp [psv, nvf]
theorem psv_out {c k : Nat} {f : Nat → Nat} : psv c f k k = .int .i64 (f k : Int) := by simp [psv]
theorem psv_full {c j : Nat} {f : Nat → Nat} (h : j < 16) : psv c f 16 j = .int .i64 (d16 (val c f 16) j : Int) := by simp [psv, h]
theorem psv_set (c : Nat) (f : Nat → Nat) (k j : Nat) (v : Value) : (if j = k then .int .i64 (d16 (val c f 16) k : Int) else if j = k then v else psv c f k j) = psv c f (k + 1) j := by
 by_cases h : j = k
 ·subst h; rw [if_pos rfl]; unfold psv; rw [if_pos (by omega)]
 ·rw [if_neg h, if_neg h]; unfold psv
  by_cases h2 : j < k
  ·rw [if_pos h2, if_pos (by omega)]
  ·rw [if_neg h2, if_neg (by omega)]
theorem O4one {w : World} {B g x : Nat} (h : O16 w B g x) {g' : Nat} (hg : g' ≠ g) (k : Nat) (v : Value) : O16 (w.setCell ⟨g', k, none⟩ v) B g x := OwnF.other h (p := ⟨g', k, none⟩) hg v
def Hn (v : Nat) : Nat → Nat
 | 0 => v
 | n + 1 => HH (Hn v n)
theorem Hn_lt {v : Nat} (h : v < W4) : ∀ n, Hn v n < W4
 | 0 => h
 | n + 1 => HH_lt (Hn_lt h n)
theorem Hn_two {v : Nat} (h : v < W4) : Hn v 2 < H25 ∧ Hn v 2 % P25 = v % P25 := by
 have e : Hn v 2 = HH (HH v) := rfl
 rw [e, HH_mod, HH_mod]
 exact ⟨HH_two h, rfl⟩
theorem ff_set {f : Nat → Nat} {n j c : Nat} (hc : c = d16 (val 0 (FF f n) 16) 0 + 38 * cyr 0 (FF f n) 16) (hj : j < 16) : (if j = 0 then .int .i64 (c : Int) else psv 0 (FF f n) 16 j) = nvf (FF f (n + 1)) j := by
 have e : FF f (n + 1) j = d16 (val 0 (FF f n) 16) j + if j = 0 then 38 * (val 0 (FF f n) 16 / W4) else 0 := rfl
 unfold nvf
 rw [e, cyr16]
 by_cases h : j = 0
 ·subst h; rw [if_pos rfl, if_pos rfl, hc]
 ·rw [if_neg h, if_neg h, psv_full hj, Nat.add_zero]
theorem top_set {v j : Nat} (h : v < W4) (hj : j < 16) : (if j = 15 then .int .i64 ((d16 v 15 % 32768 : Nat) : Int) else nvf (d16 v) j) = nvf (d16 (v % H25)) j := by
 unfold nvf
 by_cases e : j = 15
 ·subst e; rw [if_pos rfl, d16_mod h]
 ·rw [if_neg e, d16_low (by omega)]
theorem O16.one {w : World} {B g x : Nat} (h : O16 w B g x) {g' : Nat} (hg : g' ≠ g) (k k2 : Nat) (v v2 : Value) : O16 ((w.setCell ⟨g', k, none⟩ v).setCell ⟨g', k2, none⟩ v2) B g x := OwnF.other (OwnF.other h (p := ⟨g', k, none⟩) hg v) (p := ⟨g', k2, none⟩) hg v2
attribute [local irreducible] wd by8 d16 set16w fl val cyr FF gl
set_option maxRecDepth 20000
set_option maxHeartbeats 3200000 in
theorem settled_any {f : Nat → Nat} (hf : ∀ j, f j ≤ BB) (w : World) :
  Calls Tryz.prog 114 #[.agg (gl f).toArray] w fun e w' => e = .returned (fv (val 0 f 16 % P25)) ∧ Below w.heap.size w w' := by
 have HF := Lib.hid hf
 obtain ⟨r, hr⟩ : ∃ r, r = val 0 f 16 % P25 := ⟨_, rfl⟩
 rw [← hr]
 have HR := Lib.hid hr
 have hs : (w.alloc (.cells (gl f).toArray 68)).heap.size = w.heap.size + 1 := by simp
 have ox : OwnF (w.alloc (.cells (gl f).toArray 68)) w.heap.size 68 (some ⟨w.heap.size, 0, none⟩) 16 16 (nvf f) := OwnF.lit _ (Nat.le_refl _) _ 16 _ (by decide) (by unfold gl; rfl)
 replace ox := OwnF.keep ox ((Below.refl _ _).alloc (Nat.le_refl _) Z16)
 have oz := O16.zero (own_Z16 (w := w.alloc (.cells (gl f).toArray 68)) (B := w.heap.size) (by omega))
 rw [hs] at oz
 have hc := ((Below.refl _ w).alloc (Nat.le_refl _) (.cells (gl f).toArray 68)).alloc (by omega) Z16
 have hne : w.heap.size ≠ w.heap.size + 1 := by omega
 clear hr hf hs
 go_enter Tryz.func114, Tryz.ntmps114
 go_wp2_with fail
 obtain ⟨v0, e0⟩ : ∃ u, u = (w.alloc (.cells (gl f).toArray 68)).alloc Z16 := ⟨_, rfl⟩
 rw [← e0] at ox oz hc ⊢
 clear e0
 go_loopw [3] (fun i wr => ∃ n : Nat, n ≤ 5 ∧ i = .int .i64 n ∧ OwnF wr w.heap.size 68 (some ⟨w.heap.size, 0, none⟩) 16 16 (nvf (FF f n)) ∧ O16 wr w.heap.size (w.heap.size + 1) 0 ∧ Below w.heap.size w wr)
  (fun i _ => 5 - (intOf i).toNat)
 case atStart => exact ⟨0, by omega, rfl, ox.congr (fun j _ => by unfold FF; rfl), oz, hc⟩
 case round =>
  clear ox oz hc
  obtain ⟨n, hn, rfl, ox, oz, hc⟩ := hrel
  by_cases hlt : n < 5
  ·have g1 : (n : Int) < 5 := by omega
   have hfl := FF_le HF.out n
   obtain ⟨F, hF⟩ : ∃ F, F = FF f n := ⟨_, rfl⟩
   have HF2 := Lib.hid hF
   rw [← hF] at hfl ox
   have HL := Lib.hid hfl
   clear hF hfl
   obtain ⟨w0, e0⟩ : ∃ w0 : World, w0 = wr := ⟨_, rfl⟩
   subst e0
   go_wp2_with fail
   go_loopw [4, 5] (fun cc i wr => ∃ k : Nat, k ≤ 16 ∧ i = .int .i64 k ∧ cc = .int .i64 (cyr 0 F k : Int) ∧ OwnF wr w.heap.size 68 (some ⟨w.heap.size, 0, none⟩) 16 16 (psv 0 F k) ∧ O16 wr w.heap.size (w.heap.size + 1) 0 ∧ Below w.heap.size w wr)
    (fun _ i _ => 16 - (intOf i).toNat)
   case atStart => exact ⟨0, by omega, rfl, by rw [cyr_zero]; rfl, ox.congr (fun j _ => (psv_zero _ _ _).symm), oz, hc⟩
   case round =>
    clear ox oz hc
    obtain ⟨k, hk, rfl, rfl, ox, oz, hc⟩ := hrel
    by_cases hlt2 : k < 16
    ·have g2 : (k : Int) < 16 := by omega
     have c1 := OwnF.cell ox hlt2
     rw [psv_out] at c1
     have f1 := OwnF.free ox k
     have b1 := HL.out k
     have b2 := cyr_le HL.out (c := 0) (by decide) k
     unfold BB at b1
     have a1 : IntKind.i64.wrap ((F k : Int) + (cyr 0 F k : Int)) = ((F k + cyr 0 F k : Nat) : Int) := by rw [IntKind.wrap_i64]; omega
     have ox2 := OwnF.set_ ox k (.int .i64 ((F k + cyr 0 F k : Nat) : Int))
     have c2 := OwnF.cell ox2 hlt2
     rw [if_pos rfl] at c2
     have f2 := OwnF.free ox2 k
     have ht1 : ((F k + cyr 0 F k : Nat) : Int).tdiv 65536 = ((cyr 0 F (k + 1) : Nat) : Int) := by rw [Int.tdiv_eq_ediv_of_nonneg (by omega), cyr_succ]; omega
     have ht1' : ((F k + cyr 0 F k : Nat) : Int) / 65536 = ((cyr 0 F (k + 1) : Nat) : Int) := by rw [cyr_succ]; omega
     have ht2 : ((F k + cyr 0 F k : Nat) : Int).tmod 65536 = ((d16 (val 0 F 16) k : Nat) : Int) := by rw [Int.tmod_eq_emod_of_nonneg (by omega), val_at hlt2]; omega
     have ht2' : ((F k + cyr 0 F k : Nat) : Int) % 65536 = ((d16 (val 0 F 16) k : Nat) : Int) := by rw [val_at hlt2]; omega
     have b3 := cyr_le HL.out (c := 0) (by decide) (k + 1)
     have aw : IntKind.i64.wrap ((cyr 0 F (k + 1) : Nat) : Int) = ((cyr 0 F (k + 1) : Nat) : Int) := by rw [IntKind.wrap_i64]; omega
     clear b1 b2 b3
     generalize F k + cyr 0 F k = T at *
     go_wp2_with fail
     go_roundw
     case rel =>
      refine ⟨k + 1, by omega, by go_num, rfl, ?_, O16.one oz (by omega) _ _ _ _, (hc.setCell (by simp) _).setCell (by simp) _⟩
      exact OwnF.congr (OwnF.set_ ox2 k _) fun j _ => psv_set 0 F k j _
     case measure => simp [intOf]; omega
    ·obtain rfl : k = 16 := by omega
     have c0 := OwnF.cell ox (k := 0) (by decide)
     rw [psv_full (by decide)] at c0
     have f0 := OwnF.free ox 0
     have b1 := d16_lt (val 0 F 16) 0
     have b2 := cyr_le HL.out (c := 0) (by decide) 16
     have a1 : IntKind.i64.wrap (38 * (cyr 0 F 16 : Int)) = 38 * (cyr 0 F 16 : Int) := by rw [IntKind.wrap_i64]; omega
     obtain ⟨e, he⟩ : ∃ e, e = d16 (val 0 F 16) 0 + 38 * cyr 0 F 16 := ⟨_, rfl⟩
     have a2 : IntKind.i64.wrap ((d16 (val 0 F 16) 0 : Int) + 38 * (cyr 0 F 16 : Int)) = (e : Int) := by rw [he, IntKind.wrap_i64]; omega
     have HE := Lib.hid he
     clear b1 b2 he
     go_wp2_with fail
     go_roundw
     case rel =>
      refine ⟨n + 1, by omega, by go_num, ?_, O4one oz (by omega) _ _, hc.setCell (by simp) _⟩
      refine OwnF.congr (OwnF.set_ ox 0 _) fun j hj => ?_
      rw [HF2.out]
      exact ff_set (by rw [← HF2.out]; exact HE.out) hj
     case measure => simp [intOf]; omega
  ·obtain rfl : n = 5 := by omega
   obtain ⟨v, hvW, hvm, hvd⟩ := FF_end HF.out
   replace ox : OwnF wr w.heap.size 68 (some ⟨w.heap.size, 0, none⟩) 16 16 (nvf (d16 v)) := OwnF.congr ox fun j hj => by unfold nvf; rw [hvd j hj]
   have HW := Lib.hid hvW
   have HM := Lib.hid hvm
   clear hvW hvm hvd
   obtain ⟨w0, e0⟩ : ∃ w0 : World, w0 = wr := ⟨_, rfl⟩
   subst e0
   go_wp2_with fail
   go_loopw [6] (fun i wr => ∃ n : Nat, n ≤ 2 ∧ i = .int .i64 n ∧ OwnF wr w.heap.size 68 (some ⟨w.heap.size, 0, none⟩) 16 16 (nvf (d16 (Hn v n))) ∧ O16 wr w.heap.size (w.heap.size + 1) 0 ∧ Below w.heap.size w wr)
    (fun i _ => 2 - (intOf i).toNat)
   case atStart => exact ⟨0, by omega, rfl, ox, oz, hc⟩
   case round =>
    clear ox oz hc
    obtain ⟨n, hn, rfl, ox, oz, hc⟩ := hrel
    by_cases hlt : n < 2
    ·have g1 : (n : Int) < 2 := by omega
     have hTW := Hn_lt HW.out n
     obtain ⟨T, hT⟩ : ∃ T, T = Hn v n := ⟨_, rfl⟩
     have HT := Lib.hid hT
     rw [← hT] at hTW ox
     have HTW := Lib.hid hTW
     have c15 := OwnF.cell ox (k := 15) (by decide)
     unfold nvf at c15
     have f15 := OwnF.free ox 15
     have l15 := d16_lt T 15
     have htop := d16_top hTW
     have a1 : ((d16 T 15 : Nat) : Int).tdiv 32768 = ((T / H25 : Nat) : Int) := by rw [Int.tdiv_eq_ediv_of_nonneg (by omega), ← htop]; omega
     have a1' : ((d16 T 15 : Nat) : Int) / 32768 = ((T / H25 : Nat) : Int) := by rw [← htop]; omega
     have aw : IntKind.i64.wrap ((T / H25 : Nat) : Int) = ((T / H25 : Nat) : Int) := by rw [← htop, IntKind.wrap_i64]; omega
     have a2 : IntKind.i64.wrap (19 * ((T / H25 : Nat) : Int)) = ((19 * (T / H25) : Nat) : Int) := by rw [← htop, IntKind.wrap_i64]; omega
     have a3 : ((d16 T 15 : Nat) : Int).tmod 32768 = ((d16 T 15 % 32768 : Nat) : Int) := by rw [Int.tmod_eq_emod_of_nonneg (by omega)]; omega
     have a3' : ((d16 T 15 : Nat) : Int) % 32768 = ((d16 T 15 % 32768 : Nat) : Int) := by omega
     have hcl : 19 * (T / H25) ≤ 1073758208 := by rw [← htop]; omega
     have hval := HH_val hTW
     have ox2 : OwnF (wr.setCell ⟨w.heap.size, 15, none⟩ (.int .i64 ((d16 T 15 % 32768 : Nat) : Int))) w.heap.size 68 (some ⟨w.heap.size, 0, none⟩) 16 16 (nvf (d16 (T % H25))) := OwnF.congr (OwnF.set_ ox 15 _) fun j hj => top_set hTW hj
     have oz2 := O4one oz (g' := w.heap.size) (by omega) 15 (.int .i64 ((d16 T 15 % 32768 : Nat) : Int))
     have hc2 := hc.setCell (p := ⟨w.heap.size, 15, none⟩) (by simp) (.int .i64 ((d16 T 15 % 32768 : Nat) : Int))
     obtain ⟨Q, hQ⟩ : ∃ Q, Q = T / H25 := ⟨_, rfl⟩
     obtain ⟨C, hC⟩ : ∃ C, C = 19 * (T / H25) := ⟨_, rfl⟩
     obtain ⟨R, hR2⟩ : ∃ R, R = d16 T 15 % 32768 := ⟨_, rfl⟩
     rw [← hC] at a2 hcl hval
     rw [← hQ] at a1 a1' aw a2
     rw [← hR2] at a3 a3' ox2 oz2 hc2
     have HVL := Lib.hid hval
     have HCL := Lib.hid hcl
     have HFL := Lib.hid (fun j => Nat.le_trans (Nat.le_of_lt (d16_lt (T % H25) j)) (show 65536 ≤ BB by decide))
     clear hT hTW l15 htop hcl hval hQ hC hR2 ox oz hc
     obtain ⟨G, hG⟩ : ∃ G, G = d16 (T % H25) := ⟨_, rfl⟩
     rw [← hG] at ox2 HVL HFL
     clear hG
     go_wp2_with fail
     obtain ⟨w0, e0⟩ : ∃ w0 : World, w0 = wr.setCell ⟨w.heap.size, 15, none⟩ (.int .i64 (R : Int)) := ⟨_, rfl⟩
     rw [← e0] at ox2 oz2 hc2 ⊢
     clear e0 c15 f15
     go_loopw [7, 8] (fun cc i wr => ∃ k : Nat, k ≤ 16 ∧ i = .int .i64 k ∧ cc = .int .i64 (cyr C G k : Int) ∧ OwnF wr w.heap.size 68 (some ⟨w.heap.size, 0, none⟩) 16 16 (psv C G k) ∧ O16 wr w.heap.size (w.heap.size + 1) 0 ∧ Below w.heap.size w wr)
      (fun _ i _ => 16 - (intOf i).toNat)
     case atStart => exact ⟨0, by omega, rfl, by rw [cyr_zero], ox2.congr (fun j _ => (psv_zero _ _ _).symm), oz2, hc2⟩
     case round =>
      clear ox2 oz2 hc2
      obtain ⟨k, hk, rfl, rfl, ox, oz, hc⟩ := hrel
      by_cases hlt2 : k < 16
      ·have g2 : (k : Int) < 16 := by omega
       have c1 := OwnF.cell ox hlt2
       rw [psv_out] at c1
       have f1 := OwnF.free ox k
       have b1 := HFL.out k
       have b2 := cyr_le HFL.out HCL.out k
       unfold BB at b1
       have a1 : IntKind.i64.wrap ((G k : Int) + (cyr C G k : Int)) = ((G k + cyr C G k : Nat) : Int) := by rw [IntKind.wrap_i64]; omega
       have ox2 := OwnF.set_ ox k (.int .i64 ((G k + cyr C G k : Nat) : Int))
       have c2 := OwnF.cell ox2 hlt2
       rw [if_pos rfl] at c2
       have f2 := OwnF.free ox2 k
       have ht1 : ((G k + cyr C G k : Nat) : Int).tdiv 65536 = ((cyr C G (k + 1) : Nat) : Int) := by rw [Int.tdiv_eq_ediv_of_nonneg (by omega), cyr_succ]; omega
       have ht1' : ((G k + cyr C G k : Nat) : Int) / 65536 = ((cyr C G (k + 1) : Nat) : Int) := by rw [cyr_succ]; omega
       have ht2 : ((G k + cyr C G k : Nat) : Int).tmod 65536 = ((d16 (val C G 16) k : Nat) : Int) := by rw [Int.tmod_eq_emod_of_nonneg (by omega), val_at hlt2]; omega
       have ht2' : ((G k + cyr C G k : Nat) : Int) % 65536 = ((d16 (val C G 16) k : Nat) : Int) := by rw [val_at hlt2]; omega
       have b3 := cyr_le HFL.out HCL.out (k + 1)
       have aw : IntKind.i64.wrap ((cyr C G (k + 1) : Nat) : Int) = ((cyr C G (k + 1) : Nat) : Int) := by rw [IntKind.wrap_i64]; omega
       clear b1 b2 b3
       generalize G k + cyr C G k = Y at *
       go_wp2_with fail
       go_roundw
       case rel =>
        refine ⟨k + 1, by omega, by go_num, rfl, ?_, O16.one oz (by omega) _ _ _ _, (hc.setCell (by simp) _).setCell (by simp) _⟩
        exact OwnF.congr (OwnF.set_ ox2 k _) fun j _ => psv_set C G k j _
       case measure => simp [intOf]; omega
      ·obtain rfl : k = 16 := by omega
       replace ox : OwnF wr w.heap.size 68 (some ⟨w.heap.size, 0, none⟩) 16 16 (nvf (d16 (Hn v (n + 1)))) := OwnF.congr ox fun j hj => by
        rw [psv_full hj, HVL.out, HT.out]; rfl
       go_wp2_with fail
       go_roundw
       case rel => exact ⟨n + 1, by omega, by go_num, ox, oz, hc⟩
       case measure => simp [intOf]; omega
    ·obtain rfl : n = 2 := by omega
     obtain ⟨hl, hm⟩ := Hn_two HW.out
     have er : r = Hn v 2 % P25 := by rw [hm, HM.out, HR.out]
     have kl := fun w => least_any hl w
     rw [← er] at kl
     have KL := Lib.hid kl
     have oy : O16 wr w.heap.size w.heap.size (Hn v 2) := ox
     clear hl hm er kl ox
     generalize Hn v 2 = y at *
     go_wp2_with ((with_reducible refine fl_load oy ?_ ?_); rfl)
     go_at_call 136
     refine (KL.out _).mono ?_
     rintro e v9 ⟨rfl, h0⟩
     replace oz := oz.keep h0
     replace hc := bnx hc h0
     clear h0 oy
     have hop := Lib.hid (oz.put r)
     have hbz := oz.below r
     go_wp2_with (first | ((with_reducible refine fl_store oz r ?_ ?_ ?_); rfl; rfl))
     exact bodyPost_ret (fres Tryz.results114 _ hop.out rfl) rfl ⟨rfl, hc.trans hbz⟩
end Go.Proofs.YtkbkalhcdbklkaaGreatDoor
namespace Go.Proofs.YtkbkalhcdbklkaaGreatDoor
open Go Go.RowKit
theorem gl_len (f : Nat → Nat) : (gl f).length = 16 := by simp [gl]
theorem gl_get {f : Nat → Nat} {k : Nat} (h : k < 16) : (gl f)[k]? = some (nvf f k) := by simp [gl, nvf, h]
section
variable {ops : Array Oper} {rest : List Oper} {a : Act} {w : World} {Q : Exit → Act → World → Prop} {B g : Nat} {f : Nat → Nat} {dst : Option Nat} {tp : TypeId} {ps : String} {af : Array Edge} {x y : Operand}
theorem gl_load (o : OwnF w B 68 (some ⟨g, 0, none⟩) 16 16 (nvf f)) (hx : a.eval x = .pointer (some ⟨g, 0, none⟩)) (h : wpList Tryz.prog ops Q rest (a.put dst (.agg (gl f).toArray)) w) : wpList Tryz.prog ops Q (⟨dst, .load 68 x, tp, ps, af, none⟩ :: rest) a w :=
 wpList_load_mid rfl _ x rfl g 0 hx (gl f) _ (OwnF.range o (by rw [gl_len]; exact Nat.le_refl _) fun k hk => gl_get (by rwa [gl_len] at hk)) f_arr rfl (by rw [gl_len]; exact f_info) h
end
theorem val_add (f g : Nat → Nat) : ∀ n, val 0 (fun j => f j + g j) n = val 0 f n + val 0 g n
 | 0 => rfl
 | n + 1 => by rw [val, val, val, val_add f g n, Nat.mul_add]; omega
theorem val_bump (f : Nat → Nat) (m e : Nat) : ∀ n, val 0 (fun j => if j = m then f j + e else f j) n = val 0 f n + if m < n then 65536 ^ m * e else 0
 | 0 => by simp [val]
 | n + 1 => by
  rw [val, val, val_bump f m e n]
  by_cases h : n = m
  ·subst h; rw [if_pos rfl, if_neg (by omega), if_pos (by omega), Nat.mul_add]; omega
  ·rw [if_neg h]
   by_cases h2 : m < n
   ·rw [if_pos h2, if_pos (by omega)]; omega
   ·rw [if_neg h2, if_neg (by omega)]; omega
theorem val_split (f : Nat → Nat) (m : Nat) : ∀ n, val 0 f (m + n) = val 0 f m + 65536 ^ m * val 0 (fun j => f (m + j)) n
 | 0 => by simp [val]
 | n + 1 => by rw [← Nat.add_assoc, val, val_split f m n, val, Nat.mul_add, Nat.pow_add, Nat.mul_assoc]; omega
theorem val_scale (c : Nat) (f : Nat → Nat) : ∀ n, val 0 (fun j => c * f j) n = c * val 0 f n
 | 0 => rfl
 | n + 1 => by rw [val, val, val_scale c f n, Nat.mul_add, Nat.mul_left_comm]
def fold (D : Nat → Nat) (j : Nat) : Nat := D j + if j + 16 < 31 then 38 * D (j + 16) else 0
theorem fold_val (D : Nat → Nat) : val 0 (fold D) 16 % P25 = val 0 D 31 % P25 := by
 have e1 : val 0 (fold D) 16 = val 0 D 16 + 38 * val 0 (fun j => D (16 + j)) 15 := by
  have h1 : val 0 (fold D) 16 = val 0 (fun j => D j + (if j + 16 < 31 then 38 * D (j + 16) else 0)) 16 := rfl
  have h2 : val 0 (fun j => if j + 16 < 31 then 38 * D (j + 16) else 0) 16 = val 0 (fun j => if j + 16 < 31 then 38 * D (j + 16) else 0) 15 := by
   show val 0 _ 15 + 65536 ^ 15 * (if 15 + 16 < 31 then 38 * D (15 + 16) else 0) = _
   rw [if_neg (by omega)]; rfl
  rw [h1, val_add, h2, val_congr (g := fun j => 38 * D (16 + j)) 15 (fun j hj => by rw [if_pos (by omega), Nat.add_comm]), val_scale]
 have e2 : val 0 D 31 = val 0 D 16 + 65536 ^ 16 * val 0 (fun j => D (16 + j)) 15 := val_split D 16 15
 have h5 : 65536 ^ 16 = P25 * 2 + 38 := by decide +kernel
 rw [e1, e2, h5]
 generalize val 0 (fun j => D (16 + j)) 15 = q
 rw [Nat.add_mul, Nat.mul_assoc, show val 0 D 16 + (P25 * (2 * q) + 38 * q) = val 0 D 16 + 38 * q + P25 * (2 * q) by omega, Nat.add_mul_mod_self_left]
def A31 : Obj := .cells #[.int .i64 0, .int .i64 0, .int .i64 0, .int .i64 0, .int .i64 0, .int .i64 0, .int .i64 0, .int .i64 0, .int .i64 0, .int .i64 0, .int .i64 0, .int .i64 0, .int .i64 0, .int .i64 0, .int .i64 0, .int .i64 0, .int .i64 0, .int .i64 0, .int .i64 0, .int .i64 0, .int .i64 0, .int .i64 0, .int .i64 0, .int .i64 0, .int .i64 0, .int .i64 0, .int .i64 0, .int .i64 0, .int .i64 0, .int .i64 0, .int .i64 0] 137
theorem own_31 {w : World} {B : Nat} (hB : B ≤ w.heap.size) : OwnF (w.alloc A31) B 137 (some ⟨w.heap.size, 0, none⟩) 31 31 (nvf fun _ => 0) := OwnF.lit _ hB _ 31 _ (by decide) rfl
def SQ : Nat := 4294836225
structure Conv (x y i k : Nat) (D : Nat → Nat) : Prop where
 le : ∀ j, D j ≤ (16 * i + k) * SQ
 eq : val 0 D 31 = (x % 65536 ^ i) * y + 65536 ^ i * (d16 x i * (y % 65536 ^ k))
theorem Conv.start (x y : Nat) : Conv x y 0 0 (fun _ => 0) := ⟨fun _ => Nat.zero_le _, by
 have : ∀ n, val 0 (fun _ => 0) n = 0 := fun n => by
  induction n with
  | zero => rfl
  | succ n ih => rw [val, ih, Nat.mul_zero]
 rw [this]; simp [Nat.mod_one]⟩
theorem Conv.step {x y i k : Nat} {D : Nat → Nat} (h : Conv x y i k D) (hi : i < 16) (hk : k < 16) : Conv x y i (k + 1) (fun j => if j = i + k then D j + d16 x i * d16 y k else D j) := by
 have h1 : d16 x i * d16 y k ≤ SQ := Nat.le_trans (Nat.mul_le_mul (Nat.le_of_lt_succ (d16_lt x i)) (Nat.le_of_lt_succ (d16_lt y k))) (by decide)
 refine ⟨fun j => ?_, ?_⟩
 ·have h2 := h.le j
  have e : (16 * i + (k + 1)) * SQ = (16 * i + k) * SQ + SQ := by rw [← Nat.add_assoc, Nat.add_mul _ 1, Nat.one_mul]
  refine Nat.le_trans ?_ (Nat.le_of_eq e.symm)
  by_cases hj : j = i + k
  ·rw [if_pos hj]; exact Nat.add_le_add h2 h1
  ·rw [if_neg hj]; exact Nat.le_trans h2 (Nat.le_add_right _ _)
 ·rw [val_bump, if_pos (by omega), h.eq, mod_pow_succ', Nat.mul_add (d16 x i), Nat.mul_add (65536 ^ i), Nat.pow_add, ← Nat.add_assoc]
  congr 1
  show 65536 ^ i * 65536 ^ k * (d16 x i * dgt 65536 y k) = _
  rw [Nat.mul_assoc, Nat.mul_left_comm (d16 x i)]
theorem Conv.next {x y i : Nat} {D : Nat → Nat} (h : Conv x y i 16 D) (hy : y < W4) : Conv x y (i + 1) 0 D := by
 refine ⟨fun j => Nat.le_trans (h.le j) (Nat.le_of_eq (by rw [Nat.mul_add])), ?_⟩
 rw [h.eq, ← W4_d16, Nat.mod_eq_of_lt hy, mod_pow_succ', Nat.pow_zero, Nat.mod_one, Nat.mul_zero, Nat.mul_zero, Nat.add_zero, Nat.add_mul, Nat.mul_assoc]
 rfl
theorem Conv.fin {x y : Nat} {D : Nat → Nat} (h : Conv x y 16 0 D) (hx : x < W4) : val 0 D 31 = x * y ∧ ∀ j, fold D j ≤ BB := by
 refine ⟨by rw [h.eq, ← W4_d16, Nat.mod_eq_of_lt hx]; simp [Nat.mod_one], fun j => ?_⟩
 have h1 := h.le j
 have h2 := h.le (j + 16)
 unfold fold BB
 unfold SQ at h1 h2
 split <;> omega
theorem fold_lt {D : Nat → Nat} {k : Nat} (h : k < 15) : fold D k = D k + 38 * D (k + 16) := by unfold fold; rw [if_pos (by omega)]
theorem fold_15 (D : Nat → Nat) : fold D 15 = D 15 := by unfold fold; rw [if_neg (by omega)]; rfl
def fov (D : Nat → Nat) (k j : Nat) : Value := .int .i64 ((if j < k then fold D j else 0 : Nat) : Int)
theorem fov_in {D : Nat → Nat} {j : Nat} (h : j < 16) : fov D 16 j = nvf (fold D) j := by unfold fov nvf; rw [if_pos h]
theorem fov_set {D : Nat → Nat} {k : Nat} {v : Int} (hv : v = (fold D k : Int)) (j : Nat) : (if j = k then .int .i64 v else fov D k j) = fov D (k + 1) j := by
 subst hv
 unfold fov
 by_cases h : j = k
 ·subst h; rw [if_pos rfl, if_pos (by omega)]
 ·rw [if_neg h]
  by_cases h2 : j < k
  ·rw [if_pos h2, if_pos (by omega)]
  ·rw [if_neg h2, if_neg (by omega)]
theorem O16.oth {w : World} {B g x : Nat} (h : O16 w B g x) {p : Addr} (hp : p.block ≠ g) (v : Value) : O16 (w.setCell p v) B g x := OwnF.other h hp v
end Go.Proofs.YtkbkalhcdbklkaaGreatDoor
