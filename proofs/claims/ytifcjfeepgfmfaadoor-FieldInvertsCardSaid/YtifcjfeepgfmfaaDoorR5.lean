import Derived.Test.YtifcjfeepgfmfaaDoorR4
namespace Go.Proofs.YtifcjfeepgfmfaaDoor
open Go Go.RowKit
/-! Digits that may be great: what they are worth, what is carried. -/
def val (c : Nat) (f : Nat → Nat) : Nat → Nat
  | 0 => c
  | n + 1 => val c f n + 65536 ^ n * f n
def cyr (c : Nat) (f : Nat → Nat) (i : Nat) : Nat := val c f i / 65536 ^ i
theorem cyr_zero (c : Nat) (f : Nat → Nat) : cyr c f 0 = c := by simp [cyr, val]
theorem cyr_succ (c : Nat) (f : Nat → Nat) (i : Nat) : cyr c f (i + 1) = (f i + cyr c f i) / 65536 := by
  unfold cyr
  rw [val, Nat.pow_succ, ← Nat.div_div_eq_div_mul, Nat.add_mul_div_left _ _ (Nat.pow_pos (by decide)), Nat.add_comm]
theorem val_dig0 (c : Nat) (f : Nat → Nat) (i : Nat) : d16 (val c f (i + 1)) i = (f i + cyr c f i) % 65536 := by
  show val c f (i + 1) / _ % _ = _
  rw [val, Nat.add_mul_div_left _ _ (Nat.pow_pos (by decide)), Nat.add_comm]
  rfl
theorem val_dig (c : Nat) (f : Nat → Nat) (i : Nat) : ∀ m, d16 (val c f (i + 1 + m)) i = (f i + cyr c f i) % 65536
  | 0 => val_dig0 c f i
  | m + 1 => by
    rw [show i + 1 + (m + 1) = i + 1 + m + 1 by omega, val]
    exact (dgt_add_mul (b := 65536) _ _ (by omega)).trans (val_dig c f i m)
theorem val_at {c i : Nat} {f : Nat → Nat} (h : i < 16) : d16 (val c f 16) i = (f i + cyr c f i) % 65536 := by
  have := val_dig c f i (15 - i)
  rwa [show i + 1 + (15 - i) = 16 by omega] at this
def BB : Nat := 70368744177664
theorem cyr_le {c : Nat} {f : Nat → Nat} (hf : ∀ j, f j ≤ BB) (hc : c ≤ 1073758208) : ∀ i, cyr c f i ≤ 1073758208
  | 0 => by rw [cyr_zero]; exact hc
  | i + 1 => by
    have h1 := cyr_le hf hc i
    have h2 := hf i
    rw [cyr_succ]
    unfold BB at h2
    omega
theorem val_self (x : Nat) : ∀ n, val 0 (d16 x) n = x % 65536 ^ n
  | 0 => by simp [val, Nat.mod_one]
  | n + 1 => by rw [val, val_self x n, mod_pow_succ']; rfl
theorem val_c (c : Nat) (f : Nat → Nat) : ∀ n, val c f n = c + val 0 f n
  | 0 => by simp [val]
  | n + 1 => by rw [val, val, val_c c f n, Nat.add_assoc]
theorem val_first (e : Nat) (f : Nat → Nat) : ∀ n, val 0 (fun j => f j + if j = 0 then e else 0) (n + 1) = e + val 0 f (n + 1)
  | 0 => by simp only [val, Nat.pow_zero, Nat.one_mul, if_true]; omega
  | n + 1 => by
    show val 0 (fun j => f j + if j = 0 then e else 0) (n + 1) + 65536 ^ (n + 1) * (f (n + 1) + if n + 1 = 0 then e else 0) = e + (val 0 f (n + 1) + 65536 ^ (n + 1) * f (n + 1))
    rw [val_first e f n, if_neg (by omega), Nat.add_assoc]
    rfl
theorem val_congr {c : Nat} {f g : Nat → Nat} : ∀ n, (∀ j, j < n → f j = g j) → val c f n = val c g n
  | 0, _ => rfl
  | n + 1, h => by rw [val, val, val_congr n (fun j hj => h j (by omega)), h n (by omega)]
/-- One pass: 2^256 counts as 38. -/
def GG (v : Nat) : Nat := v % W4 + 38 * (v / W4)
theorem GG_mod (v : Nat) : GG v % P25 = v % P25 := by
  have h := Nat.mod_add_div v W4
  have h5 : W4 = P25 * 2 + 38 := by decide +kernel
  unfold GG
  generalize v / W4 = q at *
  have e : v = v % W4 + 38 * q + P25 * (2 * q) := by
    have : W4 * q = P25 * (2 * q) + 38 * q := by conv => lhs; rw [h5]
                                                 rw [Nat.add_mul, Nat.mul_assoc]
    omega
  conv => rhs; rw [e, Nat.add_mul_mod_self_left]
def FF (f : Nat → Nat) : Nat → Nat → Nat
  | 0 => f
  | n + 1 => fun j => d16 (val 0 (FF f n) 16) j + if j = 0 then 38 * (val 0 (FF f n) 16 / W4) else 0
theorem cyr16 (f : Nat → Nat) : val 0 f 16 / W4 = cyr 0 f 16 := by unfold cyr; rw [W4_d16]
theorem FF_le {f : Nat → Nat} (hf : ∀ j, f j ≤ BB) : ∀ n j, FF f n j ≤ BB
  | 0, j => hf j
  | n + 1, j => by
    have h1 := cyr_le (c := 0) (FF_le hf n) (by decide) 16
    have h2 := d16_lt (val 0 (FF f n) 16) j
    show d16 _ j + (if j = 0 then 38 * (val 0 (FF f n) 16 / W4) else 0) ≤ BB
    rw [cyr16]
    unfold BB
    split <;> omega
theorem FF_val (f : Nat → Nat) (n : Nat) : val 0 (FF f (n + 1)) 16 = GG (val 0 (FF f n) 16) := by
  have := val_first (38 * (val 0 (FF f n) 16 / W4)) (d16 (val 0 (FF f n) 16)) 15
  show val 0 (fun j => d16 (val 0 (FF f n) 16) j + if j = 0 then 38 * (val 0 (FF f n) 16 / W4) else 0) 16 = _
  rw [this, val_self, ← W4_d16]
  unfold GG; omega
theorem FF_end {f : Nat → Nat} (hf : ∀ j, f j ≤ BB) : ∃ v, v < W4 ∧ v % P25 = val 0 f 16 % P25 ∧ ∀ j, j < 16 → FF f 5 j = d16 v j := by
  have hW : W4 = 115792089237316195423570985008687907853269984665640564039457584007913129639936 := W4_eq
  have h0 := cyr_le (c := 0) hf (by decide) 16
  rw [← cyr16] at h0
  have e1 := FF_val f 0
  have e2 := FF_val f 1
  have e3 := FF_val f 2
  have e4 := FF_val f 3
  have small : ∀ v, v < W4 → GG v = v := fun v hv => by unfold GG; rw [Nat.mod_eq_of_lt hv, Nat.div_eq_of_lt hv]; omega
  have h1 : GG (val 0 f 16) < W4 + 40802812000 := by
    have := Nat.mod_lt (val 0 f 16) W4_pos
    unfold GG; omega
  have h2 : GG (GG (val 0 f 16)) < W4 := by
    generalize GG (val 0 f 16) = u at *
    unfold GG
    rw [hW] at *
    omega
  have f0 : FF f 0 = f := rfl
  rw [f0] at e1
  rw [e1] at e2
  rw [e2] at e3
  rw [small _ h2] at e3
  rw [e3, small _ h2] at e4
  refine ⟨GG (GG (val 0 f 16)), h2, by rw [GG_mod, GG_mod], fun j _ => ?_⟩
  show d16 (val 0 (FF f 4) 16) j + (if j = 0 then 38 * (val 0 (FF f 4) 16 / W4) else 0) = _
  rw [e4, Nat.div_eq_of_lt h2]
  simp
/-- The second kind of pass: 2^255 counts as 19. -/
def HH (v : Nat) : Nat := 19 * (v / H25) + v % H25
theorem HH_mod (v : Nat) : HH v % P25 = v % P25 := by
  have h := Nat.mod_add_div v H25
  unfold HH
  generalize v / H25 = q at *
  have e : v = 19 * q + v % H25 + P25 * q := by
    have : H25 * q = P25 * q + 19 * q := by conv => lhs; rw [H25_P]
                                            rw [Nat.add_mul]
    omega
  conv => rhs; rw [e, Nat.add_mul_mod_self_left]
theorem H25_lit : H25 = 57896044618658097711785492504343953926634992332820282019728792003956564819968 := rfl
theorem HH_lt {v : Nat} (h : v < W4) : HH v < W4 := by
  unfold HH; rw [W4_eq] at *; rw [H25_lit]; omega
theorem HH_two {v : Nat} (h : v < W4) : HH (HH v) < H25 := by
  unfold HH; rw [W4_eq] at *; rw [H25_lit]; omega
theorem d16_top {v : Nat} (h : v < W4) : d16 v 15 / 32768 = v / H25 := by
  unfold d16 dgt
  have h1 : v / 65536 ^ 15 < 65536 := Nat.div_lt_of_lt_mul (by rw [← Nat.pow_succ, ← W4_d16]; exact h)
  rw [Nat.mod_eq_of_lt h1, Nat.div_div_eq_div_mul]
  congr 1
theorem H25_16 : H25 = 65536 ^ 15 * 32768 := by decide +kernel
theorem d16_low {v j : Nat} (hj : j < 15) : d16 (v % H25) j = d16 v j := by
  have h1 : (v % H25) % 65536 ^ 15 = v % 65536 ^ 15 := by rw [H25_16, Nat.mod_mul_right_mod]
  unfold d16
  rw [← dgt_mod _ hj, h1, dgt_mod _ hj]
theorem d16_mod {v : Nat} (h : v < W4) : d16 (v % H25) 15 = d16 v 15 % 32768 := by
  have h1 : v / 65536 ^ 15 < 65536 := Nat.div_lt_of_lt_mul (by rw [← Nat.pow_succ, ← W4_d16]; exact h)
  unfold d16 dgt
  rw [H25_16, Nat.mod_mul_right_div_self, Nat.mod_eq_of_lt h1, Nat.mod_eq_of_lt (by have := Nat.mod_lt (v / 65536 ^ 15) (show 0 < 32768 by decide); omega)]
theorem HH_val {v : Nat} (h : v < W4) : val (19 * (v / H25)) (d16 (v % H25)) 16 = HH v := by
  rw [val_c, val_self, ← W4_d16, Nat.mod_eq_of_lt (Nat.lt_of_le_of_lt (Nat.mod_le _ _) h)]
  rfl
end Go.Proofs.YtifcjfeepgfmfaaDoor
