import Derived.Test.YtecphnhdcphgbaaBytes
namespace Go.Proofs.Ytecphnhdcphgbaa
open Go Go.RowKit
/-- What 2 L + bit carries into word k. -/
def dc (L b k : Nat) : Nat := (2 * (L % 18446744073709551616 ^ k) + b) / 18446744073709551616 ^ k
theorem dc_zero (L b : Nat) : dc L b 0 = b := by simp [dc, Nat.mod_one]
theorem dc_le {L b : Nat} (hb : b ≤ 1) (k : Nat) : dc L b k ≤ 1 := by
  unfold dc
  have hp : 0 < 18446744073709551616 ^ k := Nat.pow_pos (by decide)
  have h1 := Nat.mod_lt L hp
  generalize 18446744073709551616 ^ k = P at *
  have : (2 * (L % P) + b) / P < 2 := Nat.div_lt_of_lt_mul (by omega)
  omega
theorem dc_succ {L b : Nat} (hb : b ≤ 1) (k : Nat) : dc L b (k + 1) = wd L k / 9223372036854775808 := by
  have h := dc_le (L := L) hb k
  have hl := wd_lt L k
  have hp : 0 < 18446744073709551616 ^ k := Nat.pow_pos (by decide)
  have e : dc L b (k + 1) = (2 * wd L k + dc L b k) / 18446744073709551616 := by
    unfold dc
    rw [mod_pow_succ', Nat.pow_succ, ← Nat.div_div_eq_div_mul]
    rw [show 2 * (L % 18446744073709551616 ^ k + 18446744073709551616 ^ k * dgt 18446744073709551616 L k) + b = (2 * (L % 18446744073709551616 ^ k) + b) + 18446744073709551616 ^ k * (2 * dgt 18446744073709551616 L k) by
      rw [Nat.mul_add, Nat.mul_left_comm 2]; omega]
    rw [Nat.add_mul_div_left _ _ hp, Nat.add_comm]; rfl
  rw [e]
  omega
theorem wd_dbl (L b k : Nat) : wd (2 * L + b) k = (2 * wd L k + dc L b k) % 18446744073709551616 := by
  have hp : 0 < 18446744073709551616 ^ k := Nat.pow_pos (by decide)
  unfold wd dgt dc
  have e : 2 * L + b = (2 * (L % 18446744073709551616 ^ k) + b) + 18446744073709551616 ^ k * (2 * (L / 18446744073709551616 ^ k)) := by
    have := Nat.mod_add_div L (18446744073709551616 ^ k)
    rw [Nat.mul_left_comm]
    omega
  conv => lhs; rw [e, Nat.add_mul_div_left _ _ hp]
  omega
theorem dbl_word (L b k : Nat) (hb : b ≤ 1) : bits .or .u64 (IntKind.u64.wrap ((wd L k : Int) * 2)) (dc L b k : Int) = (wd (2 * L + b) k : Int) := by
  have h := dc_le (L := L) hb k
  have hl := wd_lt L k
  rw [wd_dbl]
  generalize wd L k = a at *
  generalize dc L b k = c at *
  have e : IntKind.u64.wrap ((a : Int) * 2) = ((2 * (a % 9223372036854775808) : Nat) : Int) := by rw [IntKind.wrap_u64]; omega
  rw [e, bits_or_u64_nat _ _ (by omega) (by omega)]
  have e3 : 2 * (a % 9223372036854775808) ||| c = 2 * (a % 9223372036854775808) + c := by
    have := Nat.shiftLeft_add_eq_or_of_lt (i := 1) (b := c) (by omega) (a % 9223372036854775808)
    rw [Nat.shiftLeft_eq] at this
    rw [show 2 * (a % 9223372036854775808) = a % 9223372036854775808 * 2 ^ 1 by omega, ← this]
  rw [e3]
  congr 1
  omega
theorem dc_four {L b : Nat} (hL : L < W4) : dc L b 4 = (2 * L + b) / W4 := by unfold dc; rw [show (18446744073709551616 : Nat) ^ 4 = W4 from rfl, Nat.mod_eq_of_lt hL]
theorem wd_add_W4 (x : Nat) {k : Nat} (hk : k < 4) : wd (x + W4) k = wd x k := by
  rw [← wd_mod _ hk, Nat.add_mod_right, wd_mod _ hk]
theorem nv_congr {x y : Nat} (h : ∀ k, k < 4 → wd x k = wd y k) : nv x = nv y := by
  unfold nv
  rw [h 0 (by decide), h 1 (by decide), h 2 (by decide), h 3 (by decide)]
theorem nv_mod (x : Nat) : nv (x % W4) = nv x := nv_congr fun _ hk => wd_mod x hk
/-- The bit by which bring picks. -/
def pb (o b : Nat) : Nat := if o = 0 ∧ b = 1 then 0 else 1
theorem pb_eq {o b : Nat} (ho : o ≤ 1) (hb : b ≤ 1) : bits .or .u64 (o : Int) (IntKind.u64.wrap (1 - (b : Int))) = (pb o b : Int) := by
  have h1 : o = 0 ∨ o = 1 := by omega
  have h2 : b = 0 ∨ b = 1 := by omega
  rcases h1 with rfl | rfl <;> rcases h2 with rfl | rfl <;> decide
theorem bring_val {L b m : Nat} (hL : L < m) (hm : m < W4) (hb : b ≤ 1) : nv (if pb (dc L b 4) (bw (2 * L + b) m 4) = 0 then 2 * L + b else 2 * L + b + W4 - m) = nv ((2 * L + b) % m) := by
  have hD : 2 * L + b < 2 * m := by omega
  rw [dc_four (by omega)]
  have hbw : bw (2 * L + b) m 4 = if (2 * L + b) % W4 < m then 1 else 0 := by
    unfold bw brw
    rw [show (18446744073709551616 : Nat) ^ 4 = W4 from rfl, Nat.mod_eq_of_lt hm]
  rw [hbw]
  generalize 2 * L + b = D at *
  unfold pb
  by_cases h : D < m
  · have e1 : D / W4 = 0 := Nat.div_eq_of_lt (by omega)
    have e2 : D % W4 = D := Nat.mod_eq_of_lt (by omega)
    rw [e1, e2, if_pos h, Nat.mod_eq_of_lt h]
    rfl
  · have e : ¬ (D / W4 = 0 ∧ (if D % W4 < m then 1 else 0) = 1) := by
      rintro ⟨h1, h2⟩
      have h3 : D < W4 := by
        rcases Nat.div_eq_zero_iff.1 h1 with h3 | h3
        · exact absurd h3 (by decide)
        · exact h3
      rw [Nat.mod_eq_of_lt h3, if_neg h] at h2
      exact absurd h2 (by decide)
    rw [if_neg e, if_neg (by decide), show D + W4 - m = (D - m) + W4 by omega]
    rw [show D % m = D - m by rw [Nat.mod_eq_sub_mod (by omega), Nat.mod_eq_of_lt (by omega)]]
    exact nv_congr fun k hk => wd_add_W4 _ hk
theorem start5 (x y : Nat) (w : World) : RdF (((((w.alloc (A4 x)).alloc (A4 y)).alloc Z4).alloc Z4).alloc Z4) (w.heap.size + 2) (some ⟨w.heap.size, 0, none⟩) 4 4 (wv x) ∧
    RdF (((((w.alloc (A4 x)).alloc (A4 y)).alloc Z4).alloc Z4).alloc Z4) (w.heap.size + 2) (some ⟨w.heap.size + 1, 0, none⟩) 4 4 (wv y) ∧
    OwnF (((((w.alloc (A4 x)).alloc (A4 y)).alloc Z4).alloc Z4).alloc Z4) w.heap.size 35 (some ⟨w.heap.size + 2, 0, none⟩) 4 4 (fun _ => .int .u64 0) ∧
    OwnF (((((w.alloc (A4 x)).alloc (A4 y)).alloc Z4).alloc Z4).alloc Z4) w.heap.size 35 (some ⟨w.heap.size + 3, 0, none⟩) 4 4 (fun _ => .int .u64 0) ∧
    OwnF (((((w.alloc (A4 x)).alloc (A4 y)).alloc Z4).alloc Z4).alloc Z4) w.heap.size 35 (some ⟨w.heap.size + 4, 0, none⟩) 4 4 (fun _ => .int .u64 0) ∧
    Below w.heap.size w (((((w.alloc (A4 x)).alloc (A4 y)).alloc Z4).alloc Z4).alloc Z4) := by
  obtain ⟨rx, ry, oz, os, hb⟩ := start4 x y w
  have s4 : ((((w.alloc (A4 x)).alloc (A4 y)).alloc Z4).alloc Z4).heap.size = w.heap.size + 4 := by simp
  have b4 := (Below.refl (w.heap.size + 4) ((((w.alloc (A4 x)).alloc (A4 y)).alloc Z4).alloc Z4)).alloc (by omega) Z4
  have o5 := own_Z4 (w := (((w.alloc (A4 x)).alloc (A4 y)).alloc Z4).alloc Z4) (B := w.heap.size) (by omega)
  rw [s4] at o5
  have fx : ∀ (g : Nat) (z : Nat), g < w.heap.size + 2 → RdF ((((w.alloc (A4 x)).alloc (A4 y)).alloc Z4).alloc Z4) (w.heap.size + 3) (some ⟨g, 0, none⟩) 4 4 (wv z) → RdF (((((w.alloc (A4 x)).alloc (A4 y)).alloc Z4).alloc Z4).alloc Z4) (w.heap.size + 2) (some ⟨g, 0, none⟩) 4 4 (wv z) := by
    intro g z hg h
    have h' := h.keep (b4.mono (by omega))
    exact ⟨h'.cap, (fun h => nomatch h), fun _ => ⟨g, 0, rfl, hg, fun k hk => by simpa using h'.cell0 hk⟩⟩
  exact ⟨fx _ _ (by omega) rx, fx _ _ (by omega) ry, oz.keepAt (b4.mono (by omega)), os.keepAt (b4.mono (by omega)), o5, hb.alloc (by omega) _⟩
end Go.Proofs.Ytecphnhdcphgbaa
