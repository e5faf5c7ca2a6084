/-
  Layer 19: the number that a name tells. By an AI agent.
-/
import Derived.Test.YtdddcgkgellbgabSu2
namespace Go.Proofs.Ytdddcgkgellbgab
open Go Go.RowKit
set_option maxRecDepth 20000
theorem vk_at (bs : List UInt8) (i : Nat) : ∀ n, i < n → by8 (vk bs n) i = nth bs i
  | 0, h => absurd h (by omega)
  | n + 1, h => by
    rw [vk, Nat.mul_comm]
    by_cases h1 : i < n
    · rw [show by8 (vk bs n + 256 ^ n * nth bs n) i = by8 (vk bs n) i from dgt_add_mul _ _ h1, vk_at bs i n h1]
    · obtain rfl : i = n := by omega
      unfold by8 dgt
      rw [Nat.add_mul_div_left _ _ (Nat.pow_pos (by decide)), Nat.div_eq_of_lt (vk_lt bs i), Nat.zero_add, Nat.mod_eq_of_lt (nth_lt bs i)]
attribute [local irreducible] vk sumB
/-- The number that a name tells. -/
def numOf (b : List UInt8) : Nat := vk (b.drop 1) 8
theorem numOf_eq (b : List UInt8) : numOf b = vk (b.drop 1) 8 := by unfold numOf; rfl
theorem numOf_called (t : Trm) {n : Nat} (hn : n < 18446744073709551616) : numOf (calledT t n) = n := by
  unfold numOf calledT
  rw [List.drop_succ_cons, List.drop_zero]
  generalize List.replicate (sizeT t - 9) (0 : UInt8) = zs
  generalize hy : vk (e8 n ++ zs) 8 = y
  have hb : ∀ i, i < 8 → by8 y i = by8 n i := by
    intro i hi
    rw [← hy, vk_at _ _ 8 hi]
    unfold nth
    rw [List.getElem?_append_left (by rw [e8_len]; exact hi)]
    unfold e8 gen
    simp [hi, bf_nat]
  have hs : ∀ k, k ≤ 8 → sumB k (by8 y) = sumB k (by8 n) := by
    intro k
    induction k with
    | zero => intro _; rw [sumB_nil, sumB_nil]
    | succ k ih => intro hk; rw [sumB_succ, sumB_succ, ih (by omega), hb k (by omega)]
  have h8 := hs 8 (by omega)
  rw [sumB_dig, sumB_dig] at h8
  have hl := vk_lt (e8 n ++ zs) 8
  rw [hy] at hl
  omega
theorem find_short {L : List Trm} (hl : L.length < 18446744073709551616) {b : List UInt8} {k : UInt8} (h : b.length < 9) : findT L b k = none := by
  cases hf : findT L b k with
  | none => rfl
  | some t =>
    obtain ⟨j, _, _, h3⟩ := (findT_iff hl).1 hf
    have h4 := calledT_len t (j + 1)
    have h5 := sizeT_ge t
    rw [h3] at h4
    omega
theorem find_out {L : List Trm} (hl : L.length < 18446744073709551616) {b : List UInt8} {k : UInt8} (h : numOf b = 0 ∨ L.length < numOf b) : findT L b k = none := by
  cases hf : findT L b k with
  | none => rfl
  | some t =>
    obtain ⟨j, h1, _, h3⟩ := (findT_iff hl).1 hf
    have l1 := (List.getElem?_eq_some_iff.1 h1).1
    have := numOf_called t (n := j + 1) (by omega)
    rw [h3] at this
    omega
theorem find_at {L : List Trm} (hl : L.length < 18446744073709551616) {b : List UInt8} {k : UInt8} {m : Nat} (hm : numOf b = m + 1) {t : Trm} (ht : L[m]? = some t) : findT L b k = if t.kind = k ∧ calledT t (m + 1) = b then some t else none := by
  split
  · rename_i h
    exact (findT_iff hl).2 ⟨m, ht, h.1, h.2⟩
  · rename_i h
    refine findT_miss hl ht h fun i x hi hx => ?_
    have l1 := (List.getElem?_eq_some_iff.1 hi).1
    have := numOf_called x (n := i + 1) (by omega)
    rw [hx] at this
    omega
theorem ofInt_wrap (z : Int) : BitVec.ofInt 64 (wrap64 z) = BitVec.ofInt 64 z := by
  apply BitVec.eq_of_toNat_eq
  rw [BitVec.toNat_ofInt, BitVec.toNat_ofInt]
  simp only [wrap64]
  omega
theorem or_add_i (a b r : Nat) (ha : a < 256 ^ r) (hb : b < 256) (hr : r < 8) : bits .or .i64 (a : Int) (wrap64 ((b : Int) * 2 ^ (8 * r))) = wrap64 ((a + b * 256 ^ r : Nat) : Int) := by
  have e : (2 : Nat) ^ (8 * r) = 256 ^ r := by rw [Nat.pow_mul]
  have hp := pow_r r hr
  have h2 : b * 256 ^ r ≤ 255 * 256 ^ r := Nat.mul_le_mul_right _ (by omega)
  have e2 : (b : Int) * 2 ^ (8 * r) = ((b * 256 ^ r : Nat) : Int) := by rw [← e, Int.natCast_mul, Int.natCast_pow]; rfl
  have e3 : a ||| b * 256 ^ r = a + b * 256 ^ r := by
    rw [← e, Nat.or_comm, ← Nat.shiftLeft_eq, ← Nat.shiftLeft_add_eq_or_of_lt (by rw [e]; exact ha), Nat.add_comm]
  rw [e2]
  generalize b * 256 ^ r = y at *
  generalize 256 ^ r = z at *
  have q1 : (BitVec.ofInt 64 (a : Int)).toNat = a := by
    rw [BitVec.ofInt_natCast, BitVec.toNat_ofNat]; exact Nat.mod_eq_of_lt (by omega)
  have q2 : (BitVec.ofInt 64 (y : Int)).toNat = y := by
    rw [BitVec.ofInt_natCast, BitVec.toNat_ofNat]; exact Nat.mod_eq_of_lt (by omega)
  show IntKind.i64.wrap ((BitVec.ofInt 64 (a : Int) ||| BitVec.ofInt 64 (wrap64 ((y : Nat) : Int))).toNat : Int) = _
  rw [ofInt_wrap, BitVec.toNat_or, q1, q2, e3]
  simp only [IntKind.wrap_i64, wrap64]
end Go.Proofs.Ytdddcgkgellbgab
