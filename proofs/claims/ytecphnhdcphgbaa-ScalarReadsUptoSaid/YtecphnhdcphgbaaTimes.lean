import Derived.Test.YtecphnhdcphgbaaMinus
namespace Go.Proofs.Ytecphnhdcphgbaa
open Go Go.RowKit
def mT8 (x y i : Nat) : Nat := mT 256 x y i
def mS8 (x y i k : Nat) : Nat := mS 256 x y i k
def mO8 (x y i k : Nat) : Nat := mO 256 x y i k
/-- Byte j, when i bytes of x and k of y have been reckoned. -/
def mc8 (x y i k j : Nat) : Value := .int .i64 ((if j < i + k then by8 (mS8 x y i k) j else by8 (mT8 x y i) j : Nat) : Int)
def pd (x y i k : Nat) : Nat := by8 x i * by8 y k
def u1 (x y i k : Nat) : Nat := by8 (mT8 x y i) (i + k) + pd x y i k
def tt (x y i k : Nat) : Nat := u1 x y i k + mO8 x y i k
theorem mc8_start (x y i j : Nat) : mc8 x y i 0 j = dg8 (mT8 x y i) j := by
  unfold mc8 dg8
  by_cases h : j < i + 0
  · rw [if_pos h]
    unfold mS8 by8; rw [mS_zero, dgt_mod (n := i) _ h]; rfl
  · rw [if_neg h]
theorem mc8_at (x y i k : Nat) : mc8 x y i k (i + k) = .int .i64 (by8 (mT8 x y i) (i + k) : Int) := by
  unfold mc8; rw [if_neg (by omega)]
theorem mO8_lt (x y i k : Nat) : mO8 x y i k < 256 := mO_lt (by decide)
theorem tt_eq (x y i k : Nat) : tt x y i k = dgt 256 x i * dgt 256 y k + dgt 256 (mT 256 x y i) (i + k) + mO 256 x y i k := by
  unfold tt u1 pd by8 mT8 mO8; omega
theorem tt_div (x y i k : Nat) : tt x y i k / 256 = mO8 x y i (k + 1) := by
  rw [tt_eq]; exact (mO_succ (b := 256) (by decide)).symm
theorem tt_mod (x y i k : Nat) : tt x y i k % 256 = by8 (mS8 x y i (k + 1)) (i + k) := by
  rw [tt_eq]; exact (mS_new (b := 256) (by decide)).symm
theorem pd_le (x y i k : Nat) : pd x y i k ≤ 65025 := Nat.mul_le_mul (show by8 x i ≤ 255 by have := by8_lt x i; omega) (show by8 y k ≤ 255 by have := by8_lt y k; omega)
theorem mc8_set (x y i k j : Nat) : (if j = i + k then .int .i64 (by8 (mS8 x y i (k + 1)) (i + k) : Int) else mc8 x y i k j) = mc8 x y i (k + 1) j := by
  by_cases h : j = i + k
  · subst h
    rw [if_pos rfl]
    unfold mc8
    rw [if_pos (by omega)]
  · rw [if_neg h]
    unfold mc8
    by_cases h2 : j < i + k
    · rw [if_pos h2, if_pos (by omega), show by8 (mS8 x y i (k + 1)) j = by8 (mS8 x y i k) j from mS_old h2]
    · rw [if_neg h2, if_neg (by omega)]
theorem mS8_ge {x y i k n : Nat} (hy : y < 256 ^ n) (hk : n ≤ k) : mS8 x y i k = mT8 x y (i + 1) :=
  mS_full (by decide) (Nat.lt_of_lt_of_le hy (Nat.pow_le_pow_right (by decide) hk))
theorem mT8_lt {x y i n : Nat} (hy : y < 256 ^ n) : mT8 x y i < 256 ^ (i + n) := mT_lt (by decide) hy
theorem mO8_top {x y i k n : Nat} (hy : y < 256 ^ n) (hk : n < k) : mO8 x y i k = 0 := by
  have h : mO8 x y i k = mS8 x y i k / 256 ^ (i + k) := rfl
  rw [h, mS8_ge hy (by omega)]
  exact Nat.div_eq_of_lt (Nat.lt_of_lt_of_le (mT8_lt (i := i + 1) hy) (Nat.pow_le_pow_right (by decide) (by omega)))
theorem mc8_end {x y i k n : Nat} (hy : y < 256 ^ n) (hk : n ≤ k) (h0 : mO8 x y i k = 0) (j : Nat) : mc8 x y i k j = dg8 (mT8 x y (i + 1)) j := by
  have h : mO8 x y i k = mS8 x y i k / 256 ^ (i + k) := rfl
  rw [h, mS8_ge hy hk] at h0
  have hl : mT8 x y (i + 1) < 256 ^ (i + k) := by
    rcases Nat.div_eq_zero_iff.1 h0 with h2 | h2
    · exact absurd h2 (Nat.ne_of_gt (Nat.pow_pos (by decide)))
    · exact h2
  unfold mc8 dg8
  by_cases h2 : j < i + k
  · rw [if_pos h2, mS8_ge hy hk]
  · rw [if_neg h2, by8_top hl (by omega), by8_top (Nat.lt_of_lt_of_le (mT8_lt (i := i) hy) (Nat.pow_le_pow_right (by decide) (show i + n ≤ i + k by omega))) (by omega)]
theorem mT8_zero (x y : Nat) : mT8 x y 0 = 0 := mT_zero _ _ _
theorem mT8_full {x n : Nat} (y : Nat) (hx : x < 256 ^ n) : mT8 x y n = x * y := mT_full hx
theorem dg8_zero (j : Nat) : dg8 0 j = .int .i64 0 := by unfold dg8 by8 dgt; simp
theorem wrapT (x y i k : Nat) : IntKind.i64.wrap ((by8 x i : Int) * (by8 y k : Int)) = (pd x y i k : Int) ∧ IntKind.i64.wrap ((by8 (mT8 x y i) (i + k) : Int) + (pd x y i k : Int)) = (u1 x y i k : Int) ∧
    IntKind.i64.wrap ((u1 x y i k : Int) + (mO8 x y i k : Int)) = (tt x y i k : Int) := by
  have h1 := pd_le x y i k
  have h2 := by8_lt (mT8 x y i) (i + k)
  have h3 := mO8_lt x y i k
  have e1 : (by8 x i : Int) * (by8 y k : Int) = (pd x y i k : Int) := by unfold pd; rw [Int.natCast_mul]
  rw [e1]
  unfold tt u1
  generalize pd x y i k = p at *
  generalize by8 (mT8 x y i) (i + k) = q at *
  generalize mO8 x y i k = r at *
  refine ⟨?_, ?_, ?_⟩ <;> (rw [IntKind.wrap_i64]; omega)
theorem mO8_wrap (x y i k : Nat) : wrap64 (mO8 x y i k : Int) = (mO8 x y i k : Int) := by
  have h := mO8_lt x y i k
  generalize mO8 x y i k = a at *
  unfold wrap64
  omega
end Go.Proofs.Ytecphnhdcphgbaa
