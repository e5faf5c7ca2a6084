/-
  The document's Clamp and bit (layer 5), over letters. By an AI agent.
-/
import Derived.Test.YtgaofocjnifjdaaDoorJ12
import Derived.Test.YtgaofocjnifjdaaDoorJ03
import Derived.Test.YtgaofocjnifjdaaDoorJ09
import Derived.Test.YtgaofocjnifjdaaDoorJ14
namespace Go.Proofs.YtgaofocjnifjdaaDoor
open Go Go.RowKit
/-- A secret clamped, in numbers. -/
def clam (x : Nat) : Nat := 8 * (x / 8 % 2 ^ 251) + 2 ^ 254
theorem clam_zero (x : Nat) : by8 (clam x) 0 = by8 x 0 - by8 x 0 % 8 := by
  unfold clam by8 dgt
  simp only [Nat.reducePow, Nat.pow_zero, Nat.div_one]
  omega
theorem clam_top (x : Nat) : by8 (clam x) 31 = by8 x 31 % 64 + 64 := by
  unfold clam by8 dgt
  simp only [Nat.reducePow]
  omega
theorem clam_mid (x : Nat) {k : Nat} (h1 : 1 ≤ k) (h2 : k < 31) : by8 (clam x) k = by8 x k := by
  unfold clam by8 dgt
  have : k = 1 ∨ k = 2 ∨ k = 3 ∨ k = 4 ∨ k = 5 ∨ k = 6 ∨ k = 7 ∨ k = 8 ∨ k = 9 ∨ k = 10 ∨ k = 11 ∨ k = 12 ∨ k = 13 ∨ k = 14 ∨ k = 15 ∨ k = 16 ∨ k = 17 ∨ k = 18 ∨ k = 19 ∨ k = 20 ∨ k = 21 ∨ k = 22 ∨ k = 23 ∨ k = 24 ∨ k = 25 ∨ k = 26 ∨ k = 27 ∨ k = 28 ∨ k = 29 ∨ k = 30 := by omega
  rcases this with rfl | rfl | rfl | rfl | rfl | rfl | rfl | rfl | rfl | rfl | rfl | rfl | rfl | rfl | rfl | rfl | rfl | rfl | rfl | rfl | rfl | rfl | rfl | rfl | rfl | rfl | rfl | rfl | rfl | rfl <;>
    (simp only [Nat.reducePow]; omega)
theorem clam_lt (x : Nat) : clam x < 2 ^ 255 := by
  unfold clam
  have := Nat.mod_lt (x / 8) (show 0 < 2 ^ 251 by decide)
  omega
theorem clam_W4 (x : Nat) : clam x < W4 := Nat.lt_trans (clam_lt x) (by decide +kernel)
/-- The first block's byte is rounded down, the last one's is filled up. -/
theorem clam_set {bs : List UInt8} (hl : bs.length = 32) {b0 b1 : UInt8} (h0 : b0.toNat = nth bs 0 - nth bs 0 % 8) (h1 : b1.toNat = nth bs 31 % 64 + 64) :
    (bs.set 0 b0).set 31 b1 = gen (bf (clam (vb bs))) 32 := by
  have hv : ∀ i, i < 32 → by8 (vb bs) i = nth bs i := fun i hi => by unfold vb; rw [hl]; exact vk_dig bs i 32 hi
  refine nth_ext (by simp [gen_length, hl]) fun k hk => ?_
  have hk' : k < 32 := by simpa [hl] using hk
  rw [nth_gen hk', bf_nat, nth_set _ _ _ _ (by simp [hl]), nth_set _ _ _ _ (by omega)]
  by_cases e31 : 31 = k
  · subst e31; rw [if_pos rfl, h1, clam_top, hv 31 (by decide)]
  · rw [if_neg e31]
    by_cases e0 : 0 = k
    · subst e0; rw [if_pos rfl, h0, clam_zero, hv 0 (by decide)]
    · rw [if_neg e0, clam_mid _ (by omega) (by omega), hv k hk']
set_option maxRecDepth 20000
/-- A secret's i-th bit. -/
def sbit (x i : Nat) : Nat := x / 2 ^ i % 2
end Go.Proofs.YtgaofocjnifjdaaDoor
