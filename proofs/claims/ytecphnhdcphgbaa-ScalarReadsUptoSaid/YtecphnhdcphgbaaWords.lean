import Derived.Test.YtecphnhdcphgbaaLeft
namespace Go.Proofs.Ytecphnhdcphgbaa
open Go Go.RowKit
abbrev dvs (lo hi : Nat) : Value := .agg #[.int .u64 (wd lo 0 : Int), .int .u64 (wd lo 1 : Int), .int .u64 (wd lo 2 : Int), .int .u64 (wd lo 3 : Int), .int .u64 (wd hi 0 : Int), .int .u64 (wd hi 1 : Int), .int .u64 (wd hi 2 : Int), .int .u64 (wd hi 3 : Int)]
theorem wd_hi (x k : Nat) : wd (x / W4) k = wd x (4 + k) := by
  unfold wd dgt W4
  rw [Nat.div_div_eq_div_mul, ← Nat.pow_add]
theorem dv_split (a : Nat) : dv a = dvs (a % W4) (a / W4) := by
  unfold dv dvs
  rw [wd_mod a (by decide : 0 < 4), wd_mod a (by decide : 1 < 4), wd_mod a (by decide : 2 < 4), wd_mod a (by decide : 3 < 4), wd_hi, wd_hi, wd_hi, wd_hi]
abbrev A8s (lo hi : Nat) : Obj := .cells #[.int .u64 (wd lo 0 : Int), .int .u64 (wd lo 1 : Int), .int .u64 (wd lo 2 : Int), .int .u64 (wd lo 3 : Int), .int .u64 (wd hi 0 : Int), .int .u64 (wd hi 1 : Int), .int .u64 (wd hi 2 : Int), .int .u64 (wd hi 3 : Int)] 55
theorem by8_lohi_lo {lo hi k : Nat} (hk : k < 32) : by8 (lo + W4 * hi) k = by8 lo k := by
  rw [W4_256]; exact dgt_add_mul _ _ hk
theorem by8_lohi_hi {lo hi : Nat} (hl : lo < W4) (j : Nat) : by8 (lo + W4 * hi) (32 + j) = by8 hi j := by
  unfold by8 dgt
  rw [Nat.pow_add, ← Nat.div_div_eq_div_mul, ← W4_256, Nat.add_mul_div_left _ _ W4_pos, Nat.div_eq_of_lt hl, Nat.zero_add]
theorem can_lohi {lo hi n : Nat} (h0 : 0 < hi) (hc : Can n hi) : Can (32 + n) (lo + W4 * hi) := by
  intro k hk
  by_cases h : k < 32
  · have h1 : 256 ^ k ≤ W4 := by rw [W4_256]; exact Nat.pow_le_pow_right (by decide) (by omega)
    have h2 : W4 * 1 ≤ W4 * hi := Nat.mul_le_mul_left _ h0
    omega
  · obtain ⟨j, rfl⟩ : ∃ j, k = 32 + j := ⟨k - 32, by omega⟩
    have : hi < 256 ^ j := by
      refine Nat.lt_of_not_le fun hle => ?_
      rw [Nat.pow_add, ← W4_256] at hk
      have := Nat.mul_le_mul_left W4 hle
      omega
    have := hc j this
    omega
theorem lt_lohi {lo hi n : Nat} (hl : lo < W4) (hh : hi < 256 ^ n) : lo + W4 * hi < 256 ^ (32 + n) := by
  rw [Nat.pow_add, ← W4_256]
  have : W4 * (hi + 1) ≤ W4 * 256 ^ n := Nat.mul_le_mul_left _ hh
  rw [Nat.mul_add] at this
  omega
def lenOf : Value → Nat
  | .slice _ n _ => n
  | _ => 0
end Go.Proofs.Ytecphnhdcphgbaa
