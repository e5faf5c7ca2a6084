import Derived.Test.YtecphnhdcphgbaaComp
import Derived.Laws.ShiftsVar
namespace Go.Proofs.Ytecphnhdcphgbaa
open Go Go.RowKit
/-- The i-th bit. -/
def bt (x i : Nat) : Nat := x / 2 ^ i % 2
theorem bt_wd (x i : Nat) : wd x (i / 64) / 2 ^ (i % 64) % 2 = bt x i := by
  have h : ∀ y s, s < 64 → (y % 18446744073709551616) / 2 ^ s % 2 = y / 2 ^ s % 2 := fun y s hs => dgt_mod (b := 2) (n := 64) y hs
  unfold wd dgt bt
  rw [h _ _ (by omega), Nat.div_div_eq_div_mul, show (18446744073709551616 : Nat) = 2 ^ 64 from rfl, ← Nat.pow_mul, ← Nat.pow_add, Nat.div_add_mod]
theorem and_one (a s : Nat) (ha : a < 18446744073709551616) : bits .and .u64 ((a : Int) / 2 ^ s) 1 = ((a / 2 ^ s % 2 : Nat) : Int) := by
  have e : (a : Int) / 2 ^ s = ((a / 2 ^ s : Nat) : Int) := by rw [Int.natCast_ediv, Int.natCast_pow]; rfl
  have hl : a / 2 ^ s < 18446744073709551616 := Nat.lt_of_le_of_lt (Nat.div_le_self _ _) ha
  rw [e]
  have := bits_and_u64_nat (a / 2 ^ s) 1 hl (by omega)
  rw [Nat.and_one_is_mod] at this
  exact this
end Go.Proofs.Ytecphnhdcphgbaa
