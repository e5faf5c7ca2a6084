import Derived.Test.YticmkcipagmgmaaEqOp
import Derived.Test.YticmkcipagmgmaaL6
namespace Go.Proofs.Yticmkcipagmgmaa
open Go Go.RowKit
attribute [local irreducible] wd by8
/-- An int as a word. -/
def uw (i : Int) : Nat := (i % 18446744073709551616).toNat
theorem uw_lt (i : Int) : uw i < 18446744073709551616 := by unfold uw; omega
theorem uw_wrap (i : Int) : IntKind.u64.wrap i = (uw i : Int) := by rw [IntKind.wrap_u64]; unfold uw; omega
theorem uw_zero {i : Int} (h : -9223372036854775808 ≤ i ∧ i ≤ 9223372036854775807) : uw i = 0 ↔ i = 0 := by unfold uw; omega
/-- The bit of x at i, of whatever i. -/
def bi (x : Nat) (i : Int) : Nat := if i < 0 ∨ 256 ≤ i then 0 else bt x i.toNat
theorem bit_any (x : Nat) (i : Int) (w : World) : Calls Try.prog 30 #[nv x, .int .i64 i] w fun e w' => e = .returned (.int .u64 (bi x i : Int)) ∧ Below w.heap.size w w' := by
  unfold bi
  by_cases h : i < 0 ∨ 256 ≤ i
  · rw [if_pos h]; exact bit_out x i h w
  · rw [if_neg h]
    have := bit_in x i.toNat (by omega) w
    rw [Int.toNat_of_nonneg (by omega)] at this
    exact this
theorem rbit_any {x : Nat} (hx : x < W4) (i : Int) (w : World) : Calls Try.prog 31 #[nv x, .int .i64 i] w fun e w' => e = .returned (.int .u64 (bi x i : Int)) ∧ Below w.heap.size w w' := by
  unfold bi
  by_cases h : i < 0 ∨ 256 ≤ i
  · rw [if_pos h]; exact rbit_out x i h w
  · rw [if_neg h]
    have := rbit_in x i.toNat hx (by omega) w
    rw [Int.toNat_of_nonneg (by omega)] at this
    exact this
end Go.Proofs.Yticmkcipagmgmaa
