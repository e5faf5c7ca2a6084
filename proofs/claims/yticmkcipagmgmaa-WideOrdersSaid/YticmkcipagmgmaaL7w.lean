import Derived.Test.YticmkcipagmgmaaL7ltz
import Derived.Test.YticmkcipagmgmaaL7ltnz
import Derived.Test.YticmkcipagmgmaaL7gtz
import Derived.Test.YticmkcipagmgmaaL7gtnz
import Derived.Test.YticmkcipagmgmaaL7eqz
import Derived.Test.YticmkcipagmgmaaL7eqnz
namespace Go.Proofs.Yticmkcipagmgmaa
open Go Go.RowKit
theorem orders_walk {x y : Nat} {i : Int} (hx : x < W4) (hy : y < W4) (hi : (Lit.int .i64 i).wf = true) (w : World) :
    Calls Try.prog 7 #[nv x, nv y, .int .i64 i] w fun e w' => e = .returned (.bool true) ∧ Below w.heap.size w w' := by
  have hr : -9223372036854775808 ≤ i ∧ i ≤ 9223372036854775807 := by simpa [Lit.wf, IntKind.min, IntKind.max, IntKind.signed, IntKind.bits] using hi
  rcases Nat.lt_trichotomy x y with h | h | h
  · by_cases h0 : i = 0
    · subst h0; exact orders_lt_z hx hy h w
    · exact orders_lt_nz hx hy h h0 hr w
  · by_cases h0 : i = 0
    · subst h0; exact orders_eq_z hx hy h w
    · exact orders_eq_nz hx hy h h0 hr w
  · by_cases h0 : i = 0
    · subst h0; exact orders_gt_z hx hy h w
    · exact orders_gt_nz hx hy h h0 hr w
end Go.Proofs.Yticmkcipagmgmaa
