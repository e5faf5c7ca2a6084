/-
  WireCut, at the landed code. By an AI agent.
-/
import Derived.Test.YtonfdnihllhcbaaWc3
import Derived.Test.YtonfdnihllhcbaaWk
namespace Go.Proofs.Ytonfdnihllhcbaa
open Go Go.RowKit
theorem wirecut_w (w : World) {A1 : Option Addr} {c1 : Nat} {n i : Int} {s : List UInt8} (_ : (Lit.int .i64 n).wf = true) (r1 : Rd w w.heap.size A1 c1 s) (l1 : s.length ≤ 140737488351232) (hi : (Lit.int .u16 i).wf = true) :
    Calls Try.prog 7 #[.int .i64 n, .slice A1 s.length c1, .int .u16 i] w fun e w' => e = .returned (.bool true) ∧ Below w.heap.size w w' := by
  have h : 0 ≤ i ∧ i ≤ 65535 := by simpa [Lit.wf, IntKind.min, IntKind.max, IntKind.signed, IntKind.bits] using hi
  obtain ⟨a, rfl⟩ : ∃ a : Nat, i = (a : Int) := ⟨i.toNat, by omega⟩
  exact wirecut_law landed (by omega) l1 w r1
end Go.Proofs.Ytonfdnihllhcbaa
