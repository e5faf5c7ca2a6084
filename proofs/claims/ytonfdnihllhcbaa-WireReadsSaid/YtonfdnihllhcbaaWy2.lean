/-
  WireReads, at the landed code. By an AI agent.
-/
import Derived.Test.YtonfdnihllhcbaaWc7
import Derived.Test.YtonfdnihllhcbaaWk
namespace Go.Proofs.Ytonfdnihllhcbaa
open Go Go.RowKit
theorem wirereads_w (w : World) {A0 A1 : Option Addr} {c0 c1 n : Nat} {b : List UInt8} {f : Nat → Int × Int × Int} (r0 : Rd w w.heap.size A0 c0 b) (l0 : b.length ≤ 140737488351232) (r1 : RdK w w.heap.size A1 n f) :
    Calls Try.prog 4 #[.slice A0 b.length c0, .slice A1 n c1] w fun e w' => e = .returned (.bool true) ∧ Below w.heap.size w w' := by
  by_cases h : n ≤ 100
  · exact wirereads_law landed l0 h w r0 r1
  · exact wirereads_much landed (by omega) w
end Go.Proofs.Ytonfdnihllhcbaa
