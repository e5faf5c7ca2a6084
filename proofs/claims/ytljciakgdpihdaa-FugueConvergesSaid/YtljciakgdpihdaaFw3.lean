/-
  Layer 15: FugueConverges at the landed code. By an AI agent.
-/
import Derived.Test.YtljciakgdpihdaaFl12
import Derived.Test.YtljciakgdpihdaaFu19
namespace Go.Proofs.Ytljciakgdpihdaa
open Go Go.RowKit
theorem fugueconverges_w {A A' : Option Addr} {c c' : Nat} {l : List Dot} {ts : List Int} (w : World) (r : RdR doE w w.heap.size A c l) (r' : RdR intE w w.heap.size A' c' ts) :
    Calls Try.prog 6 #[.slice A l.length c, .slice A' ts.length c'] w fun e w' => e = .returned (.bool true) ∧ Below w.heap.size w w' := by
  by_cases h : 40 < l.length ∨ 200 < ts.length
  · exact fugueconverges_much landed h w
  · exact fugueconverges_law landed rfl (by omega) rfl (by omega) w r r'
end Go.Proofs.Ytljciakgdpihdaa
