/-
  Layer 15: FuguePlays, FugueAsks at the landed code. By an AI agent.
-/
import Derived.Test.YtljciakgdpihdaaFl1
import Derived.Test.YtljciakgdpihdaaFl2
import Derived.Test.YtljciakgdpihdaaFu19
namespace Go.Proofs.Ytljciakgdpihdaa
open Go Go.RowKit
theorem fugueplays_w {A : Option Addr} {c : Nat} {l : List Dot} (w : World) (r : RdR doE w w.heap.size A c l) :
    Calls Try.prog 3 #[.slice A l.length c] w fun e w' => e = .returned (.bool true) ∧ Below w.heap.size w w' := by
  by_cases h : 60 < l.length
  · exact fugueplays_much landed h w
  · exact fugueplays_law landed rfl (by omega) w r
theorem fugueasks_w {A : Option Addr} {c : Nat} {l : List Dot} {i : IDt} {j : Int} (w : World) (r : RdR doE w w.heap.size A c l) :
    Calls Try.prog 4 #[.slice A l.length c, idV i, .int .i64 j] w fun e w' => e = .returned (.bool true) ∧ Below w.heap.size w w' := by
  by_cases h : 60 < l.length
  · exact fugueasks_much landed h i j w
  · exact fugueasks_law landed rfl (by omega) i j w r
end Go.Proofs.Ytljciakgdpihdaa
