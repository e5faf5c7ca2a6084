/-
  Layer 15: FuguePlans, FugueStays, FugueOne, FugueNobody at the landed code. By an AI agent.
-/
import Derived.Test.YtljciakgdpihdaaFl3
import Derived.Test.YtljciakgdpihdaaFl5
import Derived.Test.YtljciakgdpihdaaFl7
import Derived.Test.YtljciakgdpihdaaFl9
import Derived.Test.YtljciakgdpihdaaFu19
namespace Go.Proofs.Ytljciakgdpihdaa
open Go Go.RowKit
theorem fugueplans_w {A : Option Addr} {c : Nat} {l : List Dot} {j : Int} {i : IDt} {ch : Int} (w : World) (r : RdR doE w w.heap.size A c l) :
    Calls Try.prog 7 #[.slice A l.length c, .int .i64 j, idV i, .int .i32 ch] w fun e w' => e = .returned (.bool true) ∧ Below w.heap.size w w' := by
  by_cases h : 60 < l.length
  · exact fugueplans_much landed h j i ch w
  · exact fugueplans_law landed rfl (by omega) j i ch w r
theorem fuguestays_w {A A' : Option Addr} {c c' : Nat} {l l' : List Dot} (w : World) (r : RdR doE w w.heap.size A c l) (r' : RdR doE w w.heap.size A' c' l') :
    Calls Try.prog 8 #[.slice A l.length c, .slice A' l'.length c'] w fun e w' => e = .returned (.bool true) ∧ Below w.heap.size w w' := by
  by_cases h : 60 < l.length ∨ 60 < l'.length
  · exact fuguestays_much landed h w
  · exact fuguestays_law landed rfl (by omega) rfl (by omega) w r r'
theorem fugueone_w {A : Option Addr} {c : Nat} {l : List Dot} {i : Int} (w : World) (r : RdR doE w w.heap.size A c l) (hi : 0 ≤ i ∧ i ≤ 255) :
    Calls Try.prog 5 #[.slice A l.length c, .int .u8 i] w fun e w' => e = .returned (.bool true) ∧ Below w.heap.size w w' := by
  obtain ⟨k, rfl⟩ : ∃ k : Nat, i = (k : Int) := ⟨i.toNat, by omega⟩
  by_cases h : 60 < l.length
  · exact fugueone_much landed h _ w
  · exact fugueone_law landed rfl (by omega) (by omega) w r
theorem fuguenobody_w {x : Ins} {n : Int} (w : World) :
    Calls Try.prog 10 #[insV x, .int .i64 n] w fun e w' => e = .returned (.bool true) ∧ Below w.heap.size w w' := fuguenobody_law landed x n w
end Go.Proofs.Ytljciakgdpihdaa
