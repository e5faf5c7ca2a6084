/-
  The five laws of layer 14, at the landed code. By an AI agent.
-/
import Derived.Test.YthamhpgjjbiplaaDoorPd5
import Derived.Test.YthamhpgjjbiplaaDoorPc3
namespace Go.Proofs.YthamhpgjjbiplaaDoor
open Go Go.RowKit
set_option maxRecDepth 20000
theorem padbuckets_w {n : Int} (w : World) (hG : GlbB w) : Calls Tryd.prog 3 #[.int .i64 n] w fun e w' => e = .returned (.bool true) ∧ Below w.heap.size w w' := padbuckets_law landed w hG
theorem padpads_w {A : Option Addr} {c : Nat} {b : List UInt8} (w : World) (hG : GlbB w) (hr : Rd w w.heap.size A c b) (hl : b.length ≤ 140737488351232) : Calls Tryd.prog 4 #[.slice A b.length c] w fun e w' => e = .returned (.bool true) ∧ Below w.heap.size w w' := padpads_law landed hl w hG hr
theorem padunpads_w {A : Option Addr} {c : Nat} {b : List UInt8} (w : World) (hG : GlbB w) (hr : Rd w w.heap.size A c b) (hl : b.length ≤ 140737488351232) : Calls Tryd.prog 5 #[.slice A b.length c] w fun e w' => e = .returned (.bool true) ∧ Below w.heap.size w w' := padunpads_law landed hl w hG hr
theorem padhides_w {A A2 : Option Addr} {c c2 : Nat} {a b : List UInt8} (w : World) (hG : GlbB w) (ra : Rd w w.heap.size A c a) (la : a.length ≤ 140737488351232) (rb : Rd w w.heap.size A2 c2 b) (lb : b.length ≤ 140737488351232) : Calls Tryd.prog 7 #[.slice A a.length c, .slice A2 b.length c2] w fun e w' => e = .returned (.bool true) ∧ Below w.heap.size w w' := padhides_law landed ⟨la, lb⟩ w hG ra rb
theorem padback_w {A A2 : Option Addr} {c c2 : Nat} {a b : List UInt8} (w : World) (hG : GlbB w) (ra : Rd w w.heap.size A c a) (la : a.length ≤ 140737488351232) (rb : Rd w w.heap.size A2 c2 b) (lb : b.length ≤ 140737488351232) : Calls Tryd.prog 6 #[.slice A a.length c, .slice A2 b.length c2] w fun e w' => e = .returned (.bool true) ∧ Below w.heap.size w w' := padback_law landed ⟨la, lb⟩ w hG ra rb
end Go.Proofs.YthamhpgjjbiplaaDoor
