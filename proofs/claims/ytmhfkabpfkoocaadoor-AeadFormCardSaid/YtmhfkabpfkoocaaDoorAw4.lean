/-
  AeadForm, at the landed code. By an AI agent.
-/
import Derived.Test.YtmhfkabpfkoocaaDoorAe11
import Derived.Test.YtmhfkabpfkoocaaDoorTC
namespace Go.Proofs.YtmhfkabpfkoocaaDoor
open Go Go.RowKit
set_option maxRecDepth 20000
theorem aeadform_w {A0 A1 A2 A3 : Option Addr} {c0 c1 c2 c3 : Nat} {key nonce other b : List UInt8} (w : World) (hG : GlbP w) (r0 : Rd w w.heap.size A0 c0 key) (r1 : Rd w w.heap.size A1 c1 nonce) (r2 : Rd w w.heap.size A2 c2 other) (r3 : Rd w w.heap.size A3 c3 b) (l0 : key.length ≤ 140737488351232) (l1 : nonce.length ≤ 140737488351232) (l2 : other.length ≤ 140737488351232) (l3 : b.length ≤ 140737488351232) :
    Calls Tryd.prog 6 #[.agg (partsV A0 key.length c0 A1 nonce.length c1 A2 other.length c2 A3 b.length c3)] w fun e w' => e = .returned (.bool true) ∧ Below w.heap.size w w' := by
  have kg : ∀ w w', GlbP w → Below w.heap.size w w' → GlbP w' := fun _ _ h hb => h.next hb
  have hl : key.length ≤ 140737488355328 ∧ nonce.length ≤ 140737488355328 ∧ other.length ≤ 140737488355328 ∧ b.length ≤ 140737488355328 := by omega
  by_cases ho : other.length ≤ 1000
  · by_cases hb : b.length ≤ 2000
    · by_cases hE : openE key nonce other b = 0
      · exact form_good kg cSealP cOpenP hl ho hb hE w hG r0 r1 r2 r3
      · exact form_bad kg cSealP cOpenP hl ho hb hE w hG r0 r1 r2 r3
    · exact aeadform_much kg cSealP cOpenP (.inr ⟨ho, by omega⟩) w hG
  · exact aeadform_much kg cSealP cOpenP (.inl (by omega)) w hG
end Go.Proofs.YtmhfkabpfkoocaaDoor
