/-
  No cell of these rows narrows 'for every input' (looked for: loops, veiled, ifaces, maps, wideKeys, modest, calm, conditions, laid).
  DERIVED. THE GIVEN ROWS OF THIS SEAT. 5 by the template 'for every input the law returns true; each argument reads behind the call as it read before'; 0 by the template 'total and deterministic' (their statements: YtejfdheiopejeaaTotals.lean).
  GIVEN WITH THE SEED: the statements are not yours to turn. If you find one false, say at which input.
  Laid BY PROGRAM, IN A SANDBOX (cutbox-rows.mjs): the forced cells as the released guide's own fill.sh prints them over the translation 88f6042cad89c8b3… (all of the seat's roots in one cut). By AI agents, Wed Nov 11 2026. No macro, syntax, notation, axiom, sorry.
-/
import Derived.Test.YtejfdheiopejeaaChecked
import GoSem.Claim
import GoSem.ClaimJoined
import GoSem.ClaimMapViews
import Derived.JoinedTies
import Derived.KernelRfl
namespace Go.Proofs.Ytejfdheiopejeaa
/- THE CELL 'sum', in the pinned program and in every row, IS THE sha256 OF THE DUMP (.gsa) THAT YtejfdheiopejeaaProg.lean LOADS. Nothing in Lean hashes anything: it is a label: what it is worth is what the hold of that sum in a sandbox is worth. -/
noncomputable def Try.pinned : Pinned := { name := "ytejfdheiopejeaa", sum := "88f6042cad89c8b390798f4e12d75b10e305e2d8c21a95d4833316cfe314d89d", checked := Try.checked }
namespace Rows
def none {H : Type} : Left H := { results := [], args := [] }

/-- 'sealwaxlaw17.CaretPlaces': WHATEVER THE INPUT: true; the input reads as it did. -/
def caretPlacesSpec : ChangeSpec := { name := "caretPlaces", fn := fun _ => fun
  | [d1, d2] => { results := [.lit (.bool true)], args := [d1, d2] }
  | _ => none }
def caretPlacesRow : OpenClaim := { program := "ytejfdheiopejeaa", sum := "88f6042cad89c8b390798f4e12d75b10e305e2d8c21a95d4833316cfe314d89d", func := "sealwax/sealwaxlaw17.CaretPlaces", spec := "caretPlaces", inPlace := ["math.Float64bits", "math.Float64frombits"], unfollowed := true, recurses := true, apart := false }
def CaretPlacesSaid : Prop := caretPlacesRow.holds Try.pinned (OpenSpec.ofChange caretPlacesSpec)

/-- ITS FALSE NEIGHBOUR: 'it returns false'. Refute it at one input. -/
def caretPlacesWrong : ChangeSpec := { name := "caretPlaces", fn := fun _ => fun
  | [d1, d2] => { results := [.lit (.bool false)], args := [d1, d2] }
  | _ => none }
def CaretPlacesWrongFalsely : Prop := caretPlacesRow.holds Try.pinned (OpenSpec.ofChange caretPlacesWrong)

/-- 'sealwaxlaw17.CaretWidths': WHATEVER THE INPUT: true; the input reads as it did. -/
def caretWidthsSpec : ChangeSpec := { name := "caretWidths", fn := fun _ => fun
  | [d] => { results := [.lit (.bool true)], args := [d] }
  | _ => none }
def caretWidthsRow : OpenClaim := { program := "ytejfdheiopejeaa", sum := "88f6042cad89c8b390798f4e12d75b10e305e2d8c21a95d4833316cfe314d89d", func := "sealwax/sealwaxlaw17.CaretWidths", spec := "caretWidths", inPlace := ["math.Float64bits", "math.Float64frombits"], unfollowed := true, recurses := true, apart := false }
def CaretWidthsSaid : Prop := caretWidthsRow.holds Try.pinned (OpenSpec.ofChange caretWidthsSpec)

/-- ITS FALSE NEIGHBOUR: 'it returns false'. Refute it at one input. -/
def caretWidthsWrong : ChangeSpec := { name := "caretWidths", fn := fun _ => fun
  | [d] => { results := [.lit (.bool false)], args := [d] }
  | _ => none }
def CaretWidthsWrongFalsely : Prop := caretWidthsRow.holds Try.pinned (OpenSpec.ofChange caretWidthsWrong)

/-- 'sealwaxlaw17.CaretBoxes': WHATEVER THE INPUT: true; the input reads as it did. -/
def caretBoxesSpec : ChangeSpec := { name := "caretBoxes", fn := fun _ => fun
  | [d] => { results := [.lit (.bool true)], args := [d] }
  | _ => none }
def caretBoxesRow : OpenClaim := { program := "ytejfdheiopejeaa", sum := "88f6042cad89c8b390798f4e12d75b10e305e2d8c21a95d4833316cfe314d89d", func := "sealwax/sealwaxlaw17.CaretBoxes", spec := "caretBoxes", inPlace := ["math.Float64bits", "math.Float64frombits"], unfollowed := true, recurses := true, apart := false }
def CaretBoxesSaid : Prop := caretBoxesRow.holds Try.pinned (OpenSpec.ofChange caretBoxesSpec)

/-- ITS FALSE NEIGHBOUR: 'it returns false'. Refute it at one input. -/
def caretBoxesWrong : ChangeSpec := { name := "caretBoxes", fn := fun _ => fun
  | [d] => { results := [.lit (.bool false)], args := [d] }
  | _ => none }
def CaretBoxesWrongFalsely : Prop := caretBoxesRow.holds Try.pinned (OpenSpec.ofChange caretBoxesWrong)

/-- 'sealwaxlaw17.CaretBack': WHATEVER THE INPUT: true; the input reads as it did. -/
def caretBackSpec : ChangeSpec := { name := "caretBack", fn := fun _ => fun
  | [d1, d2] => { results := [.lit (.bool true)], args := [d1, d2] }
  | _ => none }
def caretBackRow : OpenClaim := { program := "ytejfdheiopejeaa", sum := "88f6042cad89c8b390798f4e12d75b10e305e2d8c21a95d4833316cfe314d89d", func := "sealwax/sealwaxlaw17.CaretBack", spec := "caretBack", inPlace := ["math.Float64bits", "math.Float64frombits"], unfollowed := true, recurses := true, apart := false }
def CaretBackSaid : Prop := caretBackRow.holds Try.pinned (OpenSpec.ofChange caretBackSpec)

/-- ITS FALSE NEIGHBOUR: 'it returns false'. Refute it at one input. -/
def caretBackWrong : ChangeSpec := { name := "caretBack", fn := fun _ => fun
  | [d1, d2] => { results := [.lit (.bool false)], args := [d1, d2] }
  | _ => none }
def CaretBackWrongFalsely : Prop := caretBackRow.holds Try.pinned (OpenSpec.ofChange caretBackWrong)

/-- 'sealwaxlaw17.CaretOrder': WHATEVER THE INPUT: true; the input reads as it did. -/
def caretOrderSpec : ChangeSpec := { name := "caretOrder", fn := fun _ => fun
  | [d1, d2] => { results := [.lit (.bool true)], args := [d1, d2] }
  | _ => none }
def caretOrderRow : OpenClaim := { program := "ytejfdheiopejeaa", sum := "88f6042cad89c8b390798f4e12d75b10e305e2d8c21a95d4833316cfe314d89d", func := "sealwax/sealwaxlaw17.CaretOrder", spec := "caretOrder", inPlace := ["math.Float64bits", "math.Float64frombits"], unfollowed := true, recurses := true, apart := false }
def CaretOrderSaid : Prop := caretOrderRow.holds Try.pinned (OpenSpec.ofChange caretOrderSpec)

/-- ITS FALSE NEIGHBOUR: 'it returns false'. Refute it at one input. -/
def caretOrderWrong : ChangeSpec := { name := "caretOrder", fn := fun _ => fun
  | [d1, d2] => { results := [.lit (.bool false)], args := [d1, d2] }
  | _ => none }
def CaretOrderWrongFalsely : Prop := caretOrderRow.holds Try.pinned (OpenSpec.ofChange caretOrderWrong)

/- THE SECOND FORM. 'bulk': how many values and letters a reading holds, each counted each time it is reached (what is shared counts as often as it is met; a slice's spare places count too). A statement '..UptoSaid' is the law's where the arguments, and the package variables that the reading takes, are together of bulk at most 1048576: NARROWER than '..Said'. Prove '..Said' where nothing that the law and all that it calls make is longer than what came in: it says more and counts as full. Else prove '..UptoSaid'. A law counts once. -/
mutual
def uptoBulk {H : Type} : DataW H → Nat
  | .lit (.string bytes) => bytes.length + 1
  | .lit _ => 1
  | .nil => 1
  | .ptr d => uptoBulk d + 1
  | .slice elems spare => uptoBulkAll elems + uptoBulkAll spare + 1
  | .agg parts => uptoBulkAll parts + 1
  | .iface _ d => uptoBulk d + 1
  | .map entries => uptoBulkEntries entries + 1
  | .held _ => 1
def uptoBulkAll {H : Type} : List (DataW H) → Nat
  | [] => 0
  | d :: r => uptoBulk d + uptoBulkAll r
def uptoBulkEntries {H : Type} : List (Lit × DataW H) → Nat
  | [] => 0
  | x :: r => uptoBulkEntry x + uptoBulkEntries r
def uptoBulkEntry {H : Type} : Lit × DataW H → Nat
  | (.string bytes, d) => bytes.length + uptoBulk d + 1
  | (_, d) => uptoBulk d + 1
 end
def uptoSmall : (H : Type) → List (DataW H) → Bool := fun _ ds => decide (uptoBulkAll ds ≤ 1048576)
def OpenSpec.upto (s : _root_.Go.ChangeSpec) : _root_.Go.OpenSpec := { _root_.Go.OpenSpec.ofChange s with cond := some uptoSmall }

/-- 'sealwaxlaw17.CaretPlaces', WHERE WHAT IT READS IS OF BULK AT MOST 1048576: true; the input reads as it did. -/
def caretPlacesUptoRow : OpenClaim := { program := "ytejfdheiopejeaa", sum := "88f6042cad89c8b390798f4e12d75b10e305e2d8c21a95d4833316cfe314d89d", func := "sealwax/sealwaxlaw17.CaretPlaces", spec := "caretPlaces", inPlace := ["math.Float64bits", "math.Float64frombits"], unfollowed := true, recurses := true, apart := false, narrowed := true }
def CaretPlacesUptoSaid : Prop := caretPlacesUptoRow.holds Try.pinned (OpenSpec.upto caretPlacesSpec)

/-- 'sealwaxlaw17.CaretWidths', WHERE WHAT IT READS IS OF BULK AT MOST 1048576: true; the input reads as it did. -/
def caretWidthsUptoRow : OpenClaim := { program := "ytejfdheiopejeaa", sum := "88f6042cad89c8b390798f4e12d75b10e305e2d8c21a95d4833316cfe314d89d", func := "sealwax/sealwaxlaw17.CaretWidths", spec := "caretWidths", inPlace := ["math.Float64bits", "math.Float64frombits"], unfollowed := true, recurses := true, apart := false, narrowed := true }
def CaretWidthsUptoSaid : Prop := caretWidthsUptoRow.holds Try.pinned (OpenSpec.upto caretWidthsSpec)

/-- 'sealwaxlaw17.CaretBoxes', WHERE WHAT IT READS IS OF BULK AT MOST 1048576: true; the input reads as it did. -/
def caretBoxesUptoRow : OpenClaim := { program := "ytejfdheiopejeaa", sum := "88f6042cad89c8b390798f4e12d75b10e305e2d8c21a95d4833316cfe314d89d", func := "sealwax/sealwaxlaw17.CaretBoxes", spec := "caretBoxes", inPlace := ["math.Float64bits", "math.Float64frombits"], unfollowed := true, recurses := true, apart := false, narrowed := true }
def CaretBoxesUptoSaid : Prop := caretBoxesUptoRow.holds Try.pinned (OpenSpec.upto caretBoxesSpec)

/-- 'sealwaxlaw17.CaretBack', WHERE WHAT IT READS IS OF BULK AT MOST 1048576: true; the input reads as it did. -/
def caretBackUptoRow : OpenClaim := { program := "ytejfdheiopejeaa", sum := "88f6042cad89c8b390798f4e12d75b10e305e2d8c21a95d4833316cfe314d89d", func := "sealwax/sealwaxlaw17.CaretBack", spec := "caretBack", inPlace := ["math.Float64bits", "math.Float64frombits"], unfollowed := true, recurses := true, apart := false, narrowed := true }
def CaretBackUptoSaid : Prop := caretBackUptoRow.holds Try.pinned (OpenSpec.upto caretBackSpec)

/-- 'sealwaxlaw17.CaretOrder', WHERE WHAT IT READS IS OF BULK AT MOST 1048576: true; the input reads as it did. -/
def caretOrderUptoRow : OpenClaim := { program := "ytejfdheiopejeaa", sum := "88f6042cad89c8b390798f4e12d75b10e305e2d8c21a95d4833316cfe314d89d", func := "sealwax/sealwaxlaw17.CaretOrder", spec := "caretOrder", inPlace := ["math.Float64bits", "math.Float64frombits"], unfollowed := true, recurses := true, apart := false, narrowed := true }
def CaretOrderUptoSaid : Prop := caretOrderUptoRow.holds Try.pinned (OpenSpec.upto caretOrderSpec)

end Rows
end Go.Proofs.Ytejfdheiopejeaa
