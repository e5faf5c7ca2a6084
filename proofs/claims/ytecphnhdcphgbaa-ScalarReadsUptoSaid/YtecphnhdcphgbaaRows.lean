/-
  No cell of these rows narrows 'for every input' (looked for: loops, veiled, ifaces, maps, wideKeys, modest, calm, conditions, laid).
  DERIVED. THE GIVEN ROWS OF THIS SEAT. 7 by the template 'for every input the law returns true; each argument reads behind the call as it read before'; 0 by the template 'total and deterministic' (their statements: YtecphnhdcphgbaaTotals.lean).
  GIVEN WITH THE SEED: the statements are not yours to turn. If you find one false, say at which input.
  Laid BY PROGRAM, IN A SANDBOX (cutbox-rows.mjs): the forced cells as the released guide's own fill.sh prints them over the translation e8da6f8bfe66fb92… (all of the seat's roots in one cut). By AI agents, Wed Nov 11 2026. No macro, syntax, notation, axiom, sorry.
-/
import Derived.Test.YtecphnhdcphgbaaChecked
import GoSem.Claim
import GoSem.ClaimJoined
import GoSem.ClaimMapViews
import Derived.JoinedTies
import Derived.KernelRfl
namespace Go.Proofs.Ytecphnhdcphgbaa
/- THE CELL 'sum', in the pinned program and in every row, IS THE sha256 OF THE DUMP (.gsa) THAT YtecphnhdcphgbaaProg.lean LOADS. Nothing in Lean hashes anything: it is a label: what it is worth is what the hold of that sum in a sandbox is worth. -/
noncomputable def Try.pinned : Pinned := { name := "ytecphnhdcphgbaa", sum := "e8da6f8bfe66fb92d38289be94c60caf10c4f10c63cdcb7cf89d1891cddc3c4d", checked := Try.checked }
namespace Rows
def none {H : Type} : Left H := { results := [], args := [] }

/-- 'sealwaxlaw04.ScalarReads': WHATEVER THE INPUT: true; the input reads as it did. -/
def scalarReadsSpec : ChangeSpec := { name := "scalarReads", fn := fun _ => fun
  | [d] => { results := [.lit (.bool true)], args := [d] }
  | _ => none }
def scalarReadsRow : OpenClaim := { program := "ytecphnhdcphgbaa", sum := "e8da6f8bfe66fb92d38289be94c60caf10c4f10c63cdcb7cf89d1891cddc3c4d", func := "sealwax/sealwaxlaw04.ScalarReads", spec := "scalarReads", inPlace := ["math/bits.Sub64", "math/bits.Add64"], unfollowed := true, recurses := true, apart := false }
def ScalarReadsSaid : Prop := scalarReadsRow.holds Try.pinned (OpenSpec.ofChange scalarReadsSpec)

/-- ITS FALSE NEIGHBOUR: 'it returns false'. Refute it at one input. -/
def scalarReadsWrong : ChangeSpec := { name := "scalarReads", fn := fun _ => fun
  | [d] => { results := [.lit (.bool false)], args := [d] }
  | _ => none }
def ScalarReadsWrongFalsely : Prop := scalarReadsRow.holds Try.pinned (OpenSpec.ofChange scalarReadsWrong)

/-- 'sealwaxlaw04.ScalarLeft': WHATEVER THE INPUT: true; the input reads as it did. -/
def scalarLeftSpec : ChangeSpec := { name := "scalarLeft", fn := fun _ => fun
  | [d] => { results := [.lit (.bool true)], args := [d] }
  | _ => none }
def scalarLeftRow : OpenClaim := { program := "ytecphnhdcphgbaa", sum := "e8da6f8bfe66fb92d38289be94c60caf10c4f10c63cdcb7cf89d1891cddc3c4d", func := "sealwax/sealwaxlaw04.ScalarLeft", spec := "scalarLeft", inPlace := ["math/bits.Sub64", "math/bits.Add64"], unfollowed := true, recurses := true, apart := false }
def ScalarLeftSaid : Prop := scalarLeftRow.holds Try.pinned (OpenSpec.ofChange scalarLeftSpec)

/-- ITS FALSE NEIGHBOUR: 'it returns false'. Refute it at one input. -/
def scalarLeftWrong : ChangeSpec := { name := "scalarLeft", fn := fun _ => fun
  | [d] => { results := [.lit (.bool false)], args := [d] }
  | _ => none }
def ScalarLeftWrongFalsely : Prop := scalarLeftRow.holds Try.pinned (OpenSpec.ofChange scalarLeftWrong)

/-- 'sealwaxlaw04.ScalarSums': WHATEVER THE INPUT: true; the input reads as it did. -/
def scalarSumsSpec : ChangeSpec := { name := "scalarSums", fn := fun _ => fun
  | [d1, d2] => { results := [.lit (.bool true)], args := [d1, d2] }
  | _ => none }
def scalarSumsRow : OpenClaim := { program := "ytecphnhdcphgbaa", sum := "e8da6f8bfe66fb92d38289be94c60caf10c4f10c63cdcb7cf89d1891cddc3c4d", func := "sealwax/sealwaxlaw04.ScalarSums", spec := "scalarSums", inPlace := ["math/bits.Add64", "math/bits.Sub64"], unfollowed := true, recurses := true, apart := false }
def ScalarSumsSaid : Prop := scalarSumsRow.holds Try.pinned (OpenSpec.ofChange scalarSumsSpec)

/-- ITS FALSE NEIGHBOUR: 'it returns false'. Refute it at one input. -/
def scalarSumsWrong : ChangeSpec := { name := "scalarSums", fn := fun _ => fun
  | [d1, d2] => { results := [.lit (.bool false)], args := [d1, d2] }
  | _ => none }
def ScalarSumsWrongFalsely : Prop := scalarSumsRow.holds Try.pinned (OpenSpec.ofChange scalarSumsWrong)

/-- 'sealwaxlaw04.ScalarProducts': WHATEVER THE INPUT: true; the input reads as it did. -/
def scalarProductsSpec : ChangeSpec := { name := "scalarProducts", fn := fun _ => fun
  | [d1, d2] => { results := [.lit (.bool true)], args := [d1, d2] }
  | _ => none }
def scalarProductsRow : OpenClaim := { program := "ytecphnhdcphgbaa", sum := "e8da6f8bfe66fb92d38289be94c60caf10c4f10c63cdcb7cf89d1891cddc3c4d", func := "sealwax/sealwaxlaw04.ScalarProducts", spec := "scalarProducts", inPlace := ["math/bits.Add64", "math/bits.Sub64"], unfollowed := true, recurses := true, apart := false }
def ScalarProductsSaid : Prop := scalarProductsRow.holds Try.pinned (OpenSpec.ofChange scalarProductsSpec)

/-- ITS FALSE NEIGHBOUR: 'it returns false'. Refute it at one input. -/
def scalarProductsWrong : ChangeSpec := { name := "scalarProducts", fn := fun _ => fun
  | [d1, d2] => { results := [.lit (.bool false)], args := [d1, d2] }
  | _ => none }
def ScalarProductsWrongFalsely : Prop := scalarProductsRow.holds Try.pinned (OpenSpec.ofChange scalarProductsWrong)

/-- 'sealwaxlaw04.ScalarFolds': WHATEVER THE INPUT: true; the input reads as it did. -/
def scalarFoldsSpec : ChangeSpec := { name := "scalarFolds", fn := fun _ => fun
  | [d1, d2] => { results := [.lit (.bool true)], args := [d1, d2] }
  | _ => none }
def scalarFoldsRow : OpenClaim := { program := "ytecphnhdcphgbaa", sum := "e8da6f8bfe66fb92d38289be94c60caf10c4f10c63cdcb7cf89d1891cddc3c4d", func := "sealwax/sealwaxlaw04.ScalarFolds", spec := "scalarFolds", inPlace := ["math/bits.Sub64", "math/bits.Add64"], unfollowed := true, recurses := true, apart := false }
def ScalarFoldsSaid : Prop := scalarFoldsRow.holds Try.pinned (OpenSpec.ofChange scalarFoldsSpec)

/-- ITS FALSE NEIGHBOUR: 'it returns false'. Refute it at one input. -/
def scalarFoldsWrong : ChangeSpec := { name := "scalarFolds", fn := fun _ => fun
  | [d1, d2] => { results := [.lit (.bool false)], args := [d1, d2] }
  | _ => none }
def ScalarFoldsWrongFalsely : Prop := scalarFoldsRow.holds Try.pinned (OpenSpec.ofChange scalarFoldsWrong)

/-- 'sealwaxlaw04.ScalarOrder': WHATEVER THE INPUT: true; the input reads as it did. -/
def scalarOrderSpec : ChangeSpec := { name := "scalarOrder", fn := fun _ => fun
  | [d1, d2, d3] => { results := [.lit (.bool true)], args := [d1, d2, d3] }
  | _ => none }
def scalarOrderRow : OpenClaim := { program := "ytecphnhdcphgbaa", sum := "e8da6f8bfe66fb92d38289be94c60caf10c4f10c63cdcb7cf89d1891cddc3c4d", func := "sealwax/sealwaxlaw04.ScalarOrder", spec := "scalarOrder", inPlace := ["math/bits.Add64", "math/bits.Sub64"], unfollowed := true, recurses := true, apart := false }
def ScalarOrderSaid : Prop := scalarOrderRow.holds Try.pinned (OpenSpec.ofChange scalarOrderSpec)

/-- ITS FALSE NEIGHBOUR: 'it returns false'. Refute it at one input. -/
def scalarOrderWrong : ChangeSpec := { name := "scalarOrder", fn := fun _ => fun
  | [d1, d2, d3] => { results := [.lit (.bool false)], args := [d1, d2, d3] }
  | _ => none }
def ScalarOrderWrongFalsely : Prop := scalarOrderRow.holds Try.pinned (OpenSpec.ofChange scalarOrderWrong)

/-- 'sealwaxlaw04.ScalarForm': WHATEVER THE INPUT: true; the input reads as it did. -/
def scalarFormSpec : ChangeSpec := { name := "scalarForm", fn := fun _ => fun
  | [d1, d2] => { results := [.lit (.bool true)], args := [d1, d2] }
  | _ => none }
def scalarFormRow : OpenClaim := { program := "ytecphnhdcphgbaa", sum := "e8da6f8bfe66fb92d38289be94c60caf10c4f10c63cdcb7cf89d1891cddc3c4d", func := "sealwax/sealwaxlaw04.ScalarForm", spec := "scalarForm", inPlace := ["math/bits.Sub64", "math/bits.Add64"], unfollowed := true, recurses := true, apart := false }
def ScalarFormSaid : Prop := scalarFormRow.holds Try.pinned (OpenSpec.ofChange scalarFormSpec)

/-- ITS FALSE NEIGHBOUR: 'it returns false'. Refute it at one input. -/
def scalarFormWrong : ChangeSpec := { name := "scalarForm", fn := fun _ => fun
  | [d1, d2] => { results := [.lit (.bool false)], args := [d1, d2] }
  | _ => none }
def ScalarFormWrongFalsely : Prop := scalarFormRow.holds Try.pinned (OpenSpec.ofChange scalarFormWrong)

/- THE SECOND FORM. 'bulk': how many values and letters a reading holds, each counted each time it is reached (what is shared counts as often as it is met; a slice's spare places count too). A statement '..UptoSaid' is the law's where the arguments, and the package variables that the reading takes, are together of bulk at most 1048576: NARROWER than '..Said'. Prove '..Said' where nothing that the law and all that it calls make is longer than what came in: it says more and counts as full. Else prove '..UptoSaid'. A law counts once. -/
mutual
def uptoBulk {H : Type} : DataW H → Nat
  | .lit (.string bytes) => bytes.length + 1
  | .lit _ => 1
  | .nil => 1
  | .ptr d => uptoBulk d + 1
  | .slice elems spare => uptoBulkAll elems + uptoBulkAll spare + 1
  | .agg parts => uptoBulkAll parts + 1
  | .iface _ d => uptoBulk d + 1
  | .map entries => uptoBulkEntries entries + 1
  | .held _ => 1
def uptoBulkAll {H : Type} : List (DataW H) → Nat
  | [] => 0
  | d :: r => uptoBulk d + uptoBulkAll r
def uptoBulkEntries {H : Type} : List (Lit × DataW H) → Nat
  | [] => 0
  | x :: r => uptoBulkEntry x + uptoBulkEntries r
def uptoBulkEntry {H : Type} : Lit × DataW H → Nat
  | (.string bytes, d) => bytes.length + uptoBulk d + 1
  | (_, d) => uptoBulk d + 1
 end
def uptoSmall : (H : Type) → List (DataW H) → Bool := fun _ ds => decide (uptoBulkAll ds ≤ 1048576)
def OpenSpec.upto (s : _root_.Go.ChangeSpec) : _root_.Go.OpenSpec := { _root_.Go.OpenSpec.ofChange s with cond := some uptoSmall }

/-- 'sealwaxlaw04.ScalarReads', WHERE WHAT IT READS IS OF BULK AT MOST 1048576: true; the input reads as it did. -/
def scalarReadsUptoRow : OpenClaim := { program := "ytecphnhdcphgbaa", sum := "e8da6f8bfe66fb92d38289be94c60caf10c4f10c63cdcb7cf89d1891cddc3c4d", func := "sealwax/sealwaxlaw04.ScalarReads", spec := "scalarReads", inPlace := ["math/bits.Sub64", "math/bits.Add64"], unfollowed := true, recurses := true, apart := false, narrowed := true }
def ScalarReadsUptoSaid : Prop := scalarReadsUptoRow.holds Try.pinned (OpenSpec.upto scalarReadsSpec)

/-- 'sealwaxlaw04.ScalarLeft', WHERE WHAT IT READS IS OF BULK AT MOST 1048576: true; the input reads as it did. -/
def scalarLeftUptoRow : OpenClaim := { program := "ytecphnhdcphgbaa", sum := "e8da6f8bfe66fb92d38289be94c60caf10c4f10c63cdcb7cf89d1891cddc3c4d", func := "sealwax/sealwaxlaw04.ScalarLeft", spec := "scalarLeft", inPlace := ["math/bits.Sub64", "math/bits.Add64"], unfollowed := true, recurses := true, apart := false, narrowed := true }
def ScalarLeftUptoSaid : Prop := scalarLeftUptoRow.holds Try.pinned (OpenSpec.upto scalarLeftSpec)

/-- 'sealwaxlaw04.ScalarSums', WHERE WHAT IT READS IS OF BULK AT MOST 1048576: true; the input reads as it did. -/
def scalarSumsUptoRow : OpenClaim := { program := "ytecphnhdcphgbaa", sum := "e8da6f8bfe66fb92d38289be94c60caf10c4f10c63cdcb7cf89d1891cddc3c4d", func := "sealwax/sealwaxlaw04.ScalarSums", spec := "scalarSums", inPlace := ["math/bits.Add64", "math/bits.Sub64"], unfollowed := true, recurses := true, apart := false, narrowed := true }
def ScalarSumsUptoSaid : Prop := scalarSumsUptoRow.holds Try.pinned (OpenSpec.upto scalarSumsSpec)

/-- 'sealwaxlaw04.ScalarProducts', WHERE WHAT IT READS IS OF BULK AT MOST 1048576: true; the input reads as it did. -/
def scalarProductsUptoRow : OpenClaim := { program := "ytecphnhdcphgbaa", sum := "e8da6f8bfe66fb92d38289be94c60caf10c4f10c63cdcb7cf89d1891cddc3c4d", func := "sealwax/sealwaxlaw04.ScalarProducts", spec := "scalarProducts", inPlace := ["math/bits.Add64", "math/bits.Sub64"], unfollowed := true, recurses := true, apart := false, narrowed := true }
def ScalarProductsUptoSaid : Prop := scalarProductsUptoRow.holds Try.pinned (OpenSpec.upto scalarProductsSpec)

/-- 'sealwaxlaw04.ScalarFolds', WHERE WHAT IT READS IS OF BULK AT MOST 1048576: true; the input reads as it did. -/
def scalarFoldsUptoRow : OpenClaim := { program := "ytecphnhdcphgbaa", sum := "e8da6f8bfe66fb92d38289be94c60caf10c4f10c63cdcb7cf89d1891cddc3c4d", func := "sealwax/sealwaxlaw04.ScalarFolds", spec := "scalarFolds", inPlace := ["math/bits.Sub64", "math/bits.Add64"], unfollowed := true, recurses := true, apart := false, narrowed := true }
def ScalarFoldsUptoSaid : Prop := scalarFoldsUptoRow.holds Try.pinned (OpenSpec.upto scalarFoldsSpec)

/-- 'sealwaxlaw04.ScalarOrder', WHERE WHAT IT READS IS OF BULK AT MOST 1048576: true; the input reads as it did. -/
def scalarOrderUptoRow : OpenClaim := { program := "ytecphnhdcphgbaa", sum := "e8da6f8bfe66fb92d38289be94c60caf10c4f10c63cdcb7cf89d1891cddc3c4d", func := "sealwax/sealwaxlaw04.ScalarOrder", spec := "scalarOrder", inPlace := ["math/bits.Add64", "math/bits.Sub64"], unfollowed := true, recurses := true, apart := false, narrowed := true }
def ScalarOrderUptoSaid : Prop := scalarOrderUptoRow.holds Try.pinned (OpenSpec.upto scalarOrderSpec)

/-- 'sealwaxlaw04.ScalarForm', WHERE WHAT IT READS IS OF BULK AT MOST 1048576: true; the input reads as it did. -/
def scalarFormUptoRow : OpenClaim := { program := "ytecphnhdcphgbaa", sum := "e8da6f8bfe66fb92d38289be94c60caf10c4f10c63cdcb7cf89d1891cddc3c4d", func := "sealwax/sealwaxlaw04.ScalarForm", spec := "scalarForm", inPlace := ["math/bits.Sub64", "math/bits.Add64"], unfollowed := true, recurses := true, apart := false, narrowed := true }
def ScalarFormUptoSaid : Prop := scalarFormUptoRow.holds Try.pinned (OpenSpec.upto scalarFormSpec)

end Rows
end Go.Proofs.Ytecphnhdcphgbaa
