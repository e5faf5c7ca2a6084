/-
  NARROWER THAN 'FOR EVERY INPUT', by the rows' own cells (each row's printed sentence says how): PolyCuts: laid · PolyTags: laid · PolyBits: laid · PolyOne: laid.
  DERIVED. THE GIVEN ROWS OF THIS SEAT. 4 by the template 'for every input the law returns true; each argument reads behind the call as it read before'; 0 by the template 'total and deterministic' (their statements: YtfpojgclebaffaaDoorTotals.lean).
  GIVEN WITH THE SEED: the statements are not yours to turn. If you find one false, say at which input.
  Laid BY PROGRAM, IN A SANDBOX (cutbox-rows.mjs): the forced cells as the released guide's own fill.sh prints them over the translation 1d324706bba5b278… (all of the seat's roots in one cut). By AI agents, Wed Nov 11 2026. No macro, syntax, notation, axiom, sorry.
-/
import Derived.Test.YtfpojgclebaffaaDoorChecked
import GoSem.Claim
import GoSem.ClaimJoined
import GoSem.ClaimMapViews
import Derived.JoinedTies
import Derived.KernelRfl
namespace Go.Proofs.YtfpojgclebaffaaDoor
/- THE CELL 'sum', in the pinned program and in every row, IS THE sha256 OF THE DUMP (.gsa) THAT YtfpojgclebaffaaDoorProg.lean LOADS. Nothing in Lean hashes anything: it is a label: what it is worth is what the hold of that sum in a sandbox is worth. -/
noncomputable def Tryd.pinned : Pinned := { name := "ytfpojgclebaffaadoor", sum := "1d324706bba5b278413049646ca12938118c11355f0bd3a5ef70633c77dbe9ac", checked := Tryd.checked }
namespace Rows
def none {H : Type} : Left H := { results := [], args := [] }

/- WHAT THE LISTED PACKAGE-LEVEL VARIABLES READ AS WHEN THE CALL BEGINS. Each datum BY PROGRAM (the guide's laid-datum.mjs) off the statement by which the dump's own 'gosem.cut.vars' lays the variable. In a bare row this is a premise. The card (YtfpojgclebaffaaDoorCards.lean) ties it to the program's text. -/
def laid_sealwax_poly_cuts {H : Type} : DataW H := .agg [.lit (.int .u8 0), .lit (.int .u8 0), .lit (.int .u8 0), .lit (.int .u8 240), .lit (.int .u8 3), .lit (.int .u8 0), .lit (.int .u8 0), .lit (.int .u8 240), .lit (.int .u8 3), .lit (.int .u8 0), .lit (.int .u8 0), .lit (.int .u8 240), .lit (.int .u8 3), .lit (.int .u8 0), .lit (.int .u8 0), .lit (.int .u8 240)]

/-- 'sealwaxlaw11.PolyCuts': WHATEVER THE INPUT: true; the input reads as it did. -/
def polyCutsSpec : ChangeSpec := { name := "polyCuts", fn := fun _ => fun
  | [d] => { results := [.lit (.bool true)], args := [d] }
  | _ => none }
def polyCutsRow : OpenClaim := { program := "ytfpojgclebaffaadoor", sum := "1d324706bba5b278413049646ca12938118c11355f0bd3a5ef70633c77dbe9ac", func := "sealwax/sealwaxlaw11.PolyCuts", spec := "polyCuts", inPlace := ["math/bits.Add64", "math/bits.Sub64"], named := ["sealwax/poly.cuts"], apart := false, laid := [("sealwax/poly.cuts", laid_sealwax_poly_cuts)] }
def PolyCutsSaid : Prop := polyCutsRow.holds Tryd.pinned (OpenSpec.ofChange polyCutsSpec)

/-- ITS FALSE NEIGHBOUR: 'it returns false'. Refute it at one input. -/
def polyCutsWrong : ChangeSpec := { name := "polyCuts", fn := fun _ => fun
  | [d] => { results := [.lit (.bool false)], args := [d] }
  | _ => none }
def PolyCutsWrongFalsely : Prop := polyCutsRow.holds Tryd.pinned (OpenSpec.ofChange polyCutsWrong)

/-- 'sealwaxlaw11.PolyTags': WHATEVER THE INPUT: true; the input reads as it did. -/
def polyTagsSpec : ChangeSpec := { name := "polyTags", fn := fun _ => fun
  | [d1, d2] => { results := [.lit (.bool true)], args := [d1, d2] }
  | _ => none }
def polyTagsRow : OpenClaim := { program := "ytfpojgclebaffaadoor", sum := "1d324706bba5b278413049646ca12938118c11355f0bd3a5ef70633c77dbe9ac", func := "sealwax/sealwaxlaw11.PolyTags", spec := "polyTags", inPlace := ["math/bits.Add64", "math/bits.Sub64"], named := ["sealwax/poly.cuts"], apart := false, laid := [("sealwax/poly.cuts", laid_sealwax_poly_cuts)] }
def PolyTagsSaid : Prop := polyTagsRow.holds Tryd.pinned (OpenSpec.ofChange polyTagsSpec)

/-- ITS FALSE NEIGHBOUR: 'it returns false'. Refute it at one input. -/
def polyTagsWrong : ChangeSpec := { name := "polyTags", fn := fun _ => fun
  | [d1, d2] => { results := [.lit (.bool false)], args := [d1, d2] }
  | _ => none }
def PolyTagsWrongFalsely : Prop := polyTagsRow.holds Tryd.pinned (OpenSpec.ofChange polyTagsWrong)

/-- 'sealwaxlaw11.PolyBits': WHATEVER THE INPUT: true; the input reads as it did. -/
def polyBitsSpec : ChangeSpec := { name := "polyBits", fn := fun _ => fun
  | [d1, d2] => { results := [.lit (.bool true)], args := [d1, d2] }
  | _ => none }
def polyBitsRow : OpenClaim := { program := "ytfpojgclebaffaadoor", sum := "1d324706bba5b278413049646ca12938118c11355f0bd3a5ef70633c77dbe9ac", func := "sealwax/sealwaxlaw11.PolyBits", spec := "polyBits", inPlace := ["math/bits.Add64", "math/bits.Sub64"], named := ["sealwax/poly.cuts"], apart := false, laid := [("sealwax/poly.cuts", laid_sealwax_poly_cuts)] }
def PolyBitsSaid : Prop := polyBitsRow.holds Tryd.pinned (OpenSpec.ofChange polyBitsSpec)

/-- ITS FALSE NEIGHBOUR: 'it returns false'. Refute it at one input. -/
def polyBitsWrong : ChangeSpec := { name := "polyBits", fn := fun _ => fun
  | [d1, d2] => { results := [.lit (.bool false)], args := [d1, d2] }
  | _ => none }
def PolyBitsWrongFalsely : Prop := polyBitsRow.holds Tryd.pinned (OpenSpec.ofChange polyBitsWrong)

/-- 'sealwaxlaw11.PolyOne': WHATEVER THE INPUT: true; the input reads as it did. -/
def polyOneSpec : ChangeSpec := { name := "polyOne", fn := fun _ => fun
  | [d1, d2] => { results := [.lit (.bool true)], args := [d1, d2] }
  | _ => none }
def polyOneRow : OpenClaim := { program := "ytfpojgclebaffaadoor", sum := "1d324706bba5b278413049646ca12938118c11355f0bd3a5ef70633c77dbe9ac", func := "sealwax/sealwaxlaw11.PolyOne", spec := "polyOne", inPlace := ["math/bits.Add64", "math/bits.Sub64"], named := ["sealwax/poly.cuts"], apart := false, laid := [("sealwax/poly.cuts", laid_sealwax_poly_cuts)] }
def PolyOneSaid : Prop := polyOneRow.holds Tryd.pinned (OpenSpec.ofChange polyOneSpec)

/-- ITS FALSE NEIGHBOUR: 'it returns false'. Refute it at one input. -/
def polyOneWrong : ChangeSpec := { name := "polyOne", fn := fun _ => fun
  | [d1, d2] => { results := [.lit (.bool false)], args := [d1, d2] }
  | _ => none }
def PolyOneWrongFalsely : Prop := polyOneRow.holds Tryd.pinned (OpenSpec.ofChange polyOneWrong)

/- THE SECOND FORM. 'bulk': how many values and letters a reading holds, each counted each time it is reached (what is shared counts as often as it is met; a slice's spare places count too). A statement '..UptoSaid' is the law's where the arguments, and the package variables that the reading takes, are together of bulk at most 1048576: NARROWER than '..Said'. Prove '..Said' where nothing that the law and all that it calls make is longer than what came in: it says more and counts as full. Else prove '..UptoSaid'. A law counts once. -/
mutual
def uptoBulk {H : Type} : DataW H → Nat
  | .lit (.string bytes) => bytes.length + 1
  | .lit _ => 1
  | .nil => 1
  | .ptr d => uptoBulk d + 1
  | .slice elems spare => uptoBulkAll elems + uptoBulkAll spare + 1
  | .agg parts => uptoBulkAll parts + 1
  | .iface _ d => uptoBulk d + 1
  | .map entries => uptoBulkEntries entries + 1
  | .held _ => 1
def uptoBulkAll {H : Type} : List (DataW H) → Nat
  | [] => 0
  | d :: r => uptoBulk d + uptoBulkAll r
def uptoBulkEntries {H : Type} : List (Lit × DataW H) → Nat
  | [] => 0
  | x :: r => uptoBulkEntry x + uptoBulkEntries r
def uptoBulkEntry {H : Type} : Lit × DataW H → Nat
  | (.string bytes, d) => bytes.length + uptoBulk d + 1
  | (_, d) => uptoBulk d + 1
 end
def uptoSmall : (H : Type) → List (DataW H) → Bool := fun _ ds => decide (uptoBulkAll ds ≤ 1048576)
def OpenSpec.upto (s : _root_.Go.ChangeSpec) : _root_.Go.OpenSpec := { _root_.Go.OpenSpec.ofChange s with cond := some uptoSmall }

/-- 'sealwaxlaw11.PolyCuts', WHERE WHAT IT READS IS OF BULK AT MOST 1048576: true; the input reads as it did. -/
def polyCutsUptoRow : OpenClaim := { program := "ytfpojgclebaffaadoor", sum := "1d324706bba5b278413049646ca12938118c11355f0bd3a5ef70633c77dbe9ac", func := "sealwax/sealwaxlaw11.PolyCuts", spec := "polyCuts", inPlace := ["math/bits.Add64", "math/bits.Sub64"], named := ["sealwax/poly.cuts"], apart := false, laid := [("sealwax/poly.cuts", laid_sealwax_poly_cuts)], narrowed := true }
def PolyCutsUptoSaid : Prop := polyCutsUptoRow.holds Tryd.pinned (OpenSpec.upto polyCutsSpec)

/-- 'sealwaxlaw11.PolyTags', WHERE WHAT IT READS IS OF BULK AT MOST 1048576: true; the input reads as it did. -/
def polyTagsUptoRow : OpenClaim := { program := "ytfpojgclebaffaadoor", sum := "1d324706bba5b278413049646ca12938118c11355f0bd3a5ef70633c77dbe9ac", func := "sealwax/sealwaxlaw11.PolyTags", spec := "polyTags", inPlace := ["math/bits.Add64", "math/bits.Sub64"], named := ["sealwax/poly.cuts"], apart := false, laid := [("sealwax/poly.cuts", laid_sealwax_poly_cuts)], narrowed := true }
def PolyTagsUptoSaid : Prop := polyTagsUptoRow.holds Tryd.pinned (OpenSpec.upto polyTagsSpec)

/-- 'sealwaxlaw11.PolyBits', WHERE WHAT IT READS IS OF BULK AT MOST 1048576: true; the input reads as it did. -/
def polyBitsUptoRow : OpenClaim := { program := "ytfpojgclebaffaadoor", sum := "1d324706bba5b278413049646ca12938118c11355f0bd3a5ef70633c77dbe9ac", func := "sealwax/sealwaxlaw11.PolyBits", spec := "polyBits", inPlace := ["math/bits.Add64", "math/bits.Sub64"], named := ["sealwax/poly.cuts"], apart := false, laid := [("sealwax/poly.cuts", laid_sealwax_poly_cuts)], narrowed := true }
def PolyBitsUptoSaid : Prop := polyBitsUptoRow.holds Tryd.pinned (OpenSpec.upto polyBitsSpec)

/-- 'sealwaxlaw11.PolyOne', WHERE WHAT IT READS IS OF BULK AT MOST 1048576: true; the input reads as it did. -/
def polyOneUptoRow : OpenClaim := { program := "ytfpojgclebaffaadoor", sum := "1d324706bba5b278413049646ca12938118c11355f0bd3a5ef70633c77dbe9ac", func := "sealwax/sealwaxlaw11.PolyOne", spec := "polyOne", inPlace := ["math/bits.Add64", "math/bits.Sub64"], named := ["sealwax/poly.cuts"], apart := false, laid := [("sealwax/poly.cuts", laid_sealwax_poly_cuts)], narrowed := true }
def PolyOneUptoSaid : Prop := polyOneUptoRow.holds Tryd.pinned (OpenSpec.upto polyOneSpec)

end Rows
end Go.Proofs.YtfpojgclebaffaaDoor
