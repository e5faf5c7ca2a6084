/-
  NARROWER THAN 'FOR EVERY INPUT', by the rows' own cells (each row's printed sentence says how): AeadSeals: laid · AeadOpens: laid · AeadBack: laid · AeadForm: laid.
  DERIVED. THE GIVEN ROWS OF THIS SEAT. 4 by the template 'for every input the law returns true; each argument reads behind the call as it read before'; 0 by the template 'total and deterministic' (their statements: YtmhfkabpfkoocaaDoorTotals.lean).
  GIVEN WITH THE SEED: the statements are not yours to turn. If you find one false, say at which input.
  Laid BY PROGRAM, IN A SANDBOX (cutbox-rows.mjs): the forced cells as the released guide's own fill.sh prints them over the translation b576763de9bc33e9… (all of the seat's roots in one cut). By AI agents, Wed Nov 11 2026. No macro, syntax, notation, axiom, sorry.
-/
import Derived.Test.YtmhfkabpfkoocaaDoorChecked
import GoSem.Claim
import GoSem.ClaimJoined
import GoSem.ClaimMapViews
import Derived.JoinedTies
import Derived.KernelRfl
namespace Go.Proofs.YtmhfkabpfkoocaaDoor
/- THE CELL 'sum', in the pinned program and in every row, IS THE sha256 OF THE DUMP (.gsa) THAT YtmhfkabpfkoocaaDoorProg.lean LOADS. Nothing in Lean hashes anything: it is a label: what it is worth is what the hold of that sum in a sandbox is worth. -/
noncomputable def Tryd.pinned : Pinned := { name := "ytmhfkabpfkoocaadoor", sum := "b576763de9bc33e9e4ee7a3a8b1dbe831d02fe75fcbc9822f2d89b3c14d08140", checked := Tryd.checked }
namespace Rows
def none {H : Type} : Left H := { results := [], args := [] }

/- WHAT THE LISTED PACKAGE-LEVEL VARIABLES READ AS WHEN THE CALL BEGINS. Each datum BY PROGRAM (the guide's laid-datum.mjs) off the statement by which the dump's own 'gosem.cut.vars' lays the variable. In a bare row this is a premise. The card (YtmhfkabpfkoocaaDoorCards.lean) ties it to the program's text. -/
def laid_sealwax_poly_cuts {H : Type} : DataW H := .agg [.lit (.int .u8 0), .lit (.int .u8 0), .lit (.int .u8 0), .lit (.int .u8 240), .lit (.int .u8 3), .lit (.int .u8 0), .lit (.int .u8 0), .lit (.int .u8 240), .lit (.int .u8 3), .lit (.int .u8 0), .lit (.int .u8 0), .lit (.int .u8 240), .lit (.int .u8 3), .lit (.int .u8 0), .lit (.int .u8 0), .lit (.int .u8 240)]

/-- 'sealwaxlaw12.AeadSeals': WHATEVER THE INPUT: true; the input reads as it did. -/
def aeadSealsSpec : ChangeSpec := { name := "aeadSeals", fn := fun _ => fun
  | [d] => { results := [.lit (.bool true)], args := [d] }
  | _ => none }
def aeadSealsRow : OpenClaim := { program := "ytmhfkabpfkoocaadoor", sum := "b576763de9bc33e9e4ee7a3a8b1dbe831d02fe75fcbc9822f2d89b3c14d08140", func := "sealwax/sealwaxlaw12.AeadSeals", spec := "aeadSeals", inPlace := ["math/bits.Add64", "math/bits.Sub64"], named := ["sealwax/poly.cuts"], apart := false, laid := [("sealwax/poly.cuts", laid_sealwax_poly_cuts)] }
def AeadSealsSaid : Prop := aeadSealsRow.holds Tryd.pinned (OpenSpec.ofChange aeadSealsSpec)

/-- ITS FALSE NEIGHBOUR: 'it returns false'. Refute it at one input. -/
def aeadSealsWrong : ChangeSpec := { name := "aeadSeals", fn := fun _ => fun
  | [d] => { results := [.lit (.bool false)], args := [d] }
  | _ => none }
def AeadSealsWrongFalsely : Prop := aeadSealsRow.holds Tryd.pinned (OpenSpec.ofChange aeadSealsWrong)

/-- 'sealwaxlaw12.AeadOpens': WHATEVER THE INPUT: true; the input reads as it did. -/
def aeadOpensSpec : ChangeSpec := { name := "aeadOpens", fn := fun _ => fun
  | [d] => { results := [.lit (.bool true)], args := [d] }
  | _ => none }
def aeadOpensRow : OpenClaim := { program := "ytmhfkabpfkoocaadoor", sum := "b576763de9bc33e9e4ee7a3a8b1dbe831d02fe75fcbc9822f2d89b3c14d08140", func := "sealwax/sealwaxlaw12.AeadOpens", spec := "aeadOpens", inPlace := ["math/bits.Add64", "math/bits.Sub64"], named := ["sealwax/poly.cuts"], apart := false, laid := [("sealwax/poly.cuts", laid_sealwax_poly_cuts)] }
def AeadOpensSaid : Prop := aeadOpensRow.holds Tryd.pinned (OpenSpec.ofChange aeadOpensSpec)

/-- ITS FALSE NEIGHBOUR: 'it returns false'. Refute it at one input. -/
def aeadOpensWrong : ChangeSpec := { name := "aeadOpens", fn := fun _ => fun
  | [d] => { results := [.lit (.bool false)], args := [d] }
  | _ => none }
def AeadOpensWrongFalsely : Prop := aeadOpensRow.holds Tryd.pinned (OpenSpec.ofChange aeadOpensWrong)

/-- 'sealwaxlaw12.AeadBack': WHATEVER THE INPUT: true; the input reads as it did. -/
def aeadBackSpec : ChangeSpec := { name := "aeadBack", fn := fun _ => fun
  | [d] => { results := [.lit (.bool true)], args := [d] }
  | _ => none }
def aeadBackRow : OpenClaim := { program := "ytmhfkabpfkoocaadoor", sum := "b576763de9bc33e9e4ee7a3a8b1dbe831d02fe75fcbc9822f2d89b3c14d08140", func := "sealwax/sealwaxlaw12.AeadBack", spec := "aeadBack", inPlace := ["math/bits.Add64", "math/bits.Sub64"], named := ["sealwax/poly.cuts"], apart := false, laid := [("sealwax/poly.cuts", laid_sealwax_poly_cuts)] }
def AeadBackSaid : Prop := aeadBackRow.holds Tryd.pinned (OpenSpec.ofChange aeadBackSpec)

/-- ITS FALSE NEIGHBOUR: 'it returns false'. Refute it at one input. -/
def aeadBackWrong : ChangeSpec := { name := "aeadBack", fn := fun _ => fun
  | [d] => { results := [.lit (.bool false)], args := [d] }
  | _ => none }
def AeadBackWrongFalsely : Prop := aeadBackRow.holds Tryd.pinned (OpenSpec.ofChange aeadBackWrong)

/-- 'sealwaxlaw12.AeadForm': WHATEVER THE INPUT: true; the input reads as it did. -/
def aeadFormSpec : ChangeSpec := { name := "aeadForm", fn := fun _ => fun
  | [d] => { results := [.lit (.bool true)], args := [d] }
  | _ => none }
def aeadFormRow : OpenClaim := { program := "ytmhfkabpfkoocaadoor", sum := "b576763de9bc33e9e4ee7a3a8b1dbe831d02fe75fcbc9822f2d89b3c14d08140", func := "sealwax/sealwaxlaw12.AeadForm", spec := "aeadForm", inPlace := ["math/bits.Add64", "math/bits.Sub64"], named := ["sealwax/poly.cuts"], apart := false, laid := [("sealwax/poly.cuts", laid_sealwax_poly_cuts)] }
def AeadFormSaid : Prop := aeadFormRow.holds Tryd.pinned (OpenSpec.ofChange aeadFormSpec)

/-- ITS FALSE NEIGHBOUR: 'it returns false'. Refute it at one input. -/
def aeadFormWrong : ChangeSpec := { name := "aeadForm", fn := fun _ => fun
  | [d] => { results := [.lit (.bool false)], args := [d] }
  | _ => none }
def AeadFormWrongFalsely : Prop := aeadFormRow.holds Tryd.pinned (OpenSpec.ofChange aeadFormWrong)

/- THE SECOND FORM. 'bulk': how many values and letters a reading holds, each counted each time it is reached (what is shared counts as often as it is met; a slice's spare places count too). A statement '..UptoSaid' is the law's where the arguments, and the package variables that the reading takes, are together of bulk at most 1048576: NARROWER than '..Said'. Prove '..Said' where nothing that the law and all that it calls make is longer than what came in: it says more and counts as full. Else prove '..UptoSaid'. A law counts once. -/
mutual
def uptoBulk {H : Type} : DataW H → Nat
  | .lit (.string bytes) => bytes.length + 1
  | .lit _ => 1
  | .nil => 1
  | .ptr d => uptoBulk d + 1
  | .slice elems spare => uptoBulkAll elems + uptoBulkAll spare + 1
  | .agg parts => uptoBulkAll parts + 1
  | .iface _ d => uptoBulk d + 1
  | .map entries => uptoBulkEntries entries + 1
  | .held _ => 1
def uptoBulkAll {H : Type} : List (DataW H) → Nat
  | [] => 0
  | d :: r => uptoBulk d + uptoBulkAll r
def uptoBulkEntries {H : Type} : List (Lit × DataW H) → Nat
  | [] => 0
  | x :: r => uptoBulkEntry x + uptoBulkEntries r
def uptoBulkEntry {H : Type} : Lit × DataW H → Nat
  | (.string bytes, d) => bytes.length + uptoBulk d + 1
  | (_, d) => uptoBulk d + 1
 end
def uptoSmall : (H : Type) → List (DataW H) → Bool := fun _ ds => decide (uptoBulkAll ds ≤ 1048576)
def OpenSpec.upto (s : _root_.Go.ChangeSpec) : _root_.Go.OpenSpec := { _root_.Go.OpenSpec.ofChange s with cond := some uptoSmall }

/-- 'sealwaxlaw12.AeadSeals', WHERE WHAT IT READS IS OF BULK AT MOST 1048576: true; the input reads as it did. -/
def aeadSealsUptoRow : OpenClaim := { program := "ytmhfkabpfkoocaadoor", sum := "b576763de9bc33e9e4ee7a3a8b1dbe831d02fe75fcbc9822f2d89b3c14d08140", func := "sealwax/sealwaxlaw12.AeadSeals", spec := "aeadSeals", inPlace := ["math/bits.Add64", "math/bits.Sub64"], named := ["sealwax/poly.cuts"], apart := false, laid := [("sealwax/poly.cuts", laid_sealwax_poly_cuts)], narrowed := true }
def AeadSealsUptoSaid : Prop := aeadSealsUptoRow.holds Tryd.pinned (OpenSpec.upto aeadSealsSpec)

/-- 'sealwaxlaw12.AeadOpens', WHERE WHAT IT READS IS OF BULK AT MOST 1048576: true; the input reads as it did. -/
def aeadOpensUptoRow : OpenClaim := { program := "ytmhfkabpfkoocaadoor", sum := "b576763de9bc33e9e4ee7a3a8b1dbe831d02fe75fcbc9822f2d89b3c14d08140", func := "sealwax/sealwaxlaw12.AeadOpens", spec := "aeadOpens", inPlace := ["math/bits.Add64", "math/bits.Sub64"], named := ["sealwax/poly.cuts"], apart := false, laid := [("sealwax/poly.cuts", laid_sealwax_poly_cuts)], narrowed := true }
def AeadOpensUptoSaid : Prop := aeadOpensUptoRow.holds Tryd.pinned (OpenSpec.upto aeadOpensSpec)

/-- 'sealwaxlaw12.AeadBack', WHERE WHAT IT READS IS OF BULK AT MOST 1048576: true; the input reads as it did. -/
def aeadBackUptoRow : OpenClaim := { program := "ytmhfkabpfkoocaadoor", sum := "b576763de9bc33e9e4ee7a3a8b1dbe831d02fe75fcbc9822f2d89b3c14d08140", func := "sealwax/sealwaxlaw12.AeadBack", spec := "aeadBack", inPlace := ["math/bits.Add64", "math/bits.Sub64"], named := ["sealwax/poly.cuts"], apart := false, laid := [("sealwax/poly.cuts", laid_sealwax_poly_cuts)], narrowed := true }
def AeadBackUptoSaid : Prop := aeadBackUptoRow.holds Tryd.pinned (OpenSpec.upto aeadBackSpec)

/-- 'sealwaxlaw12.AeadForm', WHERE WHAT IT READS IS OF BULK AT MOST 1048576: true; the input reads as it did. -/
def aeadFormUptoRow : OpenClaim := { program := "ytmhfkabpfkoocaadoor", sum := "b576763de9bc33e9e4ee7a3a8b1dbe831d02fe75fcbc9822f2d89b3c14d08140", func := "sealwax/sealwaxlaw12.AeadForm", spec := "aeadForm", inPlace := ["math/bits.Add64", "math/bits.Sub64"], named := ["sealwax/poly.cuts"], apart := false, laid := [("sealwax/poly.cuts", laid_sealwax_poly_cuts)], narrowed := true }
def AeadFormUptoSaid : Prop := aeadFormUptoRow.holds Tryd.pinned (OpenSpec.upto aeadFormSpec)

end Rows
end Go.Proofs.YtmhfkabpfkoocaaDoor
