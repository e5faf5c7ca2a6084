/-
  NARROWER THAN 'FOR EVERY INPUT', by the rows' own cells (each row's printed sentence says how): OctetEquals: laid · OctetXors: laid · OctetPicks: laid · OctetJoins: laid · OctetDigits: laid · OctetNumbers: laid · OctetBack: laid · OctetTwice: laid · OctetOnce: laid.
  DERIVED. THE GIVEN ROWS OF THIS SEAT. 9 by the template 'for every input the law returns true; each argument reads behind the call as it read before'; 0 by the template 'total and deterministic' (their statements: YtebhefgfebghkaaDoorTotals.lean).
  GIVEN WITH THE SEED: the statements are not yours to turn. If you find one false, say at which input.
  Laid BY PROGRAM, IN A SANDBOX (cutbox-rows.mjs): the forced cells as the released guide's own fill.sh prints them over the translation 9420337aad03c780… (all of the seat's roots in one cut). By AI agents, Wed Nov 11 2026. No macro, syntax, notation, axiom, sorry.
-/
import Derived.Test.YtebhefgfebghkaaDoorChecked
import GoSem.Claim
import GoSem.ClaimJoined
import GoSem.ClaimMapViews
import Derived.JoinedTies
import Derived.KernelRfl
namespace Go.Proofs.YtebhefgfebghkaaDoor
/- THE CELL 'sum', in the pinned program and in every row, IS THE sha256 OF THE DUMP (.gsa) THAT YtebhefgfebghkaaDoorProg.lean LOADS. Nothing in Lean hashes anything: it is a label: what it is worth is what the hold of that sum in a sandbox is worth. -/
noncomputable def Tryd.pinned : Pinned := { name := "ytebhefgfebghkaadoor", sum := "9420337aad03c780340f0a6218713e0290d6f6e40bde4f5f9b2239def1dd402a", checked := Tryd.checked }
namespace Rows
def none {H : Type} : Left H := { results := [], args := [] }

/- WHAT THE LISTED PACKAGE-LEVEL VARIABLES READ AS WHEN THE CALL BEGINS. Each datum BY PROGRAM (the guide's laid-datum.mjs) off the statement by which the dump's own 'gosem.cut.vars' lays the variable. In a bare row this is a premise. The card (YtebhefgfebghkaaDoorCards.lean) ties it to the program's text. -/
def laid_sealwax_octet_digits {H : Type} : DataW H := .agg [.lit (.int .u8 48), .lit (.int .u8 49), .lit (.int .u8 50), .lit (.int .u8 51), .lit (.int .u8 52), .lit (.int .u8 53), .lit (.int .u8 54), .lit (.int .u8 55), .lit (.int .u8 56), .lit (.int .u8 57), .lit (.int .u8 97), .lit (.int .u8 98), .lit (.int .u8 99), .lit (.int .u8 100), .lit (.int .u8 101), .lit (.int .u8 102)]

/-- 'sealwaxlaw01.OctetEquals': WHATEVER THE INPUT: true; the input reads as it did. -/
def octetEqualsSpec : ChangeSpec := { name := "octetEquals", fn := fun _ => fun
  | [d1, d2] => { results := [.lit (.bool true)], args := [d1, d2] }
  | _ => none }
def octetEqualsRow : OpenClaim := { program := "ytebhefgfebghkaadoor", sum := "9420337aad03c780340f0a6218713e0290d6f6e40bde4f5f9b2239def1dd402a", func := "sealwax/sealwaxlaw01.OctetEquals", spec := "octetEquals", named := ["sealwax/octet.digits"], apart := false, laid := [("sealwax/octet.digits", laid_sealwax_octet_digits)] }
def OctetEqualsSaid : Prop := octetEqualsRow.holds Tryd.pinned (OpenSpec.ofChange octetEqualsSpec)

/-- ITS FALSE NEIGHBOUR: 'it returns false'. Refute it at one input. -/
def octetEqualsWrong : ChangeSpec := { name := "octetEquals", fn := fun _ => fun
  | [d1, d2] => { results := [.lit (.bool false)], args := [d1, d2] }
  | _ => none }
def OctetEqualsWrongFalsely : Prop := octetEqualsRow.holds Tryd.pinned (OpenSpec.ofChange octetEqualsWrong)

/-- 'sealwaxlaw01.OctetXors': WHATEVER THE INPUT: true; the input reads as it did. -/
def octetXorsSpec : ChangeSpec := { name := "octetXors", fn := fun _ => fun
  | [d1, d2] => { results := [.lit (.bool true)], args := [d1, d2] }
  | _ => none }
def octetXorsRow : OpenClaim := { program := "ytebhefgfebghkaadoor", sum := "9420337aad03c780340f0a6218713e0290d6f6e40bde4f5f9b2239def1dd402a", func := "sealwax/sealwaxlaw01.OctetXors", spec := "octetXors", named := ["sealwax/octet.digits"], apart := false, laid := [("sealwax/octet.digits", laid_sealwax_octet_digits)] }
def OctetXorsSaid : Prop := octetXorsRow.holds Tryd.pinned (OpenSpec.ofChange octetXorsSpec)

/-- ITS FALSE NEIGHBOUR: 'it returns false'. Refute it at one input. -/
def octetXorsWrong : ChangeSpec := { name := "octetXors", fn := fun _ => fun
  | [d1, d2] => { results := [.lit (.bool false)], args := [d1, d2] }
  | _ => none }
def OctetXorsWrongFalsely : Prop := octetXorsRow.holds Tryd.pinned (OpenSpec.ofChange octetXorsWrong)

/-- 'sealwaxlaw01.OctetPicks': WHATEVER THE INPUT: true; the input reads as it did. -/
def octetPicksSpec : ChangeSpec := { name := "octetPicks", fn := fun _ => fun
  | [d1, d2, d3] => { results := [.lit (.bool true)], args := [d1, d2, d3] }
  | _ => none }
def octetPicksRow : OpenClaim := { program := "ytebhefgfebghkaadoor", sum := "9420337aad03c780340f0a6218713e0290d6f6e40bde4f5f9b2239def1dd402a", func := "sealwax/sealwaxlaw01.OctetPicks", spec := "octetPicks", named := ["sealwax/octet.digits"], apart := false, laid := [("sealwax/octet.digits", laid_sealwax_octet_digits)] }
def OctetPicksSaid : Prop := octetPicksRow.holds Tryd.pinned (OpenSpec.ofChange octetPicksSpec)

/-- ITS FALSE NEIGHBOUR: 'it returns false'. Refute it at one input. -/
def octetPicksWrong : ChangeSpec := { name := "octetPicks", fn := fun _ => fun
  | [d1, d2, d3] => { results := [.lit (.bool false)], args := [d1, d2, d3] }
  | _ => none }
def OctetPicksWrongFalsely : Prop := octetPicksRow.holds Tryd.pinned (OpenSpec.ofChange octetPicksWrong)

/-- 'sealwaxlaw01.OctetJoins': WHATEVER THE INPUT: true; the input reads as it did. -/
def octetJoinsSpec : ChangeSpec := { name := "octetJoins", fn := fun _ => fun
  | [d] => { results := [.lit (.bool true)], args := [d] }
  | _ => none }
def octetJoinsRow : OpenClaim := { program := "ytebhefgfebghkaadoor", sum := "9420337aad03c780340f0a6218713e0290d6f6e40bde4f5f9b2239def1dd402a", func := "sealwax/sealwaxlaw01.OctetJoins", spec := "octetJoins", named := ["sealwax/octet.digits"], apart := false, laid := [("sealwax/octet.digits", laid_sealwax_octet_digits)] }
def OctetJoinsSaid : Prop := octetJoinsRow.holds Tryd.pinned (OpenSpec.ofChange octetJoinsSpec)

/-- ITS FALSE NEIGHBOUR: 'it returns false'. Refute it at one input. -/
def octetJoinsWrong : ChangeSpec := { name := "octetJoins", fn := fun _ => fun
  | [d] => { results := [.lit (.bool false)], args := [d] }
  | _ => none }
def OctetJoinsWrongFalsely : Prop := octetJoinsRow.holds Tryd.pinned (OpenSpec.ofChange octetJoinsWrong)

/-- 'sealwaxlaw01.OctetDigits': WHATEVER THE INPUT: true; the input reads as it did. -/
def octetDigitsSpec : ChangeSpec := { name := "octetDigits", fn := fun _ => fun
  | [d1, d2] => { results := [.lit (.bool true)], args := [d1, d2] }
  | _ => none }
def octetDigitsRow : OpenClaim := { program := "ytebhefgfebghkaadoor", sum := "9420337aad03c780340f0a6218713e0290d6f6e40bde4f5f9b2239def1dd402a", func := "sealwax/sealwaxlaw01.OctetDigits", spec := "octetDigits", named := ["sealwax/octet.digits"], apart := false, laid := [("sealwax/octet.digits", laid_sealwax_octet_digits)] }
def OctetDigitsSaid : Prop := octetDigitsRow.holds Tryd.pinned (OpenSpec.ofChange octetDigitsSpec)

/-- ITS FALSE NEIGHBOUR: 'it returns false'. Refute it at one input. -/
def octetDigitsWrong : ChangeSpec := { name := "octetDigits", fn := fun _ => fun
  | [d1, d2] => { results := [.lit (.bool false)], args := [d1, d2] }
  | _ => none }
def OctetDigitsWrongFalsely : Prop := octetDigitsRow.holds Tryd.pinned (OpenSpec.ofChange octetDigitsWrong)

/-- 'sealwaxlaw01.OctetNumbers': WHATEVER THE INPUT: true; the input reads as it did. -/
def octetNumbersSpec : ChangeSpec := { name := "octetNumbers", fn := fun _ => fun
  | [d1, d2, d3] => { results := [.lit (.bool true)], args := [d1, d2, d3] }
  | _ => none }
def octetNumbersRow : OpenClaim := { program := "ytebhefgfebghkaadoor", sum := "9420337aad03c780340f0a6218713e0290d6f6e40bde4f5f9b2239def1dd402a", func := "sealwax/sealwaxlaw01.OctetNumbers", spec := "octetNumbers", named := ["sealwax/octet.digits"], apart := false, laid := [("sealwax/octet.digits", laid_sealwax_octet_digits)] }
def OctetNumbersSaid : Prop := octetNumbersRow.holds Tryd.pinned (OpenSpec.ofChange octetNumbersSpec)

/-- ITS FALSE NEIGHBOUR: 'it returns false'. Refute it at one input. -/
def octetNumbersWrong : ChangeSpec := { name := "octetNumbers", fn := fun _ => fun
  | [d1, d2, d3] => { results := [.lit (.bool false)], args := [d1, d2, d3] }
  | _ => none }
def OctetNumbersWrongFalsely : Prop := octetNumbersRow.holds Tryd.pinned (OpenSpec.ofChange octetNumbersWrong)

/-- 'sealwaxlaw01.OctetBack': WHATEVER THE INPUT: true; the input reads as it did. -/
def octetBackSpec : ChangeSpec := { name := "octetBack", fn := fun _ => fun
  | [d1, d2] => { results := [.lit (.bool true)], args := [d1, d2] }
  | _ => none }
def octetBackRow : OpenClaim := { program := "ytebhefgfebghkaadoor", sum := "9420337aad03c780340f0a6218713e0290d6f6e40bde4f5f9b2239def1dd402a", func := "sealwax/sealwaxlaw01.OctetBack", spec := "octetBack", named := ["sealwax/octet.digits"], apart := false, laid := [("sealwax/octet.digits", laid_sealwax_octet_digits)] }
def OctetBackSaid : Prop := octetBackRow.holds Tryd.pinned (OpenSpec.ofChange octetBackSpec)

/-- ITS FALSE NEIGHBOUR: 'it returns false'. Refute it at one input. -/
def octetBackWrong : ChangeSpec := { name := "octetBack", fn := fun _ => fun
  | [d1, d2] => { results := [.lit (.bool false)], args := [d1, d2] }
  | _ => none }
def OctetBackWrongFalsely : Prop := octetBackRow.holds Tryd.pinned (OpenSpec.ofChange octetBackWrong)

/-- 'sealwaxlaw01.OctetTwice': WHATEVER THE INPUT: true; the input reads as it did. -/
def octetTwiceSpec : ChangeSpec := { name := "octetTwice", fn := fun _ => fun
  | [d1, d2] => { results := [.lit (.bool true)], args := [d1, d2] }
  | _ => none }
def octetTwiceRow : OpenClaim := { program := "ytebhefgfebghkaadoor", sum := "9420337aad03c780340f0a6218713e0290d6f6e40bde4f5f9b2239def1dd402a", func := "sealwax/sealwaxlaw01.OctetTwice", spec := "octetTwice", named := ["sealwax/octet.digits"], apart := false, laid := [("sealwax/octet.digits", laid_sealwax_octet_digits)] }
def OctetTwiceSaid : Prop := octetTwiceRow.holds Tryd.pinned (OpenSpec.ofChange octetTwiceSpec)

/-- ITS FALSE NEIGHBOUR: 'it returns false'. Refute it at one input. -/
def octetTwiceWrong : ChangeSpec := { name := "octetTwice", fn := fun _ => fun
  | [d1, d2] => { results := [.lit (.bool false)], args := [d1, d2] }
  | _ => none }
def OctetTwiceWrongFalsely : Prop := octetTwiceRow.holds Tryd.pinned (OpenSpec.ofChange octetTwiceWrong)

/-- 'sealwaxlaw01.OctetOnce': WHATEVER THE INPUT: true; the input reads as it did. -/
def octetOnceSpec : ChangeSpec := { name := "octetOnce", fn := fun _ => fun
  | [d1, d2] => { results := [.lit (.bool true)], args := [d1, d2] }
  | _ => none }
def octetOnceRow : OpenClaim := { program := "ytebhefgfebghkaadoor", sum := "9420337aad03c780340f0a6218713e0290d6f6e40bde4f5f9b2239def1dd402a", func := "sealwax/sealwaxlaw01.OctetOnce", spec := "octetOnce", named := ["sealwax/octet.digits"], apart := false, laid := [("sealwax/octet.digits", laid_sealwax_octet_digits)] }
def OctetOnceSaid : Prop := octetOnceRow.holds Tryd.pinned (OpenSpec.ofChange octetOnceSpec)

/-- ITS FALSE NEIGHBOUR: 'it returns false'. Refute it at one input. -/
def octetOnceWrong : ChangeSpec := { name := "octetOnce", fn := fun _ => fun
  | [d1, d2] => { results := [.lit (.bool false)], args := [d1, d2] }
  | _ => none }
def OctetOnceWrongFalsely : Prop := octetOnceRow.holds Tryd.pinned (OpenSpec.ofChange octetOnceWrong)

/- THE SECOND FORM. 'bulk': how many values and letters a reading holds, each counted each time it is reached (what is shared counts as often as it is met; a slice's spare places count too). A statement '..UptoSaid' is the law's where the arguments, and the package variables that the reading takes, are together of bulk at most 1048576: NARROWER than '..Said'. Prove '..Said' where nothing that the law and all that it calls make is longer than what came in: it says more and counts as full. Else prove '..UptoSaid'. A law counts once. -/
mutual
def uptoBulk {H : Type} : DataW H → Nat
  | .lit (.string bytes) => bytes.length + 1
  | .lit _ => 1
  | .nil => 1
  | .ptr d => uptoBulk d + 1
  | .slice elems spare => uptoBulkAll elems + uptoBulkAll spare + 1
  | .agg parts => uptoBulkAll parts + 1
  | .iface _ d => uptoBulk d + 1
  | .map entries => uptoBulkEntries entries + 1
  | .held _ => 1
def uptoBulkAll {H : Type} : List (DataW H) → Nat
  | [] => 0
  | d :: r => uptoBulk d + uptoBulkAll r
def uptoBulkEntries {H : Type} : List (Lit × DataW H) → Nat
  | [] => 0
  | x :: r => uptoBulkEntry x + uptoBulkEntries r
def uptoBulkEntry {H : Type} : Lit × DataW H → Nat
  | (.string bytes, d) => bytes.length + uptoBulk d + 1
  | (_, d) => uptoBulk d + 1
 end
def uptoSmall : (H : Type) → List (DataW H) → Bool := fun _ ds => decide (uptoBulkAll ds ≤ 1048576)
def OpenSpec.upto (s : _root_.Go.ChangeSpec) : _root_.Go.OpenSpec := { _root_.Go.OpenSpec.ofChange s with cond := some uptoSmall }

/-- 'sealwaxlaw01.OctetEquals', WHERE WHAT IT READS IS OF BULK AT MOST 1048576: true; the input reads as it did. -/
def octetEqualsUptoRow : OpenClaim := { program := "ytebhefgfebghkaadoor", sum := "9420337aad03c780340f0a6218713e0290d6f6e40bde4f5f9b2239def1dd402a", func := "sealwax/sealwaxlaw01.OctetEquals", spec := "octetEquals", named := ["sealwax/octet.digits"], apart := false, laid := [("sealwax/octet.digits", laid_sealwax_octet_digits)], narrowed := true }
def OctetEqualsUptoSaid : Prop := octetEqualsUptoRow.holds Tryd.pinned (OpenSpec.upto octetEqualsSpec)

/-- 'sealwaxlaw01.OctetXors', WHERE WHAT IT READS IS OF BULK AT MOST 1048576: true; the input reads as it did. -/
def octetXorsUptoRow : OpenClaim := { program := "ytebhefgfebghkaadoor", sum := "9420337aad03c780340f0a6218713e0290d6f6e40bde4f5f9b2239def1dd402a", func := "sealwax/sealwaxlaw01.OctetXors", spec := "octetXors", named := ["sealwax/octet.digits"], apart := false, laid := [("sealwax/octet.digits", laid_sealwax_octet_digits)], narrowed := true }
def OctetXorsUptoSaid : Prop := octetXorsUptoRow.holds Tryd.pinned (OpenSpec.upto octetXorsSpec)

/-- 'sealwaxlaw01.OctetPicks', WHERE WHAT IT READS IS OF BULK AT MOST 1048576: true; the input reads as it did. -/
def octetPicksUptoRow : OpenClaim := { program := "ytebhefgfebghkaadoor", sum := "9420337aad03c780340f0a6218713e0290d6f6e40bde4f5f9b2239def1dd402a", func := "sealwax/sealwaxlaw01.OctetPicks", spec := "octetPicks", named := ["sealwax/octet.digits"], apart := false, laid := [("sealwax/octet.digits", laid_sealwax_octet_digits)], narrowed := true }
def OctetPicksUptoSaid : Prop := octetPicksUptoRow.holds Tryd.pinned (OpenSpec.upto octetPicksSpec)

/-- 'sealwaxlaw01.OctetJoins', WHERE WHAT IT READS IS OF BULK AT MOST 1048576: true; the input reads as it did. -/
def octetJoinsUptoRow : OpenClaim := { program := "ytebhefgfebghkaadoor", sum := "9420337aad03c780340f0a6218713e0290d6f6e40bde4f5f9b2239def1dd402a", func := "sealwax/sealwaxlaw01.OctetJoins", spec := "octetJoins", named := ["sealwax/octet.digits"], apart := false, laid := [("sealwax/octet.digits", laid_sealwax_octet_digits)], narrowed := true }
def OctetJoinsUptoSaid : Prop := octetJoinsUptoRow.holds Tryd.pinned (OpenSpec.upto octetJoinsSpec)

/-- 'sealwaxlaw01.OctetDigits', WHERE WHAT IT READS IS OF BULK AT MOST 1048576: true; the input reads as it did. -/
def octetDigitsUptoRow : OpenClaim := { program := "ytebhefgfebghkaadoor", sum := "9420337aad03c780340f0a6218713e0290d6f6e40bde4f5f9b2239def1dd402a", func := "sealwax/sealwaxlaw01.OctetDigits", spec := "octetDigits", named := ["sealwax/octet.digits"], apart := false, laid := [("sealwax/octet.digits", laid_sealwax_octet_digits)], narrowed := true }
def OctetDigitsUptoSaid : Prop := octetDigitsUptoRow.holds Tryd.pinned (OpenSpec.upto octetDigitsSpec)

/-- 'sealwaxlaw01.OctetNumbers', WHERE WHAT IT READS IS OF BULK AT MOST 1048576: true; the input reads as it did. -/
def octetNumbersUptoRow : OpenClaim := { program := "ytebhefgfebghkaadoor", sum := "9420337aad03c780340f0a6218713e0290d6f6e40bde4f5f9b2239def1dd402a", func := "sealwax/sealwaxlaw01.OctetNumbers", spec := "octetNumbers", named := ["sealwax/octet.digits"], apart := false, laid := [("sealwax/octet.digits", laid_sealwax_octet_digits)], narrowed := true }
def OctetNumbersUptoSaid : Prop := octetNumbersUptoRow.holds Tryd.pinned (OpenSpec.upto octetNumbersSpec)

/-- 'sealwaxlaw01.OctetBack', WHERE WHAT IT READS IS OF BULK AT MOST 1048576: true; the input reads as it did. -/
def octetBackUptoRow : OpenClaim := { program := "ytebhefgfebghkaadoor", sum := "9420337aad03c780340f0a6218713e0290d6f6e40bde4f5f9b2239def1dd402a", func := "sealwax/sealwaxlaw01.OctetBack", spec := "octetBack", named := ["sealwax/octet.digits"], apart := false, laid := [("sealwax/octet.digits", laid_sealwax_octet_digits)], narrowed := true }
def OctetBackUptoSaid : Prop := octetBackUptoRow.holds Tryd.pinned (OpenSpec.upto octetBackSpec)

/-- 'sealwaxlaw01.OctetTwice', WHERE WHAT IT READS IS OF BULK AT MOST 1048576: true; the input reads as it did. -/
def octetTwiceUptoRow : OpenClaim := { program := "ytebhefgfebghkaadoor", sum := "9420337aad03c780340f0a6218713e0290d6f6e40bde4f5f9b2239def1dd402a", func := "sealwax/sealwaxlaw01.OctetTwice", spec := "octetTwice", named := ["sealwax/octet.digits"], apart := false, laid := [("sealwax/octet.digits", laid_sealwax_octet_digits)], narrowed := true }
def OctetTwiceUptoSaid : Prop := octetTwiceUptoRow.holds Tryd.pinned (OpenSpec.upto octetTwiceSpec)

/-- 'sealwaxlaw01.OctetOnce', WHERE WHAT IT READS IS OF BULK AT MOST 1048576: true; the input reads as it did. -/
def octetOnceUptoRow : OpenClaim := { program := "ytebhefgfebghkaadoor", sum := "9420337aad03c780340f0a6218713e0290d6f6e40bde4f5f9b2239def1dd402a", func := "sealwax/sealwaxlaw01.OctetOnce", spec := "octetOnce", named := ["sealwax/octet.digits"], apart := false, laid := [("sealwax/octet.digits", laid_sealwax_octet_digits)], narrowed := true }
def OctetOnceUptoSaid : Prop := octetOnceUptoRow.holds Tryd.pinned (OpenSpec.upto octetOnceSpec)

end Rows
end Go.Proofs.YtebhefgfebghkaaDoor
