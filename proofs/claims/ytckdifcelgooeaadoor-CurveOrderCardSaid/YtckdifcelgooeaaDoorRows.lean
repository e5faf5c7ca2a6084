/-
  NARROWER THAN 'FOR EVERY INPUT', by the rows' own cells (each row's printed sentence says how): CurveIs: laid · CurveSmalls: laid · CurveAdds: laid · CurveMults: laid · CurveBoths: laid · CurveBytes: laid · CurveOrder: laid · CurveMultiples: laid · CurveForm: laid.
  DERIVED. THE GIVEN ROWS OF THIS SEAT. 9 by the template 'for every input the law returns true; each argument reads behind the call as it read before'; 0 by the template 'total and deterministic' (their statements: YtckdifcelgooeaaDoorTotals.lean).
  GIVEN WITH THE SEED: the statements are not yours to turn. If you find one false, say at which input.
  Laid BY PROGRAM, IN A SANDBOX (cutbox-rows.mjs): the forced cells as the released guide's own fill.sh prints them over the translation 210a2f42b5417959… (all of the seat's roots in one cut). By AI agents, Wed Nov 11 2026. No macro, syntax, notation, axiom, sorry.
-/
import Derived.Test.YtckdifcelgooeaaDoorChecked
import GoSem.Claim
import GoSem.ClaimJoined
import GoSem.ClaimMapViews
import Derived.JoinedTies
import Derived.KernelRfl
namespace Go.Proofs.YtckdifcelgooeaaDoor
/- THE CELL 'sum', in the pinned program and in every row, IS THE sha256 OF THE DUMP (.gsa) THAT YtckdifcelgooeaaDoorProg.lean LOADS. Nothing in Lean hashes anything: it is a label: what it is worth is what the hold of that sum in a sandbox is worth. -/
noncomputable def Tryd.pinned : Pinned := { name := "ytckdifcelgooeaadoor", sum := "210a2f42b5417959c06daeda0b63630c18563c6ffc0f632aacfa64006ecad221", checked := Tryd.checked }
namespace Rows
def none {H : Type} : Left H := { results := [], args := [] }

/- WHAT THE LISTED PACKAGE-LEVEL VARIABLES READ AS WHEN THE CALL BEGINS. Each datum BY PROGRAM (the guide's laid-datum.mjs) off the statement by which the dump's own 'gosem.cut.vars' lays the variable. In a bare row this is a premise. The card (YtckdifcelgooeaaDoorCards.lean) ties it to the program's text. -/
def laid_sealwax_curve_nought {H : Type} : DataW H := .agg [.agg [.lit (.int .u64 0), .lit (.int .u64 0), .lit (.int .u64 0), .lit (.int .u64 0)], .agg [.lit (.int .u64 1), .lit (.int .u64 0), .lit (.int .u64 0), .lit (.int .u64 0)]]
def laid_sealwax_curve_twiceD {H : Type} : DataW H := .agg [.lit (.int .u64 16993941304535871833), .lit (.int .u64 63073048630374742), .lit (.int .u64 1841551078520508720), .lit (.int .u64 2596001775599221991)]
def laid_sealwax_field_minusOneRoot {H : Type} : DataW H := .agg [.lit (.int .u64 14190309331451158704), .lit (.int .u64 3405592160176694392), .lit (.int .u64 3120150775007532967), .lit (.int .u64 3135389899092516619)]

/-- 'sealwaxlaw08.CurveIs': WHATEVER THE INPUT: true; the input reads as it did. -/
def curveIsSpec : ChangeSpec := { name := "curveIs", fn := fun _ => fun
  | [d] => { results := [.lit (.bool true)], args := [d] }
  | _ => none }
def curveIsRow : OpenClaim := { program := "ytckdifcelgooeaadoor", sum := "210a2f42b5417959c06daeda0b63630c18563c6ffc0f632aacfa64006ecad221", func := "sealwax/sealwaxlaw08.CurveIs", spec := "curveIs", inPlace := ["math/bits.Sub64", "math/bits.Add64"], unfollowed := true, recurses := true, named := ["sealwax/curve.nought", "sealwax/curve.twiceD"], apart := false, laid := [("sealwax/curve.nought", laid_sealwax_curve_nought), ("sealwax/curve.twiceD", laid_sealwax_curve_twiceD)] }
def CurveIsSaid : Prop := curveIsRow.holds Tryd.pinned (OpenSpec.ofChange curveIsSpec)

/-- ITS FALSE NEIGHBOUR: 'it returns false'. Refute it at one input. -/
def curveIsWrong : ChangeSpec := { name := "curveIs", fn := fun _ => fun
  | [d] => { results := [.lit (.bool false)], args := [d] }
  | _ => none }
def CurveIsWrongFalsely : Prop := curveIsRow.holds Tryd.pinned (OpenSpec.ofChange curveIsWrong)

/-- 'sealwaxlaw08.CurveSmalls': WHATEVER THE INPUT: true; the input reads as it did. -/
def curveSmallsSpec : ChangeSpec := { name := "curveSmalls", fn := fun _ => fun
  | [d] => { results := [.lit (.bool true)], args := [d] }
  | _ => none }
def curveSmallsRow : OpenClaim := { program := "ytckdifcelgooeaadoor", sum := "210a2f42b5417959c06daeda0b63630c18563c6ffc0f632aacfa64006ecad221", func := "sealwax/sealwaxlaw08.CurveSmalls", spec := "curveSmalls", inPlace := ["math/bits.Sub64", "math/bits.Add64"], unfollowed := true, recurses := true, named := ["sealwax/curve.nought", "sealwax/curve.twiceD"], apart := false, laid := [("sealwax/curve.nought", laid_sealwax_curve_nought), ("sealwax/curve.twiceD", laid_sealwax_curve_twiceD)] }
def CurveSmallsSaid : Prop := curveSmallsRow.holds Tryd.pinned (OpenSpec.ofChange curveSmallsSpec)

/-- ITS FALSE NEIGHBOUR: 'it returns false'. Refute it at one input. -/
def curveSmallsWrong : ChangeSpec := { name := "curveSmalls", fn := fun _ => fun
  | [d] => { results := [.lit (.bool false)], args := [d] }
  | _ => none }
def CurveSmallsWrongFalsely : Prop := curveSmallsRow.holds Tryd.pinned (OpenSpec.ofChange curveSmallsWrong)

/-- 'sealwaxlaw08.CurveAdds': WHATEVER THE INPUT: true; the input reads as it did. -/
def curveAddsSpec : ChangeSpec := { name := "curveAdds", fn := fun _ => fun
  | [d1, d2] => { results := [.lit (.bool true)], args := [d1, d2] }
  | _ => none }
def curveAddsRow : OpenClaim := { program := "ytckdifcelgooeaadoor", sum := "210a2f42b5417959c06daeda0b63630c18563c6ffc0f632aacfa64006ecad221", func := "sealwax/sealwaxlaw08.CurveAdds", spec := "curveAdds", inPlace := ["math/bits.Sub64", "math/bits.Add64"], unfollowed := true, recurses := true, named := ["sealwax/curve.twiceD", "sealwax/curve.nought"], apart := false, laid := [("sealwax/curve.nought", laid_sealwax_curve_nought), ("sealwax/curve.twiceD", laid_sealwax_curve_twiceD)] }
def CurveAddsSaid : Prop := curveAddsRow.holds Tryd.pinned (OpenSpec.ofChange curveAddsSpec)

/-- ITS FALSE NEIGHBOUR: 'it returns false'. Refute it at one input. -/
def curveAddsWrong : ChangeSpec := { name := "curveAdds", fn := fun _ => fun
  | [d1, d2] => { results := [.lit (.bool false)], args := [d1, d2] }
  | _ => none }
def CurveAddsWrongFalsely : Prop := curveAddsRow.holds Tryd.pinned (OpenSpec.ofChange curveAddsWrong)

/-- 'sealwaxlaw08.CurveMults': WHATEVER THE INPUT: true; the input reads as it did. -/
def curveMultsSpec : ChangeSpec := { name := "curveMults", fn := fun _ => fun
  | [d1, d2] => { results := [.lit (.bool true)], args := [d1, d2] }
  | _ => none }
def curveMultsRow : OpenClaim := { program := "ytckdifcelgooeaadoor", sum := "210a2f42b5417959c06daeda0b63630c18563c6ffc0f632aacfa64006ecad221", func := "sealwax/sealwaxlaw08.CurveMults", spec := "curveMults", inPlace := ["math/bits.Sub64", "math/bits.Add64"], unfollowed := true, recurses := true, named := ["sealwax/curve.nought", "sealwax/curve.twiceD"], apart := false, laid := [("sealwax/curve.nought", laid_sealwax_curve_nought), ("sealwax/curve.twiceD", laid_sealwax_curve_twiceD)] }
def CurveMultsSaid : Prop := curveMultsRow.holds Tryd.pinned (OpenSpec.ofChange curveMultsSpec)

/-- ITS FALSE NEIGHBOUR: 'it returns false'. Refute it at one input. -/
def curveMultsWrong : ChangeSpec := { name := "curveMults", fn := fun _ => fun
  | [d1, d2] => { results := [.lit (.bool false)], args := [d1, d2] }
  | _ => none }
def CurveMultsWrongFalsely : Prop := curveMultsRow.holds Tryd.pinned (OpenSpec.ofChange curveMultsWrong)

/-- 'sealwaxlaw08.CurveBoths': WHATEVER THE INPUT: true; the input reads as it did. -/
def curveBothsSpec : ChangeSpec := { name := "curveBoths", fn := fun _ => fun
  | [d] => { results := [.lit (.bool true)], args := [d] }
  | _ => none }
def curveBothsRow : OpenClaim := { program := "ytckdifcelgooeaadoor", sum := "210a2f42b5417959c06daeda0b63630c18563c6ffc0f632aacfa64006ecad221", func := "sealwax/sealwaxlaw08.CurveBoths", spec := "curveBoths", inPlace := ["math/bits.Sub64", "math/bits.Add64"], unfollowed := true, recurses := true, named := ["sealwax/curve.nought", "sealwax/curve.twiceD"], apart := false, laid := [("sealwax/curve.nought", laid_sealwax_curve_nought), ("sealwax/curve.twiceD", laid_sealwax_curve_twiceD)] }
def CurveBothsSaid : Prop := curveBothsRow.holds Tryd.pinned (OpenSpec.ofChange curveBothsSpec)

/-- ITS FALSE NEIGHBOUR: 'it returns false'. Refute it at one input. -/
def curveBothsWrong : ChangeSpec := { name := "curveBoths", fn := fun _ => fun
  | [d] => { results := [.lit (.bool false)], args := [d] }
  | _ => none }
def CurveBothsWrongFalsely : Prop := curveBothsRow.holds Tryd.pinned (OpenSpec.ofChange curveBothsWrong)

/-- 'sealwaxlaw08.CurveBytes': WHATEVER THE INPUT: true; the input reads as it did. -/
def curveBytesSpec : ChangeSpec := { name := "curveBytes", fn := fun _ => fun
  | [d1, d2] => { results := [.lit (.bool true)], args := [d1, d2] }
  | _ => none }
def curveBytesRow : OpenClaim := { program := "ytckdifcelgooeaadoor", sum := "210a2f42b5417959c06daeda0b63630c18563c6ffc0f632aacfa64006ecad221", func := "sealwax/sealwaxlaw08.CurveBytes", spec := "curveBytes", inPlace := ["math/bits.Sub64", "math/bits.Add64"], unfollowed := true, recurses := true, named := ["sealwax/field.minusOneRoot", "sealwax/curve.nought", "sealwax/curve.twiceD"], apart := false, laid := [("sealwax/field.minusOneRoot", laid_sealwax_field_minusOneRoot), ("sealwax/curve.nought", laid_sealwax_curve_nought), ("sealwax/curve.twiceD", laid_sealwax_curve_twiceD)] }
def CurveBytesSaid : Prop := curveBytesRow.holds Tryd.pinned (OpenSpec.ofChange curveBytesSpec)

/-- ITS FALSE NEIGHBOUR: 'it returns false'. Refute it at one input. -/
def curveBytesWrong : ChangeSpec := { name := "curveBytes", fn := fun _ => fun
  | [d1, d2] => { results := [.lit (.bool false)], args := [d1, d2] }
  | _ => none }
def CurveBytesWrongFalsely : Prop := curveBytesRow.holds Tryd.pinned (OpenSpec.ofChange curveBytesWrong)

/-- 'sealwaxlaw08.CurveOrder': WHATEVER THE INPUT: true; the input reads as it did. -/
def curveOrderSpec : ChangeSpec := { name := "curveOrder", fn := fun _ => fun
  | [d1, d2, d3] => { results := [.lit (.bool true)], args := [d1, d2, d3] }
  | _ => none }
def curveOrderRow : OpenClaim := { program := "ytckdifcelgooeaadoor", sum := "210a2f42b5417959c06daeda0b63630c18563c6ffc0f632aacfa64006ecad221", func := "sealwax/sealwaxlaw08.CurveOrder", spec := "curveOrder", inPlace := ["math/bits.Sub64", "math/bits.Add64"], unfollowed := true, recurses := true, named := ["sealwax/curve.nought", "sealwax/curve.twiceD"], apart := false, laid := [("sealwax/curve.nought", laid_sealwax_curve_nought), ("sealwax/curve.twiceD", laid_sealwax_curve_twiceD)] }
def CurveOrderSaid : Prop := curveOrderRow.holds Tryd.pinned (OpenSpec.ofChange curveOrderSpec)

/-- ITS FALSE NEIGHBOUR: 'it returns false'. Refute it at one input. -/
def curveOrderWrong : ChangeSpec := { name := "curveOrder", fn := fun _ => fun
  | [d1, d2, d3] => { results := [.lit (.bool false)], args := [d1, d2, d3] }
  | _ => none }
def CurveOrderWrongFalsely : Prop := curveOrderRow.holds Tryd.pinned (OpenSpec.ofChange curveOrderWrong)

/-- 'sealwaxlaw08.CurveMultiples': WHATEVER THE INPUT: true; the input reads as it did. -/
def curveMultiplesSpec : ChangeSpec := { name := "curveMultiples", fn := fun _ => fun
  | [d1, d2, d3] => { results := [.lit (.bool true)], args := [d1, d2, d3] }
  | _ => none }
def curveMultiplesRow : OpenClaim := { program := "ytckdifcelgooeaadoor", sum := "210a2f42b5417959c06daeda0b63630c18563c6ffc0f632aacfa64006ecad221", func := "sealwax/sealwaxlaw08.CurveMultiples", spec := "curveMultiples", inPlace := ["math/bits.Sub64", "math/bits.Add64"], unfollowed := true, recurses := true, named := ["sealwax/curve.nought", "sealwax/curve.twiceD"], apart := false, laid := [("sealwax/curve.nought", laid_sealwax_curve_nought), ("sealwax/curve.twiceD", laid_sealwax_curve_twiceD)] }
def CurveMultiplesSaid : Prop := curveMultiplesRow.holds Tryd.pinned (OpenSpec.ofChange curveMultiplesSpec)

/-- ITS FALSE NEIGHBOUR: 'it returns false'. Refute it at one input. -/
def curveMultiplesWrong : ChangeSpec := { name := "curveMultiples", fn := fun _ => fun
  | [d1, d2, d3] => { results := [.lit (.bool false)], args := [d1, d2, d3] }
  | _ => none }
def CurveMultiplesWrongFalsely : Prop := curveMultiplesRow.holds Tryd.pinned (OpenSpec.ofChange curveMultiplesWrong)

/-- 'sealwaxlaw08.CurveForm': WHATEVER THE INPUT: true; the input reads as it did. -/
def curveFormSpec : ChangeSpec := { name := "curveForm", fn := fun _ => fun
  | [d1, d2] => { results := [.lit (.bool true)], args := [d1, d2] }
  | _ => none }
def curveFormRow : OpenClaim := { program := "ytckdifcelgooeaadoor", sum := "210a2f42b5417959c06daeda0b63630c18563c6ffc0f632aacfa64006ecad221", func := "sealwax/sealwaxlaw08.CurveForm", spec := "curveForm", inPlace := ["math/bits.Sub64", "math/bits.Add64"], unfollowed := true, recurses := true, named := ["sealwax/field.minusOneRoot", "sealwax/curve.nought", "sealwax/curve.twiceD"], apart := false, laid := [("sealwax/field.minusOneRoot", laid_sealwax_field_minusOneRoot), ("sealwax/curve.nought", laid_sealwax_curve_nought), ("sealwax/curve.twiceD", laid_sealwax_curve_twiceD)] }
def CurveFormSaid : Prop := curveFormRow.holds Tryd.pinned (OpenSpec.ofChange curveFormSpec)

/-- ITS FALSE NEIGHBOUR: 'it returns false'. Refute it at one input. -/
def curveFormWrong : ChangeSpec := { name := "curveForm", fn := fun _ => fun
  | [d1, d2] => { results := [.lit (.bool false)], args := [d1, d2] }
  | _ => none }
def CurveFormWrongFalsely : Prop := curveFormRow.holds Tryd.pinned (OpenSpec.ofChange curveFormWrong)

/- THE SECOND FORM. 'bulk': how many values and letters a reading holds, each counted each time it is reached (what is shared counts as often as it is met; a slice's spare places count too). A statement '..UptoSaid' is the law's where the arguments, and the package variables that the reading takes, are together of bulk at most 1048576: NARROWER than '..Said'. Prove '..Said' where nothing that the law and all that it calls make is longer than what came in: it says more and counts as full. Else prove '..UptoSaid'. A law counts once. -/
mutual
def uptoBulk {H : Type} : DataW H → Nat
  | .lit (.string bytes) => bytes.length + 1
  | .lit _ => 1
  | .nil => 1
  | .ptr d => uptoBulk d + 1
  | .slice elems spare => uptoBulkAll elems + uptoBulkAll spare + 1
  | .agg parts => uptoBulkAll parts + 1
  | .iface _ d => uptoBulk d + 1
  | .map entries => uptoBulkEntries entries + 1
  | .held _ => 1
def uptoBulkAll {H : Type} : List (DataW H) → Nat
  | [] => 0
  | d :: r => uptoBulk d + uptoBulkAll r
def uptoBulkEntries {H : Type} : List (Lit × DataW H) → Nat
  | [] => 0
  | x :: r => uptoBulkEntry x + uptoBulkEntries r
def uptoBulkEntry {H : Type} : Lit × DataW H → Nat
  | (.string bytes, d) => bytes.length + uptoBulk d + 1
  | (_, d) => uptoBulk d + 1
 end
def uptoSmall : (H : Type) → List (DataW H) → Bool := fun _ ds => decide (uptoBulkAll ds ≤ 1048576)
def OpenSpec.upto (s : _root_.Go.ChangeSpec) : _root_.Go.OpenSpec := { _root_.Go.OpenSpec.ofChange s with cond := some uptoSmall }

/-- 'sealwaxlaw08.CurveIs', WHERE WHAT IT READS IS OF BULK AT MOST 1048576: true; the input reads as it did. -/
def curveIsUptoRow : OpenClaim := { program := "ytckdifcelgooeaadoor", sum := "210a2f42b5417959c06daeda0b63630c18563c6ffc0f632aacfa64006ecad221", func := "sealwax/sealwaxlaw08.CurveIs", spec := "curveIs", inPlace := ["math/bits.Sub64", "math/bits.Add64"], unfollowed := true, recurses := true, named := ["sealwax/curve.nought", "sealwax/curve.twiceD"], apart := false, laid := [("sealwax/curve.nought", laid_sealwax_curve_nought), ("sealwax/curve.twiceD", laid_sealwax_curve_twiceD)], narrowed := true }
def CurveIsUptoSaid : Prop := curveIsUptoRow.holds Tryd.pinned (OpenSpec.upto curveIsSpec)

/-- 'sealwaxlaw08.CurveSmalls', WHERE WHAT IT READS IS OF BULK AT MOST 1048576: true; the input reads as it did. -/
def curveSmallsUptoRow : OpenClaim := { program := "ytckdifcelgooeaadoor", sum := "210a2f42b5417959c06daeda0b63630c18563c6ffc0f632aacfa64006ecad221", func := "sealwax/sealwaxlaw08.CurveSmalls", spec := "curveSmalls", inPlace := ["math/bits.Sub64", "math/bits.Add64"], unfollowed := true, recurses := true, named := ["sealwax/curve.nought", "sealwax/curve.twiceD"], apart := false, laid := [("sealwax/curve.nought", laid_sealwax_curve_nought), ("sealwax/curve.twiceD", laid_sealwax_curve_twiceD)], narrowed := true }
def CurveSmallsUptoSaid : Prop := curveSmallsUptoRow.holds Tryd.pinned (OpenSpec.upto curveSmallsSpec)

/-- 'sealwaxlaw08.CurveAdds', WHERE WHAT IT READS IS OF BULK AT MOST 1048576: true; the input reads as it did. -/
def curveAddsUptoRow : OpenClaim := { program := "ytckdifcelgooeaadoor", sum := "210a2f42b5417959c06daeda0b63630c18563c6ffc0f632aacfa64006ecad221", func := "sealwax/sealwaxlaw08.CurveAdds", spec := "curveAdds", inPlace := ["math/bits.Sub64", "math/bits.Add64"], unfollowed := true, recurses := true, named := ["sealwax/curve.twiceD", "sealwax/curve.nought"], apart := false, laid := [("sealwax/curve.nought", laid_sealwax_curve_nought), ("sealwax/curve.twiceD", laid_sealwax_curve_twiceD)], narrowed := true }
def CurveAddsUptoSaid : Prop := curveAddsUptoRow.holds Tryd.pinned (OpenSpec.upto curveAddsSpec)

/-- 'sealwaxlaw08.CurveMults', WHERE WHAT IT READS IS OF BULK AT MOST 1048576: true; the input reads as it did. -/
def curveMultsUptoRow : OpenClaim := { program := "ytckdifcelgooeaadoor", sum := "210a2f42b5417959c06daeda0b63630c18563c6ffc0f632aacfa64006ecad221", func := "sealwax/sealwaxlaw08.CurveMults", spec := "curveMults", inPlace := ["math/bits.Sub64", "math/bits.Add64"], unfollowed := true, recurses := true, named := ["sealwax/curve.nought", "sealwax/curve.twiceD"], apart := false, laid := [("sealwax/curve.nought", laid_sealwax_curve_nought), ("sealwax/curve.twiceD", laid_sealwax_curve_twiceD)], narrowed := true }
def CurveMultsUptoSaid : Prop := curveMultsUptoRow.holds Tryd.pinned (OpenSpec.upto curveMultsSpec)

/-- 'sealwaxlaw08.CurveBoths', WHERE WHAT IT READS IS OF BULK AT MOST 1048576: true; the input reads as it did. -/
def curveBothsUptoRow : OpenClaim := { program := "ytckdifcelgooeaadoor", sum := "210a2f42b5417959c06daeda0b63630c18563c6ffc0f632aacfa64006ecad221", func := "sealwax/sealwaxlaw08.CurveBoths", spec := "curveBoths", inPlace := ["math/bits.Sub64", "math/bits.Add64"], unfollowed := true, recurses := true, named := ["sealwax/curve.nought", "sealwax/curve.twiceD"], apart := false, laid := [("sealwax/curve.nought", laid_sealwax_curve_nought), ("sealwax/curve.twiceD", laid_sealwax_curve_twiceD)], narrowed := true }
def CurveBothsUptoSaid : Prop := curveBothsUptoRow.holds Tryd.pinned (OpenSpec.upto curveBothsSpec)

/-- 'sealwaxlaw08.CurveBytes', WHERE WHAT IT READS IS OF BULK AT MOST 1048576: true; the input reads as it did. -/
def curveBytesUptoRow : OpenClaim := { program := "ytckdifcelgooeaadoor", sum := "210a2f42b5417959c06daeda0b63630c18563c6ffc0f632aacfa64006ecad221", func := "sealwax/sealwaxlaw08.CurveBytes", spec := "curveBytes", inPlace := ["math/bits.Sub64", "math/bits.Add64"], unfollowed := true, recurses := true, named := ["sealwax/field.minusOneRoot", "sealwax/curve.nought", "sealwax/curve.twiceD"], apart := false, laid := [("sealwax/field.minusOneRoot", laid_sealwax_field_minusOneRoot), ("sealwax/curve.nought", laid_sealwax_curve_nought), ("sealwax/curve.twiceD", laid_sealwax_curve_twiceD)], narrowed := true }
def CurveBytesUptoSaid : Prop := curveBytesUptoRow.holds Tryd.pinned (OpenSpec.upto curveBytesSpec)

/-- 'sealwaxlaw08.CurveOrder', WHERE WHAT IT READS IS OF BULK AT MOST 1048576: true; the input reads as it did. -/
def curveOrderUptoRow : OpenClaim := { program := "ytckdifcelgooeaadoor", sum := "210a2f42b5417959c06daeda0b63630c18563c6ffc0f632aacfa64006ecad221", func := "sealwax/sealwaxlaw08.CurveOrder", spec := "curveOrder", inPlace := ["math/bits.Sub64", "math/bits.Add64"], unfollowed := true, recurses := true, named := ["sealwax/curve.nought", "sealwax/curve.twiceD"], apart := false, laid := [("sealwax/curve.nought", laid_sealwax_curve_nought), ("sealwax/curve.twiceD", laid_sealwax_curve_twiceD)], narrowed := true }
def CurveOrderUptoSaid : Prop := curveOrderUptoRow.holds Tryd.pinned (OpenSpec.upto curveOrderSpec)

/-- 'sealwaxlaw08.CurveMultiples', WHERE WHAT IT READS IS OF BULK AT MOST 1048576: true; the input reads as it did. -/
def curveMultiplesUptoRow : OpenClaim := { program := "ytckdifcelgooeaadoor", sum := "210a2f42b5417959c06daeda0b63630c18563c6ffc0f632aacfa64006ecad221", func := "sealwax/sealwaxlaw08.CurveMultiples", spec := "curveMultiples", inPlace := ["math/bits.Sub64", "math/bits.Add64"], unfollowed := true, recurses := true, named := ["sealwax/curve.nought", "sealwax/curve.twiceD"], apart := false, laid := [("sealwax/curve.nought", laid_sealwax_curve_nought), ("sealwax/curve.twiceD", laid_sealwax_curve_twiceD)], narrowed := true }
def CurveMultiplesUptoSaid : Prop := curveMultiplesUptoRow.holds Tryd.pinned (OpenSpec.upto curveMultiplesSpec)

/-- 'sealwaxlaw08.CurveForm', WHERE WHAT IT READS IS OF BULK AT MOST 1048576: true; the input reads as it did. -/
def curveFormUptoRow : OpenClaim := { program := "ytckdifcelgooeaadoor", sum := "210a2f42b5417959c06daeda0b63630c18563c6ffc0f632aacfa64006ecad221", func := "sealwax/sealwaxlaw08.CurveForm", spec := "curveForm", inPlace := ["math/bits.Sub64", "math/bits.Add64"], unfollowed := true, recurses := true, named := ["sealwax/field.minusOneRoot", "sealwax/curve.nought", "sealwax/curve.twiceD"], apart := false, laid := [("sealwax/field.minusOneRoot", laid_sealwax_field_minusOneRoot), ("sealwax/curve.nought", laid_sealwax_curve_nought), ("sealwax/curve.twiceD", laid_sealwax_curve_twiceD)], narrowed := true }
def CurveFormUptoSaid : Prop := curveFormUptoRow.holds Tryd.pinned (OpenSpec.upto curveFormSpec)

end Rows
end Go.Proofs.YtckdifcelgooeaaDoor
