/-
  DERIVED. GIVEN WITH THE SEED: THE CARDS: each row of YtckdifcelgooeaaDoorRows.lean that lists a variable, with what it lists TIED to the program's text (the seventh form; the later family's looks); each row that meets fmt, with fmt's text TOLD by the authors' own Lean function (tested against real Go, not proved from fmt's source: count such statements apart). THE CARD IS WHAT COUNTS. Prove the row's statement (the work); the ties are given (YtckdifcelgooeaaDoorTie.lean); close each card by the builder's one call (the guide's Derived/Test/ToyasCard.lean, 'card_holds'). Laid BY PROGRAM, IN A SANDBOX (cutbox-door.mjs). By AI agents, Wed Nov 11 2026. No macro, syntax, notation, axiom, sorry.
-/
import Derived.Test.YtckdifcelgooeaaDoorRows
import GoSem.ClaimSeven
namespace Go.Proofs.YtckdifcelgooeaaDoor
namespace Rows

/-- THE TIED CARD OF 'sealwaxlaw08.CurveIs'. -/
def curveIsCard : Claim7 := { stood := { row := curveIsRow, standIns := [], harness := (true, "073d222f517c71c1365e830183f0a01e61c10b54f9dd4faaa70fce5964d17b1f"), looks := false }, kinds := [], alts := [], laidByText := true, laidKinds := [.data, .data], laidTests := true, laidLooks := .later }
def CurveIsCardSaid : Prop := Claim7.holds Tryd.pinned (.plain (OpenSpec.ofChange curveIsSpec)) curveIsCard

/-- THE TIED CARD OF 'sealwaxlaw08.CurveSmalls'. -/
def curveSmallsCard : Claim7 := { stood := { row := curveSmallsRow, standIns := [], harness := (true, "073d222f517c71c1365e830183f0a01e61c10b54f9dd4faaa70fce5964d17b1f"), looks := false }, kinds := [], alts := [], laidByText := true, laidKinds := [.data, .data], laidTests := true, laidLooks := .later }
def CurveSmallsCardSaid : Prop := Claim7.holds Tryd.pinned (.plain (OpenSpec.ofChange curveSmallsSpec)) curveSmallsCard

/-- THE TIED CARD OF 'sealwaxlaw08.CurveAdds'. -/
def curveAddsCard : Claim7 := { stood := { row := curveAddsRow, standIns := [], harness := (true, "073d222f517c71c1365e830183f0a01e61c10b54f9dd4faaa70fce5964d17b1f"), looks := false }, kinds := [], alts := [], laidByText := true, laidKinds := [.data, .data], laidTests := true, laidLooks := .later }
def CurveAddsCardSaid : Prop := Claim7.holds Tryd.pinned (.plain (OpenSpec.ofChange curveAddsSpec)) curveAddsCard

/-- THE TIED CARD OF 'sealwaxlaw08.CurveMults'. -/
def curveMultsCard : Claim7 := { stood := { row := curveMultsRow, standIns := [], harness := (true, "073d222f517c71c1365e830183f0a01e61c10b54f9dd4faaa70fce5964d17b1f"), looks := false }, kinds := [], alts := [], laidByText := true, laidKinds := [.data, .data], laidTests := true, laidLooks := .later }
def CurveMultsCardSaid : Prop := Claim7.holds Tryd.pinned (.plain (OpenSpec.ofChange curveMultsSpec)) curveMultsCard

/-- THE TIED CARD OF 'sealwaxlaw08.CurveBoths'. -/
def curveBothsCard : Claim7 := { stood := { row := curveBothsRow, standIns := [], harness := (true, "073d222f517c71c1365e830183f0a01e61c10b54f9dd4faaa70fce5964d17b1f"), looks := false }, kinds := [], alts := [], laidByText := true, laidKinds := [.data, .data], laidTests := true, laidLooks := .later }
def CurveBothsCardSaid : Prop := Claim7.holds Tryd.pinned (.plain (OpenSpec.ofChange curveBothsSpec)) curveBothsCard

/-- THE TIED CARD OF 'sealwaxlaw08.CurveBytes'. -/
def curveBytesCard : Claim7 := { stood := { row := curveBytesRow, standIns := [], harness := (true, "073d222f517c71c1365e830183f0a01e61c10b54f9dd4faaa70fce5964d17b1f"), looks := false }, kinds := [], alts := [], laidByText := true, laidKinds := [.data, .data, .data], laidTests := true, laidLooks := .later }
def CurveBytesCardSaid : Prop := Claim7.holds Tryd.pinned (.plain (OpenSpec.ofChange curveBytesSpec)) curveBytesCard

/-- THE TIED CARD OF 'sealwaxlaw08.CurveOrder'. -/
def curveOrderCard : Claim7 := { stood := { row := curveOrderRow, standIns := [], harness := (true, "073d222f517c71c1365e830183f0a01e61c10b54f9dd4faaa70fce5964d17b1f"), looks := false }, kinds := [], alts := [], laidByText := true, laidKinds := [.data, .data], laidTests := true, laidLooks := .later }
def CurveOrderCardSaid : Prop := Claim7.holds Tryd.pinned (.plain (OpenSpec.ofChange curveOrderSpec)) curveOrderCard

/-- THE TIED CARD OF 'sealwaxlaw08.CurveMultiples'. -/
def curveMultiplesCard : Claim7 := { stood := { row := curveMultiplesRow, standIns := [], harness := (true, "073d222f517c71c1365e830183f0a01e61c10b54f9dd4faaa70fce5964d17b1f"), looks := false }, kinds := [], alts := [], laidByText := true, laidKinds := [.data, .data], laidTests := true, laidLooks := .later }
def CurveMultiplesCardSaid : Prop := Claim7.holds Tryd.pinned (.plain (OpenSpec.ofChange curveMultiplesSpec)) curveMultiplesCard

/-- THE TIED CARD OF 'sealwaxlaw08.CurveForm'. -/
def curveFormCard : Claim7 := { stood := { row := curveFormRow, standIns := [], harness := (true, "073d222f517c71c1365e830183f0a01e61c10b54f9dd4faaa70fce5964d17b1f"), looks := false }, kinds := [], alts := [], laidByText := true, laidKinds := [.data, .data, .data], laidTests := true, laidLooks := .later }
def CurveFormCardSaid : Prop := Claim7.holds Tryd.pinned (.plain (OpenSpec.ofChange curveFormSpec)) curveFormCard

/-- THE SECOND FORM's CARD OF 'sealwaxlaw08.CurveIs'. -/
def curveIsUptoCard : Claim7 := { stood := { row := curveIsUptoRow, standIns := [], harness := (true, "073d222f517c71c1365e830183f0a01e61c10b54f9dd4faaa70fce5964d17b1f"), looks := false }, kinds := [], alts := [], laidByText := true, laidKinds := [.data, .data], laidTests := true, laidLooks := .later }
def CurveIsUptoCardSaid : Prop := Claim7.holds Tryd.pinned (.plain (OpenSpec.upto curveIsSpec)) curveIsUptoCard

/-- THE SECOND FORM's CARD OF 'sealwaxlaw08.CurveSmalls'. -/
def curveSmallsUptoCard : Claim7 := { stood := { row := curveSmallsUptoRow, standIns := [], harness := (true, "073d222f517c71c1365e830183f0a01e61c10b54f9dd4faaa70fce5964d17b1f"), looks := false }, kinds := [], alts := [], laidByText := true, laidKinds := [.data, .data], laidTests := true, laidLooks := .later }
def CurveSmallsUptoCardSaid : Prop := Claim7.holds Tryd.pinned (.plain (OpenSpec.upto curveSmallsSpec)) curveSmallsUptoCard

/-- THE SECOND FORM's CARD OF 'sealwaxlaw08.CurveAdds'. -/
def curveAddsUptoCard : Claim7 := { stood := { row := curveAddsUptoRow, standIns := [], harness := (true, "073d222f517c71c1365e830183f0a01e61c10b54f9dd4faaa70fce5964d17b1f"), looks := false }, kinds := [], alts := [], laidByText := true, laidKinds := [.data, .data], laidTests := true, laidLooks := .later }
def CurveAddsUptoCardSaid : Prop := Claim7.holds Tryd.pinned (.plain (OpenSpec.upto curveAddsSpec)) curveAddsUptoCard

/-- THE SECOND FORM's CARD OF 'sealwaxlaw08.CurveMults'. -/
def curveMultsUptoCard : Claim7 := { stood := { row := curveMultsUptoRow, standIns := [], harness := (true, "073d222f517c71c1365e830183f0a01e61c10b54f9dd4faaa70fce5964d17b1f"), looks := false }, kinds := [], alts := [], laidByText := true, laidKinds := [.data, .data], laidTests := true, laidLooks := .later }
def CurveMultsUptoCardSaid : Prop := Claim7.holds Tryd.pinned (.plain (OpenSpec.upto curveMultsSpec)) curveMultsUptoCard

/-- THE SECOND FORM's CARD OF 'sealwaxlaw08.CurveBoths'. -/
def curveBothsUptoCard : Claim7 := { stood := { row := curveBothsUptoRow, standIns := [], harness := (true, "073d222f517c71c1365e830183f0a01e61c10b54f9dd4faaa70fce5964d17b1f"), looks := false }, kinds := [], alts := [], laidByText := true, laidKinds := [.data, .data], laidTests := true, laidLooks := .later }
def CurveBothsUptoCardSaid : Prop := Claim7.holds Tryd.pinned (.plain (OpenSpec.upto curveBothsSpec)) curveBothsUptoCard

/-- THE SECOND FORM's CARD OF 'sealwaxlaw08.CurveBytes'. -/
def curveBytesUptoCard : Claim7 := { stood := { row := curveBytesUptoRow, standIns := [], harness := (true, "073d222f517c71c1365e830183f0a01e61c10b54f9dd4faaa70fce5964d17b1f"), looks := false }, kinds := [], alts := [], laidByText := true, laidKinds := [.data, .data, .data], laidTests := true, laidLooks := .later }
def CurveBytesUptoCardSaid : Prop := Claim7.holds Tryd.pinned (.plain (OpenSpec.upto curveBytesSpec)) curveBytesUptoCard

/-- THE SECOND FORM's CARD OF 'sealwaxlaw08.CurveOrder'. -/
def curveOrderUptoCard : Claim7 := { stood := { row := curveOrderUptoRow, standIns := [], harness := (true, "073d222f517c71c1365e830183f0a01e61c10b54f9dd4faaa70fce5964d17b1f"), looks := false }, kinds := [], alts := [], laidByText := true, laidKinds := [.data, .data], laidTests := true, laidLooks := .later }
def CurveOrderUptoCardSaid : Prop := Claim7.holds Tryd.pinned (.plain (OpenSpec.upto curveOrderSpec)) curveOrderUptoCard

/-- THE SECOND FORM's CARD OF 'sealwaxlaw08.CurveMultiples'. -/
def curveMultiplesUptoCard : Claim7 := { stood := { row := curveMultiplesUptoRow, standIns := [], harness := (true, "073d222f517c71c1365e830183f0a01e61c10b54f9dd4faaa70fce5964d17b1f"), looks := false }, kinds := [], alts := [], laidByText := true, laidKinds := [.data, .data], laidTests := true, laidLooks := .later }
def CurveMultiplesUptoCardSaid : Prop := Claim7.holds Tryd.pinned (.plain (OpenSpec.upto curveMultiplesSpec)) curveMultiplesUptoCard

/-- THE SECOND FORM's CARD OF 'sealwaxlaw08.CurveForm'. -/
def curveFormUptoCard : Claim7 := { stood := { row := curveFormUptoRow, standIns := [], harness := (true, "073d222f517c71c1365e830183f0a01e61c10b54f9dd4faaa70fce5964d17b1f"), looks := false }, kinds := [], alts := [], laidByText := true, laidKinds := [.data, .data, .data], laidTests := true, laidLooks := .later }
def CurveFormUptoCardSaid : Prop := Claim7.holds Tryd.pinned (.plain (OpenSpec.upto curveFormSpec)) curveFormUptoCard
end Rows
end Go.Proofs.YtckdifcelgooeaaDoor
