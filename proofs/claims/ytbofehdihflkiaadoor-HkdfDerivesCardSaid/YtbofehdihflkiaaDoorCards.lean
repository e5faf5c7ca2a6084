/-
  DERIVED. GIVEN WITH THE SEED: THE CARDS: each row of YtbofehdihflkiaaDoorRows.lean that lists a variable, with what it lists TIED to the program's text (the seventh form; the later family's looks); each row that meets fmt, with fmt's text TOLD by the authors' own Lean function (tested against real Go, not proved from fmt's source: count such statements apart). THE CARD IS WHAT COUNTS. Prove the row's statement (the work); the ties are given (YtbofehdihflkiaaDoorTie.lean); close each card by the builder's one call (the guide's Derived/Test/ToyasCard.lean, 'card_holds'). Laid BY PROGRAM, IN A SANDBOX (cutbox-door.mjs). By AI agents, Wed Nov 11 2026. No macro, syntax, notation, axiom, sorry.
-/
import Derived.Test.YtbofehdihflkiaaDoorRows
import GoSem.ClaimSeven
namespace Go.Proofs.YtbofehdihflkiaaDoor
namespace Rows

/-- THE TIED CARD OF 'sealwaxlaw07.HkdfMacs'. -/
def hkdfMacsCard : Claim7 := { stood := { row := hkdfMacsRow, standIns := [], harness := (true, "34767973639d885b04543703bd17ee2114f920e1df171dcd4f04975586c6bf72"), looks := false }, kinds := [], alts := [], laidByText := true, laidKinds := [.data, .data, .data], laidTests := true, laidLooks := .later }
def HkdfMacsCardSaid : Prop := Claim7.holds Tryd.pinned (.plain (OpenSpec.ofChange hkdfMacsSpec)) hkdfMacsCard

/-- THE TIED CARD OF 'sealwaxlaw07.HkdfExtracts'. -/
def hkdfExtractsCard : Claim7 := { stood := { row := hkdfExtractsRow, standIns := [], harness := (true, "34767973639d885b04543703bd17ee2114f920e1df171dcd4f04975586c6bf72"), looks := false }, kinds := [], alts := [], laidByText := true, laidKinds := [.data, .data, .data], laidTests := true, laidLooks := .later }
def HkdfExtractsCardSaid : Prop := Claim7.holds Tryd.pinned (.plain (OpenSpec.ofChange hkdfExtractsSpec)) hkdfExtractsCard

/-- THE TIED CARD OF 'sealwaxlaw07.HkdfExpands'. -/
def hkdfExpandsCard : Claim7 := { stood := { row := hkdfExpandsRow, standIns := [], harness := (true, "34767973639d885b04543703bd17ee2114f920e1df171dcd4f04975586c6bf72"), looks := false }, kinds := [], alts := [], laidByText := true, laidKinds := [.data, .data, .data], laidTests := true, laidLooks := .later }
def HkdfExpandsCardSaid : Prop := Claim7.holds Tryd.pinned (.plain (OpenSpec.ofChange hkdfExpandsSpec)) hkdfExpandsCard

/-- THE TIED CARD OF 'sealwaxlaw07.HkdfDerives'. -/
def hkdfDerivesCard : Claim7 := { stood := { row := hkdfDerivesRow, standIns := [], harness := (true, "34767973639d885b04543703bd17ee2114f920e1df171dcd4f04975586c6bf72"), looks := false }, kinds := [], alts := [], laidByText := true, laidKinds := [.data, .data, .data], laidTests := true, laidLooks := .later }
def HkdfDerivesCardSaid : Prop := Claim7.holds Tryd.pinned (.plain (OpenSpec.ofChange hkdfDerivesSpec)) hkdfDerivesCard

/-- THE TIED CARD OF 'sealwaxlaw07.HkdfBegins'. -/
def hkdfBeginsCard : Claim7 := { stood := { row := hkdfBeginsRow, standIns := [], harness := (true, "34767973639d885b04543703bd17ee2114f920e1df171dcd4f04975586c6bf72"), looks := false }, kinds := [], alts := [], laidByText := true, laidKinds := [.data, .data, .data], laidTests := true, laidLooks := .later }
def HkdfBeginsCardSaid : Prop := Claim7.holds Tryd.pinned (.plain (OpenSpec.ofChange hkdfBeginsSpec)) hkdfBeginsCard

/-- THE TIED CARD OF 'sealwaxlaw07.HkdfLong'. -/
def hkdfLongCard : Claim7 := { stood := { row := hkdfLongRow, standIns := [], harness := (true, "34767973639d885b04543703bd17ee2114f920e1df171dcd4f04975586c6bf72"), looks := false }, kinds := [], alts := [], laidByText := true, laidKinds := [.data, .data, .data], laidTests := true, laidLooks := .later }
def HkdfLongCardSaid : Prop := Claim7.holds Tryd.pinned (.plain (OpenSpec.ofChange hkdfLongSpec)) hkdfLongCard

/-- THE SECOND FORM's CARD OF 'sealwaxlaw07.HkdfMacs'. -/
def hkdfMacsUptoCard : Claim7 := { stood := { row := hkdfMacsUptoRow, standIns := [], harness := (true, "34767973639d885b04543703bd17ee2114f920e1df171dcd4f04975586c6bf72"), looks := false }, kinds := [], alts := [], laidByText := true, laidKinds := [.data, .data, .data], laidTests := true, laidLooks := .later }
def HkdfMacsUptoCardSaid : Prop := Claim7.holds Tryd.pinned (.plain (OpenSpec.upto hkdfMacsSpec)) hkdfMacsUptoCard

/-- THE SECOND FORM's CARD OF 'sealwaxlaw07.HkdfExtracts'. -/
def hkdfExtractsUptoCard : Claim7 := { stood := { row := hkdfExtractsUptoRow, standIns := [], harness := (true, "34767973639d885b04543703bd17ee2114f920e1df171dcd4f04975586c6bf72"), looks := false }, kinds := [], alts := [], laidByText := true, laidKinds := [.data, .data, .data], laidTests := true, laidLooks := .later }
def HkdfExtractsUptoCardSaid : Prop := Claim7.holds Tryd.pinned (.plain (OpenSpec.upto hkdfExtractsSpec)) hkdfExtractsUptoCard

/-- THE SECOND FORM's CARD OF 'sealwaxlaw07.HkdfExpands'. -/
def hkdfExpandsUptoCard : Claim7 := { stood := { row := hkdfExpandsUptoRow, standIns := [], harness := (true, "34767973639d885b04543703bd17ee2114f920e1df171dcd4f04975586c6bf72"), looks := false }, kinds := [], alts := [], laidByText := true, laidKinds := [.data, .data, .data], laidTests := true, laidLooks := .later }
def HkdfExpandsUptoCardSaid : Prop := Claim7.holds Tryd.pinned (.plain (OpenSpec.upto hkdfExpandsSpec)) hkdfExpandsUptoCard

/-- THE SECOND FORM's CARD OF 'sealwaxlaw07.HkdfDerives'. -/
def hkdfDerivesUptoCard : Claim7 := { stood := { row := hkdfDerivesUptoRow, standIns := [], harness := (true, "34767973639d885b04543703bd17ee2114f920e1df171dcd4f04975586c6bf72"), looks := false }, kinds := [], alts := [], laidByText := true, laidKinds := [.data, .data, .data], laidTests := true, laidLooks := .later }
def HkdfDerivesUptoCardSaid : Prop := Claim7.holds Tryd.pinned (.plain (OpenSpec.upto hkdfDerivesSpec)) hkdfDerivesUptoCard

/-- THE SECOND FORM's CARD OF 'sealwaxlaw07.HkdfBegins'. -/
def hkdfBeginsUptoCard : Claim7 := { stood := { row := hkdfBeginsUptoRow, standIns := [], harness := (true, "34767973639d885b04543703bd17ee2114f920e1df171dcd4f04975586c6bf72"), looks := false }, kinds := [], alts := [], laidByText := true, laidKinds := [.data, .data, .data], laidTests := true, laidLooks := .later }
def HkdfBeginsUptoCardSaid : Prop := Claim7.holds Tryd.pinned (.plain (OpenSpec.upto hkdfBeginsSpec)) hkdfBeginsUptoCard

/-- THE SECOND FORM's CARD OF 'sealwaxlaw07.HkdfLong'. -/
def hkdfLongUptoCard : Claim7 := { stood := { row := hkdfLongUptoRow, standIns := [], harness := (true, "34767973639d885b04543703bd17ee2114f920e1df171dcd4f04975586c6bf72"), looks := false }, kinds := [], alts := [], laidByText := true, laidKinds := [.data, .data, .data], laidTests := true, laidLooks := .later }
def HkdfLongUptoCardSaid : Prop := Claim7.holds Tryd.pinned (.plain (OpenSpec.upto hkdfLongSpec)) hkdfLongUptoCard
end Rows
end Go.Proofs.YtbofehdihflkiaaDoor
