/-
  DERIVED. GIVEN WITH THE SEED: THE CARDS: each row of YtebhefgfebghkaaDoorRows.lean that lists a variable, with what it lists TIED to the program's text (the seventh form; the later family's looks); each row that meets fmt, with fmt's text TOLD by the authors' own Lean function (tested against real Go, not proved from fmt's source: count such statements apart). THE CARD IS WHAT COUNTS. Prove the row's statement (the work); the ties are given (YtebhefgfebghkaaDoorTie.lean); close each card by the builder's one call (the guide's Derived/Test/ToyasCard.lean, 'card_holds'). Laid BY PROGRAM, IN A SANDBOX (cutbox-door.mjs). By AI agents, Wed Nov 11 2026. No macro, syntax, notation, axiom, sorry.
-/
import Derived.Test.YtebhefgfebghkaaDoorRows
import GoSem.ClaimSeven
namespace Go.Proofs.YtebhefgfebghkaaDoor
namespace Rows

/-- THE TIED CARD OF 'sealwaxlaw01.OctetEquals'. -/
def octetEqualsCard : Claim7 := { stood := { row := octetEqualsRow, standIns := [], harness := (true, "9832713aac45cfb136b903331c6df934007393b092f81d9a52d558ebb3312128"), looks := false }, kinds := [], alts := [], laidByText := true, laidKinds := [.data], laidTests := true, laidLooks := .later }
def OctetEqualsCardSaid : Prop := Claim7.holds Tryd.pinned (.plain (OpenSpec.ofChange octetEqualsSpec)) octetEqualsCard

/-- THE TIED CARD OF 'sealwaxlaw01.OctetXors'. -/
def octetXorsCard : Claim7 := { stood := { row := octetXorsRow, standIns := [], harness := (true, "9832713aac45cfb136b903331c6df934007393b092f81d9a52d558ebb3312128"), looks := false }, kinds := [], alts := [], laidByText := true, laidKinds := [.data], laidTests := true, laidLooks := .later }
def OctetXorsCardSaid : Prop := Claim7.holds Tryd.pinned (.plain (OpenSpec.ofChange octetXorsSpec)) octetXorsCard

/-- THE TIED CARD OF 'sealwaxlaw01.OctetPicks'. -/
def octetPicksCard : Claim7 := { stood := { row := octetPicksRow, standIns := [], harness := (true, "9832713aac45cfb136b903331c6df934007393b092f81d9a52d558ebb3312128"), looks := false }, kinds := [], alts := [], laidByText := true, laidKinds := [.data], laidTests := true, laidLooks := .later }
def OctetPicksCardSaid : Prop := Claim7.holds Tryd.pinned (.plain (OpenSpec.ofChange octetPicksSpec)) octetPicksCard

/-- THE TIED CARD OF 'sealwaxlaw01.OctetJoins'. -/
def octetJoinsCard : Claim7 := { stood := { row := octetJoinsRow, standIns := [], harness := (true, "9832713aac45cfb136b903331c6df934007393b092f81d9a52d558ebb3312128"), looks := false }, kinds := [], alts := [], laidByText := true, laidKinds := [.data], laidTests := true, laidLooks := .later }
def OctetJoinsCardSaid : Prop := Claim7.holds Tryd.pinned (.plain (OpenSpec.ofChange octetJoinsSpec)) octetJoinsCard

/-- THE TIED CARD OF 'sealwaxlaw01.OctetDigits'. -/
def octetDigitsCard : Claim7 := { stood := { row := octetDigitsRow, standIns := [], harness := (true, "9832713aac45cfb136b903331c6df934007393b092f81d9a52d558ebb3312128"), looks := false }, kinds := [], alts := [], laidByText := true, laidKinds := [.data], laidTests := true, laidLooks := .later }
def OctetDigitsCardSaid : Prop := Claim7.holds Tryd.pinned (.plain (OpenSpec.ofChange octetDigitsSpec)) octetDigitsCard

/-- THE TIED CARD OF 'sealwaxlaw01.OctetNumbers'. -/
def octetNumbersCard : Claim7 := { stood := { row := octetNumbersRow, standIns := [], harness := (true, "9832713aac45cfb136b903331c6df934007393b092f81d9a52d558ebb3312128"), looks := false }, kinds := [], alts := [], laidByText := true, laidKinds := [.data], laidTests := true, laidLooks := .later }
def OctetNumbersCardSaid : Prop := Claim7.holds Tryd.pinned (.plain (OpenSpec.ofChange octetNumbersSpec)) octetNumbersCard

/-- THE TIED CARD OF 'sealwaxlaw01.OctetBack'. -/
def octetBackCard : Claim7 := { stood := { row := octetBackRow, standIns := [], harness := (true, "9832713aac45cfb136b903331c6df934007393b092f81d9a52d558ebb3312128"), looks := false }, kinds := [], alts := [], laidByText := true, laidKinds := [.data], laidTests := true, laidLooks := .later }
def OctetBackCardSaid : Prop := Claim7.holds Tryd.pinned (.plain (OpenSpec.ofChange octetBackSpec)) octetBackCard

/-- THE TIED CARD OF 'sealwaxlaw01.OctetTwice'. -/
def octetTwiceCard : Claim7 := { stood := { row := octetTwiceRow, standIns := [], harness := (true, "9832713aac45cfb136b903331c6df934007393b092f81d9a52d558ebb3312128"), looks := false }, kinds := [], alts := [], laidByText := true, laidKinds := [.data], laidTests := true, laidLooks := .later }
def OctetTwiceCardSaid : Prop := Claim7.holds Tryd.pinned (.plain (OpenSpec.ofChange octetTwiceSpec)) octetTwiceCard

/-- THE TIED CARD OF 'sealwaxlaw01.OctetOnce'. -/
def octetOnceCard : Claim7 := { stood := { row := octetOnceRow, standIns := [], harness := (true, "9832713aac45cfb136b903331c6df934007393b092f81d9a52d558ebb3312128"), looks := false }, kinds := [], alts := [], laidByText := true, laidKinds := [.data], laidTests := true, laidLooks := .later }
def OctetOnceCardSaid : Prop := Claim7.holds Tryd.pinned (.plain (OpenSpec.ofChange octetOnceSpec)) octetOnceCard

/-- THE SECOND FORM's CARD OF 'sealwaxlaw01.OctetEquals'. -/
def octetEqualsUptoCard : Claim7 := { stood := { row := octetEqualsUptoRow, standIns := [], harness := (true, "9832713aac45cfb136b903331c6df934007393b092f81d9a52d558ebb3312128"), looks := false }, kinds := [], alts := [], laidByText := true, laidKinds := [.data], laidTests := true, laidLooks := .later }
def OctetEqualsUptoCardSaid : Prop := Claim7.holds Tryd.pinned (.plain (OpenSpec.upto octetEqualsSpec)) octetEqualsUptoCard

/-- THE SECOND FORM's CARD OF 'sealwaxlaw01.OctetXors'. -/
def octetXorsUptoCard : Claim7 := { stood := { row := octetXorsUptoRow, standIns := [], harness := (true, "9832713aac45cfb136b903331c6df934007393b092f81d9a52d558ebb3312128"), looks := false }, kinds := [], alts := [], laidByText := true, laidKinds := [.data], laidTests := true, laidLooks := .later }
def OctetXorsUptoCardSaid : Prop := Claim7.holds Tryd.pinned (.plain (OpenSpec.upto octetXorsSpec)) octetXorsUptoCard

/-- THE SECOND FORM's CARD OF 'sealwaxlaw01.OctetPicks'. -/
def octetPicksUptoCard : Claim7 := { stood := { row := octetPicksUptoRow, standIns := [], harness := (true, "9832713aac45cfb136b903331c6df934007393b092f81d9a52d558ebb3312128"), looks := false }, kinds := [], alts := [], laidByText := true, laidKinds := [.data], laidTests := true, laidLooks := .later }
def OctetPicksUptoCardSaid : Prop := Claim7.holds Tryd.pinned (.plain (OpenSpec.upto octetPicksSpec)) octetPicksUptoCard

/-- THE SECOND FORM's CARD OF 'sealwaxlaw01.OctetJoins'. -/
def octetJoinsUptoCard : Claim7 := { stood := { row := octetJoinsUptoRow, standIns := [], harness := (true, "9832713aac45cfb136b903331c6df934007393b092f81d9a52d558ebb3312128"), looks := false }, kinds := [], alts := [], laidByText := true, laidKinds := [.data], laidTests := true, laidLooks := .later }
def OctetJoinsUptoCardSaid : Prop := Claim7.holds Tryd.pinned (.plain (OpenSpec.upto octetJoinsSpec)) octetJoinsUptoCard

/-- THE SECOND FORM's CARD OF 'sealwaxlaw01.OctetDigits'. -/
def octetDigitsUptoCard : Claim7 := { stood := { row := octetDigitsUptoRow, standIns := [], harness := (true, "9832713aac45cfb136b903331c6df934007393b092f81d9a52d558ebb3312128"), looks := false }, kinds := [], alts := [], laidByText := true, laidKinds := [.data], laidTests := true, laidLooks := .later }
def OctetDigitsUptoCardSaid : Prop := Claim7.holds Tryd.pinned (.plain (OpenSpec.upto octetDigitsSpec)) octetDigitsUptoCard

/-- THE SECOND FORM's CARD OF 'sealwaxlaw01.OctetNumbers'. -/
def octetNumbersUptoCard : Claim7 := { stood := { row := octetNumbersUptoRow, standIns := [], harness := (true, "9832713aac45cfb136b903331c6df934007393b092f81d9a52d558ebb3312128"), looks := false }, kinds := [], alts := [], laidByText := true, laidKinds := [.data], laidTests := true, laidLooks := .later }
def OctetNumbersUptoCardSaid : Prop := Claim7.holds Tryd.pinned (.plain (OpenSpec.upto octetNumbersSpec)) octetNumbersUptoCard

/-- THE SECOND FORM's CARD OF 'sealwaxlaw01.OctetBack'. -/
def octetBackUptoCard : Claim7 := { stood := { row := octetBackUptoRow, standIns := [], harness := (true, "9832713aac45cfb136b903331c6df934007393b092f81d9a52d558ebb3312128"), looks := false }, kinds := [], alts := [], laidByText := true, laidKinds := [.data], laidTests := true, laidLooks := .later }
def OctetBackUptoCardSaid : Prop := Claim7.holds Tryd.pinned (.plain (OpenSpec.upto octetBackSpec)) octetBackUptoCard

/-- THE SECOND FORM's CARD OF 'sealwaxlaw01.OctetTwice'. -/
def octetTwiceUptoCard : Claim7 := { stood := { row := octetTwiceUptoRow, standIns := [], harness := (true, "9832713aac45cfb136b903331c6df934007393b092f81d9a52d558ebb3312128"), looks := false }, kinds := [], alts := [], laidByText := true, laidKinds := [.data], laidTests := true, laidLooks := .later }
def OctetTwiceUptoCardSaid : Prop := Claim7.holds Tryd.pinned (.plain (OpenSpec.upto octetTwiceSpec)) octetTwiceUptoCard

/-- THE SECOND FORM's CARD OF 'sealwaxlaw01.OctetOnce'. -/
def octetOnceUptoCard : Claim7 := { stood := { row := octetOnceUptoRow, standIns := [], harness := (true, "9832713aac45cfb136b903331c6df934007393b092f81d9a52d558ebb3312128"), looks := false }, kinds := [], alts := [], laidByText := true, laidKinds := [.data], laidTests := true, laidLooks := .later }
def OctetOnceUptoCardSaid : Prop := Claim7.holds Tryd.pinned (.plain (OpenSpec.upto octetOnceSpec)) octetOnceUptoCard
end Rows
end Go.Proofs.YtebhefgfebghkaaDoor
