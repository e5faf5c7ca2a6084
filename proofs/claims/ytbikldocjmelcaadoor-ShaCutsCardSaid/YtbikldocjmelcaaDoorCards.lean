/-
  DERIVED. GIVEN WITH THE SEED: THE CARDS: each row of YtbikldocjmelcaaDoorRows.lean that lists a variable, with what it lists TIED to the program's text (the seventh form; the later family's looks); each row that meets fmt, with fmt's text TOLD by the authors' own Lean function (tested against real Go, not proved from fmt's source: count such statements apart). THE CARD IS WHAT COUNTS. Prove the row's statement (the work); the ties are given (YtbikldocjmelcaaDoorTie.lean); close each card by the builder's one call (the guide's Derived/Test/ToyasCard.lean, 'card_holds'). Laid BY PROGRAM, IN A SANDBOX (cutbox-door.mjs). By AI agents, Wed Nov 11 2026. No macro, syntax, notation, axiom, sorry.
-/
import Derived.Test.YtbikldocjmelcaaDoorRows
import GoSem.ClaimSeven
namespace Go.Proofs.YtbikldocjmelcaaDoor
namespace Rows

/-- THE TIED CARD OF 'sealwaxlaw06.ShaSmall'. -/
def shaSmallCard : Claim7 := { stood := { row := shaSmallRow, standIns := [], harness := (true, "48da7decb78199404f35cb6987e8f6b21e82fbb6feeff50d66b8def277453dbf"), looks := false }, kinds := [], alts := [], laidByText := true, laidKinds := [.data, .data, .data, .data], laidTests := true, laidLooks := .later }
def ShaSmallCardSaid : Prop := Claim7.holds Tryd.pinned (.plain (OpenSpec.ofChange shaSmallSpec)) shaSmallCard

/-- THE TIED CARD OF 'sealwaxlaw06.ShaGreat'. -/
def shaGreatCard : Claim7 := { stood := { row := shaGreatRow, standIns := [], harness := (true, "48da7decb78199404f35cb6987e8f6b21e82fbb6feeff50d66b8def277453dbf"), looks := false }, kinds := [], alts := [], laidByText := true, laidKinds := [.data, .data, .data, .data], laidTests := true, laidLooks := .later }
def ShaGreatCardSaid : Prop := Claim7.holds Tryd.pinned (.plain (OpenSpec.ofChange shaGreatSpec)) shaGreatCard

/-- THE TIED CARD OF 'sealwaxlaw06.ShaWrites'. -/
def shaWritesCard : Claim7 := { stood := { row := shaWritesRow, standIns := [], harness := (true, "48da7decb78199404f35cb6987e8f6b21e82fbb6feeff50d66b8def277453dbf"), looks := false }, kinds := [], alts := [], laidByText := true, laidKinds := [.data, .data, .data, .data], laidTests := true, laidLooks := .later }
def ShaWritesCardSaid : Prop := Claim7.holds Tryd.pinned (.plain (OpenSpec.ofChange shaWritesSpec)) shaWritesCard

/-- THE TIED CARD OF 'sealwaxlaw06.ShaClones'. -/
def shaClonesCard : Claim7 := { stood := { row := shaClonesRow, standIns := [], harness := (true, "48da7decb78199404f35cb6987e8f6b21e82fbb6feeff50d66b8def277453dbf"), looks := false }, kinds := [], alts := [], laidByText := true, laidKinds := [.data, .data, .data, .data], laidTests := true, laidLooks := .later }
def ShaClonesCardSaid : Prop := Claim7.holds Tryd.pinned (.plain (OpenSpec.ofChange shaClonesSpec)) shaClonesCard

/-- THE TIED CARD OF 'sealwaxlaw06.ShaCuts'. -/
def shaCutsCard : Claim7 := { stood := { row := shaCutsRow, standIns := [], harness := (true, "48da7decb78199404f35cb6987e8f6b21e82fbb6feeff50d66b8def277453dbf"), looks := false }, kinds := [], alts := [], laidByText := true, laidKinds := [.data, .data, .data, .data], laidTests := true, laidLooks := .later }
def ShaCutsCardSaid : Prop := Claim7.holds Tryd.pinned (.plain (OpenSpec.ofChange shaCutsSpec)) shaCutsCard

/-- THE TIED CARD OF 'sealwaxlaw06.ShaNobody'. -/
def shaNobodyCard : Claim7 := { stood := { row := shaNobodyRow, standIns := [], harness := (true, "48da7decb78199404f35cb6987e8f6b21e82fbb6feeff50d66b8def277453dbf"), looks := false }, kinds := [], alts := [], laidByText := true, laidKinds := [.data, .data, .data, .data], laidTests := true, laidLooks := .later }
def ShaNobodyCardSaid : Prop := Claim7.holds Tryd.pinned (.plain (OpenSpec.ofChange shaNobodySpec)) shaNobodyCard

/-- THE SECOND FORM's CARD OF 'sealwaxlaw06.ShaSmall'. -/
def shaSmallUptoCard : Claim7 := { stood := { row := shaSmallUptoRow, standIns := [], harness := (true, "48da7decb78199404f35cb6987e8f6b21e82fbb6feeff50d66b8def277453dbf"), looks := false }, kinds := [], alts := [], laidByText := true, laidKinds := [.data, .data, .data, .data], laidTests := true, laidLooks := .later }
def ShaSmallUptoCardSaid : Prop := Claim7.holds Tryd.pinned (.plain (OpenSpec.upto shaSmallSpec)) shaSmallUptoCard

/-- THE SECOND FORM's CARD OF 'sealwaxlaw06.ShaGreat'. -/
def shaGreatUptoCard : Claim7 := { stood := { row := shaGreatUptoRow, standIns := [], harness := (true, "48da7decb78199404f35cb6987e8f6b21e82fbb6feeff50d66b8def277453dbf"), looks := false }, kinds := [], alts := [], laidByText := true, laidKinds := [.data, .data, .data, .data], laidTests := true, laidLooks := .later }
def ShaGreatUptoCardSaid : Prop := Claim7.holds Tryd.pinned (.plain (OpenSpec.upto shaGreatSpec)) shaGreatUptoCard

/-- THE SECOND FORM's CARD OF 'sealwaxlaw06.ShaWrites'. -/
def shaWritesUptoCard : Claim7 := { stood := { row := shaWritesUptoRow, standIns := [], harness := (true, "48da7decb78199404f35cb6987e8f6b21e82fbb6feeff50d66b8def277453dbf"), looks := false }, kinds := [], alts := [], laidByText := true, laidKinds := [.data, .data, .data, .data], laidTests := true, laidLooks := .later }
def ShaWritesUptoCardSaid : Prop := Claim7.holds Tryd.pinned (.plain (OpenSpec.upto shaWritesSpec)) shaWritesUptoCard

/-- THE SECOND FORM's CARD OF 'sealwaxlaw06.ShaClones'. -/
def shaClonesUptoCard : Claim7 := { stood := { row := shaClonesUptoRow, standIns := [], harness := (true, "48da7decb78199404f35cb6987e8f6b21e82fbb6feeff50d66b8def277453dbf"), looks := false }, kinds := [], alts := [], laidByText := true, laidKinds := [.data, .data, .data, .data], laidTests := true, laidLooks := .later }
def ShaClonesUptoCardSaid : Prop := Claim7.holds Tryd.pinned (.plain (OpenSpec.upto shaClonesSpec)) shaClonesUptoCard

/-- THE SECOND FORM's CARD OF 'sealwaxlaw06.ShaCuts'. -/
def shaCutsUptoCard : Claim7 := { stood := { row := shaCutsUptoRow, standIns := [], harness := (true, "48da7decb78199404f35cb6987e8f6b21e82fbb6feeff50d66b8def277453dbf"), looks := false }, kinds := [], alts := [], laidByText := true, laidKinds := [.data, .data, .data, .data], laidTests := true, laidLooks := .later }
def ShaCutsUptoCardSaid : Prop := Claim7.holds Tryd.pinned (.plain (OpenSpec.upto shaCutsSpec)) shaCutsUptoCard

/-- THE SECOND FORM's CARD OF 'sealwaxlaw06.ShaNobody'. -/
def shaNobodyUptoCard : Claim7 := { stood := { row := shaNobodyUptoRow, standIns := [], harness := (true, "48da7decb78199404f35cb6987e8f6b21e82fbb6feeff50d66b8def277453dbf"), looks := false }, kinds := [], alts := [], laidByText := true, laidKinds := [.data, .data, .data, .data], laidTests := true, laidLooks := .later }
def ShaNobodyUptoCardSaid : Prop := Claim7.holds Tryd.pinned (.plain (OpenSpec.upto shaNobodySpec)) shaNobodyUptoCard
end Rows
end Go.Proofs.YtbikldocjmelcaaDoor
