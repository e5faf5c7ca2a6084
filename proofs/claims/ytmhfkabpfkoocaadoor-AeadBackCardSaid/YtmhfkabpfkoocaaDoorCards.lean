/-
  DERIVED. GIVEN WITH THE SEED: THE CARDS: each row of YtmhfkabpfkoocaaDoorRows.lean that lists a variable, with what it lists TIED to the program's text (the seventh form; the later family's looks); each row that meets fmt, with fmt's text TOLD by the authors' own Lean function (tested against real Go, not proved from fmt's source: count such statements apart). THE CARD IS WHAT COUNTS. Prove the row's statement (the work); the ties are given (YtmhfkabpfkoocaaDoorTie.lean); close each card by the builder's one call (the guide's Derived/Test/ToyasCard.lean, 'card_holds'). Laid BY PROGRAM, IN A SANDBOX (cutbox-door.mjs). By AI agents, Wed Nov 11 2026. No macro, syntax, notation, axiom, sorry.
-/
import Derived.Test.YtmhfkabpfkoocaaDoorRows
import GoSem.ClaimSeven
namespace Go.Proofs.YtmhfkabpfkoocaaDoor
namespace Rows

/-- THE TIED CARD OF 'sealwaxlaw12.AeadSeals'. -/
def aeadSealsCard : Claim7 := { stood := { row := aeadSealsRow, standIns := [], harness := (true, "e3dedc53d11a6a1ddf42a08d636298535291ba987322e1bf54bc2f77219b87dd"), looks := false }, kinds := [], alts := [], laidByText := true, laidKinds := [.data], laidTests := true, laidLooks := .later }
def AeadSealsCardSaid : Prop := Claim7.holds Tryd.pinned (.plain (OpenSpec.ofChange aeadSealsSpec)) aeadSealsCard

/-- THE TIED CARD OF 'sealwaxlaw12.AeadOpens'. -/
def aeadOpensCard : Claim7 := { stood := { row := aeadOpensRow, standIns := [], harness := (true, "e3dedc53d11a6a1ddf42a08d636298535291ba987322e1bf54bc2f77219b87dd"), looks := false }, kinds := [], alts := [], laidByText := true, laidKinds := [.data], laidTests := true, laidLooks := .later }
def AeadOpensCardSaid : Prop := Claim7.holds Tryd.pinned (.plain (OpenSpec.ofChange aeadOpensSpec)) aeadOpensCard

/-- THE TIED CARD OF 'sealwaxlaw12.AeadBack'. -/
def aeadBackCard : Claim7 := { stood := { row := aeadBackRow, standIns := [], harness := (true, "e3dedc53d11a6a1ddf42a08d636298535291ba987322e1bf54bc2f77219b87dd"), looks := false }, kinds := [], alts := [], laidByText := true, laidKinds := [.data], laidTests := true, laidLooks := .later }
def AeadBackCardSaid : Prop := Claim7.holds Tryd.pinned (.plain (OpenSpec.ofChange aeadBackSpec)) aeadBackCard

/-- THE TIED CARD OF 'sealwaxlaw12.AeadForm'. -/
def aeadFormCard : Claim7 := { stood := { row := aeadFormRow, standIns := [], harness := (true, "e3dedc53d11a6a1ddf42a08d636298535291ba987322e1bf54bc2f77219b87dd"), looks := false }, kinds := [], alts := [], laidByText := true, laidKinds := [.data], laidTests := true, laidLooks := .later }
def AeadFormCardSaid : Prop := Claim7.holds Tryd.pinned (.plain (OpenSpec.ofChange aeadFormSpec)) aeadFormCard

/-- THE SECOND FORM's CARD OF 'sealwaxlaw12.AeadSeals'. -/
def aeadSealsUptoCard : Claim7 := { stood := { row := aeadSealsUptoRow, standIns := [], harness := (true, "e3dedc53d11a6a1ddf42a08d636298535291ba987322e1bf54bc2f77219b87dd"), looks := false }, kinds := [], alts := [], laidByText := true, laidKinds := [.data], laidTests := true, laidLooks := .later }
def AeadSealsUptoCardSaid : Prop := Claim7.holds Tryd.pinned (.plain (OpenSpec.upto aeadSealsSpec)) aeadSealsUptoCard

/-- THE SECOND FORM's CARD OF 'sealwaxlaw12.AeadOpens'. -/
def aeadOpensUptoCard : Claim7 := { stood := { row := aeadOpensUptoRow, standIns := [], harness := (true, "e3dedc53d11a6a1ddf42a08d636298535291ba987322e1bf54bc2f77219b87dd"), looks := false }, kinds := [], alts := [], laidByText := true, laidKinds := [.data], laidTests := true, laidLooks := .later }
def AeadOpensUptoCardSaid : Prop := Claim7.holds Tryd.pinned (.plain (OpenSpec.upto aeadOpensSpec)) aeadOpensUptoCard

/-- THE SECOND FORM's CARD OF 'sealwaxlaw12.AeadBack'. -/
def aeadBackUptoCard : Claim7 := { stood := { row := aeadBackUptoRow, standIns := [], harness := (true, "e3dedc53d11a6a1ddf42a08d636298535291ba987322e1bf54bc2f77219b87dd"), looks := false }, kinds := [], alts := [], laidByText := true, laidKinds := [.data], laidTests := true, laidLooks := .later }
def AeadBackUptoCardSaid : Prop := Claim7.holds Tryd.pinned (.plain (OpenSpec.upto aeadBackSpec)) aeadBackUptoCard

/-- THE SECOND FORM's CARD OF 'sealwaxlaw12.AeadForm'. -/
def aeadFormUptoCard : Claim7 := { stood := { row := aeadFormUptoRow, standIns := [], harness := (true, "e3dedc53d11a6a1ddf42a08d636298535291ba987322e1bf54bc2f77219b87dd"), looks := false }, kinds := [], alts := [], laidByText := true, laidKinds := [.data], laidTests := true, laidLooks := .later }
def AeadFormUptoCardSaid : Prop := Claim7.holds Tryd.pinned (.plain (OpenSpec.upto aeadFormSpec)) aeadFormUptoCard
end Rows
end Go.Proofs.YtmhfkabpfkoocaaDoor
