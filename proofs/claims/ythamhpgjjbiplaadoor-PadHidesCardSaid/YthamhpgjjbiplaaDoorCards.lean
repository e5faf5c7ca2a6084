/-
  DERIVED. GIVEN WITH THE SEED: THE CARDS: each row of YthamhpgjjbiplaaDoorRows.lean that lists a variable, with what it lists TIED to the program's text (the seventh form; the later family's looks); each row that meets fmt, with fmt's text TOLD by the authors' own Lean function (tested against real Go, not proved from fmt's source: count such statements apart). THE CARD IS WHAT COUNTS. Prove the row's statement (the work); the ties are given (YthamhpgjjbiplaaDoorTie.lean); close each card by the builder's one call (the guide's Derived/Test/ToyasCard.lean, 'card_holds'). Laid BY PROGRAM, IN A SANDBOX (cutbox-door.mjs). By AI agents, Wed Nov 11 2026. No macro, syntax, notation, axiom, sorry.
-/
import Derived.Test.YthamhpgjjbiplaaDoorRows
import GoSem.ClaimSeven
namespace Go.Proofs.YthamhpgjjbiplaaDoor
namespace Rows

/-- THE TIED CARD OF 'sealwaxlaw14.PadBuckets'. -/
def padBucketsCard : Claim7 := { stood := { row := padBucketsRow, standIns := [], harness := (true, "372648a40b2bd8352f20aeb9c9ca1614c478c3ea29b3190b45ff74ca2200b6d5"), looks := false }, kinds := [], alts := [], laidByText := true, laidKinds := [.data], laidTests := true, laidLooks := .later }
def PadBucketsCardSaid : Prop := Claim7.holds Tryd.pinned (.plain (OpenSpec.ofChange padBucketsSpec)) padBucketsCard

/-- THE TIED CARD OF 'sealwaxlaw14.PadPads'. -/
def padPadsCard : Claim7 := { stood := { row := padPadsRow, standIns := [], harness := (true, "372648a40b2bd8352f20aeb9c9ca1614c478c3ea29b3190b45ff74ca2200b6d5"), looks := false }, kinds := [], alts := [], laidByText := true, laidKinds := [.data], laidTests := true, laidLooks := .later }
def PadPadsCardSaid : Prop := Claim7.holds Tryd.pinned (.plain (OpenSpec.ofChange padPadsSpec)) padPadsCard

/-- THE TIED CARD OF 'sealwaxlaw14.PadUnpads'. -/
def padUnpadsCard : Claim7 := { stood := { row := padUnpadsRow, standIns := [], harness := (true, "372648a40b2bd8352f20aeb9c9ca1614c478c3ea29b3190b45ff74ca2200b6d5"), looks := false }, kinds := [], alts := [], laidByText := true, laidKinds := [.data], laidTests := true, laidLooks := .later }
def PadUnpadsCardSaid : Prop := Claim7.holds Tryd.pinned (.plain (OpenSpec.ofChange padUnpadsSpec)) padUnpadsCard

/-- THE TIED CARD OF 'sealwaxlaw14.PadBack'. -/
def padBackCard : Claim7 := { stood := { row := padBackRow, standIns := [], harness := (true, "372648a40b2bd8352f20aeb9c9ca1614c478c3ea29b3190b45ff74ca2200b6d5"), looks := false }, kinds := [], alts := [], laidByText := true, laidKinds := [.data], laidTests := true, laidLooks := .later }
def PadBackCardSaid : Prop := Claim7.holds Tryd.pinned (.plain (OpenSpec.ofChange padBackSpec)) padBackCard

/-- THE TIED CARD OF 'sealwaxlaw14.PadHides'. -/
def padHidesCard : Claim7 := { stood := { row := padHidesRow, standIns := [], harness := (true, "372648a40b2bd8352f20aeb9c9ca1614c478c3ea29b3190b45ff74ca2200b6d5"), looks := false }, kinds := [], alts := [], laidByText := true, laidKinds := [.data], laidTests := true, laidLooks := .later }
def PadHidesCardSaid : Prop := Claim7.holds Tryd.pinned (.plain (OpenSpec.ofChange padHidesSpec)) padHidesCard

/-- THE SECOND FORM's CARD OF 'sealwaxlaw14.PadBuckets'. -/
def padBucketsUptoCard : Claim7 := { stood := { row := padBucketsUptoRow, standIns := [], harness := (true, "372648a40b2bd8352f20aeb9c9ca1614c478c3ea29b3190b45ff74ca2200b6d5"), looks := false }, kinds := [], alts := [], laidByText := true, laidKinds := [.data], laidTests := true, laidLooks := .later }
def PadBucketsUptoCardSaid : Prop := Claim7.holds Tryd.pinned (.plain (OpenSpec.upto padBucketsSpec)) padBucketsUptoCard

/-- THE SECOND FORM's CARD OF 'sealwaxlaw14.PadPads'. -/
def padPadsUptoCard : Claim7 := { stood := { row := padPadsUptoRow, standIns := [], harness := (true, "372648a40b2bd8352f20aeb9c9ca1614c478c3ea29b3190b45ff74ca2200b6d5"), looks := false }, kinds := [], alts := [], laidByText := true, laidKinds := [.data], laidTests := true, laidLooks := .later }
def PadPadsUptoCardSaid : Prop := Claim7.holds Tryd.pinned (.plain (OpenSpec.upto padPadsSpec)) padPadsUptoCard

/-- THE SECOND FORM's CARD OF 'sealwaxlaw14.PadUnpads'. -/
def padUnpadsUptoCard : Claim7 := { stood := { row := padUnpadsUptoRow, standIns := [], harness := (true, "372648a40b2bd8352f20aeb9c9ca1614c478c3ea29b3190b45ff74ca2200b6d5"), looks := false }, kinds := [], alts := [], laidByText := true, laidKinds := [.data], laidTests := true, laidLooks := .later }
def PadUnpadsUptoCardSaid : Prop := Claim7.holds Tryd.pinned (.plain (OpenSpec.upto padUnpadsSpec)) padUnpadsUptoCard

/-- THE SECOND FORM's CARD OF 'sealwaxlaw14.PadBack'. -/
def padBackUptoCard : Claim7 := { stood := { row := padBackUptoRow, standIns := [], harness := (true, "372648a40b2bd8352f20aeb9c9ca1614c478c3ea29b3190b45ff74ca2200b6d5"), looks := false }, kinds := [], alts := [], laidByText := true, laidKinds := [.data], laidTests := true, laidLooks := .later }
def PadBackUptoCardSaid : Prop := Claim7.holds Tryd.pinned (.plain (OpenSpec.upto padBackSpec)) padBackUptoCard

/-- THE SECOND FORM's CARD OF 'sealwaxlaw14.PadHides'. -/
def padHidesUptoCard : Claim7 := { stood := { row := padHidesUptoRow, standIns := [], harness := (true, "372648a40b2bd8352f20aeb9c9ca1614c478c3ea29b3190b45ff74ca2200b6d5"), looks := false }, kinds := [], alts := [], laidByText := true, laidKinds := [.data], laidTests := true, laidLooks := .later }
def PadHidesUptoCardSaid : Prop := Claim7.holds Tryd.pinned (.plain (OpenSpec.upto padHidesSpec)) padHidesUptoCard
end Rows
end Go.Proofs.YthamhpgjjbiplaaDoor
