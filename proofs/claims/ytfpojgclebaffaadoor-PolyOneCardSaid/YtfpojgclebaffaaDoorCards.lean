/-
  DERIVED. GIVEN WITH THE SEED: THE CARDS: each row of YtfpojgclebaffaaDoorRows.lean that lists a variable, with what it lists TIED to the program's text (the seventh form; the later family's looks); each row that meets fmt, with fmt's text TOLD by the authors' own Lean function (tested against real Go, not proved from fmt's source: count such statements apart). THE CARD IS WHAT COUNTS. Prove the row's statement (the work); the ties are given (YtfpojgclebaffaaDoorTie.lean); close each card by the builder's one call (the guide's Derived/Test/ToyasCard.lean, 'card_holds'). Laid BY PROGRAM, IN A SANDBOX (cutbox-door.mjs). By AI agents, Wed Nov 11 2026. No macro, syntax, notation, axiom, sorry.
-/
import Derived.Test.YtfpojgclebaffaaDoorRows
import GoSem.ClaimSeven
namespace Go.Proofs.YtfpojgclebaffaaDoor
namespace Rows

/-- THE TIED CARD OF 'sealwaxlaw11.PolyCuts'. -/
def polyCutsCard : Claim7 := { stood := { row := polyCutsRow, standIns := [], harness := (true, "9348aedc7f1ec56e9baca1e64299b2b86e59b455088b37a6f037cfd70726251b"), looks := false }, kinds := [], alts := [], laidByText := true, laidKinds := [.data], laidTests := true, laidLooks := .later }
def PolyCutsCardSaid : Prop := Claim7.holds Tryd.pinned (.plain (OpenSpec.ofChange polyCutsSpec)) polyCutsCard

/-- THE TIED CARD OF 'sealwaxlaw11.PolyTags'. -/
def polyTagsCard : Claim7 := { stood := { row := polyTagsRow, standIns := [], harness := (true, "9348aedc7f1ec56e9baca1e64299b2b86e59b455088b37a6f037cfd70726251b"), looks := false }, kinds := [], alts := [], laidByText := true, laidKinds := [.data], laidTests := true, laidLooks := .later }
def PolyTagsCardSaid : Prop := Claim7.holds Tryd.pinned (.plain (OpenSpec.ofChange polyTagsSpec)) polyTagsCard

/-- THE TIED CARD OF 'sealwaxlaw11.PolyBits'. -/
def polyBitsCard : Claim7 := { stood := { row := polyBitsRow, standIns := [], harness := (true, "9348aedc7f1ec56e9baca1e64299b2b86e59b455088b37a6f037cfd70726251b"), looks := false }, kinds := [], alts := [], laidByText := true, laidKinds := [.data], laidTests := true, laidLooks := .later }
def PolyBitsCardSaid : Prop := Claim7.holds Tryd.pinned (.plain (OpenSpec.ofChange polyBitsSpec)) polyBitsCard

/-- THE TIED CARD OF 'sealwaxlaw11.PolyOne'. -/
def polyOneCard : Claim7 := { stood := { row := polyOneRow, standIns := [], harness := (true, "9348aedc7f1ec56e9baca1e64299b2b86e59b455088b37a6f037cfd70726251b"), looks := false }, kinds := [], alts := [], laidByText := true, laidKinds := [.data], laidTests := true, laidLooks := .later }
def PolyOneCardSaid : Prop := Claim7.holds Tryd.pinned (.plain (OpenSpec.ofChange polyOneSpec)) polyOneCard

/-- THE SECOND FORM's CARD OF 'sealwaxlaw11.PolyCuts'. -/
def polyCutsUptoCard : Claim7 := { stood := { row := polyCutsUptoRow, standIns := [], harness := (true, "9348aedc7f1ec56e9baca1e64299b2b86e59b455088b37a6f037cfd70726251b"), looks := false }, kinds := [], alts := [], laidByText := true, laidKinds := [.data], laidTests := true, laidLooks := .later }
def PolyCutsUptoCardSaid : Prop := Claim7.holds Tryd.pinned (.plain (OpenSpec.upto polyCutsSpec)) polyCutsUptoCard

/-- THE SECOND FORM's CARD OF 'sealwaxlaw11.PolyTags'. -/
def polyTagsUptoCard : Claim7 := { stood := { row := polyTagsUptoRow, standIns := [], harness := (true, "9348aedc7f1ec56e9baca1e64299b2b86e59b455088b37a6f037cfd70726251b"), looks := false }, kinds := [], alts := [], laidByText := true, laidKinds := [.data], laidTests := true, laidLooks := .later }
def PolyTagsUptoCardSaid : Prop := Claim7.holds Tryd.pinned (.plain (OpenSpec.upto polyTagsSpec)) polyTagsUptoCard

/-- THE SECOND FORM's CARD OF 'sealwaxlaw11.PolyBits'. -/
def polyBitsUptoCard : Claim7 := { stood := { row := polyBitsUptoRow, standIns := [], harness := (true, "9348aedc7f1ec56e9baca1e64299b2b86e59b455088b37a6f037cfd70726251b"), looks := false }, kinds := [], alts := [], laidByText := true, laidKinds := [.data], laidTests := true, laidLooks := .later }
def PolyBitsUptoCardSaid : Prop := Claim7.holds Tryd.pinned (.plain (OpenSpec.upto polyBitsSpec)) polyBitsUptoCard

/-- THE SECOND FORM's CARD OF 'sealwaxlaw11.PolyOne'. -/
def polyOneUptoCard : Claim7 := { stood := { row := polyOneUptoRow, standIns := [], harness := (true, "9348aedc7f1ec56e9baca1e64299b2b86e59b455088b37a6f037cfd70726251b"), looks := false }, kinds := [], alts := [], laidByText := true, laidKinds := [.data], laidTests := true, laidLooks := .later }
def PolyOneUptoCardSaid : Prop := Claim7.holds Tryd.pinned (.plain (OpenSpec.upto polyOneSpec)) polyOneUptoCard
end Rows
end Go.Proofs.YtfpojgclebaffaaDoor
