/-
  DERIVED. GIVEN WITH THE SEED: THE PROGRAM's TIES (one call each: nine closed facts by the kernel) AND EACH ROW's TIE, after the 31st guide's Derived/Test/Toyas{Tie, Card}.lean. No idea stands in it: it is a product of the set-up. Laid BY PROGRAM, IN A SANDBOX (cutbox-door.mjs). By AI agents, Wed Nov 11 2026. No macro, syntax, notation, axiom, sorry.
-/
import Derived.Test.YtgaofocjnifjdaaDoorRows
import Derived.LaidByTextLater
import Derived.SevenTiedAt
import Derived.LaidSub
import Derived.LaidOnce
namespace Go.Proofs.YtgaofocjnifjdaaDoor
open Go
set_option maxRecDepth 100000
theorem seatTie1 : Tryd.prog.laidByTextLater [("sealwax/sha.numbers256", Rows.laid_sealwax_sha_numbers256), ("sealwax/sha.first512", Rows.laid_sealwax_sha_first512), ("sealwax/sha.numbers512", Rows.laid_sealwax_sha_numbers512), ("sealwax/field.minusOneRoot", Rows.laid_sealwax_field_minusOneRoot), ("sealwax/curve.nought", Rows.laid_sealwax_curve_nought), ("sealwax/curve.twiceD", Rows.laid_sealwax_curve_twiceD)] [.data, .data, .data, .data, .data, .data] true :=
  Program.laidByTextLater_by_one 40 8 81 (by kernel_rfl) (by kernel_rfl) (by kernel_rfl) (by kernel_rfl) (by kernel_rfl) (by kernel_rfl) (fun _ _ => by kernel_rfl)
theorem noOwnUnsafe : Tryd.pinned.checked.prog.headLifts.contains "ownunsafe" = false := by kernel_rfl
theorem tie : Tryd.prog.laidByTextLater [("sealwax/sha.numbers256", Rows.laid_sealwax_sha_numbers256), ("sealwax/sha.first512", Rows.laid_sealwax_sha_first512), ("sealwax/sha.numbers512", Rows.laid_sealwax_sha_numbers512), ("sealwax/field.minusOneRoot", Rows.laid_sealwax_field_minusOneRoot), ("sealwax/curve.nought", Rows.laid_sealwax_curve_nought), ("sealwax/curve.twiceD", Rows.laid_sealwax_curve_twiceD)] [.data, .data, .data, .data, .data, .data] true :=
  Program.laidByTextLater.sub seatTie1 ["sealwax/sha.numbers256", "sealwax/sha.first512", "sealwax/sha.numbers512", "sealwax/field.minusOneRoot", "sealwax/curve.nought", "sealwax/curve.twiceD"] (by kernel_rfl) (by kernel_rfl)
theorem signBack_row_tie : Rows.signBackRow.laidByTextAt .later Tryd.pinned [.data, .data, .data, .data, .data, .data] true :=
  OpenClaim.laidByTextAt_later rfl rfl tie noOwnUnsafe
theorem signOne_row_tie : Rows.signOneRow.laidByTextAt .later Tryd.pinned [.data, .data, .data, .data, .data, .data] true :=
  OpenClaim.laidByTextAt_later rfl rfl tie noOwnUnsafe
theorem signBackUpto_row_tie : Rows.signBackUptoRow.laidByTextAt .later Tryd.pinned [.data, .data, .data, .data, .data, .data] true :=
  OpenClaim.laidByTextAt_later rfl rfl tie noOwnUnsafe
theorem signOneUpto_row_tie : Rows.signOneUptoRow.laidByTextAt .later Tryd.pinned [.data, .data, .data, .data, .data, .data] true :=
  OpenClaim.laidByTextAt_later rfl rfl tie noOwnUnsafe
end Go.Proofs.YtgaofocjnifjdaaDoor
