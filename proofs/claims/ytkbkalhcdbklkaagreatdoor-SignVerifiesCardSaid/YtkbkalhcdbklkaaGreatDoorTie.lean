/-
  DERIVED. GIVEN WITH THE SEED: THE PROGRAM's TIES (one call each: nine closed facts by the kernel) AND EACH ROW's TIE, after the 31st guide's Derived/Test/Toyas{Tie, Card}.lean. No idea stands in it: it is a product of the set-up. Laid BY PROGRAM, IN A SANDBOX (cutbox-door.mjs). By AI agents, Wed Nov 11 2026. No macro, syntax, notation, axiom, sorry.
-/
import Derived.Test.YtkbkalhcdbklkaaGreatDoorRows
import Derived.LaidByTextLater
import Derived.SevenTiedAt
import Derived.LaidSub
import Derived.LaidOnce
namespace Go.Proofs.YtkbkalhcdbklkaaGreatDoor
open Go
set_option maxRecDepth 100000
theorem seatTie1 : Tryz.prog.laidByTextLater [("sealwax/sha.numbers256", Rows.laid_sealwax_sha_numbers256), ("sealwax/sha.first512", Rows.laid_sealwax_sha_first512), ("sealwax/sha.numbers512", Rows.laid_sealwax_sha_numbers512), ("sealwax/field.minusOneRoot", Rows.laid_sealwax_field_minusOneRoot), ("sealwax/curve.nought", Rows.laid_sealwax_curve_nought), ("sealwax/curve.twiceD", Rows.laid_sealwax_curve_twiceD)] [.data, .data, .data, .data, .data, .data] true :=
  Program.laidByTextLater_by_one 40 8 81 (by kernel_rfl) (by kernel_rfl) (by kernel_rfl) (by kernel_rfl) (by kernel_rfl) (by kernel_rfl) (fun _ _ => by kernel_rfl)
theorem noOwnUnsafe : Tryz.pinned.checked.prog.headLifts.contains "ownunsafe" = false := by kernel_rfl
theorem tie : Tryz.prog.laidByTextLater [("sealwax/sha.numbers256", Rows.laid_sealwax_sha_numbers256), ("sealwax/sha.first512", Rows.laid_sealwax_sha_first512), ("sealwax/sha.numbers512", Rows.laid_sealwax_sha_numbers512), ("sealwax/field.minusOneRoot", Rows.laid_sealwax_field_minusOneRoot), ("sealwax/curve.nought", Rows.laid_sealwax_curve_nought), ("sealwax/curve.twiceD", Rows.laid_sealwax_curve_twiceD)] [.data, .data, .data, .data, .data, .data] true :=
  Program.laidByTextLater.sub seatTie1 ["sealwax/sha.numbers256", "sealwax/sha.first512", "sealwax/sha.numbers512", "sealwax/field.minusOneRoot", "sealwax/curve.nought", "sealwax/curve.twiceD"] (by kernel_rfl) (by kernel_rfl)
theorem signPublics_row_tie : Rows.signPublicsRow.laidByTextAt .later Tryz.pinned [.data, .data, .data, .data, .data, .data] true :=
  OpenClaim.laidByTextAt_later rfl rfl tie noOwnUnsafe
theorem signSigns_row_tie : Rows.signSignsRow.laidByTextAt .later Tryz.pinned [.data, .data, .data, .data, .data, .data] true :=
  OpenClaim.laidByTextAt_later rfl rfl tie noOwnUnsafe
theorem signVerifies_row_tie : Rows.signVerifiesRow.laidByTextAt .later Tryz.pinned [.data, .data, .data, .data, .data, .data] true :=
  OpenClaim.laidByTextAt_later rfl rfl tie noOwnUnsafe
theorem signPublicsUpto_row_tie : Rows.signPublicsUptoRow.laidByTextAt .later Tryz.pinned [.data, .data, .data, .data, .data, .data] true :=
  OpenClaim.laidByTextAt_later rfl rfl tie noOwnUnsafe
theorem signSignsUpto_row_tie : Rows.signSignsUptoRow.laidByTextAt .later Tryz.pinned [.data, .data, .data, .data, .data, .data] true :=
  OpenClaim.laidByTextAt_later rfl rfl tie noOwnUnsafe
theorem signVerifiesUpto_row_tie : Rows.signVerifiesUptoRow.laidByTextAt .later Tryz.pinned [.data, .data, .data, .data, .data, .data] true :=
  OpenClaim.laidByTextAt_later rfl rfl tie noOwnUnsafe
end Go.Proofs.YtkbkalhcdbklkaaGreatDoor
