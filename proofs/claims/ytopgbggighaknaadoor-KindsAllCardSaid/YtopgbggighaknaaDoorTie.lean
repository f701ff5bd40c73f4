/-
  DERIVED. GIVEN WITH THE SEED: THE PROGRAM's TIES (one call each: nine closed facts by the kernel) AND EACH ROW's TIE, after the 31st guide's Derived/Test/Toyas{Tie, Card}.lean. No idea stands in it: it is a product of the set-up. Laid BY PROGRAM, IN A SANDBOX (cutbox-door.mjs). By AI agents, Wed Nov 11 2026. No macro, syntax, notation, axiom, sorry.
-/
import Derived.Test.YtopgbggighaknaaDoorRows
import Derived.LaidByTextLater
import Derived.SevenTiedAt
import Derived.LaidSub
import Derived.LaidOnce
namespace Go.Proofs.YtopgbggighaknaaDoor
open Go
set_option maxRecDepth 100000
theorem seatTie1 : Tryd.prog.laidByTextLater [("math/bits.deBruijn32tab", Rows.laid_math_bits_deBruijn32tab), ("math/bits.deBruijn64tab", Rows.laid_math_bits_deBruijn64tab), ("internal/strconv.uint64pow10", Rows.laid_internal_strconv_uint64pow10), ("errors.errorType", Rows.laid_errors_errorType), ("selion/desc.errDesc", Rows.laid_selion_desc_errDesc), ("selion/desc.errText", Rows.laid_selion_desc_errText), ("selion/kinds.errDesc", Rows.laid_selion_kinds_errDesc), ("selion/kinds.errEnd", Rows.laid_selion_kinds_errEnd), ("selion/kinds.errTwice", Rows.laid_selion_kinds_errTwice), ("selion/kinds.errMany", Rows.laid_selion_kinds_errMany), ("selion/kinds.errKind", Rows.laid_selion_kinds_errKind)] [.data, .data, .data, .handle, .sentinel, .sentinel, .sentinel, .sentinel, .sentinel, .sentinel, .sentinel] true :=
  Program.laidByTextLater_by_one 164 8 65 (by kernel_rfl) (by kernel_rfl) (by kernel_rfl) (by kernel_rfl) (by kernel_rfl) (by kernel_rfl) (fun _ _ => by kernel_rfl)
theorem noOwnUnsafe : Tryd.pinned.checked.prog.headLifts.contains "ownunsafe" = false := by kernel_rfl
theorem tie : Tryd.prog.laidByTextLater [("math/bits.deBruijn32tab", Rows.laid_math_bits_deBruijn32tab), ("math/bits.deBruijn64tab", Rows.laid_math_bits_deBruijn64tab), ("internal/strconv.uint64pow10", Rows.laid_internal_strconv_uint64pow10), ("errors.errorType", Rows.laid_errors_errorType), ("selion/desc.errDesc", Rows.laid_selion_desc_errDesc), ("selion/desc.errText", Rows.laid_selion_desc_errText), ("selion/kinds.errDesc", Rows.laid_selion_kinds_errDesc), ("selion/kinds.errEnd", Rows.laid_selion_kinds_errEnd), ("selion/kinds.errTwice", Rows.laid_selion_kinds_errTwice), ("selion/kinds.errMany", Rows.laid_selion_kinds_errMany), ("selion/kinds.errKind", Rows.laid_selion_kinds_errKind)] [.data, .data, .data, .handle, .sentinel, .sentinel, .sentinel, .sentinel, .sentinel, .sentinel, .sentinel] true :=
  Program.laidByTextLater.sub seatTie1 ["math/bits.deBruijn32tab", "math/bits.deBruijn64tab", "internal/strconv.uint64pow10", "errors.errorType", "selion/desc.errDesc", "selion/desc.errText", "selion/kinds.errDesc", "selion/kinds.errEnd", "selion/kinds.errTwice", "selion/kinds.errMany", "selion/kinds.errKind"] (by kernel_rfl) (by kernel_rfl)
theorem kindsAll_row_tie : Rows.kindsAllRow.laidByTextAt .later Tryd.pinned [.data, .data, .data, .handle, .sentinel, .sentinel, .sentinel, .sentinel, .sentinel, .sentinel, .sentinel] true :=
  OpenClaim.laidByTextAt_later rfl rfl tie noOwnUnsafe
theorem kindsAllUpto_row_tie : Rows.kindsAllUptoRow.laidByTextAt .later Tryd.pinned [.data, .data, .data, .handle, .sentinel, .sentinel, .sentinel, .sentinel, .sentinel, .sentinel, .sentinel] true :=
  OpenClaim.laidByTextAt_later rfl rfl tie noOwnUnsafe
end Go.Proofs.YtopgbggighaknaaDoor
