/-
  DERIVED. GIVEN WITH THE SEED: THE PROGRAM's TIES (one call each: nine closed facts by the kernel) AND EACH ROW's TIE, after the 31st guide's Derived/Test/Toyas{Tie, Card}.lean. No idea stands in it: it is a product of the set-up. Laid BY PROGRAM, IN A SANDBOX (cutbox-door.mjs). By AI agents, Wed Nov 11 2026. No macro, syntax, notation, axiom, sorry.
-/
import Derived.Test.YtmiekcdkamgknaaGreatDoorRows
import Derived.LaidByTextLater
import Derived.SevenTiedAt
import Derived.LaidSub
import Derived.LaidOnce
namespace Go.Proofs.YtmiekcdkamgknaaGreatDoor
open Go
set_option maxRecDepth 100000
theorem seatTie1 : Tryz.prog.laidByTextLater [("math/bits.deBruijn32tab", Rows.laid_math_bits_deBruijn32tab), ("math/bits.deBruijn64tab", Rows.laid_math_bits_deBruijn64tab), ("internal/strconv.uint64pow10", Rows.laid_internal_strconv_uint64pow10), ("errors.errorType", Rows.laid_errors_errorType), ("flagstone/change.errArg", Rows.laid_flagstone_change_errArg), ("flagstone/change.errNone", Rows.laid_flagstone_change_errNone), ("flagstone/change.errExists", Rows.laid_flagstone_change_errExists), ("flagstone/change.errNotDir", Rows.laid_flagstone_change_errNotDir), ("flagstone/change.errIsDir", Rows.laid_flagstone_change_errIsDir), ("flagstone/change.errFull", Rows.laid_flagstone_change_errFull), ("flagstone/change.errAccess", Rows.laid_flagstone_change_errAccess), ("flagstone/change.errLong", Rows.laid_flagstone_change_errLong), ("flagstone/change.errLinks", Rows.laid_flagstone_change_errLinks), ("flagstone/change.errInto", Rows.laid_flagstone_change_errInto)] [.data, .data, .data, .handle, .sentinel, .sentinel, .sentinel, .sentinel, .sentinel, .sentinel, .sentinel, .sentinel, .sentinel, .sentinel] true :=
  Program.laidByTextLater_by_one 221 8 65 (by kernel_rfl) (by kernel_rfl) (by kernel_rfl) (by kernel_rfl) (by kernel_rfl) (by kernel_rfl) (fun _ _ => by kernel_rfl)
theorem noOwnUnsafe : Tryz.pinned.checked.prog.headLifts.contains "ownunsafe" = false := by kernel_rfl
theorem tie : Tryz.prog.laidByTextLater [("math/bits.deBruijn32tab", Rows.laid_math_bits_deBruijn32tab), ("math/bits.deBruijn64tab", Rows.laid_math_bits_deBruijn64tab), ("internal/strconv.uint64pow10", Rows.laid_internal_strconv_uint64pow10), ("errors.errorType", Rows.laid_errors_errorType), ("flagstone/change.errArg", Rows.laid_flagstone_change_errArg), ("flagstone/change.errNone", Rows.laid_flagstone_change_errNone), ("flagstone/change.errExists", Rows.laid_flagstone_change_errExists), ("flagstone/change.errNotDir", Rows.laid_flagstone_change_errNotDir), ("flagstone/change.errIsDir", Rows.laid_flagstone_change_errIsDir), ("flagstone/change.errFull", Rows.laid_flagstone_change_errFull), ("flagstone/change.errAccess", Rows.laid_flagstone_change_errAccess), ("flagstone/change.errLong", Rows.laid_flagstone_change_errLong), ("flagstone/change.errLinks", Rows.laid_flagstone_change_errLinks), ("flagstone/change.errInto", Rows.laid_flagstone_change_errInto)] [.data, .data, .data, .handle, .sentinel, .sentinel, .sentinel, .sentinel, .sentinel, .sentinel, .sentinel, .sentinel, .sentinel, .sentinel] true :=
  Program.laidByTextLater.sub seatTie1 ["math/bits.deBruijn32tab", "math/bits.deBruijn64tab", "internal/strconv.uint64pow10", "errors.errorType", "flagstone/change.errArg", "flagstone/change.errNone", "flagstone/change.errExists", "flagstone/change.errNotDir", "flagstone/change.errIsDir", "flagstone/change.errFull", "flagstone/change.errAccess", "flagstone/change.errLong", "flagstone/change.errLinks", "flagstone/change.errInto"] (by kernel_rfl) (by kernel_rfl)
theorem kernelMoves_row_tie : Rows.kernelMovesRow.laidByTextAt .later Tryz.pinned [.data, .data, .data, .handle, .sentinel, .sentinel, .sentinel, .sentinel, .sentinel, .sentinel, .sentinel, .sentinel, .sentinel, .sentinel] true :=
  OpenClaim.laidByTextAt_later rfl rfl tie noOwnUnsafe
theorem kernelMovesUpto_row_tie : Rows.kernelMovesUptoRow.laidByTextAt .later Tryz.pinned [.data, .data, .data, .handle, .sentinel, .sentinel, .sentinel, .sentinel, .sentinel, .sentinel, .sentinel, .sentinel, .sentinel, .sentinel] true :=
  OpenClaim.laidByTextAt_later rfl rfl tie noOwnUnsafe
end Go.Proofs.YtmiekcdkamgknaaGreatDoor
