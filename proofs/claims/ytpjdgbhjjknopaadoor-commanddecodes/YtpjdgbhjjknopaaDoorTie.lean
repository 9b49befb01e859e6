/-
  DERIVED. GIVEN WITH THE SEED: THE PROGRAM's TIES (one call each: nine closed facts by the kernel) AND EACH ROW's TIE, after the 31st guide's Derived/Test/Toyas{Tie, Card}.lean. No idea stands in it: it is a product of the set-up. Laid BY PROGRAM, IN A SANDBOX (cutbox-door.mjs). By AI agents, Wed Nov 11 2026. No macro, syntax, notation, axiom, sorry.
-/
import Derived.Test.YtpjdgbhjjknopaaDoorRows
import Derived.LaidByTextLater
import Derived.SevenTiedAt
import Derived.LaidSub
import Derived.LaidOnce
namespace Go.Proofs.YtpjdgbhjjknopaaDoor
open Go
set_option maxRecDepth 100000
theorem seatTie1 : Tryd.prog.laidByTextLater [("moot/wire.errShort", Rows.laid_moot_wire_errShort), ("moot/wire.errWide", Rows.laid_moot_wire_errWide), ("moot/wire.errForm", Rows.laid_moot_wire_errForm), ("moot/wire.errBig", Rows.laid_moot_wire_errBig), ("moot/wire.errLength", Rows.laid_moot_wire_errLength), ("moot/command.kinds", Rows.laid_moot_command_kinds)] [.sentinel, .sentinel, .sentinel, .sentinel, .sentinel, .data] true :=
  Program.laidByTextLater_by_one 118 8 19 (by kernel_rfl) (by kernel_rfl) (by kernel_rfl) (by kernel_rfl) (by kernel_rfl) (by kernel_rfl) (fun _ _ => by kernel_rfl)
theorem noOwnUnsafe : Tryd.pinned.checked.prog.headLifts.contains "ownunsafe" = false := by kernel_rfl
theorem tie : Tryd.prog.laidByTextLater [("moot/wire.errShort", Rows.laid_moot_wire_errShort), ("moot/wire.errWide", Rows.laid_moot_wire_errWide), ("moot/wire.errForm", Rows.laid_moot_wire_errForm), ("moot/wire.errBig", Rows.laid_moot_wire_errBig), ("moot/wire.errLength", Rows.laid_moot_wire_errLength), ("moot/command.kinds", Rows.laid_moot_command_kinds)] [.sentinel, .sentinel, .sentinel, .sentinel, .sentinel, .data] true :=
  Program.laidByTextLater.sub seatTie1 ["moot/wire.errShort", "moot/wire.errWide", "moot/wire.errForm", "moot/wire.errBig", "moot/wire.errLength", "moot/command.kinds"] (by kernel_rfl) (by kernel_rfl)
theorem commandDecodes_row_tie : Rows.commandDecodesRow.laidByTextAt .later Tryd.pinned [.sentinel, .sentinel, .sentinel, .sentinel, .sentinel, .data] true :=
  OpenClaim.laidByTextAt_later rfl rfl tie noOwnUnsafe
theorem commandDecodesUpto_row_tie : Rows.commandDecodesUptoRow.laidByTextAt .later Tryd.pinned [.sentinel, .sentinel, .sentinel, .sentinel, .sentinel, .data] true :=
  OpenClaim.laidByTextAt_later rfl rfl tie noOwnUnsafe
end Go.Proofs.YtpjdgbhjjknopaaDoor
