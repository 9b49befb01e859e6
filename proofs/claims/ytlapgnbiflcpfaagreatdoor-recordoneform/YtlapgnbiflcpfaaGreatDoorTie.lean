/-
  DERIVED. GIVEN WITH THE SEED: THE PROGRAM's TIES (one call each: nine closed facts by the kernel) AND EACH ROW's TIE, after the 31st guide's Derived/Test/Toyas{Tie, Card}.lean. No idea stands in it: it is a product of the set-up. Laid BY PROGRAM, IN A SANDBOX (cutbox-door.mjs). By AI agents, Wed Nov 11 2026. No macro, syntax, notation, axiom, sorry.
-/
import Derived.Test.YtlapgnbiflcpfaaGreatDoorRows
import Derived.LaidByTextLater
import Derived.SevenTiedAt
import Derived.LaidSub
import Derived.LaidOnce
namespace Go.Proofs.YtlapgnbiflcpfaaGreatDoor
open Go
set_option maxRecDepth 100000
theorem seatTie1 : Tryz.prog.laidByTextLater [("moot/wire.errShort", Rows.laid_moot_wire_errShort), ("moot/wire.errWide", Rows.laid_moot_wire_errWide), ("moot/wire.errForm", Rows.laid_moot_wire_errForm), ("moot/wire.errBig", Rows.laid_moot_wire_errBig), ("moot/wire.errLength", Rows.laid_moot_wire_errLength), ("moot/command.kinds", Rows.laid_moot_command_kinds), ("moot/record.rows", Rows.laid_moot_record_rows)] [.sentinel, .sentinel, .sentinel, .sentinel, .sentinel, .data, .data] true :=
  Program.laidByTextLater_by_one 123 8 19 (by kernel_rfl) (by kernel_rfl) (by kernel_rfl) (by kernel_rfl) (by kernel_rfl) (by kernel_rfl) (fun _ _ => by kernel_rfl)
theorem noOwnUnsafe : Tryz.pinned.checked.prog.headLifts.contains "ownunsafe" = false := by kernel_rfl
theorem tie : Tryz.prog.laidByTextLater [("moot/wire.errShort", Rows.laid_moot_wire_errShort), ("moot/wire.errWide", Rows.laid_moot_wire_errWide), ("moot/wire.errForm", Rows.laid_moot_wire_errForm), ("moot/wire.errBig", Rows.laid_moot_wire_errBig), ("moot/wire.errLength", Rows.laid_moot_wire_errLength), ("moot/command.kinds", Rows.laid_moot_command_kinds), ("moot/record.rows", Rows.laid_moot_record_rows)] [.sentinel, .sentinel, .sentinel, .sentinel, .sentinel, .data, .data] true :=
  Program.laidByTextLater.sub seatTie1 ["moot/wire.errShort", "moot/wire.errWide", "moot/wire.errForm", "moot/wire.errBig", "moot/wire.errLength", "moot/command.kinds", "moot/record.rows"] (by kernel_rfl) (by kernel_rfl)
theorem recordHeads_row_tie : Rows.recordHeadsRow.laidByTextAt .later Tryz.pinned [.sentinel, .sentinel, .sentinel, .sentinel, .sentinel, .data, .data] true :=
  OpenClaim.laidByTextAt_later rfl rfl tie noOwnUnsafe
theorem recordReturns_row_tie : Rows.recordReturnsRow.laidByTextAt .later Tryz.pinned [.sentinel, .sentinel, .sentinel, .sentinel, .sentinel, .data, .data] true :=
  OpenClaim.laidByTextAt_later rfl rfl tie noOwnUnsafe
theorem recordKin_row_tie : Rows.recordKinRow.laidByTextAt .later Tryz.pinned [.sentinel, .sentinel, .sentinel, .sentinel, .sentinel, .data, .data] true :=
  OpenClaim.laidByTextAt_later rfl rfl tie noOwnUnsafe
theorem recordOneForm_row_tie : Rows.recordOneFormRow.laidByTextAt .later Tryz.pinned [.sentinel, .sentinel, .sentinel, .sentinel, .sentinel, .data, .data] true :=
  OpenClaim.laidByTextAt_later rfl rfl tie noOwnUnsafe
theorem recordBeginnings_row_tie : Rows.recordBeginningsRow.laidByTextAt .later Tryz.pinned [.sentinel, .sentinel, .sentinel, .sentinel, .sentinel, .data, .data] true :=
  OpenClaim.laidByTextAt_later rfl rfl tie noOwnUnsafe
theorem recordHeadsUpto_row_tie : Rows.recordHeadsUptoRow.laidByTextAt .later Tryz.pinned [.sentinel, .sentinel, .sentinel, .sentinel, .sentinel, .data, .data] true :=
  OpenClaim.laidByTextAt_later rfl rfl tie noOwnUnsafe
theorem recordReturnsUpto_row_tie : Rows.recordReturnsUptoRow.laidByTextAt .later Tryz.pinned [.sentinel, .sentinel, .sentinel, .sentinel, .sentinel, .data, .data] true :=
  OpenClaim.laidByTextAt_later rfl rfl tie noOwnUnsafe
theorem recordKinUpto_row_tie : Rows.recordKinUptoRow.laidByTextAt .later Tryz.pinned [.sentinel, .sentinel, .sentinel, .sentinel, .sentinel, .data, .data] true :=
  OpenClaim.laidByTextAt_later rfl rfl tie noOwnUnsafe
theorem recordOneFormUpto_row_tie : Rows.recordOneFormUptoRow.laidByTextAt .later Tryz.pinned [.sentinel, .sentinel, .sentinel, .sentinel, .sentinel, .data, .data] true :=
  OpenClaim.laidByTextAt_later rfl rfl tie noOwnUnsafe
theorem recordBeginningsUpto_row_tie : Rows.recordBeginningsUptoRow.laidByTextAt .later Tryz.pinned [.sentinel, .sentinel, .sentinel, .sentinel, .sentinel, .data, .data] true :=
  OpenClaim.laidByTextAt_later rfl rfl tie noOwnUnsafe
end Go.Proofs.YtlapgnbiflcpfaaGreatDoor
