/-
  DERIVED. GIVEN WITH THE SEED: THE CARDS: each row of YtnjihfbghaefoaaGreatDoorRows.lean that lists a variable, with what it lists TIED to the program's text (the seventh form; the later family's looks); each row that meets fmt, with fmt's text TOLD by the authors' own Lean function (tested against real Go, not proved from fmt's source: count such statements apart). THE CARD IS WHAT COUNTS. Prove the row's statement (the work); the ties are given (YtnjihfbghaefoaaGreatDoorTie.lean); close each card by the builder's one call (the guide's Derived/Test/ToyasCard.lean, 'card_holds'). Laid BY PROGRAM, IN A SANDBOX (cutbox-door.mjs). By AI agents, Wed Nov 11 2026. No macro, syntax, notation, axiom, sorry.
-/
import Derived.Test.YtnjihfbghaefoaaGreatDoorRows
import GoSem.ClaimSeven
namespace Go.Proofs.YtnjihfbghaefoaaGreatDoor
namespace Rows

/-- THE TIED CARD OF 'mootlaw10.WalRefuses'. -/
def walRefusesCard : Claim7 := { stood := { row := walRefusesRow, standIns := [], harness := (true, "516ea6afb9428e7d5c714bb27f2e59ee4a45f24ffd2363ccc0642c3fcb17ff30"), looks := true }, kinds := [], alts := [], laidByText := true, laidKinds := [.data, .sentinel, .sentinel, .sentinel, .sentinel, .sentinel, .data, .data], laidTests := true, laidLooks := .later }
def WalRefusesCardSaid : Prop := Claim7.holds Tryz.pinned (.plain (OpenSpec.ofChange walRefusesSpec)) walRefusesCard

/-- THE TIED CARD OF 'mootlaw10.WalRot'. -/
def walRotCard : Claim7 := { stood := { row := walRotRow, standIns := [], harness := (true, "516ea6afb9428e7d5c714bb27f2e59ee4a45f24ffd2363ccc0642c3fcb17ff30"), looks := true }, kinds := [], alts := [], laidByText := true, laidKinds := [.data, .handle, .sentinel, .sentinel, .sentinel, .sentinel, .sentinel, .data, .data], laidTests := true, laidLooks := .later }
def WalRotCardSaid : Prop := Claim7.holds Tryz.pinned (.plain (OpenSpec.ofChange walRotSpec)) walRotCard

/-- THE TIED CARD OF 'mootlaw10.WalBytes'. -/
def walBytesCard : Claim7 := { stood := { row := walBytesRow, standIns := [], harness := (true, "516ea6afb9428e7d5c714bb27f2e59ee4a45f24ffd2363ccc0642c3fcb17ff30"), looks := true }, kinds := [], alts := [], laidByText := true, laidKinds := [.data, .handle, .sentinel, .sentinel, .sentinel, .sentinel, .sentinel, .data, .data], laidTests := true, laidLooks := .later }
def WalBytesCardSaid : Prop := Claim7.holds Tryz.pinned (.plain (OpenSpec.ofChange walBytesSpec)) walBytesCard

/-- THE TIED CARD OF 'mootlaw10.WalTorn'. -/
def walTornCard : Claim7 := { stood := { row := walTornRow, standIns := [], harness := (true, "516ea6afb9428e7d5c714bb27f2e59ee4a45f24ffd2363ccc0642c3fcb17ff30"), looks := true }, kinds := [], alts := [], laidByText := true, laidKinds := [.data, .handle, .sentinel, .sentinel, .sentinel, .sentinel, .sentinel, .data, .data], laidTests := true, laidLooks := .later }
def WalTornCardSaid : Prop := Claim7.holds Tryz.pinned (.plain (OpenSpec.ofChange walTornSpec)) walTornCard

/-- THE TIED CARD OF 'mootlaw10.WalImage'. -/
def walImageCard : Claim7 := { stood := { row := walImageRow, standIns := [], harness := (true, "516ea6afb9428e7d5c714bb27f2e59ee4a45f24ffd2363ccc0642c3fcb17ff30"), looks := true }, kinds := [], alts := [], laidByText := true, laidKinds := [.data, .handle, .sentinel, .sentinel, .sentinel, .sentinel, .sentinel, .data, .data], laidTests := true, laidLooks := .later }
def WalImageCardSaid : Prop := Claim7.holds Tryz.pinned (.plain (OpenSpec.ofChange walImageSpec)) walImageCard

/-- THE TIED CARD OF 'mootlaw10.WalStranger'. -/
def walStrangerCard : Claim7 := { stood := { row := walStrangerRow, standIns := [], harness := (true, "516ea6afb9428e7d5c714bb27f2e59ee4a45f24ffd2363ccc0642c3fcb17ff30"), looks := true }, kinds := [], alts := [], laidByText := true, laidKinds := [.data, .handle, .sentinel, .sentinel, .sentinel, .sentinel, .sentinel, .data, .data], laidTests := true, laidLooks := .later }
def WalStrangerCardSaid : Prop := Claim7.holds Tryz.pinned (.plain (OpenSpec.ofChange walStrangerSpec)) walStrangerCard

/-- THE SECOND FORM's CARD OF 'mootlaw10.WalRefuses'. -/
def walRefusesUptoCard : Claim7 := { stood := { row := walRefusesUptoRow, standIns := [], harness := (true, "516ea6afb9428e7d5c714bb27f2e59ee4a45f24ffd2363ccc0642c3fcb17ff30"), looks := true }, kinds := [], alts := [], laidByText := true, laidKinds := [.data, .sentinel, .sentinel, .sentinel, .sentinel, .sentinel, .data, .data], laidTests := true, laidLooks := .later }
def WalRefusesUptoCardSaid : Prop := Claim7.holds Tryz.pinned (.plain (OpenSpec.upto walRefusesSpec)) walRefusesUptoCard

/-- THE SECOND FORM's CARD OF 'mootlaw10.WalRot'. -/
def walRotUptoCard : Claim7 := { stood := { row := walRotUptoRow, standIns := [], harness := (true, "516ea6afb9428e7d5c714bb27f2e59ee4a45f24ffd2363ccc0642c3fcb17ff30"), looks := true }, kinds := [], alts := [], laidByText := true, laidKinds := [.data, .handle, .sentinel, .sentinel, .sentinel, .sentinel, .sentinel, .data, .data], laidTests := true, laidLooks := .later }
def WalRotUptoCardSaid : Prop := Claim7.holds Tryz.pinned (.plain (OpenSpec.upto walRotSpec)) walRotUptoCard

/-- THE SECOND FORM's CARD OF 'mootlaw10.WalBytes'. -/
def walBytesUptoCard : Claim7 := { stood := { row := walBytesUptoRow, standIns := [], harness := (true, "516ea6afb9428e7d5c714bb27f2e59ee4a45f24ffd2363ccc0642c3fcb17ff30"), looks := true }, kinds := [], alts := [], laidByText := true, laidKinds := [.data, .handle, .sentinel, .sentinel, .sentinel, .sentinel, .sentinel, .data, .data], laidTests := true, laidLooks := .later }
def WalBytesUptoCardSaid : Prop := Claim7.holds Tryz.pinned (.plain (OpenSpec.upto walBytesSpec)) walBytesUptoCard

/-- THE SECOND FORM's CARD OF 'mootlaw10.WalTorn'. -/
def walTornUptoCard : Claim7 := { stood := { row := walTornUptoRow, standIns := [], harness := (true, "516ea6afb9428e7d5c714bb27f2e59ee4a45f24ffd2363ccc0642c3fcb17ff30"), looks := true }, kinds := [], alts := [], laidByText := true, laidKinds := [.data, .handle, .sentinel, .sentinel, .sentinel, .sentinel, .sentinel, .data, .data], laidTests := true, laidLooks := .later }
def WalTornUptoCardSaid : Prop := Claim7.holds Tryz.pinned (.plain (OpenSpec.upto walTornSpec)) walTornUptoCard

/-- THE SECOND FORM's CARD OF 'mootlaw10.WalImage'. -/
def walImageUptoCard : Claim7 := { stood := { row := walImageUptoRow, standIns := [], harness := (true, "516ea6afb9428e7d5c714bb27f2e59ee4a45f24ffd2363ccc0642c3fcb17ff30"), looks := true }, kinds := [], alts := [], laidByText := true, laidKinds := [.data, .handle, .sentinel, .sentinel, .sentinel, .sentinel, .sentinel, .data, .data], laidTests := true, laidLooks := .later }
def WalImageUptoCardSaid : Prop := Claim7.holds Tryz.pinned (.plain (OpenSpec.upto walImageSpec)) walImageUptoCard

/-- THE SECOND FORM's CARD OF 'mootlaw10.WalStranger'. -/
def walStrangerUptoCard : Claim7 := { stood := { row := walStrangerUptoRow, standIns := [], harness := (true, "516ea6afb9428e7d5c714bb27f2e59ee4a45f24ffd2363ccc0642c3fcb17ff30"), looks := true }, kinds := [], alts := [], laidByText := true, laidKinds := [.data, .handle, .sentinel, .sentinel, .sentinel, .sentinel, .sentinel, .data, .data], laidTests := true, laidLooks := .later }
def WalStrangerUptoCardSaid : Prop := Claim7.holds Tryz.pinned (.plain (OpenSpec.upto walStrangerSpec)) walStrangerUptoCard
end Rows
end Go.Proofs.YtnjihfbghaefoaaGreatDoor
