/-
  DERIVED. GIVEN WITH THE SEED: THE CARDS: each row of YtahaecnopeffhabDoorRows.lean that lists a variable, with what it lists TIED to the program's text (the seventh form; the later family's looks); each row that meets fmt, with fmt's text TOLD by the authors' own Lean function (tested against real Go, not proved from fmt's source: count such statements apart). THE CARD IS WHAT COUNTS. Prove the row's statement (the work); the ties are given (YtahaecnopeffhabDoorTie.lean); close each card by the builder's one call (the guide's Derived/Test/ToyasCard.lean, 'card_holds'). Laid BY PROGRAM, IN A SANDBOX (cutbox-door.mjs). By AI agents, Wed Nov 11 2026. No macro, syntax, notation, axiom, sorry.
-/
import Derived.Test.YtahaecnopeffhabDoorRows
import GoSem.ClaimSeven
namespace Go.Proofs.YtahaecnopeffhabDoor
namespace Rows

/-- THE TIED CARD OF 'mootlaw4.CommandOneForm'. -/
def commandOneFormCard : Claim7 := { stood := { row := commandOneFormRow, standIns := [], harness := (true, "ab72d969a39e8aa64cd744ea15b9c386f61605447d231b27b7f522031dfe44db"), looks := true }, kinds := [], alts := [], laidByText := true, laidKinds := [.sentinel, .sentinel, .sentinel, .sentinel, .sentinel, .data], laidTests := true, laidLooks := .later }
def CommandOneFormCardSaid : Prop := Claim7.holds Tryd.pinned (.plain (OpenSpec.ofChange commandOneFormSpec)) commandOneFormCard

/-- THE TIED CARD OF 'mootlaw4.CommandSpoilt'. -/
def commandSpoiltCard : Claim7 := { stood := { row := commandSpoiltRow, standIns := [], harness := (true, "ab72d969a39e8aa64cd744ea15b9c386f61605447d231b27b7f522031dfe44db"), looks := true }, kinds := [], alts := [], laidByText := true, laidKinds := [.sentinel, .sentinel, .sentinel, .sentinel, .sentinel, .data], laidTests := true, laidLooks := .later }
def CommandSpoiltCardSaid : Prop := Claim7.holds Tryd.pinned (.plain (OpenSpec.ofChange commandSpoiltSpec)) commandSpoiltCard

/-- THE TIED CARD OF 'mootlaw4.CommandEncodes'. -/
def commandEncodesCard : Claim7 := { stood := { row := commandEncodesRow, standIns := [], harness := (true, "ab72d969a39e8aa64cd744ea15b9c386f61605447d231b27b7f522031dfe44db"), looks := true }, kinds := [], alts := [], laidByText := true, laidKinds := [.data], laidTests := true, laidLooks := .later }
def CommandEncodesCardSaid : Prop := Claim7.holds Tryd.pinned (.plain (OpenSpec.ofChange commandEncodesSpec)) commandEncodesCard

/-- THE TIED CARD OF 'mootlaw4.CommandBack'. -/
def commandBackCard : Claim7 := { stood := { row := commandBackRow, standIns := [], harness := (true, "ab72d969a39e8aa64cd744ea15b9c386f61605447d231b27b7f522031dfe44db"), looks := true }, kinds := [], alts := [], laidByText := true, laidKinds := [.sentinel, .sentinel, .sentinel, .sentinel, .sentinel, .data], laidTests := true, laidLooks := .later }
def CommandBackCardSaid : Prop := Claim7.holds Tryd.pinned (.plain (OpenSpec.ofChange commandBackSpec)) commandBackCard

/-- THE TIED CARD OF 'mootlaw4.CommandDecodes'. -/
def commandDecodesCard : Claim7 := { stood := { row := commandDecodesRow, standIns := [], harness := (true, "ab72d969a39e8aa64cd744ea15b9c386f61605447d231b27b7f522031dfe44db"), looks := true }, kinds := [], alts := [], laidByText := true, laidKinds := [.sentinel, .sentinel, .sentinel, .sentinel, .sentinel, .data], laidTests := true, laidLooks := .later }
def CommandDecodesCardSaid : Prop := Claim7.holds Tryd.pinned (.plain (OpenSpec.ofChange commandDecodesSpec)) commandDecodesCard

/-- THE TIED CARD OF 'mootlaw4.CommandOwn'. -/
def commandOwnCard : Claim7 := { stood := { row := commandOwnRow, standIns := [], harness := (true, "ab72d969a39e8aa64cd744ea15b9c386f61605447d231b27b7f522031dfe44db"), looks := true }, kinds := [], alts := [], laidByText := true, laidKinds := [.data, .data, .data, .sentinel, .sentinel, .sentinel, .sentinel, .sentinel, .data], laidTests := true, laidLooks := .later }
def CommandOwnCardSaid : Prop := Claim7.holds Tryd.pinned (.plain (OpenSpec.ofChange commandOwnSpec)) commandOwnCard

/-- THE SECOND FORM's CARD OF 'mootlaw4.CommandOneForm'. -/
def commandOneFormUptoCard : Claim7 := { stood := { row := commandOneFormUptoRow, standIns := [], harness := (true, "ab72d969a39e8aa64cd744ea15b9c386f61605447d231b27b7f522031dfe44db"), looks := true }, kinds := [], alts := [], laidByText := true, laidKinds := [.sentinel, .sentinel, .sentinel, .sentinel, .sentinel, .data], laidTests := true, laidLooks := .later }
def CommandOneFormUptoCardSaid : Prop := Claim7.holds Tryd.pinned (.plain (OpenSpec.upto commandOneFormSpec)) commandOneFormUptoCard

/-- THE SECOND FORM's CARD OF 'mootlaw4.CommandSpoilt'. -/
def commandSpoiltUptoCard : Claim7 := { stood := { row := commandSpoiltUptoRow, standIns := [], harness := (true, "ab72d969a39e8aa64cd744ea15b9c386f61605447d231b27b7f522031dfe44db"), looks := true }, kinds := [], alts := [], laidByText := true, laidKinds := [.sentinel, .sentinel, .sentinel, .sentinel, .sentinel, .data], laidTests := true, laidLooks := .later }
def CommandSpoiltUptoCardSaid : Prop := Claim7.holds Tryd.pinned (.plain (OpenSpec.upto commandSpoiltSpec)) commandSpoiltUptoCard

/-- THE SECOND FORM's CARD OF 'mootlaw4.CommandEncodes'. -/
def commandEncodesUptoCard : Claim7 := { stood := { row := commandEncodesUptoRow, standIns := [], harness := (true, "ab72d969a39e8aa64cd744ea15b9c386f61605447d231b27b7f522031dfe44db"), looks := true }, kinds := [], alts := [], laidByText := true, laidKinds := [.data], laidTests := true, laidLooks := .later }
def CommandEncodesUptoCardSaid : Prop := Claim7.holds Tryd.pinned (.plain (OpenSpec.upto commandEncodesSpec)) commandEncodesUptoCard

/-- THE SECOND FORM's CARD OF 'mootlaw4.CommandBack'. -/
def commandBackUptoCard : Claim7 := { stood := { row := commandBackUptoRow, standIns := [], harness := (true, "ab72d969a39e8aa64cd744ea15b9c386f61605447d231b27b7f522031dfe44db"), looks := true }, kinds := [], alts := [], laidByText := true, laidKinds := [.sentinel, .sentinel, .sentinel, .sentinel, .sentinel, .data], laidTests := true, laidLooks := .later }
def CommandBackUptoCardSaid : Prop := Claim7.holds Tryd.pinned (.plain (OpenSpec.upto commandBackSpec)) commandBackUptoCard

/-- THE SECOND FORM's CARD OF 'mootlaw4.CommandDecodes'. -/
def commandDecodesUptoCard : Claim7 := { stood := { row := commandDecodesUptoRow, standIns := [], harness := (true, "ab72d969a39e8aa64cd744ea15b9c386f61605447d231b27b7f522031dfe44db"), looks := true }, kinds := [], alts := [], laidByText := true, laidKinds := [.sentinel, .sentinel, .sentinel, .sentinel, .sentinel, .data], laidTests := true, laidLooks := .later }
def CommandDecodesUptoCardSaid : Prop := Claim7.holds Tryd.pinned (.plain (OpenSpec.upto commandDecodesSpec)) commandDecodesUptoCard

/-- THE SECOND FORM's CARD OF 'mootlaw4.CommandOwn'. -/
def commandOwnUptoCard : Claim7 := { stood := { row := commandOwnUptoRow, standIns := [], harness := (true, "ab72d969a39e8aa64cd744ea15b9c386f61605447d231b27b7f522031dfe44db"), looks := true }, kinds := [], alts := [], laidByText := true, laidKinds := [.data, .data, .data, .sentinel, .sentinel, .sentinel, .sentinel, .sentinel, .data], laidTests := true, laidLooks := .later }
def CommandOwnUptoCardSaid : Prop := Claim7.holds Tryd.pinned (.plain (OpenSpec.upto commandOwnSpec)) commandOwnUptoCard
end Rows
end Go.Proofs.YtahaecnopeffhabDoor
