/-
  DERIVED. GIVEN WITH THE SEED: THE CARDS: each row of YtppocmgcfeelhaaGreatDoorRows.lean that lists a variable, with what it lists TIED to the program's text (the seventh form; the later family's looks); each row that meets fmt, with fmt's text TOLD by the authors' own Lean function (tested against real Go, not proved from fmt's source: count such statements apart). THE CARD IS WHAT COUNTS. Prove the row's statement (the work); the ties are given (YtppocmgcfeelhaaGreatDoorTie.lean); close each card by the builder's one call (the guide's Derived/Test/ToyasCard.lean, 'card_holds'). Laid BY PROGRAM, IN A SANDBOX (cutbox-door.mjs). By AI agents, Wed Nov 11 2026. No macro, syntax, notation, axiom, sorry.
-/
import Derived.Test.YtppocmgcfeelhaaGreatDoorRows
import GoSem.ClaimSeven
namespace Go.Proofs.YtppocmgcfeelhaaGreatDoor
namespace Rows

/-- THE TIED CARD OF 'mootlaw5.MsgRounds'. -/
def msgRoundsCard : Claim7 := { stood := { row := msgRoundsRow, standIns := [], harness := (true, "b7e3f30a937b978931fe3f3d15922ee616ffe9c019857e6112524b1a4d1db547"), looks := true }, kinds := [], alts := [], laidByText := true, laidKinds := [.sentinel, .sentinel, .sentinel, .sentinel, .sentinel, .data, .data], laidTests := true, laidLooks := .later }
def MsgRoundsCardSaid : Prop := Claim7.holds Tryz.pinned (.plain (OpenSpec.ofChange msgRoundsSpec)) msgRoundsCard

/-- THE TIED CARD OF 'mootlaw5.MsgForms'. -/
def msgFormsCard : Claim7 := { stood := { row := msgFormsRow, standIns := [], harness := (true, "b7e3f30a937b978931fe3f3d15922ee616ffe9c019857e6112524b1a4d1db547"), looks := true }, kinds := [], alts := [], laidByText := true, laidKinds := [.sentinel, .sentinel, .sentinel, .sentinel, .sentinel, .data, .data], laidTests := true, laidLooks := .later }
def MsgFormsCardSaid : Prop := Claim7.holds Tryz.pinned (.plain (OpenSpec.ofChange msgFormsSpec)) msgFormsCard

/-- THE TIED CARD OF 'mootlaw5.MsgEnds'. -/
def msgEndsCard : Claim7 := { stood := { row := msgEndsRow, standIns := [], harness := (true, "b7e3f30a937b978931fe3f3d15922ee616ffe9c019857e6112524b1a4d1db547"), looks := true }, kinds := [], alts := [], laidByText := true, laidKinds := [.sentinel, .sentinel, .sentinel, .sentinel, .sentinel, .data, .data], laidTests := true, laidLooks := .later }
def MsgEndsCardSaid : Prop := Claim7.holds Tryz.pinned (.plain (OpenSpec.ofChange msgEndsSpec)) msgEndsCard

/-- THE TIED CARD OF 'mootlaw5.MsgRises'. -/
def msgRisesCard : Claim7 := { stood := { row := msgRisesRow, standIns := [], harness := (true, "b7e3f30a937b978931fe3f3d15922ee616ffe9c019857e6112524b1a4d1db547"), looks := true }, kinds := [], alts := [], laidByText := true, laidKinds := [.sentinel, .sentinel, .sentinel, .sentinel, .sentinel, .data, .data], laidTests := true, laidLooks := .later }
def MsgRisesCardSaid : Prop := Claim7.holds Tryz.pinned (.plain (OpenSpec.ofChange msgRisesSpec)) msgRisesCard

/-- THE SECOND FORM's CARD OF 'mootlaw5.MsgRounds'. -/
def msgRoundsUptoCard : Claim7 := { stood := { row := msgRoundsUptoRow, standIns := [], harness := (true, "b7e3f30a937b978931fe3f3d15922ee616ffe9c019857e6112524b1a4d1db547"), looks := true }, kinds := [], alts := [], laidByText := true, laidKinds := [.sentinel, .sentinel, .sentinel, .sentinel, .sentinel, .data, .data], laidTests := true, laidLooks := .later }
def MsgRoundsUptoCardSaid : Prop := Claim7.holds Tryz.pinned (.plain (OpenSpec.upto msgRoundsSpec)) msgRoundsUptoCard

/-- THE SECOND FORM's CARD OF 'mootlaw5.MsgForms'. -/
def msgFormsUptoCard : Claim7 := { stood := { row := msgFormsUptoRow, standIns := [], harness := (true, "b7e3f30a937b978931fe3f3d15922ee616ffe9c019857e6112524b1a4d1db547"), looks := true }, kinds := [], alts := [], laidByText := true, laidKinds := [.sentinel, .sentinel, .sentinel, .sentinel, .sentinel, .data, .data], laidTests := true, laidLooks := .later }
def MsgFormsUptoCardSaid : Prop := Claim7.holds Tryz.pinned (.plain (OpenSpec.upto msgFormsSpec)) msgFormsUptoCard

/-- THE SECOND FORM's CARD OF 'mootlaw5.MsgEnds'. -/
def msgEndsUptoCard : Claim7 := { stood := { row := msgEndsUptoRow, standIns := [], harness := (true, "b7e3f30a937b978931fe3f3d15922ee616ffe9c019857e6112524b1a4d1db547"), looks := true }, kinds := [], alts := [], laidByText := true, laidKinds := [.sentinel, .sentinel, .sentinel, .sentinel, .sentinel, .data, .data], laidTests := true, laidLooks := .later }
def MsgEndsUptoCardSaid : Prop := Claim7.holds Tryz.pinned (.plain (OpenSpec.upto msgEndsSpec)) msgEndsUptoCard

/-- THE SECOND FORM's CARD OF 'mootlaw5.MsgRises'. -/
def msgRisesUptoCard : Claim7 := { stood := { row := msgRisesUptoRow, standIns := [], harness := (true, "b7e3f30a937b978931fe3f3d15922ee616ffe9c019857e6112524b1a4d1db547"), looks := true }, kinds := [], alts := [], laidByText := true, laidKinds := [.sentinel, .sentinel, .sentinel, .sentinel, .sentinel, .data, .data], laidTests := true, laidLooks := .later }
def MsgRisesUptoCardSaid : Prop := Claim7.holds Tryz.pinned (.plain (OpenSpec.upto msgRisesSpec)) msgRisesUptoCard
end Rows
end Go.Proofs.YtppocmgcfeelhaaGreatDoor
