/-
  DERIVED. GIVEN WITH THE SEED: THE CARDS: each row of YtooejihnifphkaaGreatDoorRows.lean that lists a variable, with what it lists TIED to the program's text (the seventh form; the later family's looks); each row that meets fmt, with fmt's text TOLD by the authors' own Lean function (tested against real Go, not proved from fmt's source: count such statements apart). THE CARD IS WHAT COUNTS. Prove the row's statement (the work); the ties are given (YtooejihnifphkaaGreatDoorTie.lean); close each card by the builder's one call (the guide's Derived/Test/ToyasCard.lean, 'card_holds'). Laid BY PROGRAM, IN A SANDBOX (cutbox-door.mjs). By AI agents, Wed Nov 11 2026. No macro, syntax, notation, axiom, sorry.
-/
import Derived.Test.YtooejihnifphkaaGreatDoorRows
import GoSem.ClaimSeven
namespace Go.Proofs.YtooejihnifphkaaGreatDoor
namespace Rows

/-- THE TIED CARD OF 'mootlaw5.MsgRounds'. -/
def msgRoundsCard : Claim7 := { stood := { row := msgRoundsRow, standIns := [], harness := (true, "256539cf8a499c4db84a3328aae63fd022a43ca68f001cef8af35cad4238babc"), looks := true }, kinds := [], alts := [], laidByText := true, laidKinds := [.sentinel, .sentinel, .sentinel, .sentinel, .sentinel, .data, .data], laidTests := true, laidLooks := .later }
def MsgRoundsCardSaid : Prop := Claim7.holds Tryz.pinned (.plain (OpenSpec.ofChange msgRoundsSpec)) msgRoundsCard

/-- THE TIED CARD OF 'mootlaw5.MsgForms'. -/
def msgFormsCard : Claim7 := { stood := { row := msgFormsRow, standIns := [], harness := (true, "256539cf8a499c4db84a3328aae63fd022a43ca68f001cef8af35cad4238babc"), looks := true }, kinds := [], alts := [], laidByText := true, laidKinds := [.sentinel, .sentinel, .sentinel, .sentinel, .sentinel, .data, .data], laidTests := true, laidLooks := .later }
def MsgFormsCardSaid : Prop := Claim7.holds Tryz.pinned (.plain (OpenSpec.ofChange msgFormsSpec)) msgFormsCard

/-- THE TIED CARD OF 'mootlaw5.MsgSound'. -/
def msgSoundCard : Claim7 := { stood := { row := msgSoundRow, standIns := [], harness := (true, "256539cf8a499c4db84a3328aae63fd022a43ca68f001cef8af35cad4238babc"), looks := true }, kinds := [], alts := [], laidByText := true, laidKinds := [.sentinel, .sentinel, .sentinel, .sentinel, .sentinel, .data, .data], laidTests := true, laidLooks := .later }
def MsgSoundCardSaid : Prop := Claim7.holds Tryz.pinned (.plain (OpenSpec.ofChange msgSoundSpec)) msgSoundCard

/-- THE TIED CARD OF 'mootlaw5.MsgEnds'. -/
def msgEndsCard : Claim7 := { stood := { row := msgEndsRow, standIns := [], harness := (true, "256539cf8a499c4db84a3328aae63fd022a43ca68f001cef8af35cad4238babc"), looks := true }, kinds := [], alts := [], laidByText := true, laidKinds := [.sentinel, .sentinel, .sentinel, .sentinel, .sentinel, .data, .data], laidTests := true, laidLooks := .later }
def MsgEndsCardSaid : Prop := Claim7.holds Tryz.pinned (.plain (OpenSpec.ofChange msgEndsSpec)) msgEndsCard

/-- THE TIED CARD OF 'mootlaw5.MsgRises'. -/
def msgRisesCard : Claim7 := { stood := { row := msgRisesRow, standIns := [], harness := (true, "256539cf8a499c4db84a3328aae63fd022a43ca68f001cef8af35cad4238babc"), looks := true }, kinds := [], alts := [], laidByText := true, laidKinds := [.sentinel, .sentinel, .sentinel, .sentinel, .sentinel, .data, .data], laidTests := true, laidLooks := .later }
def MsgRisesCardSaid : Prop := Claim7.holds Tryz.pinned (.plain (OpenSpec.ofChange msgRisesSpec)) msgRisesCard

/-- THE TIED CARD OF 'mootlaw5.MsgApart'. -/
def msgApartCard : Claim7 := { stood := { row := msgApartRow, standIns := [], harness := (true, "256539cf8a499c4db84a3328aae63fd022a43ca68f001cef8af35cad4238babc"), looks := true }, kinds := [], alts := [], laidByText := true, laidKinds := [.sentinel, .sentinel, .sentinel, .sentinel, .sentinel, .data, .data], laidTests := true, laidLooks := .later }
def MsgApartCardSaid : Prop := Claim7.holds Tryz.pinned (.plain (OpenSpec.ofChange msgApartSpec)) msgApartCard

/-- THE SECOND FORM's CARD OF 'mootlaw5.MsgRounds'. -/
def msgRoundsUptoCard : Claim7 := { stood := { row := msgRoundsUptoRow, standIns := [], harness := (true, "256539cf8a499c4db84a3328aae63fd022a43ca68f001cef8af35cad4238babc"), looks := true }, kinds := [], alts := [], laidByText := true, laidKinds := [.sentinel, .sentinel, .sentinel, .sentinel, .sentinel, .data, .data], laidTests := true, laidLooks := .later }
def MsgRoundsUptoCardSaid : Prop := Claim7.holds Tryz.pinned (.plain (OpenSpec.upto msgRoundsSpec)) msgRoundsUptoCard

/-- THE SECOND FORM's CARD OF 'mootlaw5.MsgForms'. -/
def msgFormsUptoCard : Claim7 := { stood := { row := msgFormsUptoRow, standIns := [], harness := (true, "256539cf8a499c4db84a3328aae63fd022a43ca68f001cef8af35cad4238babc"), looks := true }, kinds := [], alts := [], laidByText := true, laidKinds := [.sentinel, .sentinel, .sentinel, .sentinel, .sentinel, .data, .data], laidTests := true, laidLooks := .later }
def MsgFormsUptoCardSaid : Prop := Claim7.holds Tryz.pinned (.plain (OpenSpec.upto msgFormsSpec)) msgFormsUptoCard

/-- THE SECOND FORM's CARD OF 'mootlaw5.MsgSound'. -/
def msgSoundUptoCard : Claim7 := { stood := { row := msgSoundUptoRow, standIns := [], harness := (true, "256539cf8a499c4db84a3328aae63fd022a43ca68f001cef8af35cad4238babc"), looks := true }, kinds := [], alts := [], laidByText := true, laidKinds := [.sentinel, .sentinel, .sentinel, .sentinel, .sentinel, .data, .data], laidTests := true, laidLooks := .later }
def MsgSoundUptoCardSaid : Prop := Claim7.holds Tryz.pinned (.plain (OpenSpec.upto msgSoundSpec)) msgSoundUptoCard

/-- THE SECOND FORM's CARD OF 'mootlaw5.MsgEnds'. -/
def msgEndsUptoCard : Claim7 := { stood := { row := msgEndsUptoRow, standIns := [], harness := (true, "256539cf8a499c4db84a3328aae63fd022a43ca68f001cef8af35cad4238babc"), looks := true }, kinds := [], alts := [], laidByText := true, laidKinds := [.sentinel, .sentinel, .sentinel, .sentinel, .sentinel, .data, .data], laidTests := true, laidLooks := .later }
def MsgEndsUptoCardSaid : Prop := Claim7.holds Tryz.pinned (.plain (OpenSpec.upto msgEndsSpec)) msgEndsUptoCard

/-- THE SECOND FORM's CARD OF 'mootlaw5.MsgRises'. -/
def msgRisesUptoCard : Claim7 := { stood := { row := msgRisesUptoRow, standIns := [], harness := (true, "256539cf8a499c4db84a3328aae63fd022a43ca68f001cef8af35cad4238babc"), looks := true }, kinds := [], alts := [], laidByText := true, laidKinds := [.sentinel, .sentinel, .sentinel, .sentinel, .sentinel, .data, .data], laidTests := true, laidLooks := .later }
def MsgRisesUptoCardSaid : Prop := Claim7.holds Tryz.pinned (.plain (OpenSpec.upto msgRisesSpec)) msgRisesUptoCard

/-- THE SECOND FORM's CARD OF 'mootlaw5.MsgApart'. -/
def msgApartUptoCard : Claim7 := { stood := { row := msgApartUptoRow, standIns := [], harness := (true, "256539cf8a499c4db84a3328aae63fd022a43ca68f001cef8af35cad4238babc"), looks := true }, kinds := [], alts := [], laidByText := true, laidKinds := [.sentinel, .sentinel, .sentinel, .sentinel, .sentinel, .data, .data], laidTests := true, laidLooks := .later }
def MsgApartUptoCardSaid : Prop := Claim7.holds Tryz.pinned (.plain (OpenSpec.upto msgApartSpec)) msgApartUptoCard
end Rows
end Go.Proofs.YtooejihnifphkaaGreatDoor
