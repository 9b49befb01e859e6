/-
  DERIVED. GIVEN WITH THE SEED: THE CARDS: each row of YtibfdoggolkljaaGreatDoorRows.lean that lists a variable, with what it lists TIED to the program's text (the seventh form; the later family's looks); each row that meets fmt, with fmt's text TOLD by the authors' own Lean function (tested against real Go, not proved from fmt's source: count such statements apart). THE CARD IS WHAT COUNTS. Prove the row's statement (the work); the ties are given (YtibfdoggolkljaaGreatDoorTie.lean); close each card by the builder's one call (the guide's Derived/Test/ToyasCard.lean, 'card_holds'). Laid BY PROGRAM, IN A SANDBOX (cutbox-door.mjs). By AI agents, Wed Nov 11 2026. No macro, syntax, notation, axiom, sorry.
-/
import Derived.Test.YtibfdoggolkljaaGreatDoorRows
import GoSem.ClaimSeven
namespace Go.Proofs.YtibfdoggolkljaaGreatDoor
namespace Rows

/-- THE TIED CARD OF 'mootlaw5.MsgApart'. -/
def msgApartCard : Claim7 := { stood := { row := msgApartRow, standIns := [], harness := (true, "1418d672ad995c0fca7902656005d2b44136a9a524654f88876f08feefff755f"), looks := true }, kinds := [], alts := [], laidByText := true, laidKinds := [.sentinel, .sentinel, .sentinel, .sentinel, .sentinel, .data, .data], laidTests := true, laidLooks := .later }
def MsgApartCardSaid : Prop := Claim7.holds Tryz.pinned (.plain (OpenSpec.ofChange msgApartSpec)) msgApartCard

/-- THE SECOND FORM's CARD OF 'mootlaw5.MsgApart'. -/
def msgApartUptoCard : Claim7 := { stood := { row := msgApartUptoRow, standIns := [], harness := (true, "1418d672ad995c0fca7902656005d2b44136a9a524654f88876f08feefff755f"), looks := true }, kinds := [], alts := [], laidByText := true, laidKinds := [.sentinel, .sentinel, .sentinel, .sentinel, .sentinel, .data, .data], laidTests := true, laidLooks := .later }
def MsgApartUptoCardSaid : Prop := Claim7.holds Tryz.pinned (.plain (OpenSpec.upto msgApartSpec)) msgApartUptoCard
end Rows
end Go.Proofs.YtibfdoggolkljaaGreatDoor
