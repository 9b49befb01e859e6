/-
  DERIVED. GIVEN WITH THE SEED: THE CARDS: each row of YtbdkelffncmkhaaGreatDoorRows.lean that lists a variable, with what it lists TIED to the program's text (the seventh form; the later family's looks); each row that meets fmt, with fmt's text TOLD by the authors' own Lean function (tested against real Go, not proved from fmt's source: count such statements apart). THE CARD IS WHAT COUNTS. Prove the row's statement (the work); the ties are given (YtbdkelffncmkhaaGreatDoorTie.lean); close each card by the builder's one call (the guide's Derived/Test/ToyasCard.lean, 'card_holds'). Laid BY PROGRAM, IN A SANDBOX (cutbox-door.mjs). By AI agents, Wed Nov 11 2026. No macro, syntax, notation, axiom, sorry.
-/
import Derived.Test.YtbdkelffncmkhaaGreatDoorRows
import GoSem.ClaimSeven
namespace Go.Proofs.YtbdkelffncmkhaaGreatDoor
namespace Rows

/-- THE TIED CARD OF 'mootlaw5.MsgSound'. -/
def msgSoundCard : Claim7 := { stood := { row := msgSoundRow, standIns := [], harness := (true, "1225b16b490001b7ef855051c1a93d0fe28b4d20f37e290509d6f43051587833"), looks := true }, kinds := [], alts := [], laidByText := true, laidKinds := [.sentinel, .sentinel, .sentinel, .sentinel, .sentinel, .data, .data], laidTests := true, laidLooks := .later }
def MsgSoundCardSaid : Prop := Claim7.holds Tryz.pinned (.plain (OpenSpec.ofChange msgSoundSpec)) msgSoundCard

/-- THE SECOND FORM's CARD OF 'mootlaw5.MsgSound'. -/
def msgSoundUptoCard : Claim7 := { stood := { row := msgSoundUptoRow, standIns := [], harness := (true, "1225b16b490001b7ef855051c1a93d0fe28b4d20f37e290509d6f43051587833"), looks := true }, kinds := [], alts := [], laidByText := true, laidKinds := [.sentinel, .sentinel, .sentinel, .sentinel, .sentinel, .data, .data], laidTests := true, laidLooks := .later }
def MsgSoundUptoCardSaid : Prop := Claim7.holds Tryz.pinned (.plain (OpenSpec.upto msgSoundSpec)) msgSoundUptoCard
end Rows
end Go.Proofs.YtbdkelffncmkhaaGreatDoor
