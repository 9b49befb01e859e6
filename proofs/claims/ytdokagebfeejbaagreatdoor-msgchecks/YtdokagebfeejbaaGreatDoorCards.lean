/-
  DERIVED. GIVEN WITH THE SEED: THE CARDS: each row of YtdokagebfeejbaaGreatDoorRows.lean that lists a variable, with what it lists TIED to the program's text (the seventh form; the later family's looks); each row that meets fmt, with fmt's text TOLD by the authors' own Lean function (tested against real Go, not proved from fmt's source: count such statements apart). THE CARD IS WHAT COUNTS. Prove the row's statement (the work); the ties are given (YtdokagebfeejbaaGreatDoorTie.lean); close each card by the builder's one call (the guide's Derived/Test/ToyasCard.lean, 'card_holds'). Laid BY PROGRAM, IN A SANDBOX (cutbox-door.mjs). By AI agents, Wed Nov 11 2026. No macro, syntax, notation, axiom, sorry.
-/
import Derived.Test.YtdokagebfeejbaaGreatDoorRows
import GoSem.ClaimSeven
namespace Go.Proofs.YtdokagebfeejbaaGreatDoor
namespace Rows

/-- THE TIED CARD OF 'mootlaw5.MsgChecks'. -/
def msgChecksCard : Claim7 := { stood := { row := msgChecksRow, standIns := [], harness := (true, "4bb203c52097567206e4401979520f87651a3d7548070d73da0fc31cea7d880f"), looks := true }, kinds := [], alts := [], laidByText := true, laidKinds := [.sentinel, .sentinel, .sentinel, .sentinel, .sentinel, .data, .data], laidTests := true, laidLooks := .later }
def MsgChecksCardSaid : Prop := Claim7.holds Tryz.pinned (.plain (OpenSpec.ofChange msgChecksSpec)) msgChecksCard

/-- THE TIED CARD OF 'mootlaw5.MsgLowests'. -/
def msgLowestsCard : Claim7 := { stood := { row := msgLowestsRow, standIns := [], harness := (true, "4bb203c52097567206e4401979520f87651a3d7548070d73da0fc31cea7d880f"), looks := true }, kinds := [], alts := [], laidByText := true, laidKinds := [.sentinel, .sentinel, .sentinel, .sentinel, .sentinel, .data, .data], laidTests := true, laidLooks := .later }
def MsgLowestsCardSaid : Prop := Claim7.holds Tryz.pinned (.plain (OpenSpec.ofChange msgLowestsSpec)) msgLowestsCard

/-- THE SECOND FORM's CARD OF 'mootlaw5.MsgChecks'. -/
def msgChecksUptoCard : Claim7 := { stood := { row := msgChecksUptoRow, standIns := [], harness := (true, "4bb203c52097567206e4401979520f87651a3d7548070d73da0fc31cea7d880f"), looks := true }, kinds := [], alts := [], laidByText := true, laidKinds := [.sentinel, .sentinel, .sentinel, .sentinel, .sentinel, .data, .data], laidTests := true, laidLooks := .later }
def MsgChecksUptoCardSaid : Prop := Claim7.holds Tryz.pinned (.plain (OpenSpec.upto msgChecksSpec)) msgChecksUptoCard

/-- THE SECOND FORM's CARD OF 'mootlaw5.MsgLowests'. -/
def msgLowestsUptoCard : Claim7 := { stood := { row := msgLowestsUptoRow, standIns := [], harness := (true, "4bb203c52097567206e4401979520f87651a3d7548070d73da0fc31cea7d880f"), looks := true }, kinds := [], alts := [], laidByText := true, laidKinds := [.sentinel, .sentinel, .sentinel, .sentinel, .sentinel, .data, .data], laidTests := true, laidLooks := .later }
def MsgLowestsUptoCardSaid : Prop := Claim7.holds Tryz.pinned (.plain (OpenSpec.upto msgLowestsSpec)) msgLowestsUptoCard
end Rows
end Go.Proofs.YtdokagebfeejbaaGreatDoor
