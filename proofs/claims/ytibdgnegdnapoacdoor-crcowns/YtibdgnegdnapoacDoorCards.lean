/-
  DERIVED. GIVEN WITH THE SEED: THE CARDS: each row of YtibdgnegdnapoacDoorRows.lean that lists a variable, with what it lists TIED to the program's text (the seventh form; the later family's looks); each row that meets fmt, with fmt's text TOLD by the authors' own Lean function (tested against real Go, not proved from fmt's source: count such statements apart). THE CARD IS WHAT COUNTS. Prove the row's statement (the work); the ties are given (YtibdgnegdnapoacDoorTie.lean); close each card by the builder's one call (the guide's Derived/Test/ToyasCard.lean, 'card_holds'). Laid BY PROGRAM, IN A SANDBOX (cutbox-door.mjs). By AI agents, Wed Nov 11 2026. No macro, syntax, notation, axiom, sorry.
-/
import Derived.Test.YtibdgnegdnapoacDoorRows
import GoSem.ClaimSeven
namespace Go.Proofs.YtibdgnegdnapoacDoor
namespace Rows

/-- THE TIED CARD OF 'mootlaw2.CrcJoins'. -/
def crcJoinsCard : Claim7 := { stood := { row := crcJoinsRow, standIns := [], harness := (true, "a29f29263ce9a04893077ea78f49d03cf40f808a4642ee2db62886ecaa2d5f9d"), looks := false }, kinds := [], alts := [], laidByText := true, laidKinds := [.data], laidTests := true, laidLooks := .later }
def CrcJoinsCardSaid : Prop := Claim7.holds Tryd.pinned (.plain (OpenSpec.ofChange crcJoinsSpec)) crcJoinsCard

/-- THE TIED CARD OF 'mootlaw2.CrcMends'. -/
def crcMendsCard : Claim7 := { stood := { row := crcMendsRow, standIns := [], harness := (true, "a29f29263ce9a04893077ea78f49d03cf40f808a4642ee2db62886ecaa2d5f9d"), looks := false }, kinds := [], alts := [], laidByText := true, laidKinds := [.data], laidTests := true, laidLooks := .later }
def CrcMendsCardSaid : Prop := Claim7.holds Tryd.pinned (.plain (OpenSpec.ofChange crcMendsSpec)) crcMendsCard

/-- THE TIED CARD OF 'mootlaw2.CrcOwns'. -/
def crcOwnsCard : Claim7 := { stood := { row := crcOwnsRow, standIns := [], harness := (true, "a29f29263ce9a04893077ea78f49d03cf40f808a4642ee2db62886ecaa2d5f9d"), looks := false }, kinds := [], alts := [], laidByText := true, laidKinds := [.data], laidTests := true, laidLooks := .later }
def CrcOwnsCardSaid : Prop := Claim7.holds Tryd.pinned (.plain (OpenSpec.ofChange crcOwnsSpec)) crcOwnsCard

/-- THE SECOND FORM's CARD OF 'mootlaw2.CrcJoins'. -/
def crcJoinsUptoCard : Claim7 := { stood := { row := crcJoinsUptoRow, standIns := [], harness := (true, "a29f29263ce9a04893077ea78f49d03cf40f808a4642ee2db62886ecaa2d5f9d"), looks := false }, kinds := [], alts := [], laidByText := true, laidKinds := [.data], laidTests := true, laidLooks := .later }
def CrcJoinsUptoCardSaid : Prop := Claim7.holds Tryd.pinned (.plain (OpenSpec.upto crcJoinsSpec)) crcJoinsUptoCard

/-- THE SECOND FORM's CARD OF 'mootlaw2.CrcMends'. -/
def crcMendsUptoCard : Claim7 := { stood := { row := crcMendsUptoRow, standIns := [], harness := (true, "a29f29263ce9a04893077ea78f49d03cf40f808a4642ee2db62886ecaa2d5f9d"), looks := false }, kinds := [], alts := [], laidByText := true, laidKinds := [.data], laidTests := true, laidLooks := .later }
def CrcMendsUptoCardSaid : Prop := Claim7.holds Tryd.pinned (.plain (OpenSpec.upto crcMendsSpec)) crcMendsUptoCard

/-- THE SECOND FORM's CARD OF 'mootlaw2.CrcOwns'. -/
def crcOwnsUptoCard : Claim7 := { stood := { row := crcOwnsUptoRow, standIns := [], harness := (true, "a29f29263ce9a04893077ea78f49d03cf40f808a4642ee2db62886ecaa2d5f9d"), looks := false }, kinds := [], alts := [], laidByText := true, laidKinds := [.data], laidTests := true, laidLooks := .later }
def CrcOwnsUptoCardSaid : Prop := Claim7.holds Tryd.pinned (.plain (OpenSpec.upto crcOwnsSpec)) crcOwnsUptoCard
end Rows
end Go.Proofs.YtibdgnegdnapoacDoor
