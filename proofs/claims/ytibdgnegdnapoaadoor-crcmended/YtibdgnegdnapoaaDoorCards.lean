/-
  DERIVED. GIVEN WITH THE SEED: THE CARDS: each row of YtibdgnegdnapoaaDoorRows.lean that lists a variable, with what it lists TIED to the program's text (the seventh form; the later family's looks); each row that meets fmt, with fmt's text TOLD by the authors' own Lean function (tested against real Go, not proved from fmt's source: count such statements apart). THE CARD IS WHAT COUNTS. Prove the row's statement (the work); the ties are given (YtibdgnegdnapoaaDoorTie.lean); close each card by the builder's one call (the guide's Derived/Test/ToyasCard.lean, 'card_holds'). Laid BY PROGRAM, IN A SANDBOX (cutbox-door.mjs). By AI agents, Wed Nov 11 2026. No macro, syntax, notation, axiom, sorry.
-/
import Derived.Test.YtibdgnegdnapoaaDoorRows
import GoSem.ClaimSeven
namespace Go.Proofs.YtibdgnegdnapoaaDoor
namespace Rows

/-- THE TIED CARD OF 'mootlaw2.CrcMixes'. -/
def crcMixesCard : Claim7 := { stood := { row := crcMixesRow, standIns := [], harness := (true, "5a8580ebfa8109ed8ac0daa8e135e9e38550bb95b319733f2ce65e1c2d9278e2"), looks := false }, kinds := [], alts := [], laidByText := true, laidKinds := [.data], laidTests := true, laidLooks := .later }
def CrcMixesCardSaid : Prop := Claim7.holds Tryd.pinned (.plain (OpenSpec.ofChange crcMixesSpec)) crcMixesCard

/-- THE TIED CARD OF 'mootlaw2.CrcTable'. -/
def crcTableCard : Claim7 := { stood := { row := crcTableRow, standIns := [], harness := (true, "5a8580ebfa8109ed8ac0daa8e135e9e38550bb95b319733f2ce65e1c2d9278e2"), looks := false }, kinds := [], alts := [], laidByText := true, laidKinds := [.data], laidTests := true, laidLooks := .later }
def CrcTableCardSaid : Prop := Claim7.holds Tryd.pinned (.plain (OpenSpec.ofChange crcTableSpec)) crcTableCard

/-- THE TIED CARD OF 'mootlaw2.CrcResidues'. -/
def crcResiduesCard : Claim7 := { stood := { row := crcResiduesRow, standIns := [], harness := (true, "5a8580ebfa8109ed8ac0daa8e135e9e38550bb95b319733f2ce65e1c2d9278e2"), looks := false }, kinds := [], alts := [], laidByText := true, laidKinds := [.data], laidTests := true, laidLooks := .later }
def CrcResiduesCardSaid : Prop := Claim7.holds Tryd.pinned (.plain (OpenSpec.ofChange crcResiduesSpec)) crcResiduesCard

/-- THE TIED CARD OF 'mootlaw2.CrcTakes'. -/
def crcTakesCard : Claim7 := { stood := { row := crcTakesRow, standIns := [], harness := (true, "5a8580ebfa8109ed8ac0daa8e135e9e38550bb95b319733f2ce65e1c2d9278e2"), looks := false }, kinds := [], alts := [], laidByText := true, laidKinds := [.data], laidTests := true, laidLooks := .later }
def CrcTakesCardSaid : Prop := Claim7.holds Tryd.pinned (.plain (OpenSpec.ofChange crcTakesSpec)) crcTakesCard

/-- THE TIED CARD OF 'mootlaw2.CrcMended'. -/
def crcMendedCard : Claim7 := { stood := { row := crcMendedRow, standIns := [], harness := (true, "5a8580ebfa8109ed8ac0daa8e135e9e38550bb95b319733f2ce65e1c2d9278e2"), looks := false }, kinds := [], alts := [], laidByText := true, laidKinds := [.data], laidTests := true, laidLooks := .later }
def CrcMendedCardSaid : Prop := Claim7.holds Tryd.pinned (.plain (OpenSpec.ofChange crcMendedSpec)) crcMendedCard

/-- THE TIED CARD OF 'mootlaw2.CrcTwos'. -/
def crcTwosCard : Claim7 := { stood := { row := crcTwosRow, standIns := [], harness := (true, "5a8580ebfa8109ed8ac0daa8e135e9e38550bb95b319733f2ce65e1c2d9278e2"), looks := false }, kinds := [], alts := [], laidByText := true, laidKinds := [.data], laidTests := true, laidLooks := .later }
def CrcTwosCardSaid : Prop := Claim7.holds Tryd.pinned (.plain (OpenSpec.ofChange crcTwosSpec)) crcTwosCard

/-- THE SECOND FORM's CARD OF 'mootlaw2.CrcMixes'. -/
def crcMixesUptoCard : Claim7 := { stood := { row := crcMixesUptoRow, standIns := [], harness := (true, "5a8580ebfa8109ed8ac0daa8e135e9e38550bb95b319733f2ce65e1c2d9278e2"), looks := false }, kinds := [], alts := [], laidByText := true, laidKinds := [.data], laidTests := true, laidLooks := .later }
def CrcMixesUptoCardSaid : Prop := Claim7.holds Tryd.pinned (.plain (OpenSpec.upto crcMixesSpec)) crcMixesUptoCard

/-- THE SECOND FORM's CARD OF 'mootlaw2.CrcTable'. -/
def crcTableUptoCard : Claim7 := { stood := { row := crcTableUptoRow, standIns := [], harness := (true, "5a8580ebfa8109ed8ac0daa8e135e9e38550bb95b319733f2ce65e1c2d9278e2"), looks := false }, kinds := [], alts := [], laidByText := true, laidKinds := [.data], laidTests := true, laidLooks := .later }
def CrcTableUptoCardSaid : Prop := Claim7.holds Tryd.pinned (.plain (OpenSpec.upto crcTableSpec)) crcTableUptoCard

/-- THE SECOND FORM's CARD OF 'mootlaw2.CrcResidues'. -/
def crcResiduesUptoCard : Claim7 := { stood := { row := crcResiduesUptoRow, standIns := [], harness := (true, "5a8580ebfa8109ed8ac0daa8e135e9e38550bb95b319733f2ce65e1c2d9278e2"), looks := false }, kinds := [], alts := [], laidByText := true, laidKinds := [.data], laidTests := true, laidLooks := .later }
def CrcResiduesUptoCardSaid : Prop := Claim7.holds Tryd.pinned (.plain (OpenSpec.upto crcResiduesSpec)) crcResiduesUptoCard

/-- THE SECOND FORM's CARD OF 'mootlaw2.CrcTakes'. -/
def crcTakesUptoCard : Claim7 := { stood := { row := crcTakesUptoRow, standIns := [], harness := (true, "5a8580ebfa8109ed8ac0daa8e135e9e38550bb95b319733f2ce65e1c2d9278e2"), looks := false }, kinds := [], alts := [], laidByText := true, laidKinds := [.data], laidTests := true, laidLooks := .later }
def CrcTakesUptoCardSaid : Prop := Claim7.holds Tryd.pinned (.plain (OpenSpec.upto crcTakesSpec)) crcTakesUptoCard

/-- THE SECOND FORM's CARD OF 'mootlaw2.CrcMended'. -/
def crcMendedUptoCard : Claim7 := { stood := { row := crcMendedUptoRow, standIns := [], harness := (true, "5a8580ebfa8109ed8ac0daa8e135e9e38550bb95b319733f2ce65e1c2d9278e2"), looks := false }, kinds := [], alts := [], laidByText := true, laidKinds := [.data], laidTests := true, laidLooks := .later }
def CrcMendedUptoCardSaid : Prop := Claim7.holds Tryd.pinned (.plain (OpenSpec.upto crcMendedSpec)) crcMendedUptoCard

/-- THE SECOND FORM's CARD OF 'mootlaw2.CrcTwos'. -/
def crcTwosUptoCard : Claim7 := { stood := { row := crcTwosUptoRow, standIns := [], harness := (true, "5a8580ebfa8109ed8ac0daa8e135e9e38550bb95b319733f2ce65e1c2d9278e2"), looks := false }, kinds := [], alts := [], laidByText := true, laidKinds := [.data], laidTests := true, laidLooks := .later }
def CrcTwosUptoCardSaid : Prop := Claim7.holds Tryd.pinned (.plain (OpenSpec.upto crcTwosSpec)) crcTwosUptoCard
end Rows
end Go.Proofs.YtibdgnegdnapoaaDoor
