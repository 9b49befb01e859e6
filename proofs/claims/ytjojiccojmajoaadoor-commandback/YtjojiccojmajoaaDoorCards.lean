/-
  DERIVED. GIVEN WITH THE SEED: THE CARDS: each row of YtjojiccojmajoaaDoorRows.lean that lists a variable, with what it lists TIED to the program's text (the seventh form; the later family's looks); each row that meets fmt, with fmt's text TOLD by the authors' own Lean function (tested against real Go, not proved from fmt's source: count such statements apart). THE CARD IS WHAT COUNTS. Prove the row's statement (the work); the ties are given (YtjojiccojmajoaaDoorTie.lean); close each card by the builder's one call (the guide's Derived/Test/ToyasCard.lean, 'card_holds'). Laid BY PROGRAM, IN A SANDBOX (cutbox-door.mjs). By AI agents, Wed Nov 11 2026. No macro, syntax, notation, axiom, sorry.
-/
import Derived.Test.YtjojiccojmajoaaDoorRows
import GoSem.ClaimSeven
namespace Go.Proofs.YtjojiccojmajoaaDoor
namespace Rows

/-- THE TIED CARD OF 'mootlaw4.CommandSpoilt'. -/
def commandSpoiltCard : Claim7 := { stood := { row := commandSpoiltRow, standIns := [], harness := (true, "40cf5b1c1681c926298e450dd68abd0946bdcba4e0d9214def20e6750bafce2f"), looks := true }, kinds := [], alts := [], laidByText := true, laidKinds := [.sentinel, .sentinel, .sentinel, .sentinel, .sentinel, .data], laidTests := true, laidLooks := .later }
def CommandSpoiltCardSaid : Prop := Claim7.holds Tryd.pinned (.plain (OpenSpec.ofChange commandSpoiltSpec)) commandSpoiltCard

/-- THE TIED CARD OF 'mootlaw4.CommandBack'. -/
def commandBackCard : Claim7 := { stood := { row := commandBackRow, standIns := [], harness := (true, "40cf5b1c1681c926298e450dd68abd0946bdcba4e0d9214def20e6750bafce2f"), looks := true }, kinds := [], alts := [], laidByText := true, laidKinds := [.sentinel, .sentinel, .sentinel, .sentinel, .sentinel, .data], laidTests := true, laidLooks := .later }
def CommandBackCardSaid : Prop := Claim7.holds Tryd.pinned (.plain (OpenSpec.ofChange commandBackSpec)) commandBackCard

/-- THE TIED CARD OF 'mootlaw4.CommandDecodes'. -/
def commandDecodesCard : Claim7 := { stood := { row := commandDecodesRow, standIns := [], harness := (true, "40cf5b1c1681c926298e450dd68abd0946bdcba4e0d9214def20e6750bafce2f"), looks := true }, kinds := [], alts := [], laidByText := true, laidKinds := [.sentinel, .sentinel, .sentinel, .sentinel, .sentinel, .data], laidTests := true, laidLooks := .later }
def CommandDecodesCardSaid : Prop := Claim7.holds Tryd.pinned (.plain (OpenSpec.ofChange commandDecodesSpec)) commandDecodesCard

/-- THE SECOND FORM's CARD OF 'mootlaw4.CommandSpoilt'. -/
def commandSpoiltUptoCard : Claim7 := { stood := { row := commandSpoiltUptoRow, standIns := [], harness := (true, "40cf5b1c1681c926298e450dd68abd0946bdcba4e0d9214def20e6750bafce2f"), looks := true }, kinds := [], alts := [], laidByText := true, laidKinds := [.sentinel, .sentinel, .sentinel, .sentinel, .sentinel, .data], laidTests := true, laidLooks := .later }
def CommandSpoiltUptoCardSaid : Prop := Claim7.holds Tryd.pinned (.plain (OpenSpec.upto commandSpoiltSpec)) commandSpoiltUptoCard

/-- THE SECOND FORM's CARD OF 'mootlaw4.CommandBack'. -/
def commandBackUptoCard : Claim7 := { stood := { row := commandBackUptoRow, standIns := [], harness := (true, "40cf5b1c1681c926298e450dd68abd0946bdcba4e0d9214def20e6750bafce2f"), looks := true }, kinds := [], alts := [], laidByText := true, laidKinds := [.sentinel, .sentinel, .sentinel, .sentinel, .sentinel, .data], laidTests := true, laidLooks := .later }
def CommandBackUptoCardSaid : Prop := Claim7.holds Tryd.pinned (.plain (OpenSpec.upto commandBackSpec)) commandBackUptoCard

/-- THE SECOND FORM's CARD OF 'mootlaw4.CommandDecodes'. -/
def commandDecodesUptoCard : Claim7 := { stood := { row := commandDecodesUptoRow, standIns := [], harness := (true, "40cf5b1c1681c926298e450dd68abd0946bdcba4e0d9214def20e6750bafce2f"), looks := true }, kinds := [], alts := [], laidByText := true, laidKinds := [.sentinel, .sentinel, .sentinel, .sentinel, .sentinel, .data], laidTests := true, laidLooks := .later }
def CommandDecodesUptoCardSaid : Prop := Claim7.holds Tryd.pinned (.plain (OpenSpec.upto commandDecodesSpec)) commandDecodesUptoCard
end Rows
end Go.Proofs.YtjojiccojmajoaaDoor
