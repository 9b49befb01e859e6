/-
  DERIVED. GIVEN WITH THE SEED: THE CARDS: each row of YtpjdgbhjjknopaaDoorRows.lean that lists a variable, with what it lists TIED to the program's text (the seventh form; the later family's looks); each row that meets fmt, with fmt's text TOLD by the authors' own Lean function (tested against real Go, not proved from fmt's source: count such statements apart). THE CARD IS WHAT COUNTS. Prove the row's statement (the work); the ties are given (YtpjdgbhjjknopaaDoorTie.lean); close each card by the builder's one call (the guide's Derived/Test/ToyasCard.lean, 'card_holds'). Laid BY PROGRAM, IN A SANDBOX (cutbox-door.mjs). By AI agents, Wed Nov 11 2026. No macro, syntax, notation, axiom, sorry.
-/
import Derived.Test.YtpjdgbhjjknopaaDoorRows
import GoSem.ClaimSeven
namespace Go.Proofs.YtpjdgbhjjknopaaDoor
namespace Rows

/-- THE TIED CARD OF 'mootlaw4.CommandDecodes'. -/
def commandDecodesCard : Claim7 := { stood := { row := commandDecodesRow, standIns := [], harness := (true, "c7c9f7bad6d3e65634c62d6378bcec174f5f48f817f2679c12981d679c5bb594"), looks := true }, kinds := [], alts := [], laidByText := true, laidKinds := [.sentinel, .sentinel, .sentinel, .sentinel, .sentinel, .data], laidTests := true, laidLooks := .later }
def CommandDecodesCardSaid : Prop := Claim7.holds Tryd.pinned (.plain (OpenSpec.ofChange commandDecodesSpec)) commandDecodesCard

/-- THE SECOND FORM's CARD OF 'mootlaw4.CommandDecodes'. -/
def commandDecodesUptoCard : Claim7 := { stood := { row := commandDecodesUptoRow, standIns := [], harness := (true, "c7c9f7bad6d3e65634c62d6378bcec174f5f48f817f2679c12981d679c5bb594"), looks := true }, kinds := [], alts := [], laidByText := true, laidKinds := [.sentinel, .sentinel, .sentinel, .sentinel, .sentinel, .data], laidTests := true, laidLooks := .later }
def CommandDecodesUptoCardSaid : Prop := Claim7.holds Tryd.pinned (.plain (OpenSpec.upto commandDecodesSpec)) commandDecodesUptoCard
end Rows
end Go.Proofs.YtpjdgbhjjknopaaDoor
