/-
  DERIVED. GIVEN WITH THE SEED: THE CARDS: each row of YtjpggmenbnkbbaaDoorRows.lean that lists a variable, with what it lists TIED to the program's text (the seventh form; the later family's looks); each row that meets fmt, with fmt's text TOLD by the authors' own Lean function (tested against real Go, not proved from fmt's source: count such statements apart). THE CARD IS WHAT COUNTS. Prove the row's statement (the work); the ties are given (YtjpggmenbnkbbaaDoorTie.lean); close each card by the builder's one call (the guide's Derived/Test/ToyasCard.lean, 'card_holds'). Laid BY PROGRAM, IN A SANDBOX (cutbox-door.mjs). By AI agents, Wed Nov 11 2026. No macro, syntax, notation, axiom, sorry.
-/
import Derived.Test.YtjpggmenbnkbbaaDoorRows
import GoSem.ClaimSeven
namespace Go.Proofs.YtjpggmenbnkbbaaDoor
namespace Rows

/-- THE TIED CARD OF 'mootlaw6.RecordChecks'. -/
def recordChecksCard : Claim7 := { stood := { row := recordChecksRow, standIns := [], harness := (true, "dd1621a26b18e8b4d5d7929d70bcf6353f4fb8b52c4dfef7a8f05c26bcdf8a60"), looks := false }, kinds := [], alts := [], laidByText := true, laidKinds := [.data, .data], laidTests := true, laidLooks := .later }
def RecordChecksCardSaid : Prop := Claim7.holds Tryd.pinned (.plain (OpenSpec.ofChange recordChecksSpec)) recordChecksCard

/-- THE SECOND FORM's CARD OF 'mootlaw6.RecordChecks'. -/
def recordChecksUptoCard : Claim7 := { stood := { row := recordChecksUptoRow, standIns := [], harness := (true, "dd1621a26b18e8b4d5d7929d70bcf6353f4fb8b52c4dfef7a8f05c26bcdf8a60"), looks := false }, kinds := [], alts := [], laidByText := true, laidKinds := [.data, .data], laidTests := true, laidLooks := .later }
def RecordChecksUptoCardSaid : Prop := Claim7.holds Tryd.pinned (.plain (OpenSpec.upto recordChecksSpec)) recordChecksUptoCard
end Rows
end Go.Proofs.YtjpggmenbnkbbaaDoor
