/-
  DERIVED. GIVEN WITH THE SEED: THE CARDS: each row of YtahaecnopeffhaaDoorRows.lean that lists a variable, with what it lists TIED to the program's text (the seventh form; the later family's looks); each row that meets fmt, with fmt's text TOLD by the authors' own Lean function (tested against real Go, not proved from fmt's source: count such statements apart). THE CARD IS WHAT COUNTS. Prove the row's statement (the work); the ties are given (YtahaecnopeffhaaDoorTie.lean); close each card by the builder's one call (the guide's Derived/Test/ToyasCard.lean, 'card_holds'). Laid BY PROGRAM, IN A SANDBOX (cutbox-door.mjs). By AI agents, Wed Nov 11 2026. No macro, syntax, notation, axiom, sorry.
-/
import Derived.Test.YtahaecnopeffhaaDoorRows
import GoSem.ClaimSeven
namespace Go.Proofs.YtahaecnopeffhaaDoor
namespace Rows

/-- THE TIED CARD OF 'mootlaw4.CommandNewer'. -/
def commandNewerCard : Claim7 := { stood := { row := commandNewerRow, standIns := [], harness := (true, "0376d52f6b3540ac364ca86168d438111e42ff07ba15acd63187ce19f9c10b20"), looks := false }, kinds := [], alts := [], laidByText := true, laidKinds := [.data], laidTests := true, laidLooks := .later }
def CommandNewerCardSaid : Prop := Claim7.holds Tryd.pinned (.plain (OpenSpec.ofChange commandNewerSpec)) commandNewerCard

/-- THE TIED CARD OF 'mootlaw4.CommandChecks'. -/
def commandChecksCard : Claim7 := { stood := { row := commandChecksRow, standIns := [], harness := (true, "0376d52f6b3540ac364ca86168d438111e42ff07ba15acd63187ce19f9c10b20"), looks := false }, kinds := [], alts := [], laidByText := true, laidKinds := [.data], laidTests := true, laidLooks := .later }
def CommandChecksCardSaid : Prop := Claim7.holds Tryd.pinned (.plain (OpenSpec.ofChange commandChecksSpec)) commandChecksCard

/-- THE SECOND FORM's CARD OF 'mootlaw4.CommandNewer'. -/
def commandNewerUptoCard : Claim7 := { stood := { row := commandNewerUptoRow, standIns := [], harness := (true, "0376d52f6b3540ac364ca86168d438111e42ff07ba15acd63187ce19f9c10b20"), looks := false }, kinds := [], alts := [], laidByText := true, laidKinds := [.data], laidTests := true, laidLooks := .later }
def CommandNewerUptoCardSaid : Prop := Claim7.holds Tryd.pinned (.plain (OpenSpec.upto commandNewerSpec)) commandNewerUptoCard

/-- THE SECOND FORM's CARD OF 'mootlaw4.CommandChecks'. -/
def commandChecksUptoCard : Claim7 := { stood := { row := commandChecksUptoRow, standIns := [], harness := (true, "0376d52f6b3540ac364ca86168d438111e42ff07ba15acd63187ce19f9c10b20"), looks := false }, kinds := [], alts := [], laidByText := true, laidKinds := [.data], laidTests := true, laidLooks := .later }
def CommandChecksUptoCardSaid : Prop := Claim7.holds Tryd.pinned (.plain (OpenSpec.upto commandChecksSpec)) commandChecksUptoCard
end Rows
end Go.Proofs.YtahaecnopeffhaaDoor
