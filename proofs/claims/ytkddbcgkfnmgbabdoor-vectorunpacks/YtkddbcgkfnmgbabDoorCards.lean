/-
  DERIVED. GIVEN WITH THE SEED: THE CARDS: each row of YtkddbcgkfnmgbabDoorRows.lean that lists a variable, with what it lists TIED to the program's text (the seventh form; the later family's looks); each row that meets fmt, with fmt's text TOLD by the authors' own Lean function (tested against real Go, not proved from fmt's source: count such statements apart). THE CARD IS WHAT COUNTS. Prove the row's statement (the work); the ties are given (YtkddbcgkfnmgbabDoorTie.lean); close each card by the builder's one call (the guide's Derived/Test/ToyasCard.lean, 'card_holds'). Laid BY PROGRAM, IN A SANDBOX (cutbox-door.mjs). By AI agents, Wed Nov 11 2026. No macro, syntax, notation, axiom, sorry.
-/
import Derived.Test.YtkddbcgkfnmgbabDoorRows
import GoSem.ClaimSeven
namespace Go.Proofs.YtkddbcgkfnmgbabDoor
namespace Rows

/-- THE TIED CARD OF 'mootlaw3.VectorBeginnings'. -/
def vectorBeginningsCard : Claim7 := { stood := { row := vectorBeginningsRow, standIns := [], harness := (true, "ed61dadce1e3e9013983e391399454092890f4d5e47a3524bf355362da732207"), looks := true }, kinds := [], alts := [], laidByText := true, laidKinds := [.sentinel, .sentinel, .sentinel, .sentinel, .sentinel], laidTests := true, laidLooks := .later }
def VectorBeginningsCardSaid : Prop := Claim7.holds Tryd.pinned (.plain (OpenSpec.ofChange vectorBeginningsSpec)) vectorBeginningsCard

/-- THE TIED CARD OF 'mootlaw3.VectorUnpacks'. -/
def vectorUnpacksCard : Claim7 := { stood := { row := vectorUnpacksRow, standIns := [], harness := (true, "ed61dadce1e3e9013983e391399454092890f4d5e47a3524bf355362da732207"), looks := true }, kinds := [], alts := [], laidByText := true, laidKinds := [.sentinel, .sentinel, .sentinel, .sentinel, .sentinel], laidTests := true, laidLooks := .later }
def VectorUnpacksCardSaid : Prop := Claim7.holds Tryd.pinned (.plain (OpenSpec.ofChange vectorUnpacksSpec)) vectorUnpacksCard

/-- THE TIED CARD OF 'mootlaw3.VectorReturns'. -/
def vectorReturnsCard : Claim7 := { stood := { row := vectorReturnsRow, standIns := [], harness := (true, "ed61dadce1e3e9013983e391399454092890f4d5e47a3524bf355362da732207"), looks := true }, kinds := [], alts := [], laidByText := true, laidKinds := [.sentinel, .sentinel, .sentinel, .sentinel, .sentinel], laidTests := true, laidLooks := .later }
def VectorReturnsCardSaid : Prop := Claim7.holds Tryd.pinned (.plain (OpenSpec.ofChange vectorReturnsSpec)) vectorReturnsCard

/-- THE TIED CARD OF 'mootlaw3.VectorOneForm'. -/
def vectorOneFormCard : Claim7 := { stood := { row := vectorOneFormRow, standIns := [], harness := (true, "ed61dadce1e3e9013983e391399454092890f4d5e47a3524bf355362da732207"), looks := true }, kinds := [], alts := [], laidByText := true, laidKinds := [.sentinel, .sentinel, .sentinel, .sentinel, .sentinel], laidTests := true, laidLooks := .later }
def VectorOneFormCardSaid : Prop := Claim7.holds Tryd.pinned (.plain (OpenSpec.ofChange vectorOneFormSpec)) vectorOneFormCard

/-- THE TIED CARD OF 'mootlaw3.VectorNewMemory'. -/
def vectorNewMemoryCard : Claim7 := { stood := { row := vectorNewMemoryRow, standIns := [], harness := (true, "ed61dadce1e3e9013983e391399454092890f4d5e47a3524bf355362da732207"), looks := true }, kinds := [], alts := [], laidByText := true, laidKinds := [.sentinel, .sentinel, .sentinel, .sentinel, .sentinel], laidTests := true, laidLooks := .later }
def VectorNewMemoryCardSaid : Prop := Claim7.holds Tryd.pinned (.plain (OpenSpec.ofChange vectorNewMemorySpec)) vectorNewMemoryCard

/-- THE SECOND FORM's CARD OF 'mootlaw3.VectorBeginnings'. -/
def vectorBeginningsUptoCard : Claim7 := { stood := { row := vectorBeginningsUptoRow, standIns := [], harness := (true, "ed61dadce1e3e9013983e391399454092890f4d5e47a3524bf355362da732207"), looks := true }, kinds := [], alts := [], laidByText := true, laidKinds := [.sentinel, .sentinel, .sentinel, .sentinel, .sentinel], laidTests := true, laidLooks := .later }
def VectorBeginningsUptoCardSaid : Prop := Claim7.holds Tryd.pinned (.plain (OpenSpec.upto vectorBeginningsSpec)) vectorBeginningsUptoCard

/-- THE SECOND FORM's CARD OF 'mootlaw3.VectorUnpacks'. -/
def vectorUnpacksUptoCard : Claim7 := { stood := { row := vectorUnpacksUptoRow, standIns := [], harness := (true, "ed61dadce1e3e9013983e391399454092890f4d5e47a3524bf355362da732207"), looks := true }, kinds := [], alts := [], laidByText := true, laidKinds := [.sentinel, .sentinel, .sentinel, .sentinel, .sentinel], laidTests := true, laidLooks := .later }
def VectorUnpacksUptoCardSaid : Prop := Claim7.holds Tryd.pinned (.plain (OpenSpec.upto vectorUnpacksSpec)) vectorUnpacksUptoCard

/-- THE SECOND FORM's CARD OF 'mootlaw3.VectorReturns'. -/
def vectorReturnsUptoCard : Claim7 := { stood := { row := vectorReturnsUptoRow, standIns := [], harness := (true, "ed61dadce1e3e9013983e391399454092890f4d5e47a3524bf355362da732207"), looks := true }, kinds := [], alts := [], laidByText := true, laidKinds := [.sentinel, .sentinel, .sentinel, .sentinel, .sentinel], laidTests := true, laidLooks := .later }
def VectorReturnsUptoCardSaid : Prop := Claim7.holds Tryd.pinned (.plain (OpenSpec.upto vectorReturnsSpec)) vectorReturnsUptoCard

/-- THE SECOND FORM's CARD OF 'mootlaw3.VectorOneForm'. -/
def vectorOneFormUptoCard : Claim7 := { stood := { row := vectorOneFormUptoRow, standIns := [], harness := (true, "ed61dadce1e3e9013983e391399454092890f4d5e47a3524bf355362da732207"), looks := true }, kinds := [], alts := [], laidByText := true, laidKinds := [.sentinel, .sentinel, .sentinel, .sentinel, .sentinel], laidTests := true, laidLooks := .later }
def VectorOneFormUptoCardSaid : Prop := Claim7.holds Tryd.pinned (.plain (OpenSpec.upto vectorOneFormSpec)) vectorOneFormUptoCard

/-- THE SECOND FORM's CARD OF 'mootlaw3.VectorNewMemory'. -/
def vectorNewMemoryUptoCard : Claim7 := { stood := { row := vectorNewMemoryUptoRow, standIns := [], harness := (true, "ed61dadce1e3e9013983e391399454092890f4d5e47a3524bf355362da732207"), looks := true }, kinds := [], alts := [], laidByText := true, laidKinds := [.sentinel, .sentinel, .sentinel, .sentinel, .sentinel], laidTests := true, laidLooks := .later }
def VectorNewMemoryUptoCardSaid : Prop := Claim7.holds Tryd.pinned (.plain (OpenSpec.upto vectorNewMemorySpec)) vectorNewMemoryUptoCard
end Rows
end Go.Proofs.YtkddbcgkfnmgbabDoor
