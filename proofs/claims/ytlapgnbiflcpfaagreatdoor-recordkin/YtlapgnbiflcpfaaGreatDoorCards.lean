/-
  DERIVED. GIVEN WITH THE SEED: THE CARDS: each row of YtlapgnbiflcpfaaGreatDoorRows.lean that lists a variable, with what it lists TIED to the program's text (the seventh form; the later family's looks); each row that meets fmt, with fmt's text TOLD by the authors' own Lean function (tested against real Go, not proved from fmt's source: count such statements apart). THE CARD IS WHAT COUNTS. Prove the row's statement (the work); the ties are given (YtlapgnbiflcpfaaGreatDoorTie.lean); close each card by the builder's one call (the guide's Derived/Test/ToyasCard.lean, 'card_holds'). Laid BY PROGRAM, IN A SANDBOX (cutbox-door.mjs). By AI agents, Wed Nov 11 2026. No macro, syntax, notation, axiom, sorry.
-/
import Derived.Test.YtlapgnbiflcpfaaGreatDoorRows
import GoSem.ClaimSeven
namespace Go.Proofs.YtlapgnbiflcpfaaGreatDoor
namespace Rows

/-- THE TIED CARD OF 'mootlaw6.RecordHeads'. -/
def recordHeadsCard : Claim7 := { stood := { row := recordHeadsRow, standIns := [], harness := (true, "cad68984107bdeabd430eaf9b092ce4cce2f5a82f906a1b5da202140b75ae7a6"), looks := true }, kinds := [], alts := [], laidByText := true, laidKinds := [.sentinel, .sentinel, .sentinel, .sentinel, .sentinel, .data, .data], laidTests := true, laidLooks := .later }
def RecordHeadsCardSaid : Prop := Claim7.holds Tryz.pinned (.plain (OpenSpec.ofChange recordHeadsSpec)) recordHeadsCard

/-- THE TIED CARD OF 'mootlaw6.RecordReturns'. -/
def recordReturnsCard : Claim7 := { stood := { row := recordReturnsRow, standIns := [], harness := (true, "cad68984107bdeabd430eaf9b092ce4cce2f5a82f906a1b5da202140b75ae7a6"), looks := true }, kinds := [], alts := [], laidByText := true, laidKinds := [.sentinel, .sentinel, .sentinel, .sentinel, .sentinel, .data, .data], laidTests := true, laidLooks := .later }
def RecordReturnsCardSaid : Prop := Claim7.holds Tryz.pinned (.plain (OpenSpec.ofChange recordReturnsSpec)) recordReturnsCard

/-- THE TIED CARD OF 'mootlaw6.RecordKin'. -/
def recordKinCard : Claim7 := { stood := { row := recordKinRow, standIns := [], harness := (true, "cad68984107bdeabd430eaf9b092ce4cce2f5a82f906a1b5da202140b75ae7a6"), looks := true }, kinds := [], alts := [], laidByText := true, laidKinds := [.sentinel, .sentinel, .sentinel, .sentinel, .sentinel, .data, .data], laidTests := true, laidLooks := .later }
def RecordKinCardSaid : Prop := Claim7.holds Tryz.pinned (.plain (OpenSpec.ofChange recordKinSpec)) recordKinCard

/-- THE TIED CARD OF 'mootlaw6.RecordOneForm'. -/
def recordOneFormCard : Claim7 := { stood := { row := recordOneFormRow, standIns := [], harness := (true, "cad68984107bdeabd430eaf9b092ce4cce2f5a82f906a1b5da202140b75ae7a6"), looks := true }, kinds := [], alts := [], laidByText := true, laidKinds := [.sentinel, .sentinel, .sentinel, .sentinel, .sentinel, .data, .data], laidTests := true, laidLooks := .later }
def RecordOneFormCardSaid : Prop := Claim7.holds Tryz.pinned (.plain (OpenSpec.ofChange recordOneFormSpec)) recordOneFormCard

/-- THE TIED CARD OF 'mootlaw6.RecordBeginnings'. -/
def recordBeginningsCard : Claim7 := { stood := { row := recordBeginningsRow, standIns := [], harness := (true, "cad68984107bdeabd430eaf9b092ce4cce2f5a82f906a1b5da202140b75ae7a6"), looks := true }, kinds := [], alts := [], laidByText := true, laidKinds := [.sentinel, .sentinel, .sentinel, .sentinel, .sentinel, .data, .data], laidTests := true, laidLooks := .later }
def RecordBeginningsCardSaid : Prop := Claim7.holds Tryz.pinned (.plain (OpenSpec.ofChange recordBeginningsSpec)) recordBeginningsCard

/-- THE SECOND FORM's CARD OF 'mootlaw6.RecordHeads'. -/
def recordHeadsUptoCard : Claim7 := { stood := { row := recordHeadsUptoRow, standIns := [], harness := (true, "cad68984107bdeabd430eaf9b092ce4cce2f5a82f906a1b5da202140b75ae7a6"), looks := true }, kinds := [], alts := [], laidByText := true, laidKinds := [.sentinel, .sentinel, .sentinel, .sentinel, .sentinel, .data, .data], laidTests := true, laidLooks := .later }
def RecordHeadsUptoCardSaid : Prop := Claim7.holds Tryz.pinned (.plain (OpenSpec.upto recordHeadsSpec)) recordHeadsUptoCard

/-- THE SECOND FORM's CARD OF 'mootlaw6.RecordReturns'. -/
def recordReturnsUptoCard : Claim7 := { stood := { row := recordReturnsUptoRow, standIns := [], harness := (true, "cad68984107bdeabd430eaf9b092ce4cce2f5a82f906a1b5da202140b75ae7a6"), looks := true }, kinds := [], alts := [], laidByText := true, laidKinds := [.sentinel, .sentinel, .sentinel, .sentinel, .sentinel, .data, .data], laidTests := true, laidLooks := .later }
def RecordReturnsUptoCardSaid : Prop := Claim7.holds Tryz.pinned (.plain (OpenSpec.upto recordReturnsSpec)) recordReturnsUptoCard

/-- THE SECOND FORM's CARD OF 'mootlaw6.RecordKin'. -/
def recordKinUptoCard : Claim7 := { stood := { row := recordKinUptoRow, standIns := [], harness := (true, "cad68984107bdeabd430eaf9b092ce4cce2f5a82f906a1b5da202140b75ae7a6"), looks := true }, kinds := [], alts := [], laidByText := true, laidKinds := [.sentinel, .sentinel, .sentinel, .sentinel, .sentinel, .data, .data], laidTests := true, laidLooks := .later }
def RecordKinUptoCardSaid : Prop := Claim7.holds Tryz.pinned (.plain (OpenSpec.upto recordKinSpec)) recordKinUptoCard

/-- THE SECOND FORM's CARD OF 'mootlaw6.RecordOneForm'. -/
def recordOneFormUptoCard : Claim7 := { stood := { row := recordOneFormUptoRow, standIns := [], harness := (true, "cad68984107bdeabd430eaf9b092ce4cce2f5a82f906a1b5da202140b75ae7a6"), looks := true }, kinds := [], alts := [], laidByText := true, laidKinds := [.sentinel, .sentinel, .sentinel, .sentinel, .sentinel, .data, .data], laidTests := true, laidLooks := .later }
def RecordOneFormUptoCardSaid : Prop := Claim7.holds Tryz.pinned (.plain (OpenSpec.upto recordOneFormSpec)) recordOneFormUptoCard

/-- THE SECOND FORM's CARD OF 'mootlaw6.RecordBeginnings'. -/
def recordBeginningsUptoCard : Claim7 := { stood := { row := recordBeginningsUptoRow, standIns := [], harness := (true, "cad68984107bdeabd430eaf9b092ce4cce2f5a82f906a1b5da202140b75ae7a6"), looks := true }, kinds := [], alts := [], laidByText := true, laidKinds := [.sentinel, .sentinel, .sentinel, .sentinel, .sentinel, .data, .data], laidTests := true, laidLooks := .later }
def RecordBeginningsUptoCardSaid : Prop := Claim7.holds Tryz.pinned (.plain (OpenSpec.upto recordBeginningsSpec)) recordBeginningsUptoCard
end Rows
end Go.Proofs.YtlapgnbiflcpfaaGreatDoor
