/-
  DERIVED. GIVEN WITH THE SEED: THE CARDS: each row of YtnlohbfolphafaaDoorRows.lean that lists a variable, with what it lists TIED to the program's text (the seventh form; the later family's looks); each row that meets fmt, with fmt's text TOLD by the authors' own Lean function (tested against real Go, not proved from fmt's source: count such statements apart). THE CARD IS WHAT COUNTS. Prove the row's statement (the work); the ties are given (YtnlohbfolphafaaDoorTie.lean); close each card by the builder's one call (the guide's Derived/Test/ToyasCard.lean, 'card_holds'). Laid BY PROGRAM, IN A SANDBOX (cutbox-door.mjs). By AI agents, Wed Nov 11 2026. No macro, syntax, notation, axiom, sorry.
-/
import Derived.Test.YtnlohbfolphafaaDoorRows
import GoSem.ClaimSeven
namespace Go.Proofs.YtnlohbfolphafaaDoor
namespace Rows

/-- THE TIED CARD OF 'mootlaw7.FrameSeals'. -/
def frameSealsCard : Claim7 := { stood := { row := frameSealsRow, standIns := [], harness := (true, "2e28cc7365f93565769d617a9760aeb8fda25509ed3bd963d84a93d1dd948112"), looks := true }, kinds := [], alts := [], laidByText := true, laidKinds := [.data], laidTests := true, laidLooks := .later }
def FrameSealsCardSaid : Prop := Claim7.holds Tryd.pinned (.plain (OpenSpec.ofChange frameSealsSpec)) frameSealsCard

/-- THE TIED CARD OF 'mootlaw7.FrameHolds'. -/
def frameHoldsCard : Claim7 := { stood := { row := frameHoldsRow, standIns := [], harness := (true, "2e28cc7365f93565769d617a9760aeb8fda25509ed3bd963d84a93d1dd948112"), looks := true }, kinds := [], alts := [], laidByText := true, laidKinds := [.data, .sentinel, .sentinel, .sentinel, .sentinel, .sentinel], laidTests := true, laidLooks := .later }
def FrameHoldsCardSaid : Prop := Claim7.holds Tryd.pinned (.plain (OpenSpec.ofChange frameHoldsSpec)) frameHoldsCard

/-- THE TIED CARD OF 'mootlaw7.FrameBurst'. -/
def frameBurstCard : Claim7 := { stood := { row := frameBurstRow, standIns := [], harness := (true, "2e28cc7365f93565769d617a9760aeb8fda25509ed3bd963d84a93d1dd948112"), looks := true }, kinds := [], alts := [], laidByText := true, laidKinds := [.data, .sentinel, .sentinel, .sentinel, .sentinel, .sentinel], laidTests := true, laidLooks := .later }
def FrameBurstCardSaid : Prop := Claim7.holds Tryd.pinned (.plain (OpenSpec.ofChange frameBurstSpec)) frameBurstCard

/-- THE TIED CARD OF 'mootlaw7.FrameExpect'. -/
def frameExpectCard : Claim7 := { stood := { row := frameExpectRow, standIns := [], harness := (true, "2e28cc7365f93565769d617a9760aeb8fda25509ed3bd963d84a93d1dd948112"), looks := true }, kinds := [], alts := [], laidByText := true, laidKinds := [.data, .sentinel, .sentinel, .sentinel, .sentinel, .sentinel], laidTests := true, laidLooks := .later }
def FrameExpectCardSaid : Prop := Claim7.holds Tryd.pinned (.plain (OpenSpec.ofChange frameExpectSpec)) frameExpectCard

/-- THE TIED CARD OF 'mootlaw7.FrameVersions'. -/
def frameVersionsCard : Claim7 := { stood := { row := frameVersionsRow, standIns := [], harness := (true, "2e28cc7365f93565769d617a9760aeb8fda25509ed3bd963d84a93d1dd948112"), looks := true }, kinds := [], alts := [], laidByText := true, laidKinds := [.data, .sentinel, .sentinel, .sentinel, .sentinel, .sentinel], laidTests := true, laidLooks := .later }
def FrameVersionsCardSaid : Prop := Claim7.holds Tryd.pinned (.plain (OpenSpec.ofChange frameVersionsSpec)) frameVersionsCard

/-- THE TIED CARD OF 'mootlaw7.FrameOpens'. -/
def frameOpensCard : Claim7 := { stood := { row := frameOpensRow, standIns := [], harness := (true, "2e28cc7365f93565769d617a9760aeb8fda25509ed3bd963d84a93d1dd948112"), looks := true }, kinds := [], alts := [], laidByText := true, laidKinds := [.data, .sentinel, .sentinel, .sentinel, .sentinel, .sentinel], laidTests := true, laidLooks := .later }
def FrameOpensCardSaid : Prop := Claim7.holds Tryd.pinned (.plain (OpenSpec.ofChange frameOpensSpec)) frameOpensCard

/-- THE SECOND FORM's CARD OF 'mootlaw7.FrameSeals'. -/
def frameSealsUptoCard : Claim7 := { stood := { row := frameSealsUptoRow, standIns := [], harness := (true, "2e28cc7365f93565769d617a9760aeb8fda25509ed3bd963d84a93d1dd948112"), looks := true }, kinds := [], alts := [], laidByText := true, laidKinds := [.data], laidTests := true, laidLooks := .later }
def FrameSealsUptoCardSaid : Prop := Claim7.holds Tryd.pinned (.plain (OpenSpec.upto frameSealsSpec)) frameSealsUptoCard

/-- THE SECOND FORM's CARD OF 'mootlaw7.FrameHolds'. -/
def frameHoldsUptoCard : Claim7 := { stood := { row := frameHoldsUptoRow, standIns := [], harness := (true, "2e28cc7365f93565769d617a9760aeb8fda25509ed3bd963d84a93d1dd948112"), looks := true }, kinds := [], alts := [], laidByText := true, laidKinds := [.data, .sentinel, .sentinel, .sentinel, .sentinel, .sentinel], laidTests := true, laidLooks := .later }
def FrameHoldsUptoCardSaid : Prop := Claim7.holds Tryd.pinned (.plain (OpenSpec.upto frameHoldsSpec)) frameHoldsUptoCard

/-- THE SECOND FORM's CARD OF 'mootlaw7.FrameBurst'. -/
def frameBurstUptoCard : Claim7 := { stood := { row := frameBurstUptoRow, standIns := [], harness := (true, "2e28cc7365f93565769d617a9760aeb8fda25509ed3bd963d84a93d1dd948112"), looks := true }, kinds := [], alts := [], laidByText := true, laidKinds := [.data, .sentinel, .sentinel, .sentinel, .sentinel, .sentinel], laidTests := true, laidLooks := .later }
def FrameBurstUptoCardSaid : Prop := Claim7.holds Tryd.pinned (.plain (OpenSpec.upto frameBurstSpec)) frameBurstUptoCard

/-- THE SECOND FORM's CARD OF 'mootlaw7.FrameExpect'. -/
def frameExpectUptoCard : Claim7 := { stood := { row := frameExpectUptoRow, standIns := [], harness := (true, "2e28cc7365f93565769d617a9760aeb8fda25509ed3bd963d84a93d1dd948112"), looks := true }, kinds := [], alts := [], laidByText := true, laidKinds := [.data, .sentinel, .sentinel, .sentinel, .sentinel, .sentinel], laidTests := true, laidLooks := .later }
def FrameExpectUptoCardSaid : Prop := Claim7.holds Tryd.pinned (.plain (OpenSpec.upto frameExpectSpec)) frameExpectUptoCard

/-- THE SECOND FORM's CARD OF 'mootlaw7.FrameVersions'. -/
def frameVersionsUptoCard : Claim7 := { stood := { row := frameVersionsUptoRow, standIns := [], harness := (true, "2e28cc7365f93565769d617a9760aeb8fda25509ed3bd963d84a93d1dd948112"), looks := true }, kinds := [], alts := [], laidByText := true, laidKinds := [.data, .sentinel, .sentinel, .sentinel, .sentinel, .sentinel], laidTests := true, laidLooks := .later }
def FrameVersionsUptoCardSaid : Prop := Claim7.holds Tryd.pinned (.plain (OpenSpec.upto frameVersionsSpec)) frameVersionsUptoCard

/-- THE SECOND FORM's CARD OF 'mootlaw7.FrameOpens'. -/
def frameOpensUptoCard : Claim7 := { stood := { row := frameOpensUptoRow, standIns := [], harness := (true, "2e28cc7365f93565769d617a9760aeb8fda25509ed3bd963d84a93d1dd948112"), looks := true }, kinds := [], alts := [], laidByText := true, laidKinds := [.data, .sentinel, .sentinel, .sentinel, .sentinel, .sentinel], laidTests := true, laidLooks := .later }
def FrameOpensUptoCardSaid : Prop := Claim7.holds Tryd.pinned (.plain (OpenSpec.upto frameOpensSpec)) frameOpensUptoCard
end Rows
end Go.Proofs.YtnlohbfolphafaaDoor
