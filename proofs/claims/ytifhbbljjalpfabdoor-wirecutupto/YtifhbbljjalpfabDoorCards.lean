/-
  DERIVED. GIVEN WITH THE SEED: THE CARDS: each row of YtifhbbljjalpfabDoorRows.lean that lists a variable, with what it lists TIED to the program's text (the seventh form; the later family's looks); each row that meets fmt, with fmt's text TOLD by the authors' own Lean function (tested against real Go, not proved from fmt's source: count such statements apart). THE CARD IS WHAT COUNTS. Prove the row's statement (the work); the ties are given (YtifhbbljjalpfabDoorTie.lean); close each card by the builder's one call (the guide's Derived/Test/ToyasCard.lean, 'card_holds'). Laid BY PROGRAM, IN A SANDBOX (cutbox-door.mjs). By AI agents, Wed Nov 11 2026. No macro, syntax, notation, axiom, sorry.
-/
import Derived.Test.YtifhbbljjalpfabDoorRows
import GoSem.ClaimSeven
namespace Go.Proofs.YtifhbbljjalpfabDoor
namespace Rows

/-- THE TIED CARD OF 'mootlaw1.WireBounds'. -/
def wireBoundsCard : Claim7 := { stood := { row := wireBoundsRow, standIns := [], harness := (true, "8343d504fbed39e8962fca18bd0552e9f88ad8f6aaaaf8ce61ad3b7be7be07ca"), looks := true }, kinds := [], alts := [], laidByText := true, laidKinds := [.sentinel, .sentinel, .sentinel, .sentinel, .sentinel], laidTests := true, laidLooks := .later }
def WireBoundsCardSaid : Prop := Claim7.holds Tryd.pinned (.plain (OpenSpec.ofChange wireBoundsSpec)) wireBoundsCard

/-- THE TIED CARD OF 'mootlaw1.WireStuck'. -/
def wireStuckCard : Claim7 := { stood := { row := wireStuckRow, standIns := [], harness := (true, "8343d504fbed39e8962fca18bd0552e9f88ad8f6aaaaf8ce61ad3b7be7be07ca"), looks := true }, kinds := [], alts := [], laidByText := true, laidKinds := [.sentinel, .sentinel, .sentinel, .sentinel, .sentinel], laidTests := true, laidLooks := .later }
def WireStuckCardSaid : Prop := Claim7.holds Tryd.pinned (.plain (OpenSpec.ofChange wireStuckSpec)) wireStuckCard

/-- THE TIED CARD OF 'mootlaw1.WireItems'. -/
def wireItemsCard : Claim7 := { stood := { row := wireItemsRow, standIns := [], harness := (true, "8343d504fbed39e8962fca18bd0552e9f88ad8f6aaaaf8ce61ad3b7be7be07ca"), looks := true }, kinds := [], alts := [], laidByText := true, laidKinds := [.sentinel, .sentinel, .sentinel, .sentinel, .sentinel], laidTests := true, laidLooks := .later }
def WireItemsCardSaid : Prop := Claim7.holds Tryd.pinned (.plain (OpenSpec.ofChange wireItemsSpec)) wireItemsCard

/-- THE TIED CARD OF 'mootlaw1.WireCut'. -/
def wireCutCard : Claim7 := { stood := { row := wireCutRow, standIns := [], harness := (true, "8343d504fbed39e8962fca18bd0552e9f88ad8f6aaaaf8ce61ad3b7be7be07ca"), looks := true }, kinds := [], alts := [], laidByText := true, laidKinds := [.sentinel, .sentinel, .sentinel, .sentinel, .sentinel], laidTests := true, laidLooks := .later }
def WireCutCardSaid : Prop := Claim7.holds Tryd.pinned (.plain (OpenSpec.ofChange wireCutSpec)) wireCutCard

/-- THE TIED CARD OF 'mootlaw1.WireOwn'. -/
def wireOwnCard : Claim7 := { stood := { row := wireOwnRow, standIns := [], harness := (true, "8343d504fbed39e8962fca18bd0552e9f88ad8f6aaaaf8ce61ad3b7be7be07ca"), looks := true }, kinds := [], alts := [], laidByText := true, laidKinds := [.sentinel, .sentinel, .sentinel, .sentinel, .sentinel], laidTests := true, laidLooks := .later }
def WireOwnCardSaid : Prop := Claim7.holds Tryd.pinned (.plain (OpenSpec.ofChange wireOwnSpec)) wireOwnCard

/-- THE TIED CARD OF 'mootlaw1.WireReads'. -/
def wireReadsCard : Claim7 := { stood := { row := wireReadsRow, standIns := [], harness := (true, "8343d504fbed39e8962fca18bd0552e9f88ad8f6aaaaf8ce61ad3b7be7be07ca"), looks := true }, kinds := [], alts := [], laidByText := true, laidKinds := [.sentinel, .sentinel, .sentinel, .sentinel, .sentinel], laidTests := true, laidLooks := .later }
def WireReadsCardSaid : Prop := Claim7.holds Tryd.pinned (.plain (OpenSpec.ofChange wireReadsSpec)) wireReadsCard

/-- THE SECOND FORM's CARD OF 'mootlaw1.WireBounds'. -/
def wireBoundsUptoCard : Claim7 := { stood := { row := wireBoundsUptoRow, standIns := [], harness := (true, "8343d504fbed39e8962fca18bd0552e9f88ad8f6aaaaf8ce61ad3b7be7be07ca"), looks := true }, kinds := [], alts := [], laidByText := true, laidKinds := [.sentinel, .sentinel, .sentinel, .sentinel, .sentinel], laidTests := true, laidLooks := .later }
def WireBoundsUptoCardSaid : Prop := Claim7.holds Tryd.pinned (.plain (OpenSpec.upto wireBoundsSpec)) wireBoundsUptoCard

/-- THE SECOND FORM's CARD OF 'mootlaw1.WireStuck'. -/
def wireStuckUptoCard : Claim7 := { stood := { row := wireStuckUptoRow, standIns := [], harness := (true, "8343d504fbed39e8962fca18bd0552e9f88ad8f6aaaaf8ce61ad3b7be7be07ca"), looks := true }, kinds := [], alts := [], laidByText := true, laidKinds := [.sentinel, .sentinel, .sentinel, .sentinel, .sentinel], laidTests := true, laidLooks := .later }
def WireStuckUptoCardSaid : Prop := Claim7.holds Tryd.pinned (.plain (OpenSpec.upto wireStuckSpec)) wireStuckUptoCard

/-- THE SECOND FORM's CARD OF 'mootlaw1.WireItems'. -/
def wireItemsUptoCard : Claim7 := { stood := { row := wireItemsUptoRow, standIns := [], harness := (true, "8343d504fbed39e8962fca18bd0552e9f88ad8f6aaaaf8ce61ad3b7be7be07ca"), looks := true }, kinds := [], alts := [], laidByText := true, laidKinds := [.sentinel, .sentinel, .sentinel, .sentinel, .sentinel], laidTests := true, laidLooks := .later }
def WireItemsUptoCardSaid : Prop := Claim7.holds Tryd.pinned (.plain (OpenSpec.upto wireItemsSpec)) wireItemsUptoCard

/-- THE SECOND FORM's CARD OF 'mootlaw1.WireCut'. -/
def wireCutUptoCard : Claim7 := { stood := { row := wireCutUptoRow, standIns := [], harness := (true, "8343d504fbed39e8962fca18bd0552e9f88ad8f6aaaaf8ce61ad3b7be7be07ca"), looks := true }, kinds := [], alts := [], laidByText := true, laidKinds := [.sentinel, .sentinel, .sentinel, .sentinel, .sentinel], laidTests := true, laidLooks := .later }
def WireCutUptoCardSaid : Prop := Claim7.holds Tryd.pinned (.plain (OpenSpec.upto wireCutSpec)) wireCutUptoCard

/-- THE SECOND FORM's CARD OF 'mootlaw1.WireOwn'. -/
def wireOwnUptoCard : Claim7 := { stood := { row := wireOwnUptoRow, standIns := [], harness := (true, "8343d504fbed39e8962fca18bd0552e9f88ad8f6aaaaf8ce61ad3b7be7be07ca"), looks := true }, kinds := [], alts := [], laidByText := true, laidKinds := [.sentinel, .sentinel, .sentinel, .sentinel, .sentinel], laidTests := true, laidLooks := .later }
def WireOwnUptoCardSaid : Prop := Claim7.holds Tryd.pinned (.plain (OpenSpec.upto wireOwnSpec)) wireOwnUptoCard

/-- THE SECOND FORM's CARD OF 'mootlaw1.WireReads'. -/
def wireReadsUptoCard : Claim7 := { stood := { row := wireReadsUptoRow, standIns := [], harness := (true, "8343d504fbed39e8962fca18bd0552e9f88ad8f6aaaaf8ce61ad3b7be7be07ca"), looks := true }, kinds := [], alts := [], laidByText := true, laidKinds := [.sentinel, .sentinel, .sentinel, .sentinel, .sentinel], laidTests := true, laidLooks := .later }
def WireReadsUptoCardSaid : Prop := Claim7.holds Tryd.pinned (.plain (OpenSpec.upto wireReadsSpec)) wireReadsUptoCard
end Rows
end Go.Proofs.YtifhbbljjalpfabDoor
