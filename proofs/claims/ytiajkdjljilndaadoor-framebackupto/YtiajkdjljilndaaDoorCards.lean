/-
  DERIVED. GIVEN WITH THE SEED: THE CARDS: each row of YtiajkdjljilndaaDoorRows.lean that lists a variable, with what it lists TIED to the program's text (the seventh form; the later family's looks); each row that meets fmt, with fmt's text TOLD by the authors' own Lean function (tested against real Go, not proved from fmt's source: count such statements apart). THE CARD IS WHAT COUNTS. Prove the row's statement (the work); the ties are given (YtiajkdjljilndaaDoorTie.lean); close each card by the builder's one call (the guide's Derived/Test/ToyasCard.lean, 'card_holds'). Laid BY PROGRAM, IN A SANDBOX (cutbox-door.mjs). By AI agents, Wed Nov 11 2026. No macro, syntax, notation, axiom, sorry.
-/
import Derived.Test.YtiajkdjljilndaaDoorRows
import GoSem.ClaimSeven
namespace Go.Proofs.YtiajkdjljilndaaDoor
namespace Rows

/-- THE TIED CARD OF 'mootlaw7.FrameSticky'. -/
def frameStickyCard : Claim7 := { stood := { row := frameStickyRow, standIns := [], harness := (true, "a3741c8514dd764d6855c9e8a401f2facefa764777920786aac8be3c73cfb196"), looks := true }, kinds := [], alts := [], laidByText := true, laidKinds := [.data, .sentinel, .sentinel, .sentinel, .sentinel, .sentinel], laidTests := true, laidLooks := .later }
def FrameStickyCardSaid : Prop := Claim7.holds Tryd.pinned (.plain (OpenSpec.ofChange frameStickySpec)) frameStickyCard

/-- THE TIED CARD OF 'mootlaw7.FrameCuts'. -/
def frameCutsCard : Claim7 := { stood := { row := frameCutsRow, standIns := [], harness := (true, "a3741c8514dd764d6855c9e8a401f2facefa764777920786aac8be3c73cfb196"), looks := true }, kinds := [], alts := [], laidByText := true, laidKinds := [.data, .sentinel, .sentinel, .sentinel, .sentinel, .sentinel], laidTests := true, laidLooks := .later }
def FrameCutsCardSaid : Prop := Claim7.holds Tryd.pinned (.plain (OpenSpec.ofChange frameCutsSpec)) frameCutsCard

/-- THE TIED CARD OF 'mootlaw7.FramePrefix'. -/
def framePrefixCard : Claim7 := { stood := { row := framePrefixRow, standIns := [], harness := (true, "a3741c8514dd764d6855c9e8a401f2facefa764777920786aac8be3c73cfb196"), looks := true }, kinds := [], alts := [], laidByText := true, laidKinds := [.data, .sentinel, .sentinel, .sentinel, .sentinel, .sentinel], laidTests := true, laidLooks := .later }
def FramePrefixCardSaid : Prop := Claim7.holds Tryd.pinned (.plain (OpenSpec.ofChange framePrefixSpec)) framePrefixCard

/-- THE TIED CARD OF 'mootlaw7.FrameBack'. -/
def frameBackCard : Claim7 := { stood := { row := frameBackRow, standIns := [], harness := (true, "a3741c8514dd764d6855c9e8a401f2facefa764777920786aac8be3c73cfb196"), looks := true }, kinds := [], alts := [], laidByText := true, laidKinds := [.data, .sentinel, .sentinel, .sentinel, .sentinel, .sentinel], laidTests := true, laidLooks := .later }
def FrameBackCardSaid : Prop := Claim7.holds Tryd.pinned (.plain (OpenSpec.ofChange frameBackSpec)) frameBackCard

/-- THE TIED CARD OF 'mootlaw7.FrameDrains'. -/
def frameDrainsCard : Claim7 := { stood := { row := frameDrainsRow, standIns := [], harness := (true, "a3741c8514dd764d6855c9e8a401f2facefa764777920786aac8be3c73cfb196"), looks := true }, kinds := [], alts := [], laidByText := true, laidKinds := [.data, .sentinel, .sentinel, .sentinel, .sentinel, .sentinel], laidTests := true, laidLooks := .later }
def FrameDrainsCardSaid : Prop := Claim7.holds Tryd.pinned (.plain (OpenSpec.ofChange frameDrainsSpec)) frameDrainsCard

/-- THE SECOND FORM's CARD OF 'mootlaw7.FrameSticky'. -/
def frameStickyUptoCard : Claim7 := { stood := { row := frameStickyUptoRow, standIns := [], harness := (true, "a3741c8514dd764d6855c9e8a401f2facefa764777920786aac8be3c73cfb196"), looks := true }, kinds := [], alts := [], laidByText := true, laidKinds := [.data, .sentinel, .sentinel, .sentinel, .sentinel, .sentinel], laidTests := true, laidLooks := .later }
def FrameStickyUptoCardSaid : Prop := Claim7.holds Tryd.pinned (.plain (OpenSpec.upto frameStickySpec)) frameStickyUptoCard

/-- THE SECOND FORM's CARD OF 'mootlaw7.FrameCuts'. -/
def frameCutsUptoCard : Claim7 := { stood := { row := frameCutsUptoRow, standIns := [], harness := (true, "a3741c8514dd764d6855c9e8a401f2facefa764777920786aac8be3c73cfb196"), looks := true }, kinds := [], alts := [], laidByText := true, laidKinds := [.data, .sentinel, .sentinel, .sentinel, .sentinel, .sentinel], laidTests := true, laidLooks := .later }
def FrameCutsUptoCardSaid : Prop := Claim7.holds Tryd.pinned (.plain (OpenSpec.upto frameCutsSpec)) frameCutsUptoCard

/-- THE SECOND FORM's CARD OF 'mootlaw7.FramePrefix'. -/
def framePrefixUptoCard : Claim7 := { stood := { row := framePrefixUptoRow, standIns := [], harness := (true, "a3741c8514dd764d6855c9e8a401f2facefa764777920786aac8be3c73cfb196"), looks := true }, kinds := [], alts := [], laidByText := true, laidKinds := [.data, .sentinel, .sentinel, .sentinel, .sentinel, .sentinel], laidTests := true, laidLooks := .later }
def FramePrefixUptoCardSaid : Prop := Claim7.holds Tryd.pinned (.plain (OpenSpec.upto framePrefixSpec)) framePrefixUptoCard

/-- THE SECOND FORM's CARD OF 'mootlaw7.FrameBack'. -/
def frameBackUptoCard : Claim7 := { stood := { row := frameBackUptoRow, standIns := [], harness := (true, "a3741c8514dd764d6855c9e8a401f2facefa764777920786aac8be3c73cfb196"), looks := true }, kinds := [], alts := [], laidByText := true, laidKinds := [.data, .sentinel, .sentinel, .sentinel, .sentinel, .sentinel], laidTests := true, laidLooks := .later }
def FrameBackUptoCardSaid : Prop := Claim7.holds Tryd.pinned (.plain (OpenSpec.upto frameBackSpec)) frameBackUptoCard

/-- THE SECOND FORM's CARD OF 'mootlaw7.FrameDrains'. -/
def frameDrainsUptoCard : Claim7 := { stood := { row := frameDrainsUptoRow, standIns := [], harness := (true, "a3741c8514dd764d6855c9e8a401f2facefa764777920786aac8be3c73cfb196"), looks := true }, kinds := [], alts := [], laidByText := true, laidKinds := [.data, .sentinel, .sentinel, .sentinel, .sentinel, .sentinel], laidTests := true, laidLooks := .later }
def FrameDrainsUptoCardSaid : Prop := Claim7.holds Tryd.pinned (.plain (OpenSpec.upto frameDrainsSpec)) frameDrainsUptoCard
end Rows
end Go.Proofs.YtiajkdjljilndaaDoor
