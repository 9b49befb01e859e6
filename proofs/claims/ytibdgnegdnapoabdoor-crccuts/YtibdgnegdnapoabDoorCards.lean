/-
  DERIVED. GIVEN WITH THE SEED: THE CARDS: each row of YtibdgnegdnapoabDoorRows.lean that lists a variable, with what it lists TIED to the program's text (the seventh form; the later family's looks); each row that meets fmt, with fmt's text TOLD by the authors' own Lean function (tested against real Go, not proved from fmt's source: count such statements apart). THE CARD IS WHAT COUNTS. Prove the row's statement (the work); the ties are given (YtibdgnegdnapoabDoorTie.lean); close each card by the builder's one call (the guide's Derived/Test/ToyasCard.lean, 'card_holds'). Laid BY PROGRAM, IN A SANDBOX (cutbox-door.mjs). By AI agents, Wed Nov 11 2026. No macro, syntax, notation, axiom, sorry.
-/
import Derived.Test.YtibdgnegdnapoabDoorRows
import GoSem.ClaimSeven
namespace Go.Proofs.YtibdgnegdnapoabDoor
namespace Rows

/-- THE TIED CARD OF 'mootlaw2.CrcEntries'. -/
def crcEntriesCard : Claim7 := { stood := { row := crcEntriesRow, standIns := [], harness := (true, "38548c9cab5cc28d73588e9271a43f6e88ac724b22ba8c56c964178a52b4e79a"), looks := false }, kinds := [], alts := [], laidByText := true, laidKinds := [.data], laidTests := true, laidLooks := .later }
def CrcEntriesCardSaid : Prop := Claim7.holds Tryd.pinned (.plain (OpenSpec.ofChange crcEntriesSpec)) crcEntriesCard

/-- THE TIED CARD OF 'mootlaw2.CrcCuts'. -/
def crcCutsCard : Claim7 := { stood := { row := crcCutsRow, standIns := [], harness := (true, "38548c9cab5cc28d73588e9271a43f6e88ac724b22ba8c56c964178a52b4e79a"), looks := false }, kinds := [], alts := [], laidByText := true, laidKinds := [.data], laidTests := true, laidLooks := .later }
def CrcCutsCardSaid : Prop := Claim7.holds Tryd.pinned (.plain (OpenSpec.ofChange crcCutsSpec)) crcCutsCard

/-- THE TIED CARD OF 'mootlaw2.CrcBursts'. -/
def crcBurstsCard : Claim7 := { stood := { row := crcBurstsRow, standIns := [], harness := (true, "38548c9cab5cc28d73588e9271a43f6e88ac724b22ba8c56c964178a52b4e79a"), looks := false }, kinds := [], alts := [], laidByText := true, laidKinds := [.data], laidTests := true, laidLooks := .later }
def CrcBurstsCardSaid : Prop := Claim7.holds Tryd.pinned (.plain (OpenSpec.ofChange crcBurstsSpec)) crcBurstsCard

/-- THE TIED CARD OF 'mootlaw2.CrcOdds'. -/
def crcOddsCard : Claim7 := { stood := { row := crcOddsRow, standIns := [], harness := (true, "38548c9cab5cc28d73588e9271a43f6e88ac724b22ba8c56c964178a52b4e79a"), looks := false }, kinds := [], alts := [], laidByText := true, laidKinds := [.data], laidTests := true, laidLooks := .later }
def CrcOddsCardSaid : Prop := Claim7.holds Tryd.pinned (.plain (OpenSpec.ofChange crcOddsSpec)) crcOddsCard

/-- THE TIED CARD OF 'mootlaw2.CrcUpdates'. -/
def crcUpdatesCard : Claim7 := { stood := { row := crcUpdatesRow, standIns := [], harness := (true, "38548c9cab5cc28d73588e9271a43f6e88ac724b22ba8c56c964178a52b4e79a"), looks := false }, kinds := [], alts := [], laidByText := true, laidKinds := [.data], laidTests := true, laidLooks := .later }
def CrcUpdatesCardSaid : Prop := Claim7.holds Tryd.pinned (.plain (OpenSpec.ofChange crcUpdatesSpec)) crcUpdatesCard

/-- THE TIED CARD OF 'mootlaw2.CrcSums'. -/
def crcSumsCard : Claim7 := { stood := { row := crcSumsRow, standIns := [], harness := (true, "38548c9cab5cc28d73588e9271a43f6e88ac724b22ba8c56c964178a52b4e79a"), looks := false }, kinds := [], alts := [], laidByText := true, laidKinds := [.data], laidTests := true, laidLooks := .later }
def CrcSumsCardSaid : Prop := Claim7.holds Tryd.pinned (.plain (OpenSpec.ofChange crcSumsSpec)) crcSumsCard

/-- THE SECOND FORM's CARD OF 'mootlaw2.CrcEntries'. -/
def crcEntriesUptoCard : Claim7 := { stood := { row := crcEntriesUptoRow, standIns := [], harness := (true, "38548c9cab5cc28d73588e9271a43f6e88ac724b22ba8c56c964178a52b4e79a"), looks := false }, kinds := [], alts := [], laidByText := true, laidKinds := [.data], laidTests := true, laidLooks := .later }
def CrcEntriesUptoCardSaid : Prop := Claim7.holds Tryd.pinned (.plain (OpenSpec.upto crcEntriesSpec)) crcEntriesUptoCard

/-- THE SECOND FORM's CARD OF 'mootlaw2.CrcCuts'. -/
def crcCutsUptoCard : Claim7 := { stood := { row := crcCutsUptoRow, standIns := [], harness := (true, "38548c9cab5cc28d73588e9271a43f6e88ac724b22ba8c56c964178a52b4e79a"), looks := false }, kinds := [], alts := [], laidByText := true, laidKinds := [.data], laidTests := true, laidLooks := .later }
def CrcCutsUptoCardSaid : Prop := Claim7.holds Tryd.pinned (.plain (OpenSpec.upto crcCutsSpec)) crcCutsUptoCard

/-- THE SECOND FORM's CARD OF 'mootlaw2.CrcBursts'. -/
def crcBurstsUptoCard : Claim7 := { stood := { row := crcBurstsUptoRow, standIns := [], harness := (true, "38548c9cab5cc28d73588e9271a43f6e88ac724b22ba8c56c964178a52b4e79a"), looks := false }, kinds := [], alts := [], laidByText := true, laidKinds := [.data], laidTests := true, laidLooks := .later }
def CrcBurstsUptoCardSaid : Prop := Claim7.holds Tryd.pinned (.plain (OpenSpec.upto crcBurstsSpec)) crcBurstsUptoCard

/-- THE SECOND FORM's CARD OF 'mootlaw2.CrcOdds'. -/
def crcOddsUptoCard : Claim7 := { stood := { row := crcOddsUptoRow, standIns := [], harness := (true, "38548c9cab5cc28d73588e9271a43f6e88ac724b22ba8c56c964178a52b4e79a"), looks := false }, kinds := [], alts := [], laidByText := true, laidKinds := [.data], laidTests := true, laidLooks := .later }
def CrcOddsUptoCardSaid : Prop := Claim7.holds Tryd.pinned (.plain (OpenSpec.upto crcOddsSpec)) crcOddsUptoCard

/-- THE SECOND FORM's CARD OF 'mootlaw2.CrcUpdates'. -/
def crcUpdatesUptoCard : Claim7 := { stood := { row := crcUpdatesUptoRow, standIns := [], harness := (true, "38548c9cab5cc28d73588e9271a43f6e88ac724b22ba8c56c964178a52b4e79a"), looks := false }, kinds := [], alts := [], laidByText := true, laidKinds := [.data], laidTests := true, laidLooks := .later }
def CrcUpdatesUptoCardSaid : Prop := Claim7.holds Tryd.pinned (.plain (OpenSpec.upto crcUpdatesSpec)) crcUpdatesUptoCard

/-- THE SECOND FORM's CARD OF 'mootlaw2.CrcSums'. -/
def crcSumsUptoCard : Claim7 := { stood := { row := crcSumsUptoRow, standIns := [], harness := (true, "38548c9cab5cc28d73588e9271a43f6e88ac724b22ba8c56c964178a52b4e79a"), looks := false }, kinds := [], alts := [], laidByText := true, laidKinds := [.data], laidTests := true, laidLooks := .later }
def CrcSumsUptoCardSaid : Prop := Claim7.holds Tryd.pinned (.plain (OpenSpec.upto crcSumsSpec)) crcSumsUptoCard
end Rows
end Go.Proofs.YtibdgnegdnapoabDoor
