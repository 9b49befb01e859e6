/-
  NARROWER THAN 'FOR EVERY INPUT', by the rows' own cells (each row's printed sentence says how): CrcEntries: laid · CrcCuts: laid · CrcBursts: laid · CrcOdds: laid · CrcUpdates: laid · CrcSums: laid.
  DERIVED. THE GIVEN ROWS OF THIS SEAT. 6 by the template 'for every input the law returns true; each argument reads behind the call as it read before'; 0 by the template 'total and deterministic' (their statements: YtibdgnegdnapoabDoorTotals.lean).
  GIVEN WITH THE SEED: the statements are not yours to turn. If you find one false, say at which input.
  Laid BY PROGRAM, IN A SANDBOX (cutbox-rows.mjs): the forced cells as the released guide's own fill.sh prints them over the translation 0580905e17da8214… (all of the seat's roots in one cut). By AI agents, Wed Nov 11 2026. No macro, syntax, notation, axiom, sorry.
-/
import Derived.Test.YtibdgnegdnapoabDoorChecked
import GoSem.Claim
import GoSem.ClaimJoined
import GoSem.ClaimMapViews
import Derived.JoinedTies
import Derived.KernelRfl
namespace Go.Proofs.YtibdgnegdnapoabDoor
/- THE CELL 'sum', in the pinned program and in every row, IS THE sha256 OF THE DUMP (.gsa) THAT YtibdgnegdnapoabDoorProg.lean LOADS. Nothing in Lean hashes anything: it is a label: what it is worth is what the hold of that sum in a sandbox is worth. -/
noncomputable def Tryd.pinned : Pinned := { name := "ytibdgnegdnapoabdoor", sum := "0580905e17da821433f25424f3317116d323f472983a3172696dd6652892a969", checked := Tryd.checked }
namespace Rows
def none {H : Type} : Left H := { results := [], args := [] }

/- WHAT THE LISTED PACKAGE-LEVEL VARIABLES READ AS WHEN THE CALL BEGINS. Each datum BY PROGRAM (the guide's laid-datum.mjs) off the statement by which the dump's own 'gosem.cut.vars' lays the variable. In a bare row this is a premise. The card (YtibdgnegdnapoabDoorCards.lean) ties it to the program's text. -/
def laid_moot_crc_halves {H : Type} : DataW H := .agg [.lit (.int .u32 0), .lit (.int .u32 274646895), .lit (.int .u32 549293790), .lit (.int .u32 820201905), .lit (.int .u32 1098587580), .lit (.int .u32 1361435347), .lit (.int .u32 1640403810), .lit (.int .u32 1905808397), .lit (.int .u32 2197175160), .lit (.int .u32 2460548119), .lit (.int .u32 2722870694), .lit (.int .u32 2987750089), .lit (.int .u32 3280807620), .lit (.int .u32 3553878443), .lit (.int .u32 3811616794), .lit (.int .u32 4084100981)]

/-- 'mootlaw2.CrcEntries': WHATEVER THE INPUT: true; the input reads as it did. -/
def crcEntriesSpec : ChangeSpec := { name := "crcEntries", fn := fun _ => fun
  | [d] => { results := [.lit (.bool true)], args := [d] }
  | _ => none }
def crcEntriesRow : OpenClaim := { program := "ytibdgnegdnapoabdoor", sum := "0580905e17da821433f25424f3317116d323f472983a3172696dd6652892a969", func := "moot/mootlaw2.CrcEntries", spec := "crcEntries", named := ["moot/crc.halves"], apart := false, laid := [("moot/crc.halves", laid_moot_crc_halves)] }
def CrcEntriesSaid : Prop := crcEntriesRow.holds Tryd.pinned (OpenSpec.ofChange crcEntriesSpec)

/-- ITS FALSE NEIGHBOUR: 'it returns false'. Refute it at one input. -/
def crcEntriesWrong : ChangeSpec := { name := "crcEntries", fn := fun _ => fun
  | [d] => { results := [.lit (.bool false)], args := [d] }
  | _ => none }
def CrcEntriesWrongFalsely : Prop := crcEntriesRow.holds Tryd.pinned (OpenSpec.ofChange crcEntriesWrong)

/-- 'mootlaw2.CrcCuts': WHATEVER THE INPUT: true; the input reads as it did. -/
def crcCutsSpec : ChangeSpec := { name := "crcCuts", fn := fun _ => fun
  | [d1, d2] => { results := [.lit (.bool true)], args := [d1, d2] }
  | _ => none }
def crcCutsRow : OpenClaim := { program := "ytibdgnegdnapoabdoor", sum := "0580905e17da821433f25424f3317116d323f472983a3172696dd6652892a969", func := "moot/mootlaw2.CrcCuts", spec := "crcCuts", named := ["moot/crc.halves"], apart := false, laid := [("moot/crc.halves", laid_moot_crc_halves)] }
def CrcCutsSaid : Prop := crcCutsRow.holds Tryd.pinned (OpenSpec.ofChange crcCutsSpec)

/-- ITS FALSE NEIGHBOUR: 'it returns false'. Refute it at one input. -/
def crcCutsWrong : ChangeSpec := { name := "crcCuts", fn := fun _ => fun
  | [d1, d2] => { results := [.lit (.bool false)], args := [d1, d2] }
  | _ => none }
def CrcCutsWrongFalsely : Prop := crcCutsRow.holds Tryd.pinned (OpenSpec.ofChange crcCutsWrong)

/-- 'mootlaw2.CrcBursts': WHATEVER THE INPUT: true; the input reads as it did. -/
def crcBurstsSpec : ChangeSpec := { name := "crcBursts", fn := fun _ => fun
  | [d1, d2, d3] => { results := [.lit (.bool true)], args := [d1, d2, d3] }
  | _ => none }
def crcBurstsRow : OpenClaim := { program := "ytibdgnegdnapoabdoor", sum := "0580905e17da821433f25424f3317116d323f472983a3172696dd6652892a969", func := "moot/mootlaw2.CrcBursts", spec := "crcBursts", named := ["moot/crc.halves"], apart := false, laid := [("moot/crc.halves", laid_moot_crc_halves)] }
def CrcBurstsSaid : Prop := crcBurstsRow.holds Tryd.pinned (OpenSpec.ofChange crcBurstsSpec)

/-- ITS FALSE NEIGHBOUR: 'it returns false'. Refute it at one input. -/
def crcBurstsWrong : ChangeSpec := { name := "crcBursts", fn := fun _ => fun
  | [d1, d2, d3] => { results := [.lit (.bool false)], args := [d1, d2, d3] }
  | _ => none }
def CrcBurstsWrongFalsely : Prop := crcBurstsRow.holds Tryd.pinned (OpenSpec.ofChange crcBurstsWrong)

/-- 'mootlaw2.CrcOdds': WHATEVER THE INPUT: true; the input reads as it did. -/
def crcOddsSpec : ChangeSpec := { name := "crcOdds", fn := fun _ => fun
  | [d1, d2] => { results := [.lit (.bool true)], args := [d1, d2] }
  | _ => none }
def crcOddsRow : OpenClaim := { program := "ytibdgnegdnapoabdoor", sum := "0580905e17da821433f25424f3317116d323f472983a3172696dd6652892a969", func := "moot/mootlaw2.CrcOdds", spec := "crcOdds", named := ["moot/crc.halves"], apart := false, laid := [("moot/crc.halves", laid_moot_crc_halves)] }
def CrcOddsSaid : Prop := crcOddsRow.holds Tryd.pinned (OpenSpec.ofChange crcOddsSpec)

/-- ITS FALSE NEIGHBOUR: 'it returns false'. Refute it at one input. -/
def crcOddsWrong : ChangeSpec := { name := "crcOdds", fn := fun _ => fun
  | [d1, d2] => { results := [.lit (.bool false)], args := [d1, d2] }
  | _ => none }
def CrcOddsWrongFalsely : Prop := crcOddsRow.holds Tryd.pinned (OpenSpec.ofChange crcOddsWrong)

/-- 'mootlaw2.CrcUpdates': WHATEVER THE INPUT: true; the input reads as it did. -/
def crcUpdatesSpec : ChangeSpec := { name := "crcUpdates", fn := fun _ => fun
  | [d1, d2] => { results := [.lit (.bool true)], args := [d1, d2] }
  | _ => none }
def crcUpdatesRow : OpenClaim := { program := "ytibdgnegdnapoabdoor", sum := "0580905e17da821433f25424f3317116d323f472983a3172696dd6652892a969", func := "moot/mootlaw2.CrcUpdates", spec := "crcUpdates", named := ["moot/crc.halves"], apart := false, laid := [("moot/crc.halves", laid_moot_crc_halves)] }
def CrcUpdatesSaid : Prop := crcUpdatesRow.holds Tryd.pinned (OpenSpec.ofChange crcUpdatesSpec)

/-- ITS FALSE NEIGHBOUR: 'it returns false'. Refute it at one input. -/
def crcUpdatesWrong : ChangeSpec := { name := "crcUpdates", fn := fun _ => fun
  | [d1, d2] => { results := [.lit (.bool false)], args := [d1, d2] }
  | _ => none }
def CrcUpdatesWrongFalsely : Prop := crcUpdatesRow.holds Tryd.pinned (OpenSpec.ofChange crcUpdatesWrong)

/-- 'mootlaw2.CrcSums': WHATEVER THE INPUT: true; the input reads as it did. -/
def crcSumsSpec : ChangeSpec := { name := "crcSums", fn := fun _ => fun
  | [d] => { results := [.lit (.bool true)], args := [d] }
  | _ => none }
def crcSumsRow : OpenClaim := { program := "ytibdgnegdnapoabdoor", sum := "0580905e17da821433f25424f3317116d323f472983a3172696dd6652892a969", func := "moot/mootlaw2.CrcSums", spec := "crcSums", named := ["moot/crc.halves"], apart := false, laid := [("moot/crc.halves", laid_moot_crc_halves)] }
def CrcSumsSaid : Prop := crcSumsRow.holds Tryd.pinned (OpenSpec.ofChange crcSumsSpec)

/-- ITS FALSE NEIGHBOUR: 'it returns false'. Refute it at one input. -/
def crcSumsWrong : ChangeSpec := { name := "crcSums", fn := fun _ => fun
  | [d] => { results := [.lit (.bool false)], args := [d] }
  | _ => none }
def CrcSumsWrongFalsely : Prop := crcSumsRow.holds Tryd.pinned (OpenSpec.ofChange crcSumsWrong)

/- THE SECOND FORM. 'bulk': how many values and letters a reading holds, each counted each time it is reached (what is shared counts as often as it is met; a slice's spare places count too). A statement '..UptoSaid' is the law's where the arguments, and the package variables that the reading takes, are together of bulk at most 1048576: NARROWER than '..Said'. Prove '..Said' where nothing that the law and all that it calls make is longer than what came in: it says more and counts as full. Else prove '..UptoSaid'. A law counts once. -/
mutual
def uptoBulk {H : Type} : DataW H → Nat
  | .lit (.string bytes) => bytes.length + 1
  | .lit _ => 1
  | .nil => 1
  | .ptr d => uptoBulk d + 1
  | .slice elems spare => uptoBulkAll elems + uptoBulkAll spare + 1
  | .agg parts => uptoBulkAll parts + 1
  | .iface _ d => uptoBulk d + 1
  | .map entries => uptoBulkEntries entries + 1
  | .held _ => 1
def uptoBulkAll {H : Type} : List (DataW H) → Nat
  | [] => 0
  | d :: r => uptoBulk d + uptoBulkAll r
def uptoBulkEntries {H : Type} : List (Lit × DataW H) → Nat
  | [] => 0
  | x :: r => uptoBulkEntry x + uptoBulkEntries r
def uptoBulkEntry {H : Type} : Lit × DataW H → Nat
  | (.string bytes, d) => bytes.length + uptoBulk d + 1
  | (_, d) => uptoBulk d + 1
 end
def uptoSmall : (H : Type) → List (DataW H) → Bool := fun _ ds => decide (uptoBulkAll ds ≤ 1048576)
def OpenSpec.upto (s : _root_.Go.ChangeSpec) : _root_.Go.OpenSpec := { _root_.Go.OpenSpec.ofChange s with cond := some uptoSmall }

/-- 'mootlaw2.CrcEntries', WHERE WHAT IT READS IS OF BULK AT MOST 1048576: true; the input reads as it did. -/
def crcEntriesUptoRow : OpenClaim := { program := "ytibdgnegdnapoabdoor", sum := "0580905e17da821433f25424f3317116d323f472983a3172696dd6652892a969", func := "moot/mootlaw2.CrcEntries", spec := "crcEntries", named := ["moot/crc.halves"], apart := false, laid := [("moot/crc.halves", laid_moot_crc_halves)], narrowed := true }
def CrcEntriesUptoSaid : Prop := crcEntriesUptoRow.holds Tryd.pinned (OpenSpec.upto crcEntriesSpec)

/-- 'mootlaw2.CrcCuts', WHERE WHAT IT READS IS OF BULK AT MOST 1048576: true; the input reads as it did. -/
def crcCutsUptoRow : OpenClaim := { program := "ytibdgnegdnapoabdoor", sum := "0580905e17da821433f25424f3317116d323f472983a3172696dd6652892a969", func := "moot/mootlaw2.CrcCuts", spec := "crcCuts", named := ["moot/crc.halves"], apart := false, laid := [("moot/crc.halves", laid_moot_crc_halves)], narrowed := true }
def CrcCutsUptoSaid : Prop := crcCutsUptoRow.holds Tryd.pinned (OpenSpec.upto crcCutsSpec)

/-- 'mootlaw2.CrcBursts', WHERE WHAT IT READS IS OF BULK AT MOST 1048576: true; the input reads as it did. -/
def crcBurstsUptoRow : OpenClaim := { program := "ytibdgnegdnapoabdoor", sum := "0580905e17da821433f25424f3317116d323f472983a3172696dd6652892a969", func := "moot/mootlaw2.CrcBursts", spec := "crcBursts", named := ["moot/crc.halves"], apart := false, laid := [("moot/crc.halves", laid_moot_crc_halves)], narrowed := true }
def CrcBurstsUptoSaid : Prop := crcBurstsUptoRow.holds Tryd.pinned (OpenSpec.upto crcBurstsSpec)

/-- 'mootlaw2.CrcOdds', WHERE WHAT IT READS IS OF BULK AT MOST 1048576: true; the input reads as it did. -/
def crcOddsUptoRow : OpenClaim := { program := "ytibdgnegdnapoabdoor", sum := "0580905e17da821433f25424f3317116d323f472983a3172696dd6652892a969", func := "moot/mootlaw2.CrcOdds", spec := "crcOdds", named := ["moot/crc.halves"], apart := false, laid := [("moot/crc.halves", laid_moot_crc_halves)], narrowed := true }
def CrcOddsUptoSaid : Prop := crcOddsUptoRow.holds Tryd.pinned (OpenSpec.upto crcOddsSpec)

/-- 'mootlaw2.CrcUpdates', WHERE WHAT IT READS IS OF BULK AT MOST 1048576: true; the input reads as it did. -/
def crcUpdatesUptoRow : OpenClaim := { program := "ytibdgnegdnapoabdoor", sum := "0580905e17da821433f25424f3317116d323f472983a3172696dd6652892a969", func := "moot/mootlaw2.CrcUpdates", spec := "crcUpdates", named := ["moot/crc.halves"], apart := false, laid := [("moot/crc.halves", laid_moot_crc_halves)], narrowed := true }
def CrcUpdatesUptoSaid : Prop := crcUpdatesUptoRow.holds Tryd.pinned (OpenSpec.upto crcUpdatesSpec)

/-- 'mootlaw2.CrcSums', WHERE WHAT IT READS IS OF BULK AT MOST 1048576: true; the input reads as it did. -/
def crcSumsUptoRow : OpenClaim := { program := "ytibdgnegdnapoabdoor", sum := "0580905e17da821433f25424f3317116d323f472983a3172696dd6652892a969", func := "moot/mootlaw2.CrcSums", spec := "crcSums", named := ["moot/crc.halves"], apart := false, laid := [("moot/crc.halves", laid_moot_crc_halves)], narrowed := true }
def CrcSumsUptoSaid : Prop := crcSumsUptoRow.holds Tryd.pinned (OpenSpec.upto crcSumsSpec)

end Rows
end Go.Proofs.YtibdgnegdnapoabDoor
