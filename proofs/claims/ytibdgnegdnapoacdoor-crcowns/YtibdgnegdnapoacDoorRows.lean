/-
  NARROWER THAN 'FOR EVERY INPUT', by the rows' own cells (each row's printed sentence says how): CrcJoins: laid · CrcMends: laid · CrcOwns: laid.
  DERIVED. THE GIVEN ROWS OF THIS SEAT. 3 by the template 'for every input the law returns true; each argument reads behind the call as it read before'; 0 by the template 'total and deterministic' (their statements: YtibdgnegdnapoacDoorTotals.lean).
  GIVEN WITH THE SEED: the statements are not yours to turn. If you find one false, say at which input.
  Laid BY PROGRAM, IN A SANDBOX (cutbox-rows.mjs): the forced cells as the released guide's own fill.sh prints them over the translation 11ea3bbe658842b0… (all of the seat's roots in one cut). By AI agents, Wed Nov 11 2026. No macro, syntax, notation, axiom, sorry.
-/
import Derived.Test.YtibdgnegdnapoacDoorChecked
import GoSem.Claim
import GoSem.ClaimJoined
import GoSem.ClaimMapViews
import Derived.JoinedTies
import Derived.KernelRfl
namespace Go.Proofs.YtibdgnegdnapoacDoor
/- THE CELL 'sum', in the pinned program and in every row, IS THE sha256 OF THE DUMP (.gsa) THAT YtibdgnegdnapoacDoorProg.lean LOADS. Nothing in Lean hashes anything: it is a label: what it is worth is what the hold of that sum in a sandbox is worth. -/
noncomputable def Tryd.pinned : Pinned := { name := "ytibdgnegdnapoacdoor", sum := "11ea3bbe658842b0d245da6e6ef26fe128704e09cf37ffd0effb226e3a5f5f57", checked := Tryd.checked }
namespace Rows
def none {H : Type} : Left H := { results := [], args := [] }

/- WHAT THE LISTED PACKAGE-LEVEL VARIABLES READ AS WHEN THE CALL BEGINS. Each datum BY PROGRAM (the guide's laid-datum.mjs) off the statement by which the dump's own 'gosem.cut.vars' lays the variable. In a bare row this is a premise. The card (YtibdgnegdnapoacDoorCards.lean) ties it to the program's text. -/
def laid_moot_crc_halves {H : Type} : DataW H := .agg [.lit (.int .u32 0), .lit (.int .u32 274646895), .lit (.int .u32 549293790), .lit (.int .u32 820201905), .lit (.int .u32 1098587580), .lit (.int .u32 1361435347), .lit (.int .u32 1640403810), .lit (.int .u32 1905808397), .lit (.int .u32 2197175160), .lit (.int .u32 2460548119), .lit (.int .u32 2722870694), .lit (.int .u32 2987750089), .lit (.int .u32 3280807620), .lit (.int .u32 3553878443), .lit (.int .u32 3811616794), .lit (.int .u32 4084100981)]

/-- 'mootlaw2.CrcJoins': WHATEVER THE INPUT: true; the input reads as it did. -/
def crcJoinsSpec : ChangeSpec := { name := "crcJoins", fn := fun _ => fun
  | [d1, d2, d3] => { results := [.lit (.bool true)], args := [d1, d2, d3] }
  | _ => none }
def crcJoinsRow : OpenClaim := { program := "ytibdgnegdnapoacdoor", sum := "11ea3bbe658842b0d245da6e6ef26fe128704e09cf37ffd0effb226e3a5f5f57", func := "moot/mootlaw2.CrcJoins", spec := "crcJoins", named := ["moot/crc.halves"], apart := false, laid := [("moot/crc.halves", laid_moot_crc_halves)] }
def CrcJoinsSaid : Prop := crcJoinsRow.holds Tryd.pinned (OpenSpec.ofChange crcJoinsSpec)

/-- ITS FALSE NEIGHBOUR: 'it returns false'. Refute it at one input. -/
def crcJoinsWrong : ChangeSpec := { name := "crcJoins", fn := fun _ => fun
  | [d1, d2, d3] => { results := [.lit (.bool false)], args := [d1, d2, d3] }
  | _ => none }
def CrcJoinsWrongFalsely : Prop := crcJoinsRow.holds Tryd.pinned (OpenSpec.ofChange crcJoinsWrong)

/-- 'mootlaw2.CrcMends': WHATEVER THE INPUT: true; the input reads as it did. -/
def crcMendsSpec : ChangeSpec := { name := "crcMends", fn := fun _ => fun
  | [d] => { results := [.lit (.bool true)], args := [d] }
  | _ => none }
def crcMendsRow : OpenClaim := { program := "ytibdgnegdnapoacdoor", sum := "11ea3bbe658842b0d245da6e6ef26fe128704e09cf37ffd0effb226e3a5f5f57", func := "moot/mootlaw2.CrcMends", spec := "crcMends", named := ["moot/crc.halves"], apart := false, laid := [("moot/crc.halves", laid_moot_crc_halves)] }
def CrcMendsSaid : Prop := crcMendsRow.holds Tryd.pinned (OpenSpec.ofChange crcMendsSpec)

/-- ITS FALSE NEIGHBOUR: 'it returns false'. Refute it at one input. -/
def crcMendsWrong : ChangeSpec := { name := "crcMends", fn := fun _ => fun
  | [d] => { results := [.lit (.bool false)], args := [d] }
  | _ => none }
def CrcMendsWrongFalsely : Prop := crcMendsRow.holds Tryd.pinned (OpenSpec.ofChange crcMendsWrong)

/-- 'mootlaw2.CrcOwns': WHATEVER THE INPUT: true; the input reads as it did. -/
def crcOwnsSpec : ChangeSpec := { name := "crcOwns", fn := fun _ => fun
  | [d1, d2, d3, d4] => { results := [.lit (.bool true)], args := [d1, d2, d3, d4] }
  | _ => none }
def crcOwnsRow : OpenClaim := { program := "ytibdgnegdnapoacdoor", sum := "11ea3bbe658842b0d245da6e6ef26fe128704e09cf37ffd0effb226e3a5f5f57", func := "moot/mootlaw2.CrcOwns", spec := "crcOwns", named := ["moot/crc.halves"], apart := false, laid := [("moot/crc.halves", laid_moot_crc_halves)] }
def CrcOwnsSaid : Prop := crcOwnsRow.holds Tryd.pinned (OpenSpec.ofChange crcOwnsSpec)

/-- ITS FALSE NEIGHBOUR: 'it returns false'. Refute it at one input. -/
def crcOwnsWrong : ChangeSpec := { name := "crcOwns", fn := fun _ => fun
  | [d1, d2, d3, d4] => { results := [.lit (.bool false)], args := [d1, d2, d3, d4] }
  | _ => none }
def CrcOwnsWrongFalsely : Prop := crcOwnsRow.holds Tryd.pinned (OpenSpec.ofChange crcOwnsWrong)

/- THE SECOND FORM. 'bulk': how many values and letters a reading holds, each counted each time it is reached (what is shared counts as often as it is met; a slice's spare places count too). A statement '..UptoSaid' is the law's where the arguments, and the package variables that the reading takes, are together of bulk at most 1048576: NARROWER than '..Said'. Prove '..Said' where nothing that the law and all that it calls make is longer than what came in: it says more and counts as full. Else prove '..UptoSaid'. A law counts once. -/
mutual
def uptoBulk {H : Type} : DataW H → Nat
  | .lit (.string bytes) => bytes.length + 1
  | .lit _ => 1
  | .nil => 1
  | .ptr d => uptoBulk d + 1
  | .slice elems spare => uptoBulkAll elems + uptoBulkAll spare + 1
  | .agg parts => uptoBulkAll parts + 1
  | .iface _ d => uptoBulk d + 1
  | .map entries => uptoBulkEntries entries + 1
  | .held _ => 1
def uptoBulkAll {H : Type} : List (DataW H) → Nat
  | [] => 0
  | d :: r => uptoBulk d + uptoBulkAll r
def uptoBulkEntries {H : Type} : List (Lit × DataW H) → Nat
  | [] => 0
  | x :: r => uptoBulkEntry x + uptoBulkEntries r
def uptoBulkEntry {H : Type} : Lit × DataW H → Nat
  | (.string bytes, d) => bytes.length + uptoBulk d + 1
  | (_, d) => uptoBulk d + 1
 end
def uptoSmall : (H : Type) → List (DataW H) → Bool := fun _ ds => decide (uptoBulkAll ds ≤ 1048576)
def OpenSpec.upto (s : _root_.Go.ChangeSpec) : _root_.Go.OpenSpec := { _root_.Go.OpenSpec.ofChange s with cond := some uptoSmall }

/-- 'mootlaw2.CrcJoins', WHERE WHAT IT READS IS OF BULK AT MOST 1048576: true; the input reads as it did. -/
def crcJoinsUptoRow : OpenClaim := { program := "ytibdgnegdnapoacdoor", sum := "11ea3bbe658842b0d245da6e6ef26fe128704e09cf37ffd0effb226e3a5f5f57", func := "moot/mootlaw2.CrcJoins", spec := "crcJoins", named := ["moot/crc.halves"], apart := false, laid := [("moot/crc.halves", laid_moot_crc_halves)], narrowed := true }
def CrcJoinsUptoSaid : Prop := crcJoinsUptoRow.holds Tryd.pinned (OpenSpec.upto crcJoinsSpec)

/-- 'mootlaw2.CrcMends', WHERE WHAT IT READS IS OF BULK AT MOST 1048576: true; the input reads as it did. -/
def crcMendsUptoRow : OpenClaim := { program := "ytibdgnegdnapoacdoor", sum := "11ea3bbe658842b0d245da6e6ef26fe128704e09cf37ffd0effb226e3a5f5f57", func := "moot/mootlaw2.CrcMends", spec := "crcMends", named := ["moot/crc.halves"], apart := false, laid := [("moot/crc.halves", laid_moot_crc_halves)], narrowed := true }
def CrcMendsUptoSaid : Prop := crcMendsUptoRow.holds Tryd.pinned (OpenSpec.upto crcMendsSpec)

/-- 'mootlaw2.CrcOwns', WHERE WHAT IT READS IS OF BULK AT MOST 1048576: true; the input reads as it did. -/
def crcOwnsUptoRow : OpenClaim := { program := "ytibdgnegdnapoacdoor", sum := "11ea3bbe658842b0d245da6e6ef26fe128704e09cf37ffd0effb226e3a5f5f57", func := "moot/mootlaw2.CrcOwns", spec := "crcOwns", named := ["moot/crc.halves"], apart := false, laid := [("moot/crc.halves", laid_moot_crc_halves)], narrowed := true }
def CrcOwnsUptoSaid : Prop := crcOwnsUptoRow.holds Tryd.pinned (OpenSpec.upto crcOwnsSpec)

end Rows
end Go.Proofs.YtibdgnegdnapoacDoor
