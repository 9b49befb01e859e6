/-
  NARROWER THAN 'FOR EVERY INPUT', by the rows' own cells (each row's printed sentence says how): CrcMixes: laid · CrcTable: laid · CrcResidues: laid · CrcTakes: laid · CrcMended: laid · CrcTwos: laid.
  DERIVED. THE GIVEN ROWS OF THIS SEAT. 6 by the template 'for every input the law returns true; each argument reads behind the call as it read before'; 0 by the template 'total and deterministic' (their statements: YtibdgnegdnapoaaDoorTotals.lean).
  GIVEN WITH THE SEED: the statements are not yours to turn. If you find one false, say at which input.
  Laid BY PROGRAM, IN A SANDBOX (cutbox-rows.mjs): the forced cells as the released guide's own fill.sh prints them over the translation 6fa864de211007b0… (all of the seat's roots in one cut). By AI agents, Wed Nov 11 2026. No macro, syntax, notation, axiom, sorry.
-/
import Derived.Test.YtibdgnegdnapoaaDoorChecked
import GoSem.Claim
import GoSem.ClaimJoined
import GoSem.ClaimMapViews
import Derived.JoinedTies
import Derived.KernelRfl
namespace Go.Proofs.YtibdgnegdnapoaaDoor
/- THE CELL 'sum', in the pinned program and in every row, IS THE sha256 OF THE DUMP (.gsa) THAT YtibdgnegdnapoaaDoorProg.lean LOADS. Nothing in Lean hashes anything: it is a label: what it is worth is what the hold of that sum in a sandbox is worth. -/
noncomputable def Tryd.pinned : Pinned := { name := "ytibdgnegdnapoaadoor", sum := "6fa864de211007b0d9f888cca7b967a41731882587c73f0f533f7266e4518414", checked := Tryd.checked }
namespace Rows
def none {H : Type} : Left H := { results := [], args := [] }

/- WHAT THE LISTED PACKAGE-LEVEL VARIABLES READ AS WHEN THE CALL BEGINS. Each datum BY PROGRAM (the guide's laid-datum.mjs) off the statement by which the dump's own 'gosem.cut.vars' lays the variable. In a bare row this is a premise. The card (YtibdgnegdnapoaaDoorCards.lean) ties it to the program's text. -/
def laid_moot_crc_halves {H : Type} : DataW H := .agg [.lit (.int .u32 0), .lit (.int .u32 274646895), .lit (.int .u32 549293790), .lit (.int .u32 820201905), .lit (.int .u32 1098587580), .lit (.int .u32 1361435347), .lit (.int .u32 1640403810), .lit (.int .u32 1905808397), .lit (.int .u32 2197175160), .lit (.int .u32 2460548119), .lit (.int .u32 2722870694), .lit (.int .u32 2987750089), .lit (.int .u32 3280807620), .lit (.int .u32 3553878443), .lit (.int .u32 3811616794), .lit (.int .u32 4084100981)]

/-- 'mootlaw2.CrcMixes': WHATEVER THE INPUT: true; the input reads as it did. -/
def crcMixesSpec : ChangeSpec := { name := "crcMixes", fn := fun _ => fun
  | [d1, d2, d3] => { results := [.lit (.bool true)], args := [d1, d2, d3] }
  | _ => none }
def crcMixesRow : OpenClaim := { program := "ytibdgnegdnapoaadoor", sum := "6fa864de211007b0d9f888cca7b967a41731882587c73f0f533f7266e4518414", func := "moot/mootlaw2.CrcMixes", spec := "crcMixes", named := ["moot/crc.halves"], apart := false, laid := [("moot/crc.halves", laid_moot_crc_halves)] }
def CrcMixesSaid : Prop := crcMixesRow.holds Tryd.pinned (OpenSpec.ofChange crcMixesSpec)

/-- ITS FALSE NEIGHBOUR: 'it returns false'. Refute it at one input. -/
def crcMixesWrong : ChangeSpec := { name := "crcMixes", fn := fun _ => fun
  | [d1, d2, d3] => { results := [.lit (.bool false)], args := [d1, d2, d3] }
  | _ => none }
def CrcMixesWrongFalsely : Prop := crcMixesRow.holds Tryd.pinned (OpenSpec.ofChange crcMixesWrong)

/-- 'mootlaw2.CrcTable': WHATEVER THE INPUT: true; the input reads as it did. -/
def crcTableSpec : ChangeSpec := { name := "crcTable", fn := fun _ => fun
  | [] => { results := [.lit (.bool true)], args := [] }
  | _ => none }
def crcTableRow : OpenClaim := { program := "ytibdgnegdnapoaadoor", sum := "6fa864de211007b0d9f888cca7b967a41731882587c73f0f533f7266e4518414", func := "moot/mootlaw2.CrcTable", spec := "crcTable", named := ["moot/crc.halves"], apart := false, laid := [("moot/crc.halves", laid_moot_crc_halves)] }
def CrcTableSaid : Prop := crcTableRow.holds Tryd.pinned (OpenSpec.ofChange crcTableSpec)

/-- ITS FALSE NEIGHBOUR: 'it returns false'. Refute it at one input. -/
def crcTableWrong : ChangeSpec := { name := "crcTable", fn := fun _ => fun
  | [] => { results := [.lit (.bool false)], args := [] }
  | _ => none }
def CrcTableWrongFalsely : Prop := crcTableRow.holds Tryd.pinned (OpenSpec.ofChange crcTableWrong)

/-- 'mootlaw2.CrcResidues': WHATEVER THE INPUT: true; the input reads as it did. -/
def crcResiduesSpec : ChangeSpec := { name := "crcResidues", fn := fun _ => fun
  | [d] => { results := [.lit (.bool true)], args := [d] }
  | _ => none }
def crcResiduesRow : OpenClaim := { program := "ytibdgnegdnapoaadoor", sum := "6fa864de211007b0d9f888cca7b967a41731882587c73f0f533f7266e4518414", func := "moot/mootlaw2.CrcResidues", spec := "crcResidues", named := ["moot/crc.halves"], apart := false, laid := [("moot/crc.halves", laid_moot_crc_halves)] }
def CrcResiduesSaid : Prop := crcResiduesRow.holds Tryd.pinned (OpenSpec.ofChange crcResiduesSpec)

/-- ITS FALSE NEIGHBOUR: 'it returns false'. Refute it at one input. -/
def crcResiduesWrong : ChangeSpec := { name := "crcResidues", fn := fun _ => fun
  | [d] => { results := [.lit (.bool false)], args := [d] }
  | _ => none }
def CrcResiduesWrongFalsely : Prop := crcResiduesRow.holds Tryd.pinned (OpenSpec.ofChange crcResiduesWrong)

/-- 'mootlaw2.CrcTakes': WHATEVER THE INPUT: true; the input reads as it did. -/
def crcTakesSpec : ChangeSpec := { name := "crcTakes", fn := fun _ => fun
  | [d1, d2] => { results := [.lit (.bool true)], args := [d1, d2] }
  | _ => none }
def crcTakesRow : OpenClaim := { program := "ytibdgnegdnapoaadoor", sum := "6fa864de211007b0d9f888cca7b967a41731882587c73f0f533f7266e4518414", func := "moot/mootlaw2.CrcTakes", spec := "crcTakes", named := ["moot/crc.halves"], apart := false, laid := [("moot/crc.halves", laid_moot_crc_halves)] }
def CrcTakesSaid : Prop := crcTakesRow.holds Tryd.pinned (OpenSpec.ofChange crcTakesSpec)

/-- ITS FALSE NEIGHBOUR: 'it returns false'. Refute it at one input. -/
def crcTakesWrong : ChangeSpec := { name := "crcTakes", fn := fun _ => fun
  | [d1, d2] => { results := [.lit (.bool false)], args := [d1, d2] }
  | _ => none }
def CrcTakesWrongFalsely : Prop := crcTakesRow.holds Tryd.pinned (OpenSpec.ofChange crcTakesWrong)

/-- 'mootlaw2.CrcMended': WHATEVER THE INPUT: true; the input reads as it did. -/
def crcMendedSpec : ChangeSpec := { name := "crcMended", fn := fun _ => fun
  | [d1, d2, d3] => { results := [.lit (.bool true)], args := [d1, d2, d3] }
  | _ => none }
def crcMendedRow : OpenClaim := { program := "ytibdgnegdnapoaadoor", sum := "6fa864de211007b0d9f888cca7b967a41731882587c73f0f533f7266e4518414", func := "moot/mootlaw2.CrcMended", spec := "crcMended", named := ["moot/crc.halves"], apart := false, laid := [("moot/crc.halves", laid_moot_crc_halves)] }
def CrcMendedSaid : Prop := crcMendedRow.holds Tryd.pinned (OpenSpec.ofChange crcMendedSpec)

/-- ITS FALSE NEIGHBOUR: 'it returns false'. Refute it at one input. -/
def crcMendedWrong : ChangeSpec := { name := "crcMended", fn := fun _ => fun
  | [d1, d2, d3] => { results := [.lit (.bool false)], args := [d1, d2, d3] }
  | _ => none }
def CrcMendedWrongFalsely : Prop := crcMendedRow.holds Tryd.pinned (OpenSpec.ofChange crcMendedWrong)

/-- 'mootlaw2.CrcTwos': WHATEVER THE INPUT: true; the input reads as it did. -/
def crcTwosSpec : ChangeSpec := { name := "crcTwos", fn := fun _ => fun
  | [d1, d2, d3] => { results := [.lit (.bool true)], args := [d1, d2, d3] }
  | _ => none }
def crcTwosRow : OpenClaim := { program := "ytibdgnegdnapoaadoor", sum := "6fa864de211007b0d9f888cca7b967a41731882587c73f0f533f7266e4518414", func := "moot/mootlaw2.CrcTwos", spec := "crcTwos", named := ["moot/crc.halves"], apart := false, laid := [("moot/crc.halves", laid_moot_crc_halves)] }
def CrcTwosSaid : Prop := crcTwosRow.holds Tryd.pinned (OpenSpec.ofChange crcTwosSpec)

/-- ITS FALSE NEIGHBOUR: 'it returns false'. Refute it at one input. -/
def crcTwosWrong : ChangeSpec := { name := "crcTwos", fn := fun _ => fun
  | [d1, d2, d3] => { results := [.lit (.bool false)], args := [d1, d2, d3] }
  | _ => none }
def CrcTwosWrongFalsely : Prop := crcTwosRow.holds Tryd.pinned (OpenSpec.ofChange crcTwosWrong)

/- THE SECOND FORM. 'bulk': how many values and letters a reading holds, each counted each time it is reached (what is shared counts as often as it is met; a slice's spare places count too). A statement '..UptoSaid' is the law's where the arguments, and the package variables that the reading takes, are together of bulk at most 1048576: NARROWER than '..Said'. Prove '..Said' where nothing that the law and all that it calls make is longer than what came in: it says more and counts as full. Else prove '..UptoSaid'. A law counts once. -/
mutual
def uptoBulk {H : Type} : DataW H → Nat
  | .lit (.string bytes) => bytes.length + 1
  | .lit _ => 1
  | .nil => 1
  | .ptr d => uptoBulk d + 1
  | .slice elems spare => uptoBulkAll elems + uptoBulkAll spare + 1
  | .agg parts => uptoBulkAll parts + 1
  | .iface _ d => uptoBulk d + 1
  | .map entries => uptoBulkEntries entries + 1
  | .held _ => 1
def uptoBulkAll {H : Type} : List (DataW H) → Nat
  | [] => 0
  | d :: r => uptoBulk d + uptoBulkAll r
def uptoBulkEntries {H : Type} : List (Lit × DataW H) → Nat
  | [] => 0
  | x :: r => uptoBulkEntry x + uptoBulkEntries r
def uptoBulkEntry {H : Type} : Lit × DataW H → Nat
  | (.string bytes, d) => bytes.length + uptoBulk d + 1
  | (_, d) => uptoBulk d + 1
 end
def uptoSmall : (H : Type) → List (DataW H) → Bool := fun _ ds => decide (uptoBulkAll ds ≤ 1048576)
def OpenSpec.upto (s : _root_.Go.ChangeSpec) : _root_.Go.OpenSpec := { _root_.Go.OpenSpec.ofChange s with cond := some uptoSmall }

/-- 'mootlaw2.CrcMixes', WHERE WHAT IT READS IS OF BULK AT MOST 1048576: true; the input reads as it did. -/
def crcMixesUptoRow : OpenClaim := { program := "ytibdgnegdnapoaadoor", sum := "6fa864de211007b0d9f888cca7b967a41731882587c73f0f533f7266e4518414", func := "moot/mootlaw2.CrcMixes", spec := "crcMixes", named := ["moot/crc.halves"], apart := false, laid := [("moot/crc.halves", laid_moot_crc_halves)], narrowed := true }
def CrcMixesUptoSaid : Prop := crcMixesUptoRow.holds Tryd.pinned (OpenSpec.upto crcMixesSpec)

/-- 'mootlaw2.CrcTable', WHERE WHAT IT READS IS OF BULK AT MOST 1048576: true; the input reads as it did. -/
def crcTableUptoRow : OpenClaim := { program := "ytibdgnegdnapoaadoor", sum := "6fa864de211007b0d9f888cca7b967a41731882587c73f0f533f7266e4518414", func := "moot/mootlaw2.CrcTable", spec := "crcTable", named := ["moot/crc.halves"], apart := false, laid := [("moot/crc.halves", laid_moot_crc_halves)], narrowed := true }
def CrcTableUptoSaid : Prop := crcTableUptoRow.holds Tryd.pinned (OpenSpec.upto crcTableSpec)

/-- 'mootlaw2.CrcResidues', WHERE WHAT IT READS IS OF BULK AT MOST 1048576: true; the input reads as it did. -/
def crcResiduesUptoRow : OpenClaim := { program := "ytibdgnegdnapoaadoor", sum := "6fa864de211007b0d9f888cca7b967a41731882587c73f0f533f7266e4518414", func := "moot/mootlaw2.CrcResidues", spec := "crcResidues", named := ["moot/crc.halves"], apart := false, laid := [("moot/crc.halves", laid_moot_crc_halves)], narrowed := true }
def CrcResiduesUptoSaid : Prop := crcResiduesUptoRow.holds Tryd.pinned (OpenSpec.upto crcResiduesSpec)

/-- 'mootlaw2.CrcTakes', WHERE WHAT IT READS IS OF BULK AT MOST 1048576: true; the input reads as it did. -/
def crcTakesUptoRow : OpenClaim := { program := "ytibdgnegdnapoaadoor", sum := "6fa864de211007b0d9f888cca7b967a41731882587c73f0f533f7266e4518414", func := "moot/mootlaw2.CrcTakes", spec := "crcTakes", named := ["moot/crc.halves"], apart := false, laid := [("moot/crc.halves", laid_moot_crc_halves)], narrowed := true }
def CrcTakesUptoSaid : Prop := crcTakesUptoRow.holds Tryd.pinned (OpenSpec.upto crcTakesSpec)

/-- 'mootlaw2.CrcMended', WHERE WHAT IT READS IS OF BULK AT MOST 1048576: true; the input reads as it did. -/
def crcMendedUptoRow : OpenClaim := { program := "ytibdgnegdnapoaadoor", sum := "6fa864de211007b0d9f888cca7b967a41731882587c73f0f533f7266e4518414", func := "moot/mootlaw2.CrcMended", spec := "crcMended", named := ["moot/crc.halves"], apart := false, laid := [("moot/crc.halves", laid_moot_crc_halves)], narrowed := true }
def CrcMendedUptoSaid : Prop := crcMendedUptoRow.holds Tryd.pinned (OpenSpec.upto crcMendedSpec)

/-- 'mootlaw2.CrcTwos', WHERE WHAT IT READS IS OF BULK AT MOST 1048576: true; the input reads as it did. -/
def crcTwosUptoRow : OpenClaim := { program := "ytibdgnegdnapoaadoor", sum := "6fa864de211007b0d9f888cca7b967a41731882587c73f0f533f7266e4518414", func := "moot/mootlaw2.CrcTwos", spec := "crcTwos", named := ["moot/crc.halves"], apart := false, laid := [("moot/crc.halves", laid_moot_crc_halves)], narrowed := true }
def CrcTwosUptoSaid : Prop := crcTwosUptoRow.holds Tryd.pinned (OpenSpec.upto crcTwosSpec)

end Rows
end Go.Proofs.YtibdgnegdnapoaaDoor
