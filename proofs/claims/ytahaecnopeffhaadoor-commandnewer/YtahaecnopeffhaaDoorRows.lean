/-
  NARROWER THAN 'FOR EVERY INPUT', by the rows' own cells (each row's printed sentence says how): CommandNewer: laid · CommandChecks: laid.
  DERIVED. THE GIVEN ROWS OF THIS SEAT. 2 by the template 'for every input the law returns true; each argument reads behind the call as it read before'; 0 by the template 'total and deterministic' (their statements: YtahaecnopeffhaaDoorTotals.lean).
  GIVEN WITH THE SEED: the statements are not yours to turn. If you find one false, say at which input.
  Laid BY PROGRAM, IN A SANDBOX (cutbox-rows.mjs): the forced cells as the released guide's own fill.sh prints them over the translation f33caf9a93fdf002… (all of the seat's roots in one cut). By AI agents, Wed Nov 11 2026. No macro, syntax, notation, axiom, sorry.
-/
import Derived.Test.YtahaecnopeffhaaDoorChecked
import GoSem.Claim
import GoSem.ClaimJoined
import GoSem.ClaimMapViews
import Derived.JoinedTies
import Derived.KernelRfl
namespace Go.Proofs.YtahaecnopeffhaaDoor
/- THE CELL 'sum', in the pinned program and in every row, IS THE sha256 OF THE DUMP (.gsa) THAT YtahaecnopeffhaaDoorProg.lean LOADS. Nothing in Lean hashes anything: it is a label: what it is worth is what the hold of that sum in a sandbox is worth. -/
noncomputable def Tryd.pinned : Pinned := { name := "ytahaecnopeffhaadoor", sum := "f33caf9a93fdf00276fd4305b83f01620a760d516f1b8b0ce42fc20d6fe019d4", checked := Tryd.checked }
namespace Rows
def none {H : Type} : Left H := { results := [], args := [] }

/- WHAT THE LISTED PACKAGE-LEVEL VARIABLES READ AS WHEN THE CALL BEGINS. Each datum BY PROGRAM (the guide's laid-datum.mjs) off the statement by which the dump's own 'gosem.cut.vars' lays the variable. In a bare row this is a premise. The card (YtahaecnopeffhaaDoorCards.lean) ties it to the program's text. -/
def laid_moot_command_kinds {H : Type} : DataW H := .agg [.agg [.lit (.int .i64 0), .lit (.int .i64 1)], .agg [.lit (.int .i64 7), .lit (.int .i64 1)], .agg [.lit (.int .i64 23), .lit (.int .i64 1)], .agg [.lit (.int .i64 7), .lit (.int .i64 1)], .agg [.lit (.int .i64 71), .lit (.int .i64 1)], .agg [.lit (.int .i64 55), .lit (.int .i64 1)], .agg [.lit (.int .i64 15), .lit (.int .i64 2)], .agg [.lit (.int .i64 15), .lit (.int .i64 2)], .agg [.lit (.int .i64 15), .lit (.int .i64 2)]]

/-- 'mootlaw4.CommandNewer': WHATEVER THE INPUT: true; the input reads as it did. -/
def commandNewerSpec : ChangeSpec := { name := "commandNewer", fn := fun _ => fun
  | [d] => { results := [.lit (.bool true)], args := [d] }
  | _ => none }
def commandNewerRow : OpenClaim := { program := "ytahaecnopeffhaadoor", sum := "f33caf9a93fdf00276fd4305b83f01620a760d516f1b8b0ce42fc20d6fe019d4", func := "moot/mootlaw4.CommandNewer", spec := "commandNewer", named := ["moot/command.kinds"], apart := false, laid := [("moot/command.kinds", laid_moot_command_kinds)] }
def CommandNewerSaid : Prop := commandNewerRow.holds Tryd.pinned (OpenSpec.ofChange commandNewerSpec)

/-- ITS FALSE NEIGHBOUR: 'it returns false'. Refute it at one input. -/
def commandNewerWrong : ChangeSpec := { name := "commandNewer", fn := fun _ => fun
  | [d] => { results := [.lit (.bool false)], args := [d] }
  | _ => none }
def CommandNewerWrongFalsely : Prop := commandNewerRow.holds Tryd.pinned (OpenSpec.ofChange commandNewerWrong)

/-- 'mootlaw4.CommandChecks': WHATEVER THE INPUT: true; the input reads as it did. -/
def commandChecksSpec : ChangeSpec := { name := "commandChecks", fn := fun _ => fun
  | [d1, d2] => { results := [.lit (.bool true)], args := [d1, d2] }
  | _ => none }
def commandChecksRow : OpenClaim := { program := "ytahaecnopeffhaadoor", sum := "f33caf9a93fdf00276fd4305b83f01620a760d516f1b8b0ce42fc20d6fe019d4", func := "moot/mootlaw4.CommandChecks", spec := "commandChecks", named := ["moot/command.kinds"], apart := false, laid := [("moot/command.kinds", laid_moot_command_kinds)] }
def CommandChecksSaid : Prop := commandChecksRow.holds Tryd.pinned (OpenSpec.ofChange commandChecksSpec)

/-- ITS FALSE NEIGHBOUR: 'it returns false'. Refute it at one input. -/
def commandChecksWrong : ChangeSpec := { name := "commandChecks", fn := fun _ => fun
  | [d1, d2] => { results := [.lit (.bool false)], args := [d1, d2] }
  | _ => none }
def CommandChecksWrongFalsely : Prop := commandChecksRow.holds Tryd.pinned (OpenSpec.ofChange commandChecksWrong)

/- THE SECOND FORM. 'bulk': how many values and letters a reading holds, each counted each time it is reached (what is shared counts as often as it is met; a slice's spare places count too). A statement '..UptoSaid' is the law's where the arguments, and the package variables that the reading takes, are together of bulk at most 1048576: NARROWER than '..Said'. Prove '..Said' where nothing that the law and all that it calls make is longer than what came in: it says more and counts as full. Else prove '..UptoSaid'. A law counts once. -/
mutual
def uptoBulk {H : Type} : DataW H → Nat
  | .lit (.string bytes) => bytes.length + 1
  | .lit _ => 1
  | .nil => 1
  | .ptr d => uptoBulk d + 1
  | .slice elems spare => uptoBulkAll elems + uptoBulkAll spare + 1
  | .agg parts => uptoBulkAll parts + 1
  | .iface _ d => uptoBulk d + 1
  | .map entries => uptoBulkEntries entries + 1
  | .held _ => 1
def uptoBulkAll {H : Type} : List (DataW H) → Nat
  | [] => 0
  | d :: r => uptoBulk d + uptoBulkAll r
def uptoBulkEntries {H : Type} : List (Lit × DataW H) → Nat
  | [] => 0
  | x :: r => uptoBulkEntry x + uptoBulkEntries r
def uptoBulkEntry {H : Type} : Lit × DataW H → Nat
  | (.string bytes, d) => bytes.length + uptoBulk d + 1
  | (_, d) => uptoBulk d + 1
 end
def uptoSmall : (H : Type) → List (DataW H) → Bool := fun _ ds => decide (uptoBulkAll ds ≤ 1048576)
def OpenSpec.upto (s : _root_.Go.ChangeSpec) : _root_.Go.OpenSpec := { _root_.Go.OpenSpec.ofChange s with cond := some uptoSmall }

/-- 'mootlaw4.CommandNewer', WHERE WHAT IT READS IS OF BULK AT MOST 1048576: true; the input reads as it did. -/
def commandNewerUptoRow : OpenClaim := { program := "ytahaecnopeffhaadoor", sum := "f33caf9a93fdf00276fd4305b83f01620a760d516f1b8b0ce42fc20d6fe019d4", func := "moot/mootlaw4.CommandNewer", spec := "commandNewer", named := ["moot/command.kinds"], apart := false, laid := [("moot/command.kinds", laid_moot_command_kinds)], narrowed := true }
def CommandNewerUptoSaid : Prop := commandNewerUptoRow.holds Tryd.pinned (OpenSpec.upto commandNewerSpec)

/-- 'mootlaw4.CommandChecks', WHERE WHAT IT READS IS OF BULK AT MOST 1048576: true; the input reads as it did. -/
def commandChecksUptoRow : OpenClaim := { program := "ytahaecnopeffhaadoor", sum := "f33caf9a93fdf00276fd4305b83f01620a760d516f1b8b0ce42fc20d6fe019d4", func := "moot/mootlaw4.CommandChecks", spec := "commandChecks", named := ["moot/command.kinds"], apart := false, laid := [("moot/command.kinds", laid_moot_command_kinds)], narrowed := true }
def CommandChecksUptoSaid : Prop := commandChecksUptoRow.holds Tryd.pinned (OpenSpec.upto commandChecksSpec)

end Rows
end Go.Proofs.YtahaecnopeffhaaDoor
