/-
  NARROWER THAN 'FOR EVERY INPUT', by the rows' own cells (each row's printed sentence says how): MsgChecks: laid · MsgLowests: laid.
  DERIVED. THE GIVEN ROWS OF THIS SEAT. 2 by the template 'for every input the law returns true; each argument reads behind the call as it read before'; 0 by the template 'total and deterministic' (their statements: YtdokagebfeejbaaGreatDoorTotals.lean).
  GIVEN WITH THE SEED: the statements are not yours to turn. If you find one false, say at which input.
  Laid BY PROGRAM, IN A SANDBOX (cutbox-rows.mjs): the forced cells as the released guide's own fill.sh prints them over the translation d20938aa3119c346… (all of the seat's roots in one cut). By AI agents, Wed Nov 11 2026. No macro, syntax, notation, axiom, sorry.
-/
import Derived.Test.YtdokagebfeejbaaGreatDoorChecked
import GoSem.Claim
import GoSem.ClaimJoined
import GoSem.ClaimMapViews
import Derived.JoinedTies
import Derived.KernelRfl
namespace Go.Proofs.YtdokagebfeejbaaGreatDoor
/- THE CELL 'sum', in the pinned program and in every row, IS THE sha256 OF THE DUMP (.gsa) THAT YtdokagebfeejbaaGreatDoorProg.lean LOADS. Nothing in Lean hashes anything: it is a label: what it is worth is what the hold of that sum in a sandbox is worth. -/
noncomputable def Tryz.pinned : Pinned := { name := "ytdokagebfeejbaagreatdoor", sum := "d20938aa3119c346baef27ff6d5a424e12f6c6a08fba7b3dbd2e32bf1c74d431", checked := Tryz.checked }
namespace Rows
def none {H : Type} : Left H := { results := [], args := [] }

/- WHAT THE LISTED PACKAGE-LEVEL VARIABLES READ AS WHEN THE CALL BEGINS. Each datum BY PROGRAM (the guide's laid-datum.mjs) off the statement by which the dump's own 'gosem.cut.vars' lays the variable. In a bare row this is a premise. The card (YtdokagebfeejbaaGreatDoorCards.lean) ties it to the program's text. -/
def laid_moot_wire_errShort {H : Type} : DataW H := .iface "*errors.errorString" (.ptr (.agg [.lit (.string [119, 105, 114, 101, 58, 32, 116, 104, 101, 32, 98, 121, 116, 101, 115, 32, 101, 110, 100, 32, 105, 110, 115, 105, 100, 101, 32, 97, 110, 32, 105, 116, 101, 109])]))
def laid_moot_wire_errWide {H : Type} : DataW H := .iface "*errors.errorString" (.ptr (.agg [.lit (.string [119, 105, 114, 101, 58, 32, 97, 32, 110, 117, 109, 98, 101, 114, 32, 111, 102, 32, 109, 111, 114, 101, 32, 116, 104, 97, 110, 32, 54, 52, 32, 98, 105, 116, 115])]))
def laid_moot_wire_errForm {H : Type} : DataW H := .iface "*errors.errorString" (.ptr (.agg [.lit (.string [119, 105, 114, 101, 58, 32, 110, 111, 116, 32, 116, 104, 101, 32, 115, 104, 111, 114, 116, 101, 115, 116, 32, 102, 111, 114, 109])]))
def laid_moot_wire_errBig {H : Type} : DataW H := .iface "*errors.errorString" (.ptr (.agg [.lit (.string [119, 105, 114, 101, 58, 32, 97, 32, 110, 117, 109, 98, 101, 114, 32, 97, 98, 111, 118, 101, 32, 119, 104, 97, 116, 32, 105, 115, 32, 97, 108, 108, 111, 119, 101, 100])]))
def laid_moot_wire_errLength {H : Type} : DataW H := .iface "*errors.errorString" (.ptr (.agg [.lit (.string [119, 105, 114, 101, 58, 32, 97, 32, 116, 101, 120, 116, 39, 115, 32, 108, 101, 110, 103, 116, 104, 32, 111, 117, 116, 115, 105, 100, 101, 32, 119, 104, 97, 116, 32, 105, 115, 32, 97, 108, 108, 111, 119, 101, 100])]))
def laid_moot_command_kinds {H : Type} : DataW H := .agg [.agg [.lit (.int .i64 0), .lit (.int .i64 1)], .agg [.lit (.int .i64 7), .lit (.int .i64 1)], .agg [.lit (.int .i64 23), .lit (.int .i64 1)], .agg [.lit (.int .i64 7), .lit (.int .i64 1)], .agg [.lit (.int .i64 71), .lit (.int .i64 1)], .agg [.lit (.int .i64 55), .lit (.int .i64 1)], .agg [.lit (.int .i64 15), .lit (.int .i64 2)], .agg [.lit (.int .i64 15), .lit (.int .i64 2)], .agg [.lit (.int .i64 15), .lit (.int .i64 2)]]
def laid_moot_msg_kinds {H : Type} : DataW H := .agg [.agg [.lit (.int .i64 0), .lit (.int .i64 0)], .agg [.lit (.int .i64 1), .lit (.int .i64 0)], .agg [.lit (.int .i64 1), .lit (.int .i64 0)], .agg [.lit (.int .i64 1), .lit (.int .i64 0)], .agg [.lit (.int .i64 1), .lit (.int .i64 0)], .agg [.lit (.int .i64 1), .lit (.int .i64 0)], .agg [.lit (.int .i64 1), .lit (.int .i64 1)], .agg [.lit (.int .i64 1), .lit (.int .i64 1)], .agg [.lit (.int .i64 1), .lit (.int .i64 0)], .agg [.lit (.int .i64 2), .lit (.int .i64 0)]]

/-- 'mootlaw5.MsgChecks': WHATEVER THE INPUT: true; the input reads as it did. -/
def msgChecksSpec : ChangeSpec := { name := "msgChecks", fn := fun _ => fun
  | [d1, d2, d3] => { results := [.lit (.bool true)], args := [d1, d2, d3] }
  | _ => none }
def msgChecksRow : OpenClaim := { program := "ytdokagebfeejbaagreatdoor", sum := "d20938aa3119c346baef27ff6d5a424e12f6c6a08fba7b3dbd2e32bf1c74d431", func := "moot/mootlaw5.MsgChecks", spec := "msgChecks", inPlace := ["internal/reflectlite.TypeOf"], unfollowed := true, recurses := true, named := ["moot/msg.kinds", "moot/wire.errShort", "moot/wire.errWide", "moot/wire.errForm", "moot/wire.errBig", "moot/wire.errLength", "moot/command.kinds"], apart := false, laid := [("moot/wire.errShort", laid_moot_wire_errShort), ("moot/wire.errWide", laid_moot_wire_errWide), ("moot/wire.errForm", laid_moot_wire_errForm), ("moot/wire.errBig", laid_moot_wire_errBig), ("moot/wire.errLength", laid_moot_wire_errLength), ("moot/command.kinds", laid_moot_command_kinds), ("moot/msg.kinds", laid_moot_msg_kinds)] }
def MsgChecksSaid : Prop := msgChecksRow.holds Tryz.pinned (OpenSpec.ofChange msgChecksSpec)

/-- ITS FALSE NEIGHBOUR: 'it returns false'. Refute it at one input. -/
def msgChecksWrong : ChangeSpec := { name := "msgChecks", fn := fun _ => fun
  | [d1, d2, d3] => { results := [.lit (.bool false)], args := [d1, d2, d3] }
  | _ => none }
def MsgChecksWrongFalsely : Prop := msgChecksRow.holds Tryz.pinned (OpenSpec.ofChange msgChecksWrong)

/-- 'mootlaw5.MsgLowests': WHATEVER THE INPUT: true; the input reads as it did. -/
def msgLowestsSpec : ChangeSpec := { name := "msgLowests", fn := fun _ => fun
  | [d1, d2] => { results := [.lit (.bool true)], args := [d1, d2] }
  | _ => none }
def msgLowestsRow : OpenClaim := { program := "ytdokagebfeejbaagreatdoor", sum := "d20938aa3119c346baef27ff6d5a424e12f6c6a08fba7b3dbd2e32bf1c74d431", func := "moot/mootlaw5.MsgLowests", spec := "msgLowests", inPlace := ["internal/reflectlite.TypeOf"], unfollowed := true, recurses := true, named := ["moot/msg.kinds", "moot/wire.errShort", "moot/wire.errWide", "moot/wire.errForm", "moot/wire.errBig", "moot/wire.errLength", "moot/command.kinds"], apart := false, laid := [("moot/wire.errShort", laid_moot_wire_errShort), ("moot/wire.errWide", laid_moot_wire_errWide), ("moot/wire.errForm", laid_moot_wire_errForm), ("moot/wire.errBig", laid_moot_wire_errBig), ("moot/wire.errLength", laid_moot_wire_errLength), ("moot/command.kinds", laid_moot_command_kinds), ("moot/msg.kinds", laid_moot_msg_kinds)] }
def MsgLowestsSaid : Prop := msgLowestsRow.holds Tryz.pinned (OpenSpec.ofChange msgLowestsSpec)

/-- ITS FALSE NEIGHBOUR: 'it returns false'. Refute it at one input. -/
def msgLowestsWrong : ChangeSpec := { name := "msgLowests", fn := fun _ => fun
  | [d1, d2] => { results := [.lit (.bool false)], args := [d1, d2] }
  | _ => none }
def MsgLowestsWrongFalsely : Prop := msgLowestsRow.holds Tryz.pinned (OpenSpec.ofChange msgLowestsWrong)

/- THE SECOND FORM. 'bulk': how many values and letters a reading holds, each counted each time it is reached (what is shared counts as often as it is met; a slice's spare places count too). A statement '..UptoSaid' is the law's where the arguments, and the package variables that the reading takes, are together of bulk at most 1048576: NARROWER than '..Said'. Prove '..Said' where nothing that the law and all that it calls make is longer than what came in: it says more and counts as full. Else prove '..UptoSaid'. A law counts once. -/
mutual
def uptoBulk {H : Type} : DataW H → Nat
  | .lit (.string bytes) => bytes.length + 1
  | .lit _ => 1
  | .nil => 1
  | .ptr d => uptoBulk d + 1
  | .slice elems spare => uptoBulkAll elems + uptoBulkAll spare + 1
  | .agg parts => uptoBulkAll parts + 1
  | .iface _ d => uptoBulk d + 1
  | .map entries => uptoBulkEntries entries + 1
  | .held _ => 1
def uptoBulkAll {H : Type} : List (DataW H) → Nat
  | [] => 0
  | d :: r => uptoBulk d + uptoBulkAll r
def uptoBulkEntries {H : Type} : List (Lit × DataW H) → Nat
  | [] => 0
  | x :: r => uptoBulkEntry x + uptoBulkEntries r
def uptoBulkEntry {H : Type} : Lit × DataW H → Nat
  | (.string bytes, d) => bytes.length + uptoBulk d + 1
  | (_, d) => uptoBulk d + 1
 end
def uptoSmall : (H : Type) → List (DataW H) → Bool := fun _ ds => decide (uptoBulkAll ds ≤ 1048576)
def OpenSpec.upto (s : _root_.Go.ChangeSpec) : _root_.Go.OpenSpec := { _root_.Go.OpenSpec.ofChange s with cond := some uptoSmall }

/-- 'mootlaw5.MsgChecks', WHERE WHAT IT READS IS OF BULK AT MOST 1048576: true; the input reads as it did. -/
def msgChecksUptoRow : OpenClaim := { program := "ytdokagebfeejbaagreatdoor", sum := "d20938aa3119c346baef27ff6d5a424e12f6c6a08fba7b3dbd2e32bf1c74d431", func := "moot/mootlaw5.MsgChecks", spec := "msgChecks", inPlace := ["internal/reflectlite.TypeOf"], unfollowed := true, recurses := true, named := ["moot/msg.kinds", "moot/wire.errShort", "moot/wire.errWide", "moot/wire.errForm", "moot/wire.errBig", "moot/wire.errLength", "moot/command.kinds"], apart := false, laid := [("moot/wire.errShort", laid_moot_wire_errShort), ("moot/wire.errWide", laid_moot_wire_errWide), ("moot/wire.errForm", laid_moot_wire_errForm), ("moot/wire.errBig", laid_moot_wire_errBig), ("moot/wire.errLength", laid_moot_wire_errLength), ("moot/command.kinds", laid_moot_command_kinds), ("moot/msg.kinds", laid_moot_msg_kinds)], narrowed := true }
def MsgChecksUptoSaid : Prop := msgChecksUptoRow.holds Tryz.pinned (OpenSpec.upto msgChecksSpec)

/-- 'mootlaw5.MsgLowests', WHERE WHAT IT READS IS OF BULK AT MOST 1048576: true; the input reads as it did. -/
def msgLowestsUptoRow : OpenClaim := { program := "ytdokagebfeejbaagreatdoor", sum := "d20938aa3119c346baef27ff6d5a424e12f6c6a08fba7b3dbd2e32bf1c74d431", func := "moot/mootlaw5.MsgLowests", spec := "msgLowests", inPlace := ["internal/reflectlite.TypeOf"], unfollowed := true, recurses := true, named := ["moot/msg.kinds", "moot/wire.errShort", "moot/wire.errWide", "moot/wire.errForm", "moot/wire.errBig", "moot/wire.errLength", "moot/command.kinds"], apart := false, laid := [("moot/wire.errShort", laid_moot_wire_errShort), ("moot/wire.errWide", laid_moot_wire_errWide), ("moot/wire.errForm", laid_moot_wire_errForm), ("moot/wire.errBig", laid_moot_wire_errBig), ("moot/wire.errLength", laid_moot_wire_errLength), ("moot/command.kinds", laid_moot_command_kinds), ("moot/msg.kinds", laid_moot_msg_kinds)], narrowed := true }
def MsgLowestsUptoSaid : Prop := msgLowestsUptoRow.holds Tryz.pinned (OpenSpec.upto msgLowestsSpec)

end Rows
end Go.Proofs.YtdokagebfeejbaaGreatDoor
