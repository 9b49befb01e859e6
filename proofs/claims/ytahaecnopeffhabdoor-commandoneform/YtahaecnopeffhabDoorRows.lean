/-
  NARROWER THAN 'FOR EVERY INPUT', by the rows' own cells (each row's printed sentence says how): CommandOneForm: laid · CommandSpoilt: laid · CommandEncodes: laid · CommandBack: laid · CommandDecodes: laid · CommandOwn: laid.
  DERIVED. THE GIVEN ROWS OF THIS SEAT. 6 by the template 'for every input the law returns true; each argument reads behind the call as it read before'; 0 by the template 'total and deterministic' (their statements: YtahaecnopeffhabDoorTotals.lean).
  GIVEN WITH THE SEED: the statements are not yours to turn. If you find one false, say at which input.
  Laid BY PROGRAM, IN A SANDBOX (cutbox-rows.mjs): the forced cells as the released guide's own fill.sh prints them over the translation 053895a894b1c7ec… (all of the seat's roots in one cut). By AI agents, Wed Nov 11 2026. No macro, syntax, notation, axiom, sorry.
-/
import Derived.Test.YtahaecnopeffhabDoorChecked
import GoSem.Claim
import GoSem.ClaimJoined
import GoSem.ClaimMapViews
import Derived.JoinedTies
import Derived.KernelRfl
namespace Go.Proofs.YtahaecnopeffhabDoor
/- THE CELL 'sum', in the pinned program and in every row, IS THE sha256 OF THE DUMP (.gsa) THAT YtahaecnopeffhabDoorProg.lean LOADS. Nothing in Lean hashes anything: it is a label: what it is worth is what the hold of that sum in a sandbox is worth. -/
noncomputable def Tryd.pinned : Pinned := { name := "ytahaecnopeffhabdoor", sum := "053895a894b1c7ecb226cfa6a77442ad8fc689ce771681927a76ffe27a785e29", checked := Tryd.checked }
namespace Rows
def none {H : Type} : Left H := { results := [], args := [] }

/- WHAT THE LISTED PACKAGE-LEVEL VARIABLES READ AS WHEN THE CALL BEGINS. Each datum BY PROGRAM (the guide's laid-datum.mjs) off the statement by which the dump's own 'gosem.cut.vars' lays the variable. In a bare row this is a premise. The card (YtahaecnopeffhabDoorCards.lean) ties it to the program's text. -/
def laid_moot_wire_errShort {H : Type} : DataW H := .iface "*errors.errorString" (.ptr (.agg [.lit (.string [119, 105, 114, 101, 58, 32, 116, 104, 101, 32, 98, 121, 116, 101, 115, 32, 101, 110, 100, 32, 105, 110, 115, 105, 100, 101, 32, 97, 110, 32, 105, 116, 101, 109])]))
def laid_moot_wire_errWide {H : Type} : DataW H := .iface "*errors.errorString" (.ptr (.agg [.lit (.string [119, 105, 114, 101, 58, 32, 97, 32, 110, 117, 109, 98, 101, 114, 32, 111, 102, 32, 109, 111, 114, 101, 32, 116, 104, 97, 110, 32, 54, 52, 32, 98, 105, 116, 115])]))
def laid_moot_wire_errForm {H : Type} : DataW H := .iface "*errors.errorString" (.ptr (.agg [.lit (.string [119, 105, 114, 101, 58, 32, 110, 111, 116, 32, 116, 104, 101, 32, 115, 104, 111, 114, 116, 101, 115, 116, 32, 102, 111, 114, 109])]))
def laid_moot_wire_errBig {H : Type} : DataW H := .iface "*errors.errorString" (.ptr (.agg [.lit (.string [119, 105, 114, 101, 58, 32, 97, 32, 110, 117, 109, 98, 101, 114, 32, 97, 98, 111, 118, 101, 32, 119, 104, 97, 116, 32, 105, 115, 32, 97, 108, 108, 111, 119, 101, 100])]))
def laid_moot_wire_errLength {H : Type} : DataW H := .iface "*errors.errorString" (.ptr (.agg [.lit (.string [119, 105, 114, 101, 58, 32, 97, 32, 116, 101, 120, 116, 39, 115, 32, 108, 101, 110, 103, 116, 104, 32, 111, 117, 116, 115, 105, 100, 101, 32, 119, 104, 97, 116, 32, 105, 115, 32, 97, 108, 108, 111, 119, 101, 100])]))
def laid_moot_command_kinds {H : Type} : DataW H := .agg [.agg [.lit (.int .i64 0), .lit (.int .i64 1)], .agg [.lit (.int .i64 7), .lit (.int .i64 1)], .agg [.lit (.int .i64 23), .lit (.int .i64 1)], .agg [.lit (.int .i64 7), .lit (.int .i64 1)], .agg [.lit (.int .i64 71), .lit (.int .i64 1)], .agg [.lit (.int .i64 55), .lit (.int .i64 1)], .agg [.lit (.int .i64 15), .lit (.int .i64 2)], .agg [.lit (.int .i64 15), .lit (.int .i64 2)], .agg [.lit (.int .i64 15), .lit (.int .i64 2)]]
def laid_math_bits_deBruijn32tab {H : Type} : DataW H := .agg [.lit (.int .u8 0), .lit (.int .u8 1), .lit (.int .u8 28), .lit (.int .u8 2), .lit (.int .u8 29), .lit (.int .u8 14), .lit (.int .u8 24), .lit (.int .u8 3), .lit (.int .u8 30), .lit (.int .u8 22), .lit (.int .u8 20), .lit (.int .u8 15), .lit (.int .u8 25), .lit (.int .u8 17), .lit (.int .u8 4), .lit (.int .u8 8), .lit (.int .u8 31), .lit (.int .u8 27), .lit (.int .u8 13), .lit (.int .u8 23), .lit (.int .u8 21), .lit (.int .u8 19), .lit (.int .u8 16), .lit (.int .u8 7), .lit (.int .u8 26), .lit (.int .u8 12), .lit (.int .u8 18), .lit (.int .u8 6), .lit (.int .u8 11), .lit (.int .u8 5), .lit (.int .u8 10), .lit (.int .u8 9)]
def laid_math_bits_deBruijn64tab {H : Type} : DataW H := .agg [.lit (.int .u8 0), .lit (.int .u8 1), .lit (.int .u8 56), .lit (.int .u8 2), .lit (.int .u8 57), .lit (.int .u8 49), .lit (.int .u8 28), .lit (.int .u8 3), .lit (.int .u8 61), .lit (.int .u8 58), .lit (.int .u8 42), .lit (.int .u8 50), .lit (.int .u8 38), .lit (.int .u8 29), .lit (.int .u8 17), .lit (.int .u8 4), .lit (.int .u8 62), .lit (.int .u8 47), .lit (.int .u8 59), .lit (.int .u8 36), .lit (.int .u8 45), .lit (.int .u8 43), .lit (.int .u8 51), .lit (.int .u8 22), .lit (.int .u8 53), .lit (.int .u8 39), .lit (.int .u8 33), .lit (.int .u8 30), .lit (.int .u8 24), .lit (.int .u8 18), .lit (.int .u8 12), .lit (.int .u8 5), .lit (.int .u8 63), .lit (.int .u8 55), .lit (.int .u8 48), .lit (.int .u8 27), .lit (.int .u8 60), .lit (.int .u8 41), .lit (.int .u8 37), .lit (.int .u8 16), .lit (.int .u8 46), .lit (.int .u8 35), .lit (.int .u8 44), .lit (.int .u8 21), .lit (.int .u8 52), .lit (.int .u8 32), .lit (.int .u8 23), .lit (.int .u8 11), .lit (.int .u8 54), .lit (.int .u8 26), .lit (.int .u8 40), .lit (.int .u8 15), .lit (.int .u8 34), .lit (.int .u8 20), .lit (.int .u8 31), .lit (.int .u8 10), .lit (.int .u8 25), .lit (.int .u8 14), .lit (.int .u8 19), .lit (.int .u8 9), .lit (.int .u8 13), .lit (.int .u8 8), .lit (.int .u8 7), .lit (.int .u8 6)]
def laid_internal_strconv_uint64pow10 {H : Type} : DataW H := .agg [.lit (.int .u64 1), .lit (.int .u64 10), .lit (.int .u64 100), .lit (.int .u64 1000), .lit (.int .u64 10000), .lit (.int .u64 100000), .lit (.int .u64 1000000), .lit (.int .u64 10000000), .lit (.int .u64 100000000), .lit (.int .u64 1000000000), .lit (.int .u64 10000000000), .lit (.int .u64 100000000000), .lit (.int .u64 1000000000000), .lit (.int .u64 10000000000000), .lit (.int .u64 100000000000000), .lit (.int .u64 1000000000000000), .lit (.int .u64 10000000000000000), .lit (.int .u64 100000000000000000), .lit (.int .u64 1000000000000000000), .lit (.int .u64 10000000000000000000)]

/-- 'mootlaw4.CommandOneForm': WHATEVER THE INPUT: true; the input reads as it did. -/
def commandOneFormSpec : ChangeSpec := { name := "commandOneForm", fn := fun _ => fun
  | [d1, d2] => { results := [.lit (.bool true)], args := [d1, d2] }
  | _ => none }
def commandOneFormRow : OpenClaim := { program := "ytahaecnopeffhabdoor", sum := "053895a894b1c7ecb226cfa6a77442ad8fc689ce771681927a76ffe27a785e29", func := "moot/mootlaw4.CommandOneForm", spec := "commandOneForm", inPlace := ["internal/reflectlite.TypeOf"], unfollowed := true, recurses := true, named := ["moot/wire.errShort", "moot/wire.errWide", "moot/wire.errForm", "moot/wire.errBig", "moot/wire.errLength", "moot/command.kinds"], apart := false, laid := [("moot/wire.errShort", laid_moot_wire_errShort), ("moot/wire.errWide", laid_moot_wire_errWide), ("moot/wire.errForm", laid_moot_wire_errForm), ("moot/wire.errBig", laid_moot_wire_errBig), ("moot/wire.errLength", laid_moot_wire_errLength), ("moot/command.kinds", laid_moot_command_kinds)] }
def CommandOneFormSaid : Prop := commandOneFormRow.holds Tryd.pinned (OpenSpec.ofChange commandOneFormSpec)

/-- ITS FALSE NEIGHBOUR: 'it returns false'. Refute it at one input. -/
def commandOneFormWrong : ChangeSpec := { name := "commandOneForm", fn := fun _ => fun
  | [d1, d2] => { results := [.lit (.bool false)], args := [d1, d2] }
  | _ => none }
def CommandOneFormWrongFalsely : Prop := commandOneFormRow.holds Tryd.pinned (OpenSpec.ofChange commandOneFormWrong)

/-- 'mootlaw4.CommandSpoilt': WHATEVER THE INPUT: true; the input reads as it did. -/
def commandSpoiltSpec : ChangeSpec := { name := "commandSpoilt", fn := fun _ => fun
  | [d1, d2, d3, d4] => { results := [.lit (.bool true)], args := [d1, d2, d3, d4] }
  | _ => none }
def commandSpoiltRow : OpenClaim := { program := "ytahaecnopeffhabdoor", sum := "053895a894b1c7ecb226cfa6a77442ad8fc689ce771681927a76ffe27a785e29", func := "moot/mootlaw4.CommandSpoilt", spec := "commandSpoilt", inPlace := ["internal/reflectlite.TypeOf"], unfollowed := true, recurses := true, named := ["moot/command.kinds", "moot/wire.errShort", "moot/wire.errWide", "moot/wire.errForm", "moot/wire.errBig", "moot/wire.errLength"], apart := false, laid := [("moot/wire.errShort", laid_moot_wire_errShort), ("moot/wire.errWide", laid_moot_wire_errWide), ("moot/wire.errForm", laid_moot_wire_errForm), ("moot/wire.errBig", laid_moot_wire_errBig), ("moot/wire.errLength", laid_moot_wire_errLength), ("moot/command.kinds", laid_moot_command_kinds)] }
def CommandSpoiltSaid : Prop := commandSpoiltRow.holds Tryd.pinned (OpenSpec.ofChange commandSpoiltSpec)

/-- ITS FALSE NEIGHBOUR: 'it returns false'. Refute it at one input. -/
def commandSpoiltWrong : ChangeSpec := { name := "commandSpoilt", fn := fun _ => fun
  | [d1, d2, d3, d4] => { results := [.lit (.bool false)], args := [d1, d2, d3, d4] }
  | _ => none }
def CommandSpoiltWrongFalsely : Prop := commandSpoiltRow.holds Tryd.pinned (OpenSpec.ofChange commandSpoiltWrong)

/-- 'mootlaw4.CommandEncodes': WHATEVER THE INPUT: true; the input reads as it did. -/
def commandEncodesSpec : ChangeSpec := { name := "commandEncodes", fn := fun _ => fun
  | [d1, d2] => { results := [.lit (.bool true)], args := [d1, d2] }
  | _ => none }
def commandEncodesRow : OpenClaim := { program := "ytahaecnopeffhabdoor", sum := "053895a894b1c7ecb226cfa6a77442ad8fc689ce771681927a76ffe27a785e29", func := "moot/mootlaw4.CommandEncodes", spec := "commandEncodes", named := ["moot/command.kinds"], apart := false, laid := [("moot/command.kinds", laid_moot_command_kinds)] }
def CommandEncodesSaid : Prop := commandEncodesRow.holds Tryd.pinned (OpenSpec.ofChange commandEncodesSpec)

/-- ITS FALSE NEIGHBOUR: 'it returns false'. Refute it at one input. -/
def commandEncodesWrong : ChangeSpec := { name := "commandEncodes", fn := fun _ => fun
  | [d1, d2] => { results := [.lit (.bool false)], args := [d1, d2] }
  | _ => none }
def CommandEncodesWrongFalsely : Prop := commandEncodesRow.holds Tryd.pinned (OpenSpec.ofChange commandEncodesWrong)

/-- 'mootlaw4.CommandBack': WHATEVER THE INPUT: true; the input reads as it did. -/
def commandBackSpec : ChangeSpec := { name := "commandBack", fn := fun _ => fun
  | [d1, d2, d3] => { results := [.lit (.bool true)], args := [d1, d2, d3] }
  | _ => none }
def commandBackRow : OpenClaim := { program := "ytahaecnopeffhabdoor", sum := "053895a894b1c7ecb226cfa6a77442ad8fc689ce771681927a76ffe27a785e29", func := "moot/mootlaw4.CommandBack", spec := "commandBack", inPlace := ["internal/reflectlite.TypeOf"], unfollowed := true, recurses := true, named := ["moot/command.kinds", "moot/wire.errShort", "moot/wire.errWide", "moot/wire.errForm", "moot/wire.errBig", "moot/wire.errLength"], apart := false, laid := [("moot/wire.errShort", laid_moot_wire_errShort), ("moot/wire.errWide", laid_moot_wire_errWide), ("moot/wire.errForm", laid_moot_wire_errForm), ("moot/wire.errBig", laid_moot_wire_errBig), ("moot/wire.errLength", laid_moot_wire_errLength), ("moot/command.kinds", laid_moot_command_kinds)] }
def CommandBackSaid : Prop := commandBackRow.holds Tryd.pinned (OpenSpec.ofChange commandBackSpec)

/-- ITS FALSE NEIGHBOUR: 'it returns false'. Refute it at one input. -/
def commandBackWrong : ChangeSpec := { name := "commandBack", fn := fun _ => fun
  | [d1, d2, d3] => { results := [.lit (.bool false)], args := [d1, d2, d3] }
  | _ => none }
def CommandBackWrongFalsely : Prop := commandBackRow.holds Tryd.pinned (OpenSpec.ofChange commandBackWrong)

/-- 'mootlaw4.CommandDecodes': WHATEVER THE INPUT: true; the input reads as it did. -/
def commandDecodesSpec : ChangeSpec := { name := "commandDecodes", fn := fun _ => fun
  | [d1, d2] => { results := [.lit (.bool true)], args := [d1, d2] }
  | _ => none }
def commandDecodesRow : OpenClaim := { program := "ytahaecnopeffhabdoor", sum := "053895a894b1c7ecb226cfa6a77442ad8fc689ce771681927a76ffe27a785e29", func := "moot/mootlaw4.CommandDecodes", spec := "commandDecodes", inPlace := ["internal/reflectlite.TypeOf"], unfollowed := true, recurses := true, named := ["moot/wire.errShort", "moot/wire.errWide", "moot/wire.errForm", "moot/wire.errBig", "moot/wire.errLength", "moot/command.kinds"], apart := false, laid := [("moot/wire.errShort", laid_moot_wire_errShort), ("moot/wire.errWide", laid_moot_wire_errWide), ("moot/wire.errForm", laid_moot_wire_errForm), ("moot/wire.errBig", laid_moot_wire_errBig), ("moot/wire.errLength", laid_moot_wire_errLength), ("moot/command.kinds", laid_moot_command_kinds)] }
def CommandDecodesSaid : Prop := commandDecodesRow.holds Tryd.pinned (OpenSpec.ofChange commandDecodesSpec)

/-- ITS FALSE NEIGHBOUR: 'it returns false'. Refute it at one input. -/
def commandDecodesWrong : ChangeSpec := { name := "commandDecodes", fn := fun _ => fun
  | [d1, d2] => { results := [.lit (.bool false)], args := [d1, d2] }
  | _ => none }
def CommandDecodesWrongFalsely : Prop := commandDecodesRow.holds Tryd.pinned (OpenSpec.ofChange commandDecodesWrong)

/-- 'mootlaw4.CommandOwn': WHATEVER THE INPUT: true; the input reads as it did. -/
def commandOwnSpec : ChangeSpec := { name := "commandOwn", fn := fun _ => fun
  | [d1, d2] => { results := [.lit (.bool true)], args := [d1, d2] }
  | _ => none }
def commandOwnRow : OpenClaim := { program := "ytahaecnopeffhabdoor", sum := "053895a894b1c7ecb226cfa6a77442ad8fc689ce771681927a76ffe27a785e29", func := "moot/mootlaw4.CommandOwn", spec := "commandOwn", inPlace := ["internal/reflectlite.TypeOf"], unfollowed := true, recurses := true, named := ["moot/command.kinds", "moot/wire.errShort", "moot/wire.errWide", "moot/wire.errForm", "moot/wire.errBig", "moot/wire.errLength", "internal/strconv.uint64pow10", "math/bits.deBruijn32tab", "math/bits.deBruijn64tab"], apart := false, laid := [("math/bits.deBruijn32tab", laid_math_bits_deBruijn32tab), ("math/bits.deBruijn64tab", laid_math_bits_deBruijn64tab), ("internal/strconv.uint64pow10", laid_internal_strconv_uint64pow10), ("moot/wire.errShort", laid_moot_wire_errShort), ("moot/wire.errWide", laid_moot_wire_errWide), ("moot/wire.errForm", laid_moot_wire_errForm), ("moot/wire.errBig", laid_moot_wire_errBig), ("moot/wire.errLength", laid_moot_wire_errLength), ("moot/command.kinds", laid_moot_command_kinds)] }
def CommandOwnSaid : Prop := commandOwnRow.holds Tryd.pinned (OpenSpec.ofChange commandOwnSpec)

/-- ITS FALSE NEIGHBOUR: 'it returns false'. Refute it at one input. -/
def commandOwnWrong : ChangeSpec := { name := "commandOwn", fn := fun _ => fun
  | [d1, d2] => { results := [.lit (.bool false)], args := [d1, d2] }
  | _ => none }
def CommandOwnWrongFalsely : Prop := commandOwnRow.holds Tryd.pinned (OpenSpec.ofChange commandOwnWrong)

/- THE SECOND FORM. 'bulk': how many values and letters a reading holds, each counted each time it is reached (what is shared counts as often as it is met; a slice's spare places count too). A statement '..UptoSaid' is the law's where the arguments, and the package variables that the reading takes, are together of bulk at most 1048576: NARROWER than '..Said'. Prove '..Said' where nothing that the law and all that it calls make is longer than what came in: it says more and counts as full. Else prove '..UptoSaid'. A law counts once. -/
mutual
def uptoBulk {H : Type} : DataW H → Nat
  | .lit (.string bytes) => bytes.length + 1
  | .lit _ => 1
  | .nil => 1
  | .ptr d => uptoBulk d + 1
  | .slice elems spare => uptoBulkAll elems + uptoBulkAll spare + 1
  | .agg parts => uptoBulkAll parts + 1
  | .iface _ d => uptoBulk d + 1
  | .map entries => uptoBulkEntries entries + 1
  | .held _ => 1
def uptoBulkAll {H : Type} : List (DataW H) → Nat
  | [] => 0
  | d :: r => uptoBulk d + uptoBulkAll r
def uptoBulkEntries {H : Type} : List (Lit × DataW H) → Nat
  | [] => 0
  | x :: r => uptoBulkEntry x + uptoBulkEntries r
def uptoBulkEntry {H : Type} : Lit × DataW H → Nat
  | (.string bytes, d) => bytes.length + uptoBulk d + 1
  | (_, d) => uptoBulk d + 1
 end
def uptoSmall : (H : Type) → List (DataW H) → Bool := fun _ ds => decide (uptoBulkAll ds ≤ 1048576)
def OpenSpec.upto (s : _root_.Go.ChangeSpec) : _root_.Go.OpenSpec := { _root_.Go.OpenSpec.ofChange s with cond := some uptoSmall }

/-- 'mootlaw4.CommandOneForm', WHERE WHAT IT READS IS OF BULK AT MOST 1048576: true; the input reads as it did. -/
def commandOneFormUptoRow : OpenClaim := { program := "ytahaecnopeffhabdoor", sum := "053895a894b1c7ecb226cfa6a77442ad8fc689ce771681927a76ffe27a785e29", func := "moot/mootlaw4.CommandOneForm", spec := "commandOneForm", inPlace := ["internal/reflectlite.TypeOf"], unfollowed := true, recurses := true, named := ["moot/wire.errShort", "moot/wire.errWide", "moot/wire.errForm", "moot/wire.errBig", "moot/wire.errLength", "moot/command.kinds"], apart := false, laid := [("moot/wire.errShort", laid_moot_wire_errShort), ("moot/wire.errWide", laid_moot_wire_errWide), ("moot/wire.errForm", laid_moot_wire_errForm), ("moot/wire.errBig", laid_moot_wire_errBig), ("moot/wire.errLength", laid_moot_wire_errLength), ("moot/command.kinds", laid_moot_command_kinds)], narrowed := true }
def CommandOneFormUptoSaid : Prop := commandOneFormUptoRow.holds Tryd.pinned (OpenSpec.upto commandOneFormSpec)

/-- 'mootlaw4.CommandSpoilt', WHERE WHAT IT READS IS OF BULK AT MOST 1048576: true; the input reads as it did. -/
def commandSpoiltUptoRow : OpenClaim := { program := "ytahaecnopeffhabdoor", sum := "053895a894b1c7ecb226cfa6a77442ad8fc689ce771681927a76ffe27a785e29", func := "moot/mootlaw4.CommandSpoilt", spec := "commandSpoilt", inPlace := ["internal/reflectlite.TypeOf"], unfollowed := true, recurses := true, named := ["moot/command.kinds", "moot/wire.errShort", "moot/wire.errWide", "moot/wire.errForm", "moot/wire.errBig", "moot/wire.errLength"], apart := false, laid := [("moot/wire.errShort", laid_moot_wire_errShort), ("moot/wire.errWide", laid_moot_wire_errWide), ("moot/wire.errForm", laid_moot_wire_errForm), ("moot/wire.errBig", laid_moot_wire_errBig), ("moot/wire.errLength", laid_moot_wire_errLength), ("moot/command.kinds", laid_moot_command_kinds)], narrowed := true }
def CommandSpoiltUptoSaid : Prop := commandSpoiltUptoRow.holds Tryd.pinned (OpenSpec.upto commandSpoiltSpec)

/-- 'mootlaw4.CommandEncodes', WHERE WHAT IT READS IS OF BULK AT MOST 1048576: true; the input reads as it did. -/
def commandEncodesUptoRow : OpenClaim := { program := "ytahaecnopeffhabdoor", sum := "053895a894b1c7ecb226cfa6a77442ad8fc689ce771681927a76ffe27a785e29", func := "moot/mootlaw4.CommandEncodes", spec := "commandEncodes", named := ["moot/command.kinds"], apart := false, laid := [("moot/command.kinds", laid_moot_command_kinds)], narrowed := true }
def CommandEncodesUptoSaid : Prop := commandEncodesUptoRow.holds Tryd.pinned (OpenSpec.upto commandEncodesSpec)

/-- 'mootlaw4.CommandBack', WHERE WHAT IT READS IS OF BULK AT MOST 1048576: true; the input reads as it did. -/
def commandBackUptoRow : OpenClaim := { program := "ytahaecnopeffhabdoor", sum := "053895a894b1c7ecb226cfa6a77442ad8fc689ce771681927a76ffe27a785e29", func := "moot/mootlaw4.CommandBack", spec := "commandBack", inPlace := ["internal/reflectlite.TypeOf"], unfollowed := true, recurses := true, named := ["moot/command.kinds", "moot/wire.errShort", "moot/wire.errWide", "moot/wire.errForm", "moot/wire.errBig", "moot/wire.errLength"], apart := false, laid := [("moot/wire.errShort", laid_moot_wire_errShort), ("moot/wire.errWide", laid_moot_wire_errWide), ("moot/wire.errForm", laid_moot_wire_errForm), ("moot/wire.errBig", laid_moot_wire_errBig), ("moot/wire.errLength", laid_moot_wire_errLength), ("moot/command.kinds", laid_moot_command_kinds)], narrowed := true }
def CommandBackUptoSaid : Prop := commandBackUptoRow.holds Tryd.pinned (OpenSpec.upto commandBackSpec)

/-- 'mootlaw4.CommandDecodes', WHERE WHAT IT READS IS OF BULK AT MOST 1048576: true; the input reads as it did. -/
def commandDecodesUptoRow : OpenClaim := { program := "ytahaecnopeffhabdoor", sum := "053895a894b1c7ecb226cfa6a77442ad8fc689ce771681927a76ffe27a785e29", func := "moot/mootlaw4.CommandDecodes", spec := "commandDecodes", inPlace := ["internal/reflectlite.TypeOf"], unfollowed := true, recurses := true, named := ["moot/wire.errShort", "moot/wire.errWide", "moot/wire.errForm", "moot/wire.errBig", "moot/wire.errLength", "moot/command.kinds"], apart := false, laid := [("moot/wire.errShort", laid_moot_wire_errShort), ("moot/wire.errWide", laid_moot_wire_errWide), ("moot/wire.errForm", laid_moot_wire_errForm), ("moot/wire.errBig", laid_moot_wire_errBig), ("moot/wire.errLength", laid_moot_wire_errLength), ("moot/command.kinds", laid_moot_command_kinds)], narrowed := true }
def CommandDecodesUptoSaid : Prop := commandDecodesUptoRow.holds Tryd.pinned (OpenSpec.upto commandDecodesSpec)

/-- 'mootlaw4.CommandOwn', WHERE WHAT IT READS IS OF BULK AT MOST 1048576: true; the input reads as it did. -/
def commandOwnUptoRow : OpenClaim := { program := "ytahaecnopeffhabdoor", sum := "053895a894b1c7ecb226cfa6a77442ad8fc689ce771681927a76ffe27a785e29", func := "moot/mootlaw4.CommandOwn", spec := "commandOwn", inPlace := ["internal/reflectlite.TypeOf"], unfollowed := true, recurses := true, named := ["moot/command.kinds", "moot/wire.errShort", "moot/wire.errWide", "moot/wire.errForm", "moot/wire.errBig", "moot/wire.errLength", "internal/strconv.uint64pow10", "math/bits.deBruijn32tab", "math/bits.deBruijn64tab"], apart := false, laid := [("math/bits.deBruijn32tab", laid_math_bits_deBruijn32tab), ("math/bits.deBruijn64tab", laid_math_bits_deBruijn64tab), ("internal/strconv.uint64pow10", laid_internal_strconv_uint64pow10), ("moot/wire.errShort", laid_moot_wire_errShort), ("moot/wire.errWide", laid_moot_wire_errWide), ("moot/wire.errForm", laid_moot_wire_errForm), ("moot/wire.errBig", laid_moot_wire_errBig), ("moot/wire.errLength", laid_moot_wire_errLength), ("moot/command.kinds", laid_moot_command_kinds)], narrowed := true }
def CommandOwnUptoSaid : Prop := commandOwnUptoRow.holds Tryd.pinned (OpenSpec.upto commandOwnSpec)

end Rows
end Go.Proofs.YtahaecnopeffhabDoor
