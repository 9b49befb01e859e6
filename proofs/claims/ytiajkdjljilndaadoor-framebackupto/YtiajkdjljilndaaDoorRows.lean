/-
  NARROWER THAN 'FOR EVERY INPUT', by the rows' own cells (each row's printed sentence says how): FrameSticky: laid · FrameCuts: laid · FramePrefix: laid · FrameBack: laid · FrameDrains: laid.
  DERIVED. THE GIVEN ROWS OF THIS SEAT. 5 by the template 'for every input the law returns true; each argument reads behind the call as it read before'; 0 by the template 'total and deterministic' (their statements: YtiajkdjljilndaaDoorTotals.lean).
  GIVEN WITH THE SEED: the statements are not yours to turn. If you find one false, say at which input.
  Laid BY PROGRAM, IN A SANDBOX (cutbox-rows.mjs): the forced cells as the released guide's own fill.sh prints them over the translation 60138ee3d6e7f249… (all of the seat's roots in one cut). By AI agents, Wed Nov 11 2026. No macro, syntax, notation, axiom, sorry.
-/
import Derived.Test.YtiajkdjljilndaaDoorChecked
import GoSem.Claim
import GoSem.ClaimJoined
import GoSem.ClaimMapViews
import Derived.JoinedTies
import Derived.KernelRfl
namespace Go.Proofs.YtiajkdjljilndaaDoor
/- THE CELL 'sum', in the pinned program and in every row, IS THE sha256 OF THE DUMP (.gsa) THAT YtiajkdjljilndaaDoorProg.lean LOADS. Nothing in Lean hashes anything: it is a label: what it is worth is what the hold of that sum in a sandbox is worth. -/
noncomputable def Tryd.pinned : Pinned := { name := "ytiajkdjljilndaadoor", sum := "60138ee3d6e7f2496d949f9cff87e9ab72b658b9339f7b47536a873536083a0e", checked := Tryd.checked }
namespace Rows
def none {H : Type} : Left H := { results := [], args := [] }

/- WHAT THE LISTED PACKAGE-LEVEL VARIABLES READ AS WHEN THE CALL BEGINS. Each datum BY PROGRAM (the guide's laid-datum.mjs) off the statement by which the dump's own 'gosem.cut.vars' lays the variable. In a bare row this is a premise. The card (YtiajkdjljilndaaDoorCards.lean) ties it to the program's text. -/
def laid_moot_crc_halves {H : Type} : DataW H := .agg [.lit (.int .u32 0), .lit (.int .u32 274646895), .lit (.int .u32 549293790), .lit (.int .u32 820201905), .lit (.int .u32 1098587580), .lit (.int .u32 1361435347), .lit (.int .u32 1640403810), .lit (.int .u32 1905808397), .lit (.int .u32 2197175160), .lit (.int .u32 2460548119), .lit (.int .u32 2722870694), .lit (.int .u32 2987750089), .lit (.int .u32 3280807620), .lit (.int .u32 3553878443), .lit (.int .u32 3811616794), .lit (.int .u32 4084100981)]
def laid_moot_wire_errShort {H : Type} : DataW H := .iface "*errors.errorString" (.ptr (.agg [.lit (.string [119, 105, 114, 101, 58, 32, 116, 104, 101, 32, 98, 121, 116, 101, 115, 32, 101, 110, 100, 32, 105, 110, 115, 105, 100, 101, 32, 97, 110, 32, 105, 116, 101, 109])]))
def laid_moot_wire_errWide {H : Type} : DataW H := .iface "*errors.errorString" (.ptr (.agg [.lit (.string [119, 105, 114, 101, 58, 32, 97, 32, 110, 117, 109, 98, 101, 114, 32, 111, 102, 32, 109, 111, 114, 101, 32, 116, 104, 97, 110, 32, 54, 52, 32, 98, 105, 116, 115])]))
def laid_moot_wire_errForm {H : Type} : DataW H := .iface "*errors.errorString" (.ptr (.agg [.lit (.string [119, 105, 114, 101, 58, 32, 110, 111, 116, 32, 116, 104, 101, 32, 115, 104, 111, 114, 116, 101, 115, 116, 32, 102, 111, 114, 109])]))
def laid_moot_wire_errBig {H : Type} : DataW H := .iface "*errors.errorString" (.ptr (.agg [.lit (.string [119, 105, 114, 101, 58, 32, 97, 32, 110, 117, 109, 98, 101, 114, 32, 97, 98, 111, 118, 101, 32, 119, 104, 97, 116, 32, 105, 115, 32, 97, 108, 108, 111, 119, 101, 100])]))
def laid_moot_wire_errLength {H : Type} : DataW H := .iface "*errors.errorString" (.ptr (.agg [.lit (.string [119, 105, 114, 101, 58, 32, 97, 32, 116, 101, 120, 116, 39, 115, 32, 108, 101, 110, 103, 116, 104, 32, 111, 117, 116, 115, 105, 100, 101, 32, 119, 104, 97, 116, 32, 105, 115, 32, 97, 108, 108, 111, 119, 101, 100])]))

/-- 'mootlaw7.FrameSticky': WHATEVER THE INPUT: true; the input reads as it did. -/
def frameStickySpec : ChangeSpec := { name := "frameSticky", fn := fun _ => fun
  | [d1, d2, d3] => { results := [.lit (.bool true)], args := [d1, d2, d3] }
  | _ => none }
def frameStickyRow : OpenClaim := { program := "ytiajkdjljilndaadoor", sum := "60138ee3d6e7f2496d949f9cff87e9ab72b658b9339f7b47536a873536083a0e", func := "moot/mootlaw7.FrameSticky", spec := "frameSticky", inPlace := ["internal/reflectlite.TypeOf"], unfollowed := true, recurses := true, named := ["moot/wire.errShort", "moot/wire.errWide", "moot/wire.errForm", "moot/wire.errBig", "moot/wire.errLength", "moot/crc.halves"], apart := false, laid := [("moot/crc.halves", laid_moot_crc_halves), ("moot/wire.errShort", laid_moot_wire_errShort), ("moot/wire.errWide", laid_moot_wire_errWide), ("moot/wire.errForm", laid_moot_wire_errForm), ("moot/wire.errBig", laid_moot_wire_errBig), ("moot/wire.errLength", laid_moot_wire_errLength)] }
def FrameStickySaid : Prop := frameStickyRow.holds Tryd.pinned (OpenSpec.ofChange frameStickySpec)

/-- ITS FALSE NEIGHBOUR: 'it returns false'. Refute it at one input. -/
def frameStickyWrong : ChangeSpec := { name := "frameSticky", fn := fun _ => fun
  | [d1, d2, d3] => { results := [.lit (.bool false)], args := [d1, d2, d3] }
  | _ => none }
def FrameStickyWrongFalsely : Prop := frameStickyRow.holds Tryd.pinned (OpenSpec.ofChange frameStickyWrong)

/-- 'mootlaw7.FrameCuts': WHATEVER THE INPUT: true; the input reads as it did. -/
def frameCutsSpec : ChangeSpec := { name := "frameCuts", fn := fun _ => fun
  | [d1, d2, d3, d4] => { results := [.lit (.bool true)], args := [d1, d2, d3, d4] }
  | _ => none }
def frameCutsRow : OpenClaim := { program := "ytiajkdjljilndaadoor", sum := "60138ee3d6e7f2496d949f9cff87e9ab72b658b9339f7b47536a873536083a0e", func := "moot/mootlaw7.FrameCuts", spec := "frameCuts", inPlace := ["internal/reflectlite.TypeOf"], unfollowed := true, recurses := true, named := ["moot/wire.errShort", "moot/wire.errWide", "moot/wire.errForm", "moot/wire.errBig", "moot/wire.errLength", "moot/crc.halves"], apart := false, laid := [("moot/crc.halves", laid_moot_crc_halves), ("moot/wire.errShort", laid_moot_wire_errShort), ("moot/wire.errWide", laid_moot_wire_errWide), ("moot/wire.errForm", laid_moot_wire_errForm), ("moot/wire.errBig", laid_moot_wire_errBig), ("moot/wire.errLength", laid_moot_wire_errLength)] }
def FrameCutsSaid : Prop := frameCutsRow.holds Tryd.pinned (OpenSpec.ofChange frameCutsSpec)

/-- ITS FALSE NEIGHBOUR: 'it returns false'. Refute it at one input. -/
def frameCutsWrong : ChangeSpec := { name := "frameCuts", fn := fun _ => fun
  | [d1, d2, d3, d4] => { results := [.lit (.bool false)], args := [d1, d2, d3, d4] }
  | _ => none }
def FrameCutsWrongFalsely : Prop := frameCutsRow.holds Tryd.pinned (OpenSpec.ofChange frameCutsWrong)

/-- 'mootlaw7.FramePrefix': WHATEVER THE INPUT: true; the input reads as it did. -/
def framePrefixSpec : ChangeSpec := { name := "framePrefix", fn := fun _ => fun
  | [d1, d2, d3] => { results := [.lit (.bool true)], args := [d1, d2, d3] }
  | _ => none }
def framePrefixRow : OpenClaim := { program := "ytiajkdjljilndaadoor", sum := "60138ee3d6e7f2496d949f9cff87e9ab72b658b9339f7b47536a873536083a0e", func := "moot/mootlaw7.FramePrefix", spec := "framePrefix", inPlace := ["internal/reflectlite.TypeOf"], unfollowed := true, recurses := true, named := ["moot/wire.errShort", "moot/wire.errWide", "moot/wire.errForm", "moot/wire.errBig", "moot/wire.errLength", "moot/crc.halves"], apart := false, laid := [("moot/crc.halves", laid_moot_crc_halves), ("moot/wire.errShort", laid_moot_wire_errShort), ("moot/wire.errWide", laid_moot_wire_errWide), ("moot/wire.errForm", laid_moot_wire_errForm), ("moot/wire.errBig", laid_moot_wire_errBig), ("moot/wire.errLength", laid_moot_wire_errLength)] }
def FramePrefixSaid : Prop := framePrefixRow.holds Tryd.pinned (OpenSpec.ofChange framePrefixSpec)

/-- ITS FALSE NEIGHBOUR: 'it returns false'. Refute it at one input. -/
def framePrefixWrong : ChangeSpec := { name := "framePrefix", fn := fun _ => fun
  | [d1, d2, d3] => { results := [.lit (.bool false)], args := [d1, d2, d3] }
  | _ => none }
def FramePrefixWrongFalsely : Prop := framePrefixRow.holds Tryd.pinned (OpenSpec.ofChange framePrefixWrong)

/-- 'mootlaw7.FrameBack': WHATEVER THE INPUT: true; the input reads as it did. -/
def frameBackSpec : ChangeSpec := { name := "frameBack", fn := fun _ => fun
  | [d1, d2, d3, d4] => { results := [.lit (.bool true)], args := [d1, d2, d3, d4] }
  | _ => none }
def frameBackRow : OpenClaim := { program := "ytiajkdjljilndaadoor", sum := "60138ee3d6e7f2496d949f9cff87e9ab72b658b9339f7b47536a873536083a0e", func := "moot/mootlaw7.FrameBack", spec := "frameBack", inPlace := ["internal/reflectlite.TypeOf"], unfollowed := true, recurses := true, named := ["moot/wire.errShort", "moot/wire.errWide", "moot/wire.errForm", "moot/wire.errBig", "moot/wire.errLength", "moot/crc.halves"], apart := false, laid := [("moot/crc.halves", laid_moot_crc_halves), ("moot/wire.errShort", laid_moot_wire_errShort), ("moot/wire.errWide", laid_moot_wire_errWide), ("moot/wire.errForm", laid_moot_wire_errForm), ("moot/wire.errBig", laid_moot_wire_errBig), ("moot/wire.errLength", laid_moot_wire_errLength)] }
def FrameBackSaid : Prop := frameBackRow.holds Tryd.pinned (OpenSpec.ofChange frameBackSpec)

/-- ITS FALSE NEIGHBOUR: 'it returns false'. Refute it at one input. -/
def frameBackWrong : ChangeSpec := { name := "frameBack", fn := fun _ => fun
  | [d1, d2, d3, d4] => { results := [.lit (.bool false)], args := [d1, d2, d3, d4] }
  | _ => none }
def FrameBackWrongFalsely : Prop := frameBackRow.holds Tryd.pinned (OpenSpec.ofChange frameBackWrong)

/-- 'mootlaw7.FrameDrains': WHATEVER THE INPUT: true; the input reads as it did. -/
def frameDrainsSpec : ChangeSpec := { name := "frameDrains", fn := fun _ => fun
  | [d1, d2] => { results := [.lit (.bool true)], args := [d1, d2] }
  | _ => none }
def frameDrainsRow : OpenClaim := { program := "ytiajkdjljilndaadoor", sum := "60138ee3d6e7f2496d949f9cff87e9ab72b658b9339f7b47536a873536083a0e", func := "moot/mootlaw7.FrameDrains", spec := "frameDrains", inPlace := ["internal/reflectlite.TypeOf"], unfollowed := true, recurses := true, named := ["moot/wire.errShort", "moot/wire.errWide", "moot/wire.errForm", "moot/wire.errBig", "moot/wire.errLength", "moot/crc.halves"], apart := false, laid := [("moot/crc.halves", laid_moot_crc_halves), ("moot/wire.errShort", laid_moot_wire_errShort), ("moot/wire.errWide", laid_moot_wire_errWide), ("moot/wire.errForm", laid_moot_wire_errForm), ("moot/wire.errBig", laid_moot_wire_errBig), ("moot/wire.errLength", laid_moot_wire_errLength)] }
def FrameDrainsSaid : Prop := frameDrainsRow.holds Tryd.pinned (OpenSpec.ofChange frameDrainsSpec)

/-- ITS FALSE NEIGHBOUR: 'it returns false'. Refute it at one input. -/
def frameDrainsWrong : ChangeSpec := { name := "frameDrains", fn := fun _ => fun
  | [d1, d2] => { results := [.lit (.bool false)], args := [d1, d2] }
  | _ => none }
def FrameDrainsWrongFalsely : Prop := frameDrainsRow.holds Tryd.pinned (OpenSpec.ofChange frameDrainsWrong)

/- THE SECOND FORM. 'bulk': how many values and letters a reading holds, each counted each time it is reached (what is shared counts as often as it is met; a slice's spare places count too). A statement '..UptoSaid' is the law's where the arguments, and the package variables that the reading takes, are together of bulk at most 1048576: NARROWER than '..Said'. Prove '..Said' where nothing that the law and all that it calls make is longer than what came in: it says more and counts as full. Else prove '..UptoSaid'. A law counts once. -/
mutual
def uptoBulk {H : Type} : DataW H → Nat
  | .lit (.string bytes) => bytes.length + 1
  | .lit _ => 1
  | .nil => 1
  | .ptr d => uptoBulk d + 1
  | .slice elems spare => uptoBulkAll elems + uptoBulkAll spare + 1
  | .agg parts => uptoBulkAll parts + 1
  | .iface _ d => uptoBulk d + 1
  | .map entries => uptoBulkEntries entries + 1
  | .held _ => 1
def uptoBulkAll {H : Type} : List (DataW H) → Nat
  | [] => 0
  | d :: r => uptoBulk d + uptoBulkAll r
def uptoBulkEntries {H : Type} : List (Lit × DataW H) → Nat
  | [] => 0
  | x :: r => uptoBulkEntry x + uptoBulkEntries r
def uptoBulkEntry {H : Type} : Lit × DataW H → Nat
  | (.string bytes, d) => bytes.length + uptoBulk d + 1
  | (_, d) => uptoBulk d + 1
 end
def uptoSmall : (H : Type) → List (DataW H) → Bool := fun _ ds => decide (uptoBulkAll ds ≤ 1048576)
def OpenSpec.upto (s : _root_.Go.ChangeSpec) : _root_.Go.OpenSpec := { _root_.Go.OpenSpec.ofChange s with cond := some uptoSmall }

/-- 'mootlaw7.FrameSticky', WHERE WHAT IT READS IS OF BULK AT MOST 1048576: true; the input reads as it did. -/
def frameStickyUptoRow : OpenClaim := { program := "ytiajkdjljilndaadoor", sum := "60138ee3d6e7f2496d949f9cff87e9ab72b658b9339f7b47536a873536083a0e", func := "moot/mootlaw7.FrameSticky", spec := "frameSticky", inPlace := ["internal/reflectlite.TypeOf"], unfollowed := true, recurses := true, named := ["moot/wire.errShort", "moot/wire.errWide", "moot/wire.errForm", "moot/wire.errBig", "moot/wire.errLength", "moot/crc.halves"], apart := false, laid := [("moot/crc.halves", laid_moot_crc_halves), ("moot/wire.errShort", laid_moot_wire_errShort), ("moot/wire.errWide", laid_moot_wire_errWide), ("moot/wire.errForm", laid_moot_wire_errForm), ("moot/wire.errBig", laid_moot_wire_errBig), ("moot/wire.errLength", laid_moot_wire_errLength)], narrowed := true }
def FrameStickyUptoSaid : Prop := frameStickyUptoRow.holds Tryd.pinned (OpenSpec.upto frameStickySpec)

/-- 'mootlaw7.FrameCuts', WHERE WHAT IT READS IS OF BULK AT MOST 1048576: true; the input reads as it did. -/
def frameCutsUptoRow : OpenClaim := { program := "ytiajkdjljilndaadoor", sum := "60138ee3d6e7f2496d949f9cff87e9ab72b658b9339f7b47536a873536083a0e", func := "moot/mootlaw7.FrameCuts", spec := "frameCuts", inPlace := ["internal/reflectlite.TypeOf"], unfollowed := true, recurses := true, named := ["moot/wire.errShort", "moot/wire.errWide", "moot/wire.errForm", "moot/wire.errBig", "moot/wire.errLength", "moot/crc.halves"], apart := false, laid := [("moot/crc.halves", laid_moot_crc_halves), ("moot/wire.errShort", laid_moot_wire_errShort), ("moot/wire.errWide", laid_moot_wire_errWide), ("moot/wire.errForm", laid_moot_wire_errForm), ("moot/wire.errBig", laid_moot_wire_errBig), ("moot/wire.errLength", laid_moot_wire_errLength)], narrowed := true }
def FrameCutsUptoSaid : Prop := frameCutsUptoRow.holds Tryd.pinned (OpenSpec.upto frameCutsSpec)

/-- 'mootlaw7.FramePrefix', WHERE WHAT IT READS IS OF BULK AT MOST 1048576: true; the input reads as it did. -/
def framePrefixUptoRow : OpenClaim := { program := "ytiajkdjljilndaadoor", sum := "60138ee3d6e7f2496d949f9cff87e9ab72b658b9339f7b47536a873536083a0e", func := "moot/mootlaw7.FramePrefix", spec := "framePrefix", inPlace := ["internal/reflectlite.TypeOf"], unfollowed := true, recurses := true, named := ["moot/wire.errShort", "moot/wire.errWide", "moot/wire.errForm", "moot/wire.errBig", "moot/wire.errLength", "moot/crc.halves"], apart := false, laid := [("moot/crc.halves", laid_moot_crc_halves), ("moot/wire.errShort", laid_moot_wire_errShort), ("moot/wire.errWide", laid_moot_wire_errWide), ("moot/wire.errForm", laid_moot_wire_errForm), ("moot/wire.errBig", laid_moot_wire_errBig), ("moot/wire.errLength", laid_moot_wire_errLength)], narrowed := true }
def FramePrefixUptoSaid : Prop := framePrefixUptoRow.holds Tryd.pinned (OpenSpec.upto framePrefixSpec)

/-- 'mootlaw7.FrameBack', WHERE WHAT IT READS IS OF BULK AT MOST 1048576: true; the input reads as it did. -/
def frameBackUptoRow : OpenClaim := { program := "ytiajkdjljilndaadoor", sum := "60138ee3d6e7f2496d949f9cff87e9ab72b658b9339f7b47536a873536083a0e", func := "moot/mootlaw7.FrameBack", spec := "frameBack", inPlace := ["internal/reflectlite.TypeOf"], unfollowed := true, recurses := true, named := ["moot/wire.errShort", "moot/wire.errWide", "moot/wire.errForm", "moot/wire.errBig", "moot/wire.errLength", "moot/crc.halves"], apart := false, laid := [("moot/crc.halves", laid_moot_crc_halves), ("moot/wire.errShort", laid_moot_wire_errShort), ("moot/wire.errWide", laid_moot_wire_errWide), ("moot/wire.errForm", laid_moot_wire_errForm), ("moot/wire.errBig", laid_moot_wire_errBig), ("moot/wire.errLength", laid_moot_wire_errLength)], narrowed := true }
def FrameBackUptoSaid : Prop := frameBackUptoRow.holds Tryd.pinned (OpenSpec.upto frameBackSpec)

/-- 'mootlaw7.FrameDrains', WHERE WHAT IT READS IS OF BULK AT MOST 1048576: true; the input reads as it did. -/
def frameDrainsUptoRow : OpenClaim := { program := "ytiajkdjljilndaadoor", sum := "60138ee3d6e7f2496d949f9cff87e9ab72b658b9339f7b47536a873536083a0e", func := "moot/mootlaw7.FrameDrains", spec := "frameDrains", inPlace := ["internal/reflectlite.TypeOf"], unfollowed := true, recurses := true, named := ["moot/wire.errShort", "moot/wire.errWide", "moot/wire.errForm", "moot/wire.errBig", "moot/wire.errLength", "moot/crc.halves"], apart := false, laid := [("moot/crc.halves", laid_moot_crc_halves), ("moot/wire.errShort", laid_moot_wire_errShort), ("moot/wire.errWide", laid_moot_wire_errWide), ("moot/wire.errForm", laid_moot_wire_errForm), ("moot/wire.errBig", laid_moot_wire_errBig), ("moot/wire.errLength", laid_moot_wire_errLength)], narrowed := true }
def FrameDrainsUptoSaid : Prop := frameDrainsUptoRow.holds Tryd.pinned (OpenSpec.upto frameDrainsSpec)

end Rows
end Go.Proofs.YtiajkdjljilndaaDoor
