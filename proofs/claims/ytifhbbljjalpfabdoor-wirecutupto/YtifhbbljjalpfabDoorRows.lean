/-
  NARROWER THAN 'FOR EVERY INPUT', by the rows' own cells (each row's printed sentence says how): WireBounds: laid · WireStuck: laid · WireItems: laid · WireCut: laid · WireOwn: laid · WireReads: laid.
  DERIVED. THE GIVEN ROWS OF THIS SEAT. 6 by the template 'for every input the law returns true; each argument reads behind the call as it read before'; 0 by the template 'total and deterministic' (their statements: YtifhbbljjalpfabDoorTotals.lean).
  GIVEN WITH THE SEED: the statements are not yours to turn. If you find one false, say at which input.
  Laid BY PROGRAM, IN A SANDBOX (cutbox-rows.mjs): the forced cells as the released guide's own fill.sh prints them over the translation 6f9ae1e40682fcda… (all of the seat's roots in one cut). By AI agents, Wed Nov 11 2026. No macro, syntax, notation, axiom, sorry.
-/
import Derived.Test.YtifhbbljjalpfabDoorChecked
import GoSem.Claim
import GoSem.ClaimJoined
import GoSem.ClaimMapViews
import Derived.JoinedTies
import Derived.KernelRfl
namespace Go.Proofs.YtifhbbljjalpfabDoor
/- THE CELL 'sum', in the pinned program and in every row, IS THE sha256 OF THE DUMP (.gsa) THAT YtifhbbljjalpfabDoorProg.lean LOADS. Nothing in Lean hashes anything: it is a label: what it is worth is what the hold of that sum in a sandbox is worth. -/
noncomputable def Tryd.pinned : Pinned := { name := "ytifhbbljjalpfabdoor", sum := "6f9ae1e40682fcda22ffacb2b178690f4474a1b66e5a5e91d51f8e19c9457ed1", checked := Tryd.checked }
namespace Rows
def none {H : Type} : Left H := { results := [], args := [] }

/- WHAT THE LISTED PACKAGE-LEVEL VARIABLES READ AS WHEN THE CALL BEGINS. Each datum BY PROGRAM (the guide's laid-datum.mjs) off the statement by which the dump's own 'gosem.cut.vars' lays the variable. In a bare row this is a premise. The card (YtifhbbljjalpfabDoorCards.lean) ties it to the program's text. -/
def laid_moot_wire_errShort {H : Type} : DataW H := .iface "*errors.errorString" (.ptr (.agg [.lit (.string [119, 105, 114, 101, 58, 32, 116, 104, 101, 32, 98, 121, 116, 101, 115, 32, 101, 110, 100, 32, 105, 110, 115, 105, 100, 101, 32, 97, 110, 32, 105, 116, 101, 109])]))
def laid_moot_wire_errWide {H : Type} : DataW H := .iface "*errors.errorString" (.ptr (.agg [.lit (.string [119, 105, 114, 101, 58, 32, 97, 32, 110, 117, 109, 98, 101, 114, 32, 111, 102, 32, 109, 111, 114, 101, 32, 116, 104, 97, 110, 32, 54, 52, 32, 98, 105, 116, 115])]))
def laid_moot_wire_errForm {H : Type} : DataW H := .iface "*errors.errorString" (.ptr (.agg [.lit (.string [119, 105, 114, 101, 58, 32, 110, 111, 116, 32, 116, 104, 101, 32, 115, 104, 111, 114, 116, 101, 115, 116, 32, 102, 111, 114, 109])]))
def laid_moot_wire_errBig {H : Type} : DataW H := .iface "*errors.errorString" (.ptr (.agg [.lit (.string [119, 105, 114, 101, 58, 32, 97, 32, 110, 117, 109, 98, 101, 114, 32, 97, 98, 111, 118, 101, 32, 119, 104, 97, 116, 32, 105, 115, 32, 97, 108, 108, 111, 119, 101, 100])]))
def laid_moot_wire_errLength {H : Type} : DataW H := .iface "*errors.errorString" (.ptr (.agg [.lit (.string [119, 105, 114, 101, 58, 32, 97, 32, 116, 101, 120, 116, 39, 115, 32, 108, 101, 110, 103, 116, 104, 32, 111, 117, 116, 115, 105, 100, 101, 32, 119, 104, 97, 116, 32, 105, 115, 32, 97, 108, 108, 111, 119, 101, 100])]))

/-- 'mootlaw1.WireBounds': WHATEVER THE INPUT: true; the input reads as it did. -/
def wireBoundsSpec : ChangeSpec := { name := "wireBounds", fn := fun _ => fun
  | [d1, d2, d3, d4, d5, d6, d7] => { results := [.lit (.bool true)], args := [d1, d2, d3, d4, d5, d6, d7] }
  | _ => none }
def wireBoundsRow : OpenClaim := { program := "ytifhbbljjalpfabdoor", sum := "6f9ae1e40682fcda22ffacb2b178690f4474a1b66e5a5e91d51f8e19c9457ed1", func := "moot/mootlaw1.WireBounds", spec := "wireBounds", inPlace := ["internal/reflectlite.TypeOf"], unfollowed := true, recurses := true, named := ["moot/wire.errShort", "moot/wire.errWide", "moot/wire.errForm", "moot/wire.errBig", "moot/wire.errLength"], apart := false, laid := [("moot/wire.errShort", laid_moot_wire_errShort), ("moot/wire.errWide", laid_moot_wire_errWide), ("moot/wire.errForm", laid_moot_wire_errForm), ("moot/wire.errBig", laid_moot_wire_errBig), ("moot/wire.errLength", laid_moot_wire_errLength)] }
def WireBoundsSaid : Prop := wireBoundsRow.holds Tryd.pinned (OpenSpec.ofChange wireBoundsSpec)

/-- ITS FALSE NEIGHBOUR: 'it returns false'. Refute it at one input. -/
def wireBoundsWrong : ChangeSpec := { name := "wireBounds", fn := fun _ => fun
  | [d1, d2, d3, d4, d5, d6, d7] => { results := [.lit (.bool false)], args := [d1, d2, d3, d4, d5, d6, d7] }
  | _ => none }
def WireBoundsWrongFalsely : Prop := wireBoundsRow.holds Tryd.pinned (OpenSpec.ofChange wireBoundsWrong)

/-- 'mootlaw1.WireStuck': WHATEVER THE INPUT: true; the input reads as it did. -/
def wireStuckSpec : ChangeSpec := { name := "wireStuck", fn := fun _ => fun
  | [d1, d2, d3] => { results := [.lit (.bool true)], args := [d1, d2, d3] }
  | _ => none }
def wireStuckRow : OpenClaim := { program := "ytifhbbljjalpfabdoor", sum := "6f9ae1e40682fcda22ffacb2b178690f4474a1b66e5a5e91d51f8e19c9457ed1", func := "moot/mootlaw1.WireStuck", spec := "wireStuck", inPlace := ["internal/reflectlite.TypeOf"], unfollowed := true, recurses := true, named := ["moot/wire.errShort", "moot/wire.errWide", "moot/wire.errForm", "moot/wire.errBig", "moot/wire.errLength"], apart := false, laid := [("moot/wire.errShort", laid_moot_wire_errShort), ("moot/wire.errWide", laid_moot_wire_errWide), ("moot/wire.errForm", laid_moot_wire_errForm), ("moot/wire.errBig", laid_moot_wire_errBig), ("moot/wire.errLength", laid_moot_wire_errLength)] }
def WireStuckSaid : Prop := wireStuckRow.holds Tryd.pinned (OpenSpec.ofChange wireStuckSpec)

/-- ITS FALSE NEIGHBOUR: 'it returns false'. Refute it at one input. -/
def wireStuckWrong : ChangeSpec := { name := "wireStuck", fn := fun _ => fun
  | [d1, d2, d3] => { results := [.lit (.bool false)], args := [d1, d2, d3] }
  | _ => none }
def WireStuckWrongFalsely : Prop := wireStuckRow.holds Tryd.pinned (OpenSpec.ofChange wireStuckWrong)

/-- 'mootlaw1.WireItems': WHATEVER THE INPUT: true; the input reads as it did. -/
def wireItemsSpec : ChangeSpec := { name := "wireItems", fn := fun _ => fun
  | [d1, d2] => { results := [.lit (.bool true)], args := [d1, d2] }
  | _ => none }
def wireItemsRow : OpenClaim := { program := "ytifhbbljjalpfabdoor", sum := "6f9ae1e40682fcda22ffacb2b178690f4474a1b66e5a5e91d51f8e19c9457ed1", func := "moot/mootlaw1.WireItems", spec := "wireItems", inPlace := ["internal/reflectlite.TypeOf"], unfollowed := true, recurses := true, named := ["moot/wire.errShort", "moot/wire.errWide", "moot/wire.errForm", "moot/wire.errBig", "moot/wire.errLength"], apart := false, laid := [("moot/wire.errShort", laid_moot_wire_errShort), ("moot/wire.errWide", laid_moot_wire_errWide), ("moot/wire.errForm", laid_moot_wire_errForm), ("moot/wire.errBig", laid_moot_wire_errBig), ("moot/wire.errLength", laid_moot_wire_errLength)] }
def WireItemsSaid : Prop := wireItemsRow.holds Tryd.pinned (OpenSpec.ofChange wireItemsSpec)

/-- ITS FALSE NEIGHBOUR: 'it returns false'. Refute it at one input. -/
def wireItemsWrong : ChangeSpec := { name := "wireItems", fn := fun _ => fun
  | [d1, d2] => { results := [.lit (.bool false)], args := [d1, d2] }
  | _ => none }
def WireItemsWrongFalsely : Prop := wireItemsRow.holds Tryd.pinned (OpenSpec.ofChange wireItemsWrong)

/-- 'mootlaw1.WireCut': WHATEVER THE INPUT: true; the input reads as it did. -/
def wireCutSpec : ChangeSpec := { name := "wireCut", fn := fun _ => fun
  | [d1, d2] => { results := [.lit (.bool true)], args := [d1, d2] }
  | _ => none }
def wireCutRow : OpenClaim := { program := "ytifhbbljjalpfabdoor", sum := "6f9ae1e40682fcda22ffacb2b178690f4474a1b66e5a5e91d51f8e19c9457ed1", func := "moot/mootlaw1.WireCut", spec := "wireCut", inPlace := ["internal/reflectlite.TypeOf"], unfollowed := true, recurses := true, named := ["moot/wire.errShort", "moot/wire.errWide", "moot/wire.errForm", "moot/wire.errBig", "moot/wire.errLength"], apart := false, laid := [("moot/wire.errShort", laid_moot_wire_errShort), ("moot/wire.errWide", laid_moot_wire_errWide), ("moot/wire.errForm", laid_moot_wire_errForm), ("moot/wire.errBig", laid_moot_wire_errBig), ("moot/wire.errLength", laid_moot_wire_errLength)] }
def WireCutSaid : Prop := wireCutRow.holds Tryd.pinned (OpenSpec.ofChange wireCutSpec)

/-- ITS FALSE NEIGHBOUR: 'it returns false'. Refute it at one input. -/
def wireCutWrong : ChangeSpec := { name := "wireCut", fn := fun _ => fun
  | [d1, d2] => { results := [.lit (.bool false)], args := [d1, d2] }
  | _ => none }
def WireCutWrongFalsely : Prop := wireCutRow.holds Tryd.pinned (OpenSpec.ofChange wireCutWrong)

/-- 'mootlaw1.WireOwn': WHATEVER THE INPUT: true; the input reads as it did. -/
def wireOwnSpec : ChangeSpec := { name := "wireOwn", fn := fun _ => fun
  | [d1, d2] => { results := [.lit (.bool true)], args := [d1, d2] }
  | _ => none }
def wireOwnRow : OpenClaim := { program := "ytifhbbljjalpfabdoor", sum := "6f9ae1e40682fcda22ffacb2b178690f4474a1b66e5a5e91d51f8e19c9457ed1", func := "moot/mootlaw1.WireOwn", spec := "wireOwn", inPlace := ["internal/reflectlite.TypeOf"], unfollowed := true, recurses := true, named := ["moot/wire.errShort", "moot/wire.errWide", "moot/wire.errForm", "moot/wire.errBig", "moot/wire.errLength"], apart := false, laid := [("moot/wire.errShort", laid_moot_wire_errShort), ("moot/wire.errWide", laid_moot_wire_errWide), ("moot/wire.errForm", laid_moot_wire_errForm), ("moot/wire.errBig", laid_moot_wire_errBig), ("moot/wire.errLength", laid_moot_wire_errLength)] }
def WireOwnSaid : Prop := wireOwnRow.holds Tryd.pinned (OpenSpec.ofChange wireOwnSpec)

/-- ITS FALSE NEIGHBOUR: 'it returns false'. Refute it at one input. -/
def wireOwnWrong : ChangeSpec := { name := "wireOwn", fn := fun _ => fun
  | [d1, d2] => { results := [.lit (.bool false)], args := [d1, d2] }
  | _ => none }
def WireOwnWrongFalsely : Prop := wireOwnRow.holds Tryd.pinned (OpenSpec.ofChange wireOwnWrong)

/-- 'mootlaw1.WireReads': WHATEVER THE INPUT: true; the input reads as it did. -/
def wireReadsSpec : ChangeSpec := { name := "wireReads", fn := fun _ => fun
  | [d1, d2, d3] => { results := [.lit (.bool true)], args := [d1, d2, d3] }
  | _ => none }
def wireReadsRow : OpenClaim := { program := "ytifhbbljjalpfabdoor", sum := "6f9ae1e40682fcda22ffacb2b178690f4474a1b66e5a5e91d51f8e19c9457ed1", func := "moot/mootlaw1.WireReads", spec := "wireReads", inPlace := ["internal/reflectlite.TypeOf"], unfollowed := true, recurses := true, named := ["moot/wire.errShort", "moot/wire.errWide", "moot/wire.errForm", "moot/wire.errBig", "moot/wire.errLength"], apart := false, laid := [("moot/wire.errShort", laid_moot_wire_errShort), ("moot/wire.errWide", laid_moot_wire_errWide), ("moot/wire.errForm", laid_moot_wire_errForm), ("moot/wire.errBig", laid_moot_wire_errBig), ("moot/wire.errLength", laid_moot_wire_errLength)] }
def WireReadsSaid : Prop := wireReadsRow.holds Tryd.pinned (OpenSpec.ofChange wireReadsSpec)

/-- ITS FALSE NEIGHBOUR: 'it returns false'. Refute it at one input. -/
def wireReadsWrong : ChangeSpec := { name := "wireReads", fn := fun _ => fun
  | [d1, d2, d3] => { results := [.lit (.bool false)], args := [d1, d2, d3] }
  | _ => none }
def WireReadsWrongFalsely : Prop := wireReadsRow.holds Tryd.pinned (OpenSpec.ofChange wireReadsWrong)

/- THE SECOND FORM. 'bulk': how many values and letters a reading holds, each counted each time it is reached (what is shared counts as often as it is met; a slice's spare places count too). A statement '..UptoSaid' is the law's where the arguments, and the package variables that the reading takes, are together of bulk at most 1048576: NARROWER than '..Said'. Prove '..Said' where nothing that the law and all that it calls make is longer than what came in: it says more and counts as full. Else prove '..UptoSaid'. A law counts once. -/
mutual
def uptoBulk {H : Type} : DataW H → Nat
  | .lit (.string bytes) => bytes.length + 1
  | .lit _ => 1
  | .nil => 1
  | .ptr d => uptoBulk d + 1
  | .slice elems spare => uptoBulkAll elems + uptoBulkAll spare + 1
  | .agg parts => uptoBulkAll parts + 1
  | .iface _ d => uptoBulk d + 1
  | .map entries => uptoBulkEntries entries + 1
  | .held _ => 1
def uptoBulkAll {H : Type} : List (DataW H) → Nat
  | [] => 0
  | d :: r => uptoBulk d + uptoBulkAll r
def uptoBulkEntries {H : Type} : List (Lit × DataW H) → Nat
  | [] => 0
  | x :: r => uptoBulkEntry x + uptoBulkEntries r
def uptoBulkEntry {H : Type} : Lit × DataW H → Nat
  | (.string bytes, d) => bytes.length + uptoBulk d + 1
  | (_, d) => uptoBulk d + 1
 end
def uptoSmall : (H : Type) → List (DataW H) → Bool := fun _ ds => decide (uptoBulkAll ds ≤ 1048576)
def OpenSpec.upto (s : _root_.Go.ChangeSpec) : _root_.Go.OpenSpec := { _root_.Go.OpenSpec.ofChange s with cond := some uptoSmall }

/-- 'mootlaw1.WireBounds', WHERE WHAT IT READS IS OF BULK AT MOST 1048576: true; the input reads as it did. -/
def wireBoundsUptoRow : OpenClaim := { program := "ytifhbbljjalpfabdoor", sum := "6f9ae1e40682fcda22ffacb2b178690f4474a1b66e5a5e91d51f8e19c9457ed1", func := "moot/mootlaw1.WireBounds", spec := "wireBounds", inPlace := ["internal/reflectlite.TypeOf"], unfollowed := true, recurses := true, named := ["moot/wire.errShort", "moot/wire.errWide", "moot/wire.errForm", "moot/wire.errBig", "moot/wire.errLength"], apart := false, laid := [("moot/wire.errShort", laid_moot_wire_errShort), ("moot/wire.errWide", laid_moot_wire_errWide), ("moot/wire.errForm", laid_moot_wire_errForm), ("moot/wire.errBig", laid_moot_wire_errBig), ("moot/wire.errLength", laid_moot_wire_errLength)], narrowed := true }
def WireBoundsUptoSaid : Prop := wireBoundsUptoRow.holds Tryd.pinned (OpenSpec.upto wireBoundsSpec)

/-- 'mootlaw1.WireStuck', WHERE WHAT IT READS IS OF BULK AT MOST 1048576: true; the input reads as it did. -/
def wireStuckUptoRow : OpenClaim := { program := "ytifhbbljjalpfabdoor", sum := "6f9ae1e40682fcda22ffacb2b178690f4474a1b66e5a5e91d51f8e19c9457ed1", func := "moot/mootlaw1.WireStuck", spec := "wireStuck", inPlace := ["internal/reflectlite.TypeOf"], unfollowed := true, recurses := true, named := ["moot/wire.errShort", "moot/wire.errWide", "moot/wire.errForm", "moot/wire.errBig", "moot/wire.errLength"], apart := false, laid := [("moot/wire.errShort", laid_moot_wire_errShort), ("moot/wire.errWide", laid_moot_wire_errWide), ("moot/wire.errForm", laid_moot_wire_errForm), ("moot/wire.errBig", laid_moot_wire_errBig), ("moot/wire.errLength", laid_moot_wire_errLength)], narrowed := true }
def WireStuckUptoSaid : Prop := wireStuckUptoRow.holds Tryd.pinned (OpenSpec.upto wireStuckSpec)

/-- 'mootlaw1.WireItems', WHERE WHAT IT READS IS OF BULK AT MOST 1048576: true; the input reads as it did. -/
def wireItemsUptoRow : OpenClaim := { program := "ytifhbbljjalpfabdoor", sum := "6f9ae1e40682fcda22ffacb2b178690f4474a1b66e5a5e91d51f8e19c9457ed1", func := "moot/mootlaw1.WireItems", spec := "wireItems", inPlace := ["internal/reflectlite.TypeOf"], unfollowed := true, recurses := true, named := ["moot/wire.errShort", "moot/wire.errWide", "moot/wire.errForm", "moot/wire.errBig", "moot/wire.errLength"], apart := false, laid := [("moot/wire.errShort", laid_moot_wire_errShort), ("moot/wire.errWide", laid_moot_wire_errWide), ("moot/wire.errForm", laid_moot_wire_errForm), ("moot/wire.errBig", laid_moot_wire_errBig), ("moot/wire.errLength", laid_moot_wire_errLength)], narrowed := true }
def WireItemsUptoSaid : Prop := wireItemsUptoRow.holds Tryd.pinned (OpenSpec.upto wireItemsSpec)

/-- 'mootlaw1.WireCut', WHERE WHAT IT READS IS OF BULK AT MOST 1048576: true; the input reads as it did. -/
def wireCutUptoRow : OpenClaim := { program := "ytifhbbljjalpfabdoor", sum := "6f9ae1e40682fcda22ffacb2b178690f4474a1b66e5a5e91d51f8e19c9457ed1", func := "moot/mootlaw1.WireCut", spec := "wireCut", inPlace := ["internal/reflectlite.TypeOf"], unfollowed := true, recurses := true, named := ["moot/wire.errShort", "moot/wire.errWide", "moot/wire.errForm", "moot/wire.errBig", "moot/wire.errLength"], apart := false, laid := [("moot/wire.errShort", laid_moot_wire_errShort), ("moot/wire.errWide", laid_moot_wire_errWide), ("moot/wire.errForm", laid_moot_wire_errForm), ("moot/wire.errBig", laid_moot_wire_errBig), ("moot/wire.errLength", laid_moot_wire_errLength)], narrowed := true }
def WireCutUptoSaid : Prop := wireCutUptoRow.holds Tryd.pinned (OpenSpec.upto wireCutSpec)

/-- 'mootlaw1.WireOwn', WHERE WHAT IT READS IS OF BULK AT MOST 1048576: true; the input reads as it did. -/
def wireOwnUptoRow : OpenClaim := { program := "ytifhbbljjalpfabdoor", sum := "6f9ae1e40682fcda22ffacb2b178690f4474a1b66e5a5e91d51f8e19c9457ed1", func := "moot/mootlaw1.WireOwn", spec := "wireOwn", inPlace := ["internal/reflectlite.TypeOf"], unfollowed := true, recurses := true, named := ["moot/wire.errShort", "moot/wire.errWide", "moot/wire.errForm", "moot/wire.errBig", "moot/wire.errLength"], apart := false, laid := [("moot/wire.errShort", laid_moot_wire_errShort), ("moot/wire.errWide", laid_moot_wire_errWide), ("moot/wire.errForm", laid_moot_wire_errForm), ("moot/wire.errBig", laid_moot_wire_errBig), ("moot/wire.errLength", laid_moot_wire_errLength)], narrowed := true }
def WireOwnUptoSaid : Prop := wireOwnUptoRow.holds Tryd.pinned (OpenSpec.upto wireOwnSpec)

/-- 'mootlaw1.WireReads', WHERE WHAT IT READS IS OF BULK AT MOST 1048576: true; the input reads as it did. -/
def wireReadsUptoRow : OpenClaim := { program := "ytifhbbljjalpfabdoor", sum := "6f9ae1e40682fcda22ffacb2b178690f4474a1b66e5a5e91d51f8e19c9457ed1", func := "moot/mootlaw1.WireReads", spec := "wireReads", inPlace := ["internal/reflectlite.TypeOf"], unfollowed := true, recurses := true, named := ["moot/wire.errShort", "moot/wire.errWide", "moot/wire.errForm", "moot/wire.errBig", "moot/wire.errLength"], apart := false, laid := [("moot/wire.errShort", laid_moot_wire_errShort), ("moot/wire.errWide", laid_moot_wire_errWide), ("moot/wire.errForm", laid_moot_wire_errForm), ("moot/wire.errBig", laid_moot_wire_errBig), ("moot/wire.errLength", laid_moot_wire_errLength)], narrowed := true }
def WireReadsUptoSaid : Prop := wireReadsUptoRow.holds Tryd.pinned (OpenSpec.upto wireReadsSpec)

end Rows
end Go.Proofs.YtifhbbljjalpfabDoor
