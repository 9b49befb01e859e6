/-
  NARROWER THAN 'FOR EVERY INPUT', by the rows' own cells (each row's printed sentence says how): VectorBeginnings: laid · VectorUnpacks: laid · VectorReturns: laid · VectorOneForm: laid · VectorNewMemory: laid.
  DERIVED. THE GIVEN ROWS OF THIS SEAT. 5 by the template 'for every input the law returns true; each argument reads behind the call as it read before'; 0 by the template 'total and deterministic' (their statements: YtkddbcgkfnmgbabDoorTotals.lean).
  GIVEN WITH THE SEED: the statements are not yours to turn. If you find one false, say at which input.
  Laid BY PROGRAM, IN A SANDBOX (cutbox-rows.mjs): the forced cells as the released guide's own fill.sh prints them over the translation 5c37fc358cb75b7a… (all of the seat's roots in one cut). By AI agents, Wed Nov 11 2026. No macro, syntax, notation, axiom, sorry.
-/
import Derived.Test.YtkddbcgkfnmgbabDoorChecked
import GoSem.Claim
import GoSem.ClaimJoined
import GoSem.ClaimMapViews
import Derived.JoinedTies
import Derived.KernelRfl
namespace Go.Proofs.YtkddbcgkfnmgbabDoor
/- THE CELL 'sum', in the pinned program and in every row, IS THE sha256 OF THE DUMP (.gsa) THAT YtkddbcgkfnmgbabDoorProg.lean LOADS. Nothing in Lean hashes anything: it is a label: what it is worth is what the hold of that sum in a sandbox is worth. -/
noncomputable def Tryd.pinned : Pinned := { name := "ytkddbcgkfnmgbabdoor", sum := "5c37fc358cb75b7ada7de67579add77e132576d061e707989b275e50b1641377", checked := Tryd.checked }
namespace Rows
def none {H : Type} : Left H := { results := [], args := [] }

/- WHAT THE LISTED PACKAGE-LEVEL VARIABLES READ AS WHEN THE CALL BEGINS. Each datum BY PROGRAM (the guide's laid-datum.mjs) off the statement by which the dump's own 'gosem.cut.vars' lays the variable. In a bare row this is a premise. The card (YtkddbcgkfnmgbabDoorCards.lean) ties it to the program's text. -/
def laid_moot_wire_errShort {H : Type} : DataW H := .iface "*errors.errorString" (.ptr (.agg [.lit (.string [119, 105, 114, 101, 58, 32, 116, 104, 101, 32, 98, 121, 116, 101, 115, 32, 101, 110, 100, 32, 105, 110, 115, 105, 100, 101, 32, 97, 110, 32, 105, 116, 101, 109])]))
def laid_moot_wire_errWide {H : Type} : DataW H := .iface "*errors.errorString" (.ptr (.agg [.lit (.string [119, 105, 114, 101, 58, 32, 97, 32, 110, 117, 109, 98, 101, 114, 32, 111, 102, 32, 109, 111, 114, 101, 32, 116, 104, 97, 110, 32, 54, 52, 32, 98, 105, 116, 115])]))
def laid_moot_wire_errForm {H : Type} : DataW H := .iface "*errors.errorString" (.ptr (.agg [.lit (.string [119, 105, 114, 101, 58, 32, 110, 111, 116, 32, 116, 104, 101, 32, 115, 104, 111, 114, 116, 101, 115, 116, 32, 102, 111, 114, 109])]))
def laid_moot_wire_errBig {H : Type} : DataW H := .iface "*errors.errorString" (.ptr (.agg [.lit (.string [119, 105, 114, 101, 58, 32, 97, 32, 110, 117, 109, 98, 101, 114, 32, 97, 98, 111, 118, 101, 32, 119, 104, 97, 116, 32, 105, 115, 32, 97, 108, 108, 111, 119, 101, 100])]))
def laid_moot_wire_errLength {H : Type} : DataW H := .iface "*errors.errorString" (.ptr (.agg [.lit (.string [119, 105, 114, 101, 58, 32, 97, 32, 116, 101, 120, 116, 39, 115, 32, 108, 101, 110, 103, 116, 104, 32, 111, 117, 116, 115, 105, 100, 101, 32, 119, 104, 97, 116, 32, 105, 115, 32, 97, 108, 108, 111, 119, 101, 100])]))

/-- 'mootlaw3.VectorBeginnings': WHATEVER THE INPUT: true; the input reads as it did. -/
def vectorBeginningsSpec : ChangeSpec := { name := "vectorBeginnings", fn := fun _ => fun
  | [d1, d2] => { results := [.lit (.bool true)], args := [d1, d2] }
  | _ => none }
def vectorBeginningsRow : OpenClaim := { program := "ytkddbcgkfnmgbabdoor", sum := "5c37fc358cb75b7ada7de67579add77e132576d061e707989b275e50b1641377", func := "moot/mootlaw3.VectorBeginnings", spec := "vectorBeginnings", inPlace := ["internal/reflectlite.TypeOf"], unfollowed := true, recurses := true, named := ["moot/wire.errShort", "moot/wire.errWide", "moot/wire.errForm", "moot/wire.errBig", "moot/wire.errLength"], apart := false, laid := [("moot/wire.errShort", laid_moot_wire_errShort), ("moot/wire.errWide", laid_moot_wire_errWide), ("moot/wire.errForm", laid_moot_wire_errForm), ("moot/wire.errBig", laid_moot_wire_errBig), ("moot/wire.errLength", laid_moot_wire_errLength)] }
def VectorBeginningsSaid : Prop := vectorBeginningsRow.holds Tryd.pinned (OpenSpec.ofChange vectorBeginningsSpec)

/-- ITS FALSE NEIGHBOUR: 'it returns false'. Refute it at one input. -/
def vectorBeginningsWrong : ChangeSpec := { name := "vectorBeginnings", fn := fun _ => fun
  | [d1, d2] => { results := [.lit (.bool false)], args := [d1, d2] }
  | _ => none }
def VectorBeginningsWrongFalsely : Prop := vectorBeginningsRow.holds Tryd.pinned (OpenSpec.ofChange vectorBeginningsWrong)

/-- 'mootlaw3.VectorUnpacks': WHATEVER THE INPUT: true; the input reads as it did. -/
def vectorUnpacksSpec : ChangeSpec := { name := "vectorUnpacks", fn := fun _ => fun
  | [d1, d2, d3] => { results := [.lit (.bool true)], args := [d1, d2, d3] }
  | _ => none }
def vectorUnpacksRow : OpenClaim := { program := "ytkddbcgkfnmgbabdoor", sum := "5c37fc358cb75b7ada7de67579add77e132576d061e707989b275e50b1641377", func := "moot/mootlaw3.VectorUnpacks", spec := "vectorUnpacks", inPlace := ["internal/reflectlite.TypeOf"], unfollowed := true, recurses := true, named := ["moot/wire.errShort", "moot/wire.errWide", "moot/wire.errForm", "moot/wire.errBig", "moot/wire.errLength"], apart := false, laid := [("moot/wire.errShort", laid_moot_wire_errShort), ("moot/wire.errWide", laid_moot_wire_errWide), ("moot/wire.errForm", laid_moot_wire_errForm), ("moot/wire.errBig", laid_moot_wire_errBig), ("moot/wire.errLength", laid_moot_wire_errLength)] }
def VectorUnpacksSaid : Prop := vectorUnpacksRow.holds Tryd.pinned (OpenSpec.ofChange vectorUnpacksSpec)

/-- ITS FALSE NEIGHBOUR: 'it returns false'. Refute it at one input. -/
def vectorUnpacksWrong : ChangeSpec := { name := "vectorUnpacks", fn := fun _ => fun
  | [d1, d2, d3] => { results := [.lit (.bool false)], args := [d1, d2, d3] }
  | _ => none }
def VectorUnpacksWrongFalsely : Prop := vectorUnpacksRow.holds Tryd.pinned (OpenSpec.ofChange vectorUnpacksWrong)

/-- 'mootlaw3.VectorReturns': WHATEVER THE INPUT: true; the input reads as it did. -/
def vectorReturnsSpec : ChangeSpec := { name := "vectorReturns", fn := fun _ => fun
  | [d1, d2] => { results := [.lit (.bool true)], args := [d1, d2] }
  | _ => none }
def vectorReturnsRow : OpenClaim := { program := "ytkddbcgkfnmgbabdoor", sum := "5c37fc358cb75b7ada7de67579add77e132576d061e707989b275e50b1641377", func := "moot/mootlaw3.VectorReturns", spec := "vectorReturns", inPlace := ["internal/reflectlite.TypeOf"], unfollowed := true, recurses := true, named := ["moot/wire.errShort", "moot/wire.errWide", "moot/wire.errForm", "moot/wire.errBig", "moot/wire.errLength"], apart := false, laid := [("moot/wire.errShort", laid_moot_wire_errShort), ("moot/wire.errWide", laid_moot_wire_errWide), ("moot/wire.errForm", laid_moot_wire_errForm), ("moot/wire.errBig", laid_moot_wire_errBig), ("moot/wire.errLength", laid_moot_wire_errLength)] }
def VectorReturnsSaid : Prop := vectorReturnsRow.holds Tryd.pinned (OpenSpec.ofChange vectorReturnsSpec)

/-- ITS FALSE NEIGHBOUR: 'it returns false'. Refute it at one input. -/
def vectorReturnsWrong : ChangeSpec := { name := "vectorReturns", fn := fun _ => fun
  | [d1, d2] => { results := [.lit (.bool false)], args := [d1, d2] }
  | _ => none }
def VectorReturnsWrongFalsely : Prop := vectorReturnsRow.holds Tryd.pinned (OpenSpec.ofChange vectorReturnsWrong)

/-- 'mootlaw3.VectorOneForm': WHATEVER THE INPUT: true; the input reads as it did. -/
def vectorOneFormSpec : ChangeSpec := { name := "vectorOneForm", fn := fun _ => fun
  | [d1, d2, d3] => { results := [.lit (.bool true)], args := [d1, d2, d3] }
  | _ => none }
def vectorOneFormRow : OpenClaim := { program := "ytkddbcgkfnmgbabdoor", sum := "5c37fc358cb75b7ada7de67579add77e132576d061e707989b275e50b1641377", func := "moot/mootlaw3.VectorOneForm", spec := "vectorOneForm", inPlace := ["internal/reflectlite.TypeOf"], unfollowed := true, recurses := true, named := ["moot/wire.errShort", "moot/wire.errWide", "moot/wire.errForm", "moot/wire.errBig", "moot/wire.errLength"], apart := false, laid := [("moot/wire.errShort", laid_moot_wire_errShort), ("moot/wire.errWide", laid_moot_wire_errWide), ("moot/wire.errForm", laid_moot_wire_errForm), ("moot/wire.errBig", laid_moot_wire_errBig), ("moot/wire.errLength", laid_moot_wire_errLength)] }
def VectorOneFormSaid : Prop := vectorOneFormRow.holds Tryd.pinned (OpenSpec.ofChange vectorOneFormSpec)

/-- ITS FALSE NEIGHBOUR: 'it returns false'. Refute it at one input. -/
def vectorOneFormWrong : ChangeSpec := { name := "vectorOneForm", fn := fun _ => fun
  | [d1, d2, d3] => { results := [.lit (.bool false)], args := [d1, d2, d3] }
  | _ => none }
def VectorOneFormWrongFalsely : Prop := vectorOneFormRow.holds Tryd.pinned (OpenSpec.ofChange vectorOneFormWrong)

/-- 'mootlaw3.VectorNewMemory': WHATEVER THE INPUT: true; the input reads as it did. -/
def vectorNewMemorySpec : ChangeSpec := { name := "vectorNewMemory", fn := fun _ => fun
  | [d] => { results := [.lit (.bool true)], args := [d] }
  | _ => none }
def vectorNewMemoryRow : OpenClaim := { program := "ytkddbcgkfnmgbabdoor", sum := "5c37fc358cb75b7ada7de67579add77e132576d061e707989b275e50b1641377", func := "moot/mootlaw3.VectorNewMemory", spec := "vectorNewMemory", inPlace := ["internal/reflectlite.TypeOf"], unfollowed := true, recurses := true, named := ["moot/wire.errShort", "moot/wire.errWide", "moot/wire.errForm", "moot/wire.errBig", "moot/wire.errLength"], apart := false, laid := [("moot/wire.errShort", laid_moot_wire_errShort), ("moot/wire.errWide", laid_moot_wire_errWide), ("moot/wire.errForm", laid_moot_wire_errForm), ("moot/wire.errBig", laid_moot_wire_errBig), ("moot/wire.errLength", laid_moot_wire_errLength)] }
def VectorNewMemorySaid : Prop := vectorNewMemoryRow.holds Tryd.pinned (OpenSpec.ofChange vectorNewMemorySpec)

/-- ITS FALSE NEIGHBOUR: 'it returns false'. Refute it at one input. -/
def vectorNewMemoryWrong : ChangeSpec := { name := "vectorNewMemory", fn := fun _ => fun
  | [d] => { results := [.lit (.bool false)], args := [d] }
  | _ => none }
def VectorNewMemoryWrongFalsely : Prop := vectorNewMemoryRow.holds Tryd.pinned (OpenSpec.ofChange vectorNewMemoryWrong)

/- THE SECOND FORM. 'bulk': how many values and letters a reading holds, each counted each time it is reached (what is shared counts as often as it is met; a slice's spare places count too). A statement '..UptoSaid' is the law's where the arguments, and the package variables that the reading takes, are together of bulk at most 1048576: NARROWER than '..Said'. Prove '..Said' where nothing that the law and all that it calls make is longer than what came in: it says more and counts as full. Else prove '..UptoSaid'. A law counts once. -/
mutual
def uptoBulk {H : Type} : DataW H → Nat
  | .lit (.string bytes) => bytes.length + 1
  | .lit _ => 1
  | .nil => 1
  | .ptr d => uptoBulk d + 1
  | .slice elems spare => uptoBulkAll elems + uptoBulkAll spare + 1
  | .agg parts => uptoBulkAll parts + 1
  | .iface _ d => uptoBulk d + 1
  | .map entries => uptoBulkEntries entries + 1
  | .held _ => 1
def uptoBulkAll {H : Type} : List (DataW H) → Nat
  | [] => 0
  | d :: r => uptoBulk d + uptoBulkAll r
def uptoBulkEntries {H : Type} : List (Lit × DataW H) → Nat
  | [] => 0
  | x :: r => uptoBulkEntry x + uptoBulkEntries r
def uptoBulkEntry {H : Type} : Lit × DataW H → Nat
  | (.string bytes, d) => bytes.length + uptoBulk d + 1
  | (_, d) => uptoBulk d + 1
 end
def uptoSmall : (H : Type) → List (DataW H) → Bool := fun _ ds => decide (uptoBulkAll ds ≤ 1048576)
def OpenSpec.upto (s : _root_.Go.ChangeSpec) : _root_.Go.OpenSpec := { _root_.Go.OpenSpec.ofChange s with cond := some uptoSmall }

/-- 'mootlaw3.VectorBeginnings', WHERE WHAT IT READS IS OF BULK AT MOST 1048576: true; the input reads as it did. -/
def vectorBeginningsUptoRow : OpenClaim := { program := "ytkddbcgkfnmgbabdoor", sum := "5c37fc358cb75b7ada7de67579add77e132576d061e707989b275e50b1641377", func := "moot/mootlaw3.VectorBeginnings", spec := "vectorBeginnings", inPlace := ["internal/reflectlite.TypeOf"], unfollowed := true, recurses := true, named := ["moot/wire.errShort", "moot/wire.errWide", "moot/wire.errForm", "moot/wire.errBig", "moot/wire.errLength"], apart := false, laid := [("moot/wire.errShort", laid_moot_wire_errShort), ("moot/wire.errWide", laid_moot_wire_errWide), ("moot/wire.errForm", laid_moot_wire_errForm), ("moot/wire.errBig", laid_moot_wire_errBig), ("moot/wire.errLength", laid_moot_wire_errLength)], narrowed := true }
def VectorBeginningsUptoSaid : Prop := vectorBeginningsUptoRow.holds Tryd.pinned (OpenSpec.upto vectorBeginningsSpec)

/-- 'mootlaw3.VectorUnpacks', WHERE WHAT IT READS IS OF BULK AT MOST 1048576: true; the input reads as it did. -/
def vectorUnpacksUptoRow : OpenClaim := { program := "ytkddbcgkfnmgbabdoor", sum := "5c37fc358cb75b7ada7de67579add77e132576d061e707989b275e50b1641377", func := "moot/mootlaw3.VectorUnpacks", spec := "vectorUnpacks", inPlace := ["internal/reflectlite.TypeOf"], unfollowed := true, recurses := true, named := ["moot/wire.errShort", "moot/wire.errWide", "moot/wire.errForm", "moot/wire.errBig", "moot/wire.errLength"], apart := false, laid := [("moot/wire.errShort", laid_moot_wire_errShort), ("moot/wire.errWide", laid_moot_wire_errWide), ("moot/wire.errForm", laid_moot_wire_errForm), ("moot/wire.errBig", laid_moot_wire_errBig), ("moot/wire.errLength", laid_moot_wire_errLength)], narrowed := true }
def VectorUnpacksUptoSaid : Prop := vectorUnpacksUptoRow.holds Tryd.pinned (OpenSpec.upto vectorUnpacksSpec)

/-- 'mootlaw3.VectorReturns', WHERE WHAT IT READS IS OF BULK AT MOST 1048576: true; the input reads as it did. -/
def vectorReturnsUptoRow : OpenClaim := { program := "ytkddbcgkfnmgbabdoor", sum := "5c37fc358cb75b7ada7de67579add77e132576d061e707989b275e50b1641377", func := "moot/mootlaw3.VectorReturns", spec := "vectorReturns", inPlace := ["internal/reflectlite.TypeOf"], unfollowed := true, recurses := true, named := ["moot/wire.errShort", "moot/wire.errWide", "moot/wire.errForm", "moot/wire.errBig", "moot/wire.errLength"], apart := false, laid := [("moot/wire.errShort", laid_moot_wire_errShort), ("moot/wire.errWide", laid_moot_wire_errWide), ("moot/wire.errForm", laid_moot_wire_errForm), ("moot/wire.errBig", laid_moot_wire_errBig), ("moot/wire.errLength", laid_moot_wire_errLength)], narrowed := true }
def VectorReturnsUptoSaid : Prop := vectorReturnsUptoRow.holds Tryd.pinned (OpenSpec.upto vectorReturnsSpec)

/-- 'mootlaw3.VectorOneForm', WHERE WHAT IT READS IS OF BULK AT MOST 1048576: true; the input reads as it did. -/
def vectorOneFormUptoRow : OpenClaim := { program := "ytkddbcgkfnmgbabdoor", sum := "5c37fc358cb75b7ada7de67579add77e132576d061e707989b275e50b1641377", func := "moot/mootlaw3.VectorOneForm", spec := "vectorOneForm", inPlace := ["internal/reflectlite.TypeOf"], unfollowed := true, recurses := true, named := ["moot/wire.errShort", "moot/wire.errWide", "moot/wire.errForm", "moot/wire.errBig", "moot/wire.errLength"], apart := false, laid := [("moot/wire.errShort", laid_moot_wire_errShort), ("moot/wire.errWide", laid_moot_wire_errWide), ("moot/wire.errForm", laid_moot_wire_errForm), ("moot/wire.errBig", laid_moot_wire_errBig), ("moot/wire.errLength", laid_moot_wire_errLength)], narrowed := true }
def VectorOneFormUptoSaid : Prop := vectorOneFormUptoRow.holds Tryd.pinned (OpenSpec.upto vectorOneFormSpec)

/-- 'mootlaw3.VectorNewMemory', WHERE WHAT IT READS IS OF BULK AT MOST 1048576: true; the input reads as it did. -/
def vectorNewMemoryUptoRow : OpenClaim := { program := "ytkddbcgkfnmgbabdoor", sum := "5c37fc358cb75b7ada7de67579add77e132576d061e707989b275e50b1641377", func := "moot/mootlaw3.VectorNewMemory", spec := "vectorNewMemory", inPlace := ["internal/reflectlite.TypeOf"], unfollowed := true, recurses := true, named := ["moot/wire.errShort", "moot/wire.errWide", "moot/wire.errForm", "moot/wire.errBig", "moot/wire.errLength"], apart := false, laid := [("moot/wire.errShort", laid_moot_wire_errShort), ("moot/wire.errWide", laid_moot_wire_errWide), ("moot/wire.errForm", laid_moot_wire_errForm), ("moot/wire.errBig", laid_moot_wire_errBig), ("moot/wire.errLength", laid_moot_wire_errLength)], narrowed := true }
def VectorNewMemoryUptoSaid : Prop := vectorNewMemoryUptoRow.holds Tryd.pinned (OpenSpec.upto vectorNewMemorySpec)

end Rows
end Go.Proofs.YtkddbcgkfnmgbabDoor
