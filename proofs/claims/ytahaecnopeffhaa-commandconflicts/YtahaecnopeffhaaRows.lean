/-
  No cell of these rows narrows 'for every input' (looked for: loops, veiled, ifaces, maps, wideKeys, modest, calm, conditions, laid).
  DERIVED. THE GIVEN ROWS OF THIS SEAT. 4 by the template 'for every input the law returns true; each argument reads behind the call as it read before'; 0 by the template 'total and deterministic' (their statements: YtahaecnopeffhaaTotals.lean).
  GIVEN WITH THE SEED: the statements are not yours to turn. If you find one false, say at which input.
  Laid BY PROGRAM, IN A SANDBOX (cutbox-rows.mjs): the forced cells as the released guide's own fill.sh prints them over the translation da4b0669be9d3ae6… (all of the seat's roots in one cut). By AI agents, Wed Nov 11 2026. No macro, syntax, notation, axiom, sorry.
-/
import Derived.Test.YtahaecnopeffhaaChecked
import GoSem.Claim
import GoSem.ClaimJoined
import GoSem.ClaimMapViews
import Derived.JoinedTies
import Derived.KernelRfl
namespace Go.Proofs.Ytahaecnopeffhaa
/- THE CELL 'sum', in the pinned program and in every row, IS THE sha256 OF THE DUMP (.gsa) THAT YtahaecnopeffhaaProg.lean LOADS. Nothing in Lean hashes anything: it is a label: what it is worth is what the hold of that sum in a sandbox is worth. -/
noncomputable def Try.pinned : Pinned := { name := "ytahaecnopeffhaa", sum := "da4b0669be9d3ae618d0719981633eea532ad779df49ceda5c2a83bae1543dd7", checked := Try.checked }
namespace Rows
def none {H : Type} : Left H := { results := [], args := [] }

/-- 'mootlaw4.CommandMirror': WHATEVER THE INPUT: true; the input reads as it did. -/
def commandMirrorSpec : ChangeSpec := { name := "commandMirror", fn := fun _ => fun
  | [d1, d2] => { results := [.lit (.bool true)], args := [d1, d2] }
  | _ => none }
def commandMirrorRow : OpenClaim := { program := "ytahaecnopeffhaa", sum := "da4b0669be9d3ae618d0719981633eea532ad779df49ceda5c2a83bae1543dd7", func := "moot/mootlaw4.CommandMirror", spec := "commandMirror", apart := false }
def CommandMirrorSaid : Prop := commandMirrorRow.holds Try.pinned (OpenSpec.ofChange commandMirrorSpec)

/-- ITS FALSE NEIGHBOUR: 'it returns false'. Refute it at one input. -/
def commandMirrorWrong : ChangeSpec := { name := "commandMirror", fn := fun _ => fun
  | [d1, d2] => { results := [.lit (.bool false)], args := [d1, d2] }
  | _ => none }
def CommandMirrorWrongFalsely : Prop := commandMirrorRow.holds Try.pinned (OpenSpec.ofChange commandMirrorWrong)

/-- 'mootlaw4.CommandMeets': WHATEVER THE INPUT: true; the input reads as it did. -/
def commandMeetsSpec : ChangeSpec := { name := "commandMeets", fn := fun _ => fun
  | [d1, d2] => { results := [.lit (.bool true)], args := [d1, d2] }
  | _ => none }
def commandMeetsRow : OpenClaim := { program := "ytahaecnopeffhaa", sum := "da4b0669be9d3ae618d0719981633eea532ad779df49ceda5c2a83bae1543dd7", func := "moot/mootlaw4.CommandMeets", spec := "commandMeets", apart := false }
def CommandMeetsSaid : Prop := commandMeetsRow.holds Try.pinned (OpenSpec.ofChange commandMeetsSpec)

/-- ITS FALSE NEIGHBOUR: 'it returns false'. Refute it at one input. -/
def commandMeetsWrong : ChangeSpec := { name := "commandMeets", fn := fun _ => fun
  | [d1, d2] => { results := [.lit (.bool false)], args := [d1, d2] }
  | _ => none }
def CommandMeetsWrongFalsely : Prop := commandMeetsRow.holds Try.pinned (OpenSpec.ofChange commandMeetsWrong)

/-- 'mootlaw4.CommandTouches': WHATEVER THE INPUT: true; the input reads as it did. -/
def commandTouchesSpec : ChangeSpec := { name := "commandTouches", fn := fun _ => fun
  | [d] => { results := [.lit (.bool true)], args := [d] }
  | _ => none }
def commandTouchesRow : OpenClaim := { program := "ytahaecnopeffhaa", sum := "da4b0669be9d3ae618d0719981633eea532ad779df49ceda5c2a83bae1543dd7", func := "moot/mootlaw4.CommandTouches", spec := "commandTouches", apart := false }
def CommandTouchesSaid : Prop := commandTouchesRow.holds Try.pinned (OpenSpec.ofChange commandTouchesSpec)

/-- ITS FALSE NEIGHBOUR: 'it returns false'. Refute it at one input. -/
def commandTouchesWrong : ChangeSpec := { name := "commandTouches", fn := fun _ => fun
  | [d] => { results := [.lit (.bool false)], args := [d] }
  | _ => none }
def CommandTouchesWrongFalsely : Prop := commandTouchesRow.holds Try.pinned (OpenSpec.ofChange commandTouchesWrong)

/-- 'mootlaw4.CommandConflicts': WHATEVER THE INPUT: true; the input reads as it did. -/
def commandConflictsSpec : ChangeSpec := { name := "commandConflicts", fn := fun _ => fun
  | [d1, d2] => { results := [.lit (.bool true)], args := [d1, d2] }
  | _ => none }
def commandConflictsRow : OpenClaim := { program := "ytahaecnopeffhaa", sum := "da4b0669be9d3ae618d0719981633eea532ad779df49ceda5c2a83bae1543dd7", func := "moot/mootlaw4.CommandConflicts", spec := "commandConflicts", apart := false }
def CommandConflictsSaid : Prop := commandConflictsRow.holds Try.pinned (OpenSpec.ofChange commandConflictsSpec)

/-- ITS FALSE NEIGHBOUR: 'it returns false'. Refute it at one input. -/
def commandConflictsWrong : ChangeSpec := { name := "commandConflicts", fn := fun _ => fun
  | [d1, d2] => { results := [.lit (.bool false)], args := [d1, d2] }
  | _ => none }
def CommandConflictsWrongFalsely : Prop := commandConflictsRow.holds Try.pinned (OpenSpec.ofChange commandConflictsWrong)

/- THE SECOND FORM. 'bulk': how many values and letters a reading holds, each counted each time it is reached (what is shared counts as often as it is met; a slice's spare places count too). A statement '..UptoSaid' is the law's where the arguments, and the package variables that the reading takes, are together of bulk at most 1048576: NARROWER than '..Said'. Prove '..Said' where nothing that the law and all that it calls make is longer than what came in: it says more and counts as full. Else prove '..UptoSaid'. A law counts once. -/
mutual
def uptoBulk {H : Type} : DataW H → Nat
  | .lit (.string bytes) => bytes.length + 1
  | .lit _ => 1
  | .nil => 1
  | .ptr d => uptoBulk d + 1
  | .slice elems spare => uptoBulkAll elems + uptoBulkAll spare + 1
  | .agg parts => uptoBulkAll parts + 1
  | .iface _ d => uptoBulk d + 1
  | .map entries => uptoBulkEntries entries + 1
  | .held _ => 1
def uptoBulkAll {H : Type} : List (DataW H) → Nat
  | [] => 0
  | d :: r => uptoBulk d + uptoBulkAll r
def uptoBulkEntries {H : Type} : List (Lit × DataW H) → Nat
  | [] => 0
  | x :: r => uptoBulkEntry x + uptoBulkEntries r
def uptoBulkEntry {H : Type} : Lit × DataW H → Nat
  | (.string bytes, d) => bytes.length + uptoBulk d + 1
  | (_, d) => uptoBulk d + 1
 end
def uptoSmall : (H : Type) → List (DataW H) → Bool := fun _ ds => decide (uptoBulkAll ds ≤ 1048576)
def OpenSpec.upto (s : _root_.Go.ChangeSpec) : _root_.Go.OpenSpec := { _root_.Go.OpenSpec.ofChange s with cond := some uptoSmall }

/-- 'mootlaw4.CommandMirror', WHERE WHAT IT READS IS OF BULK AT MOST 1048576: true; the input reads as it did. -/
def commandMirrorUptoRow : OpenClaim := { program := "ytahaecnopeffhaa", sum := "da4b0669be9d3ae618d0719981633eea532ad779df49ceda5c2a83bae1543dd7", func := "moot/mootlaw4.CommandMirror", spec := "commandMirror", apart := false, narrowed := true }
def CommandMirrorUptoSaid : Prop := commandMirrorUptoRow.holds Try.pinned (OpenSpec.upto commandMirrorSpec)

/-- 'mootlaw4.CommandMeets', WHERE WHAT IT READS IS OF BULK AT MOST 1048576: true; the input reads as it did. -/
def commandMeetsUptoRow : OpenClaim := { program := "ytahaecnopeffhaa", sum := "da4b0669be9d3ae618d0719981633eea532ad779df49ceda5c2a83bae1543dd7", func := "moot/mootlaw4.CommandMeets", spec := "commandMeets", apart := false, narrowed := true }
def CommandMeetsUptoSaid : Prop := commandMeetsUptoRow.holds Try.pinned (OpenSpec.upto commandMeetsSpec)

/-- 'mootlaw4.CommandTouches', WHERE WHAT IT READS IS OF BULK AT MOST 1048576: true; the input reads as it did. -/
def commandTouchesUptoRow : OpenClaim := { program := "ytahaecnopeffhaa", sum := "da4b0669be9d3ae618d0719981633eea532ad779df49ceda5c2a83bae1543dd7", func := "moot/mootlaw4.CommandTouches", spec := "commandTouches", apart := false, narrowed := true }
def CommandTouchesUptoSaid : Prop := commandTouchesUptoRow.holds Try.pinned (OpenSpec.upto commandTouchesSpec)

/-- 'mootlaw4.CommandConflicts', WHERE WHAT IT READS IS OF BULK AT MOST 1048576: true; the input reads as it did. -/
def commandConflictsUptoRow : OpenClaim := { program := "ytahaecnopeffhaa", sum := "da4b0669be9d3ae618d0719981633eea532ad779df49ceda5c2a83bae1543dd7", func := "moot/mootlaw4.CommandConflicts", spec := "commandConflicts", apart := false, narrowed := true }
def CommandConflictsUptoSaid : Prop := commandConflictsUptoRow.holds Try.pinned (OpenSpec.upto commandConflictsSpec)

end Rows
end Go.Proofs.Ytahaecnopeffhaa
