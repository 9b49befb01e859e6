/-
  No cell of these rows narrows 'for every input' (looked for: loops, veiled, ifaces, maps, wideKeys, modest, calm, conditions, laid).
  DERIVED. THE GIVEN ROWS OF THIS SEAT. 4 by the template 'for every input the law returns true; each argument reads behind the call as it read before'; 0 by the template 'total and deterministic' (their statements: YtakkfdfaacdnmaaTotals.lean).
  GIVEN WITH THE SEED: the statements are not yours to turn. If you find one false, say at which input.
  Laid BY PROGRAM, IN A SANDBOX (cutbox-rows.mjs): the forced cells as the released guide's own fill.sh prints them over the translation 2a4927f752690e16… (all of the seat's roots in one cut). By AI agents, Wed Nov 11 2026. No macro, syntax, notation, axiom, sorry.
-/
import Derived.Test.YtakkfdfaacdnmaaChecked
import GoSem.Claim
import GoSem.ClaimJoined
import GoSem.ClaimMapViews
import Derived.JoinedTies
import Derived.KernelRfl
namespace Go.Proofs.Ytakkfdfaacdnmaa
/- THE CELL 'sum', in the pinned program and in every row, IS THE sha256 OF THE DUMP (.gsa) THAT YtakkfdfaacdnmaaProg.lean LOADS. Nothing in Lean hashes anything: it is a label: what it is worth is what the hold of that sum in a sandbox is worth. -/
noncomputable def Try.pinned : Pinned := { name := "ytakkfdfaacdnmaa", sum := "2a4927f752690e16849c5a2e6da7a1d160a740e3b1c0554c01519768860cab1f", checked := Try.checked }
namespace Rows
def none {H : Type} : Left H := { results := [], args := [] }

/-- 'mootlaw12.QuorumNoops': WHATEVER THE INPUT: true; the input reads as it did. -/
def quorumNoopsSpec : ChangeSpec := { name := "quorumNoops", fn := fun _ => fun
  | [d1, d2, d3] => { results := [.lit (.bool true)], args := [d1, d2, d3] }
  | _ => none }
def quorumNoopsRow : OpenClaim := { program := "ytakkfdfaacdnmaa", sum := "2a4927f752690e16849c5a2e6da7a1d160a740e3b1c0554c01519768860cab1f", func := "moot/mootlaw12.QuorumNoops", spec := "quorumNoops", unfollowed := true, recurses := true, apart := false }
def QuorumNoopsSaid : Prop := quorumNoopsRow.holds Try.pinned (OpenSpec.ofChange quorumNoopsSpec)

/-- ITS FALSE NEIGHBOUR: 'it returns false'. Refute it at one input. -/
def quorumNoopsWrong : ChangeSpec := { name := "quorumNoops", fn := fun _ => fun
  | [d1, d2, d3] => { results := [.lit (.bool false)], args := [d1, d2, d3] }
  | _ => none }
def QuorumNoopsWrongFalsely : Prop := quorumNoopsRow.holds Try.pinned (OpenSpec.ofChange quorumNoopsWrong)

/-- 'mootlaw12.QuorumSteady': WHATEVER THE INPUT: true; the input reads as it did. -/
def quorumSteadySpec : ChangeSpec := { name := "quorumSteady", fn := fun _ => fun
  | [d1, d2, d3, d4] => { results := [.lit (.bool true)], args := [d1, d2, d3, d4] }
  | _ => none }
def quorumSteadyRow : OpenClaim := { program := "ytakkfdfaacdnmaa", sum := "2a4927f752690e16849c5a2e6da7a1d160a740e3b1c0554c01519768860cab1f", func := "moot/mootlaw12.QuorumSteady", spec := "quorumSteady", unfollowed := true, recurses := true, apart := false }
def QuorumSteadySaid : Prop := quorumSteadyRow.holds Try.pinned (OpenSpec.ofChange quorumSteadySpec)

/-- ITS FALSE NEIGHBOUR: 'it returns false'. Refute it at one input. -/
def quorumSteadyWrong : ChangeSpec := { name := "quorumSteady", fn := fun _ => fun
  | [d1, d2, d3, d4] => { results := [.lit (.bool false)], args := [d1, d2, d3, d4] }
  | _ => none }
def QuorumSteadyWrongFalsely : Prop := quorumSteadyRow.holds Try.pinned (OpenSpec.ofChange quorumSteadyWrong)

/-- 'mootlaw12.QuorumSlowSafe': WHATEVER THE INPUT: true; the input reads as it did. -/
def quorumSlowSafeSpec : ChangeSpec := { name := "quorumSlowSafe", fn := fun _ => fun
  | [d1, d2, d3, d4, d5, d6, d7, d8] => { results := [.lit (.bool true)], args := [d1, d2, d3, d4, d5, d6, d7, d8] }
  | _ => none }
def quorumSlowSafeRow : OpenClaim := { program := "ytakkfdfaacdnmaa", sum := "2a4927f752690e16849c5a2e6da7a1d160a740e3b1c0554c01519768860cab1f", func := "moot/mootlaw12.QuorumSlowSafe", spec := "quorumSlowSafe", unfollowed := true, recurses := true, apart := false }
def QuorumSlowSafeSaid : Prop := quorumSlowSafeRow.holds Try.pinned (OpenSpec.ofChange quorumSlowSafeSpec)

/-- ITS FALSE NEIGHBOUR: 'it returns false'. Refute it at one input. -/
def quorumSlowSafeWrong : ChangeSpec := { name := "quorumSlowSafe", fn := fun _ => fun
  | [d1, d2, d3, d4, d5, d6, d7, d8] => { results := [.lit (.bool false)], args := [d1, d2, d3, d4, d5, d6, d7, d8] }
  | _ => none }
def QuorumSlowSafeWrongFalsely : Prop := quorumSlowSafeRow.holds Try.pinned (OpenSpec.ofChange quorumSlowSafeWrong)

/-- 'mootlaw12.QuorumUnions': WHATEVER THE INPUT: true; the input reads as it did. -/
def quorumUnionsSpec : ChangeSpec := { name := "quorumUnions", fn := fun _ => fun
  | [d1, d2, d3, d4] => { results := [.lit (.bool true)], args := [d1, d2, d3, d4] }
  | _ => none }
def quorumUnionsRow : OpenClaim := { program := "ytakkfdfaacdnmaa", sum := "2a4927f752690e16849c5a2e6da7a1d160a740e3b1c0554c01519768860cab1f", func := "moot/mootlaw12.QuorumUnions", spec := "quorumUnions", unfollowed := true, recurses := true, apart := false }
def QuorumUnionsSaid : Prop := quorumUnionsRow.holds Try.pinned (OpenSpec.ofChange quorumUnionsSpec)

/-- ITS FALSE NEIGHBOUR: 'it returns false'. Refute it at one input. -/
def quorumUnionsWrong : ChangeSpec := { name := "quorumUnions", fn := fun _ => fun
  | [d1, d2, d3, d4] => { results := [.lit (.bool false)], args := [d1, d2, d3, d4] }
  | _ => none }
def QuorumUnionsWrongFalsely : Prop := quorumUnionsRow.holds Try.pinned (OpenSpec.ofChange quorumUnionsWrong)

/- THE SECOND FORM. 'bulk': how many values and letters a reading holds, each counted each time it is reached (what is shared counts as often as it is met; a slice's spare places count too). A statement '..UptoSaid' is the law's where the arguments, and the package variables that the reading takes, are together of bulk at most 1048576: NARROWER than '..Said'. Prove '..Said' where nothing that the law and all that it calls make is longer than what came in: it says more and counts as full. Else prove '..UptoSaid'. A law counts once. -/
mutual
def uptoBulk {H : Type} : DataW H → Nat
  | .lit (.string bytes) => bytes.length + 1
  | .lit _ => 1
  | .nil => 1
  | .ptr d => uptoBulk d + 1
  | .slice elems spare => uptoBulkAll elems + uptoBulkAll spare + 1
  | .agg parts => uptoBulkAll parts + 1
  | .iface _ d => uptoBulk d + 1
  | .map entries => uptoBulkEntries entries + 1
  | .held _ => 1
def uptoBulkAll {H : Type} : List (DataW H) → Nat
  | [] => 0
  | d :: r => uptoBulk d + uptoBulkAll r
def uptoBulkEntries {H : Type} : List (Lit × DataW H) → Nat
  | [] => 0
  | x :: r => uptoBulkEntry x + uptoBulkEntries r
def uptoBulkEntry {H : Type} : Lit × DataW H → Nat
  | (.string bytes, d) => bytes.length + uptoBulk d + 1
  | (_, d) => uptoBulk d + 1
 end
def uptoSmall : (H : Type) → List (DataW H) → Bool := fun _ ds => decide (uptoBulkAll ds ≤ 1048576)
def OpenSpec.upto (s : _root_.Go.ChangeSpec) : _root_.Go.OpenSpec := { _root_.Go.OpenSpec.ofChange s with cond := some uptoSmall }

/-- 'mootlaw12.QuorumNoops', WHERE WHAT IT READS IS OF BULK AT MOST 1048576: true; the input reads as it did. -/
def quorumNoopsUptoRow : OpenClaim := { program := "ytakkfdfaacdnmaa", sum := "2a4927f752690e16849c5a2e6da7a1d160a740e3b1c0554c01519768860cab1f", func := "moot/mootlaw12.QuorumNoops", spec := "quorumNoops", unfollowed := true, recurses := true, apart := false, narrowed := true }
def QuorumNoopsUptoSaid : Prop := quorumNoopsUptoRow.holds Try.pinned (OpenSpec.upto quorumNoopsSpec)

/-- 'mootlaw12.QuorumSteady', WHERE WHAT IT READS IS OF BULK AT MOST 1048576: true; the input reads as it did. -/
def quorumSteadyUptoRow : OpenClaim := { program := "ytakkfdfaacdnmaa", sum := "2a4927f752690e16849c5a2e6da7a1d160a740e3b1c0554c01519768860cab1f", func := "moot/mootlaw12.QuorumSteady", spec := "quorumSteady", unfollowed := true, recurses := true, apart := false, narrowed := true }
def QuorumSteadyUptoSaid : Prop := quorumSteadyUptoRow.holds Try.pinned (OpenSpec.upto quorumSteadySpec)

/-- 'mootlaw12.QuorumSlowSafe', WHERE WHAT IT READS IS OF BULK AT MOST 1048576: true; the input reads as it did. -/
def quorumSlowSafeUptoRow : OpenClaim := { program := "ytakkfdfaacdnmaa", sum := "2a4927f752690e16849c5a2e6da7a1d160a740e3b1c0554c01519768860cab1f", func := "moot/mootlaw12.QuorumSlowSafe", spec := "quorumSlowSafe", unfollowed := true, recurses := true, apart := false, narrowed := true }
def QuorumSlowSafeUptoSaid : Prop := quorumSlowSafeUptoRow.holds Try.pinned (OpenSpec.upto quorumSlowSafeSpec)

/-- 'mootlaw12.QuorumUnions', WHERE WHAT IT READS IS OF BULK AT MOST 1048576: true; the input reads as it did. -/
def quorumUnionsUptoRow : OpenClaim := { program := "ytakkfdfaacdnmaa", sum := "2a4927f752690e16849c5a2e6da7a1d160a740e3b1c0554c01519768860cab1f", func := "moot/mootlaw12.QuorumUnions", spec := "quorumUnions", unfollowed := true, recurses := true, apart := false, narrowed := true }
def QuorumUnionsUptoSaid : Prop := quorumUnionsUptoRow.holds Try.pinned (OpenSpec.upto quorumUnionsSpec)

end Rows
end Go.Proofs.Ytakkfdfaacdnmaa
