/-
  No cell of these rows narrows 'for every input' (looked for: loops, veiled, ifaces, maps, wideKeys, modest, calm, conditions, laid).
  DERIVED. THE GIVEN ROWS OF THIS SEAT. 3 by the template 'for every input the law returns true; each argument reads behind the call as it read before'; 0 by the template 'total and deterministic' (their statements: YtfgcepnjdjjlbaaTotals.lean).
  GIVEN WITH THE SEED: the statements are not yours to turn. If you find one false, say at which input.
  Laid BY PROGRAM, IN A SANDBOX (cutbox-rows.mjs): the forced cells as the released guide's own fill.sh prints them over the translation fd34b0bc2fd79188… (all of the seat's roots in one cut). By AI agents, Wed Nov 11 2026. No macro, syntax, notation, axiom, sorry.
-/
import Derived.Test.YtfgcepnjdjjlbaaChecked
import GoSem.Claim
import GoSem.ClaimJoined
import GoSem.ClaimMapViews
import Derived.JoinedTies
import Derived.KernelRfl
namespace Go.Proofs.Ytfgcepnjdjjlbaa
/- THE CELL 'sum', in the pinned program and in every row, IS THE sha256 OF THE DUMP (.gsa) THAT YtfgcepnjdjjlbaaProg.lean LOADS. Nothing in Lean hashes anything: it is a label: what it is worth is what the hold of that sum in a sandbox is worth. -/
noncomputable def Try.pinned : Pinned := { name := "ytfgcepnjdjjlbaa", sum := "fd34b0bc2fd7918817be4a35a89dbadad26c71c37deacdb44c52d85772c12b7d", checked := Try.checked }
namespace Rows
def none {H : Type} : Left H := { results := [], args := [] }

/-- 'mootlaw12.QuorumAliens': WHATEVER THE INPUT: true; the input reads as it did. -/
def quorumAliensSpec : ChangeSpec := { name := "quorumAliens", fn := fun _ => fun
  | [d1, d2, d3, d4, d5] => { results := [.lit (.bool true)], args := [d1, d2, d3, d4, d5] }
  | _ => none }
def quorumAliensRow : OpenClaim := { program := "ytfgcepnjdjjlbaa", sum := "fd34b0bc2fd7918817be4a35a89dbadad26c71c37deacdb44c52d85772c12b7d", func := "moot/mootlaw12.QuorumAliens", spec := "quorumAliens", unfollowed := true, recurses := true, apart := false }
def QuorumAliensSaid : Prop := quorumAliensRow.holds Try.pinned (OpenSpec.ofChange quorumAliensSpec)

/-- ITS FALSE NEIGHBOUR: 'it returns false'. Refute it at one input. -/
def quorumAliensWrong : ChangeSpec := { name := "quorumAliens", fn := fun _ => fun
  | [d1, d2, d3, d4, d5] => { results := [.lit (.bool false)], args := [d1, d2, d3, d4, d5] }
  | _ => none }
def QuorumAliensWrongFalsely : Prop := quorumAliensRow.holds Try.pinned (OpenSpec.ofChange quorumAliensWrong)

/-- 'mootlaw12.QuorumFastSafe': WHATEVER THE INPUT: true; the input reads as it did. -/
def quorumFastSafeSpec : ChangeSpec := { name := "quorumFastSafe", fn := fun _ => fun
  | [d1, d2, d3, d4, d5, d6] => { results := [.lit (.bool true)], args := [d1, d2, d3, d4, d5, d6] }
  | _ => none }
def quorumFastSafeRow : OpenClaim := { program := "ytfgcepnjdjjlbaa", sum := "fd34b0bc2fd7918817be4a35a89dbadad26c71c37deacdb44c52d85772c12b7d", func := "moot/mootlaw12.QuorumFastSafe", spec := "quorumFastSafe", unfollowed := true, recurses := true, apart := false }
def QuorumFastSafeSaid : Prop := quorumFastSafeRow.holds Try.pinned (OpenSpec.ofChange quorumFastSafeSpec)

/-- ITS FALSE NEIGHBOUR: 'it returns false'. Refute it at one input. -/
def quorumFastSafeWrong : ChangeSpec := { name := "quorumFastSafe", fn := fun _ => fun
  | [d1, d2, d3, d4, d5, d6] => { results := [.lit (.bool false)], args := [d1, d2, d3, d4, d5, d6] }
  | _ => none }
def QuorumFastSafeWrongFalsely : Prop := quorumFastSafeRow.holds Try.pinned (OpenSpec.ofChange quorumFastSafeWrong)

/-- 'mootlaw12.QuorumOrderless': WHATEVER THE INPUT: true; the input reads as it did. -/
def quorumOrderlessSpec : ChangeSpec := { name := "quorumOrderless", fn := fun _ => fun
  | [d1, d2, d3, d4, d5] => { results := [.lit (.bool true)], args := [d1, d2, d3, d4, d5] }
  | _ => none }
def quorumOrderlessRow : OpenClaim := { program := "ytfgcepnjdjjlbaa", sum := "fd34b0bc2fd7918817be4a35a89dbadad26c71c37deacdb44c52d85772c12b7d", func := "moot/mootlaw12.QuorumOrderless", spec := "quorumOrderless", unfollowed := true, recurses := true, apart := false }
def QuorumOrderlessSaid : Prop := quorumOrderlessRow.holds Try.pinned (OpenSpec.ofChange quorumOrderlessSpec)

/-- ITS FALSE NEIGHBOUR: 'it returns false'. Refute it at one input. -/
def quorumOrderlessWrong : ChangeSpec := { name := "quorumOrderless", fn := fun _ => fun
  | [d1, d2, d3, d4, d5] => { results := [.lit (.bool false)], args := [d1, d2, d3, d4, d5] }
  | _ => none }
def QuorumOrderlessWrongFalsely : Prop := quorumOrderlessRow.holds Try.pinned (OpenSpec.ofChange quorumOrderlessWrong)

/- THE SECOND FORM. 'bulk': how many values and letters a reading holds, each counted each time it is reached (what is shared counts as often as it is met; a slice's spare places count too). A statement '..UptoSaid' is the law's where the arguments, and the package variables that the reading takes, are together of bulk at most 1048576: NARROWER than '..Said'. Prove '..Said' where nothing that the law and all that it calls make is longer than what came in: it says more and counts as full. Else prove '..UptoSaid'. A law counts once. -/
mutual
def uptoBulk {H : Type} : DataW H → Nat
  | .lit (.string bytes) => bytes.length + 1
  | .lit _ => 1
  | .nil => 1
  | .ptr d => uptoBulk d + 1
  | .slice elems spare => uptoBulkAll elems + uptoBulkAll spare + 1
  | .agg parts => uptoBulkAll parts + 1
  | .iface _ d => uptoBulk d + 1
  | .map entries => uptoBulkEntries entries + 1
  | .held _ => 1
def uptoBulkAll {H : Type} : List (DataW H) → Nat
  | [] => 0
  | d :: r => uptoBulk d + uptoBulkAll r
def uptoBulkEntries {H : Type} : List (Lit × DataW H) → Nat
  | [] => 0
  | x :: r => uptoBulkEntry x + uptoBulkEntries r
def uptoBulkEntry {H : Type} : Lit × DataW H → Nat
  | (.string bytes, d) => bytes.length + uptoBulk d + 1
  | (_, d) => uptoBulk d + 1
 end
def uptoSmall : (H : Type) → List (DataW H) → Bool := fun _ ds => decide (uptoBulkAll ds ≤ 1048576)
def OpenSpec.upto (s : _root_.Go.ChangeSpec) : _root_.Go.OpenSpec := { _root_.Go.OpenSpec.ofChange s with cond := some uptoSmall }

/-- 'mootlaw12.QuorumAliens', WHERE WHAT IT READS IS OF BULK AT MOST 1048576: true; the input reads as it did. -/
def quorumAliensUptoRow : OpenClaim := { program := "ytfgcepnjdjjlbaa", sum := "fd34b0bc2fd7918817be4a35a89dbadad26c71c37deacdb44c52d85772c12b7d", func := "moot/mootlaw12.QuorumAliens", spec := "quorumAliens", unfollowed := true, recurses := true, apart := false, narrowed := true }
def QuorumAliensUptoSaid : Prop := quorumAliensUptoRow.holds Try.pinned (OpenSpec.upto quorumAliensSpec)

/-- 'mootlaw12.QuorumFastSafe', WHERE WHAT IT READS IS OF BULK AT MOST 1048576: true; the input reads as it did. -/
def quorumFastSafeUptoRow : OpenClaim := { program := "ytfgcepnjdjjlbaa", sum := "fd34b0bc2fd7918817be4a35a89dbadad26c71c37deacdb44c52d85772c12b7d", func := "moot/mootlaw12.QuorumFastSafe", spec := "quorumFastSafe", unfollowed := true, recurses := true, apart := false, narrowed := true }
def QuorumFastSafeUptoSaid : Prop := quorumFastSafeUptoRow.holds Try.pinned (OpenSpec.upto quorumFastSafeSpec)

/-- 'mootlaw12.QuorumOrderless', WHERE WHAT IT READS IS OF BULK AT MOST 1048576: true; the input reads as it did. -/
def quorumOrderlessUptoRow : OpenClaim := { program := "ytfgcepnjdjjlbaa", sum := "fd34b0bc2fd7918817be4a35a89dbadad26c71c37deacdb44c52d85772c12b7d", func := "moot/mootlaw12.QuorumOrderless", spec := "quorumOrderless", unfollowed := true, recurses := true, apart := false, narrowed := true }
def QuorumOrderlessUptoSaid : Prop := quorumOrderlessUptoRow.holds Try.pinned (OpenSpec.upto quorumOrderlessSpec)

end Rows
end Go.Proofs.Ytfgcepnjdjjlbaa
