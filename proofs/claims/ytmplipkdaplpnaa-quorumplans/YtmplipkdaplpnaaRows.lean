/-
  No cell of these rows narrows 'for every input' (looked for: loops, veiled, ifaces, maps, wideKeys, modest, calm, conditions, laid).
  DERIVED. THE GIVEN ROWS OF THIS SEAT. 3 by the template 'for every input the law returns true; each argument reads behind the call as it read before'; 0 by the template 'total and deterministic' (their statements: YtmplipkdaplpnaaTotals.lean).
  GIVEN WITH THE SEED: the statements are not yours to turn. If you find one false, say at which input.
  Laid BY PROGRAM, IN A SANDBOX (cutbox-rows.mjs): the forced cells as the released guide's own fill.sh prints them over the translation e82ee7814f076c5e… (all of the seat's roots in one cut). By AI agents, Wed Nov 11 2026. No macro, syntax, notation, axiom, sorry.
-/
import Derived.Test.YtmplipkdaplpnaaChecked
import GoSem.Claim
import GoSem.ClaimJoined
import GoSem.ClaimMapViews
import Derived.JoinedTies
import Derived.KernelRfl
namespace Go.Proofs.Ytmplipkdaplpnaa
/- THE CELL 'sum', in the pinned program and in every row, IS THE sha256 OF THE DUMP (.gsa) THAT YtmplipkdaplpnaaProg.lean LOADS. Nothing in Lean hashes anything: it is a label: what it is worth is what the hold of that sum in a sandbox is worth. -/
noncomputable def Try.pinned : Pinned := { name := "ytmplipkdaplpnaa", sum := "e82ee7814f076c5e7b2be72bcc9a4cc2d663e8fe04d2528f86550b816ec4895d", checked := Try.checked }
namespace Rows
def none {H : Type} : Left H := { results := [], args := [] }

/-- 'mootlaw12.QuorumSlows': WHATEVER THE INPUT: true; the input reads as it did. -/
def quorumSlowsSpec : ChangeSpec := { name := "quorumSlows", fn := fun _ => fun
  | [d1, d2, d3, d4] => { results := [.lit (.bool true)], args := [d1, d2, d3, d4] }
  | _ => none }
def quorumSlowsRow : OpenClaim := { program := "ytmplipkdaplpnaa", sum := "e82ee7814f076c5e7b2be72bcc9a4cc2d663e8fe04d2528f86550b816ec4895d", func := "moot/mootlaw12.QuorumSlows", spec := "quorumSlows", unfollowed := true, recurses := true, apart := false }
def QuorumSlowsSaid : Prop := quorumSlowsRow.holds Try.pinned (OpenSpec.ofChange quorumSlowsSpec)

/-- ITS FALSE NEIGHBOUR: 'it returns false'. Refute it at one input. -/
def quorumSlowsWrong : ChangeSpec := { name := "quorumSlows", fn := fun _ => fun
  | [d1, d2, d3, d4] => { results := [.lit (.bool false)], args := [d1, d2, d3, d4] }
  | _ => none }
def QuorumSlowsWrongFalsely : Prop := quorumSlowsRow.holds Try.pinned (OpenSpec.ofChange quorumSlowsWrong)

/-- 'mootlaw12.QuorumPlans': WHATEVER THE INPUT: true; the input reads as it did. -/
def quorumPlansSpec : ChangeSpec := { name := "quorumPlans", fn := fun _ => fun
  | [d1, d2, d3] => { results := [.lit (.bool true)], args := [d1, d2, d3] }
  | _ => none }
def quorumPlansRow : OpenClaim := { program := "ytmplipkdaplpnaa", sum := "e82ee7814f076c5e7b2be72bcc9a4cc2d663e8fe04d2528f86550b816ec4895d", func := "moot/mootlaw12.QuorumPlans", spec := "quorumPlans", unfollowed := true, recurses := true, apart := false }
def QuorumPlansSaid : Prop := quorumPlansRow.holds Try.pinned (OpenSpec.ofChange quorumPlansSpec)

/-- ITS FALSE NEIGHBOUR: 'it returns false'. Refute it at one input. -/
def quorumPlansWrong : ChangeSpec := { name := "quorumPlans", fn := fun _ => fun
  | [d1, d2, d3] => { results := [.lit (.bool false)], args := [d1, d2, d3] }
  | _ => none }
def QuorumPlansWrongFalsely : Prop := quorumPlansRow.holds Try.pinned (OpenSpec.ofChange quorumPlansWrong)

/-- 'mootlaw12.QuorumFasts': WHATEVER THE INPUT: true; the input reads as it did. -/
def quorumFastsSpec : ChangeSpec := { name := "quorumFasts", fn := fun _ => fun
  | [d1, d2, d3, d4] => { results := [.lit (.bool true)], args := [d1, d2, d3, d4] }
  | _ => none }
def quorumFastsRow : OpenClaim := { program := "ytmplipkdaplpnaa", sum := "e82ee7814f076c5e7b2be72bcc9a4cc2d663e8fe04d2528f86550b816ec4895d", func := "moot/mootlaw12.QuorumFasts", spec := "quorumFasts", unfollowed := true, recurses := true, apart := false }
def QuorumFastsSaid : Prop := quorumFastsRow.holds Try.pinned (OpenSpec.ofChange quorumFastsSpec)

/-- ITS FALSE NEIGHBOUR: 'it returns false'. Refute it at one input. -/
def quorumFastsWrong : ChangeSpec := { name := "quorumFasts", fn := fun _ => fun
  | [d1, d2, d3, d4] => { results := [.lit (.bool false)], args := [d1, d2, d3, d4] }
  | _ => none }
def QuorumFastsWrongFalsely : Prop := quorumFastsRow.holds Try.pinned (OpenSpec.ofChange quorumFastsWrong)

/- THE SECOND FORM. 'bulk': how many values and letters a reading holds, each counted each time it is reached (what is shared counts as often as it is met; a slice's spare places count too). A statement '..UptoSaid' is the law's where the arguments, and the package variables that the reading takes, are together of bulk at most 1048576: NARROWER than '..Said'. Prove '..Said' where nothing that the law and all that it calls make is longer than what came in: it says more and counts as full. Else prove '..UptoSaid'. A law counts once. -/
mutual
def uptoBulk {H : Type} : DataW H → Nat
  | .lit (.string bytes) => bytes.length + 1
  | .lit _ => 1
  | .nil => 1
  | .ptr d => uptoBulk d + 1
  | .slice elems spare => uptoBulkAll elems + uptoBulkAll spare + 1
  | .agg parts => uptoBulkAll parts + 1
  | .iface _ d => uptoBulk d + 1
  | .map entries => uptoBulkEntries entries + 1
  | .held _ => 1
def uptoBulkAll {H : Type} : List (DataW H) → Nat
  | [] => 0
  | d :: r => uptoBulk d + uptoBulkAll r
def uptoBulkEntries {H : Type} : List (Lit × DataW H) → Nat
  | [] => 0
  | x :: r => uptoBulkEntry x + uptoBulkEntries r
def uptoBulkEntry {H : Type} : Lit × DataW H → Nat
  | (.string bytes, d) => bytes.length + uptoBulk d + 1
  | (_, d) => uptoBulk d + 1
 end
def uptoSmall : (H : Type) → List (DataW H) → Bool := fun _ ds => decide (uptoBulkAll ds ≤ 1048576)
def OpenSpec.upto (s : _root_.Go.ChangeSpec) : _root_.Go.OpenSpec := { _root_.Go.OpenSpec.ofChange s with cond := some uptoSmall }

/-- 'mootlaw12.QuorumSlows', WHERE WHAT IT READS IS OF BULK AT MOST 1048576: true; the input reads as it did. -/
def quorumSlowsUptoRow : OpenClaim := { program := "ytmplipkdaplpnaa", sum := "e82ee7814f076c5e7b2be72bcc9a4cc2d663e8fe04d2528f86550b816ec4895d", func := "moot/mootlaw12.QuorumSlows", spec := "quorumSlows", unfollowed := true, recurses := true, apart := false, narrowed := true }
def QuorumSlowsUptoSaid : Prop := quorumSlowsUptoRow.holds Try.pinned (OpenSpec.upto quorumSlowsSpec)

/-- 'mootlaw12.QuorumPlans', WHERE WHAT IT READS IS OF BULK AT MOST 1048576: true; the input reads as it did. -/
def quorumPlansUptoRow : OpenClaim := { program := "ytmplipkdaplpnaa", sum := "e82ee7814f076c5e7b2be72bcc9a4cc2d663e8fe04d2528f86550b816ec4895d", func := "moot/mootlaw12.QuorumPlans", spec := "quorumPlans", unfollowed := true, recurses := true, apart := false, narrowed := true }
def QuorumPlansUptoSaid : Prop := quorumPlansUptoRow.holds Try.pinned (OpenSpec.upto quorumPlansSpec)

/-- 'mootlaw12.QuorumFasts', WHERE WHAT IT READS IS OF BULK AT MOST 1048576: true; the input reads as it did. -/
def quorumFastsUptoRow : OpenClaim := { program := "ytmplipkdaplpnaa", sum := "e82ee7814f076c5e7b2be72bcc9a4cc2d663e8fe04d2528f86550b816ec4895d", func := "moot/mootlaw12.QuorumFasts", spec := "quorumFasts", unfollowed := true, recurses := true, apart := false, narrowed := true }
def QuorumFastsUptoSaid : Prop := quorumFastsUptoRow.holds Try.pinned (OpenSpec.upto quorumFastsSpec)

end Rows
end Go.Proofs.Ytmplipkdaplpnaa
