/-
  No cell of these rows narrows 'for every input' (looked for: loops, veiled, ifaces, maps, wideKeys, modest, calm, conditions, laid).
  DERIVED. THE GIVEN ROWS OF THIS SEAT. 6 by the template 'for every input the law returns true; each argument reads behind the call as it read before'; 0 by the template 'total and deterministic' (their statements: YtkddbcgkfnmgbaaTotals.lean).
  GIVEN WITH THE SEED: the statements are not yours to turn. If you find one false, say at which input.
  Laid BY PROGRAM, IN A SANDBOX (cutbox-rows.mjs): the forced cells as the released guide's own fill.sh prints them over the translation 052d597ca8583a72… (all of the seat's roots in one cut). By AI agents, Wed Nov 11 2026. No macro, syntax, notation, axiom, sorry.
-/
import Derived.Test.YtkddbcgkfnmgbaaChecked
import GoSem.Claim
import GoSem.ClaimJoined
import GoSem.ClaimMapViews
import Derived.JoinedTies
import Derived.KernelRfl
namespace Go.Proofs.Ytkddbcgkfnmgbaa
/- THE CELL 'sum', in the pinned program and in every row, IS THE sha256 OF THE DUMP (.gsa) THAT YtkddbcgkfnmgbaaProg.lean LOADS. Nothing in Lean hashes anything: it is a label: what it is worth is what the hold of that sum in a sandbox is worth. -/
noncomputable def Try.pinned : Pinned := { name := "ytkddbcgkfnmgbaa", sum := "052d597ca8583a721d6e4832ee072e8856ae5717c83de56c00a48db33165d398", checked := Try.checked }
namespace Rows
def none {H : Type} : Left H := { results := [], args := [] }

/-- 'mootlaw3.VectorOrderless': WHATEVER THE INPUT: true; the input reads as it did. -/
def vectorOrderlessSpec : ChangeSpec := { name := "vectorOrderless", fn := fun _ => fun
  | [d1, d2] => { results := [.lit (.bool true)], args := [d1, d2] }
  | _ => none }
def vectorOrderlessRow : OpenClaim := { program := "ytkddbcgkfnmgbaa", sum := "052d597ca8583a721d6e4832ee072e8856ae5717c83de56c00a48db33165d398", func := "moot/mootlaw3.VectorOrderless", spec := "vectorOrderless", apart := false }
def VectorOrderlessSaid : Prop := vectorOrderlessRow.holds Try.pinned (OpenSpec.ofChange vectorOrderlessSpec)

/-- ITS FALSE NEIGHBOUR: 'it returns false'. Refute it at one input. -/
def vectorOrderlessWrong : ChangeSpec := { name := "vectorOrderless", fn := fun _ => fun
  | [d1, d2] => { results := [.lit (.bool false)], args := [d1, d2] }
  | _ => none }
def VectorOrderlessWrongFalsely : Prop := vectorOrderlessRow.holds Try.pinned (OpenSpec.ofChange vectorOrderlessWrong)

/-- 'mootlaw3.VectorThrift': WHATEVER THE INPUT: true; the input reads as it did. -/
def vectorThriftSpec : ChangeSpec := { name := "vectorThrift", fn := fun _ => fun
  | [d] => { results := [.lit (.bool true)], args := [d] }
  | _ => none }
def vectorThriftRow : OpenClaim := { program := "ytkddbcgkfnmgbaa", sum := "052d597ca8583a721d6e4832ee072e8856ae5717c83de56c00a48db33165d398", func := "moot/mootlaw3.VectorThrift", spec := "vectorThrift", apart := false }
def VectorThriftSaid : Prop := vectorThriftRow.holds Try.pinned (OpenSpec.ofChange vectorThriftSpec)

/-- ITS FALSE NEIGHBOUR: 'it returns false'. Refute it at one input. -/
def vectorThriftWrong : ChangeSpec := { name := "vectorThrift", fn := fun _ => fun
  | [d] => { results := [.lit (.bool false)], args := [d] }
  | _ => none }
def VectorThriftWrongFalsely : Prop := vectorThriftRow.holds Try.pinned (OpenSpec.ofChange vectorThriftWrong)

/-- 'mootlaw3.VectorLeast': WHATEVER THE INPUT: true; the input reads as it did. -/
def vectorLeastSpec : ChangeSpec := { name := "vectorLeast", fn := fun _ => fun
  | [d1, d2] => { results := [.lit (.bool true)], args := [d1, d2] }
  | _ => none }
def vectorLeastRow : OpenClaim := { program := "ytkddbcgkfnmgbaa", sum := "052d597ca8583a721d6e4832ee072e8856ae5717c83de56c00a48db33165d398", func := "moot/mootlaw3.VectorLeast", spec := "vectorLeast", apart := false }
def VectorLeastSaid : Prop := vectorLeastRow.holds Try.pinned (OpenSpec.ofChange vectorLeastSpec)

/-- ITS FALSE NEIGHBOUR: 'it returns false'. Refute it at one input. -/
def vectorLeastWrong : ChangeSpec := { name := "vectorLeast", fn := fun _ => fun
  | [d1, d2] => { results := [.lit (.bool false)], args := [d1, d2] }
  | _ => none }
def VectorLeastWrongFalsely : Prop := vectorLeastRow.holds Try.pinned (OpenSpec.ofChange vectorLeastWrong)

/-- 'mootlaw3.VectorUnions': WHATEVER THE INPUT: true; the input reads as it did. -/
def vectorUnionsSpec : ChangeSpec := { name := "vectorUnions", fn := fun _ => fun
  | [d] => { results := [.lit (.bool true)], args := [d] }
  | _ => none }
def vectorUnionsRow : OpenClaim := { program := "ytkddbcgkfnmgbaa", sum := "052d597ca8583a721d6e4832ee072e8856ae5717c83de56c00a48db33165d398", func := "moot/mootlaw3.VectorUnions", spec := "vectorUnions", apart := false }
def VectorUnionsSaid : Prop := vectorUnionsRow.holds Try.pinned (OpenSpec.ofChange vectorUnionsSpec)

/-- ITS FALSE NEIGHBOUR: 'it returns false'. Refute it at one input. -/
def vectorUnionsWrong : ChangeSpec := { name := "vectorUnions", fn := fun _ => fun
  | [d] => { results := [.lit (.bool false)], args := [d] }
  | _ => none }
def VectorUnionsWrongFalsely : Prop := vectorUnionsRow.holds Try.pinned (OpenSpec.ofChange vectorUnionsWrong)

/-- 'mootlaw3.VectorMeans': WHATEVER THE INPUT: true; the input reads as it did. -/
def vectorMeansSpec : ChangeSpec := { name := "vectorMeans", fn := fun _ => fun
  | [d1, d2, d3, d4] => { results := [.lit (.bool true)], args := [d1, d2, d3, d4] }
  | _ => none }
def vectorMeansRow : OpenClaim := { program := "ytkddbcgkfnmgbaa", sum := "052d597ca8583a721d6e4832ee072e8856ae5717c83de56c00a48db33165d398", func := "moot/mootlaw3.VectorMeans", spec := "vectorMeans", apart := false }
def VectorMeansSaid : Prop := vectorMeansRow.holds Try.pinned (OpenSpec.ofChange vectorMeansSpec)

/-- ITS FALSE NEIGHBOUR: 'it returns false'. Refute it at one input. -/
def vectorMeansWrong : ChangeSpec := { name := "vectorMeans", fn := fun _ => fun
  | [d1, d2, d3, d4] => { results := [.lit (.bool false)], args := [d1, d2, d3, d4] }
  | _ => none }
def VectorMeansWrongFalsely : Prop := vectorMeansRow.holds Try.pinned (OpenSpec.ofChange vectorMeansWrong)

/-- 'mootlaw3.VectorPacks': WHATEVER THE INPUT: true; the input reads as it did. -/
def vectorPacksSpec : ChangeSpec := { name := "vectorPacks", fn := fun _ => fun
  | [d1, d2] => { results := [.lit (.bool true)], args := [d1, d2] }
  | _ => none }
def vectorPacksRow : OpenClaim := { program := "ytkddbcgkfnmgbaa", sum := "052d597ca8583a721d6e4832ee072e8856ae5717c83de56c00a48db33165d398", func := "moot/mootlaw3.VectorPacks", spec := "vectorPacks", apart := false }
def VectorPacksSaid : Prop := vectorPacksRow.holds Try.pinned (OpenSpec.ofChange vectorPacksSpec)

/-- ITS FALSE NEIGHBOUR: 'it returns false'. Refute it at one input. -/
def vectorPacksWrong : ChangeSpec := { name := "vectorPacks", fn := fun _ => fun
  | [d1, d2] => { results := [.lit (.bool false)], args := [d1, d2] }
  | _ => none }
def VectorPacksWrongFalsely : Prop := vectorPacksRow.holds Try.pinned (OpenSpec.ofChange vectorPacksWrong)

/- THE SECOND FORM. 'bulk': how many values and letters a reading holds, each counted each time it is reached (what is shared counts as often as it is met; a slice's spare places count too). A statement '..UptoSaid' is the law's where the arguments, and the package variables that the reading takes, are together of bulk at most 1048576: NARROWER than '..Said'. Prove '..Said' where nothing that the law and all that it calls make is longer than what came in: it says more and counts as full. Else prove '..UptoSaid'. A law counts once. -/
mutual
def uptoBulk {H : Type} : DataW H → Nat
  | .lit (.string bytes) => bytes.length + 1
  | .lit _ => 1
  | .nil => 1
  | .ptr d => uptoBulk d + 1
  | .slice elems spare => uptoBulkAll elems + uptoBulkAll spare + 1
  | .agg parts => uptoBulkAll parts + 1
  | .iface _ d => uptoBulk d + 1
  | .map entries => uptoBulkEntries entries + 1
  | .held _ => 1
def uptoBulkAll {H : Type} : List (DataW H) → Nat
  | [] => 0
  | d :: r => uptoBulk d + uptoBulkAll r
def uptoBulkEntries {H : Type} : List (Lit × DataW H) → Nat
  | [] => 0
  | x :: r => uptoBulkEntry x + uptoBulkEntries r
def uptoBulkEntry {H : Type} : Lit × DataW H → Nat
  | (.string bytes, d) => bytes.length + uptoBulk d + 1
  | (_, d) => uptoBulk d + 1
 end
def uptoSmall : (H : Type) → List (DataW H) → Bool := fun _ ds => decide (uptoBulkAll ds ≤ 1048576)
def OpenSpec.upto (s : _root_.Go.ChangeSpec) : _root_.Go.OpenSpec := { _root_.Go.OpenSpec.ofChange s with cond := some uptoSmall }

/-- 'mootlaw3.VectorOrderless', WHERE WHAT IT READS IS OF BULK AT MOST 1048576: true; the input reads as it did. -/
def vectorOrderlessUptoRow : OpenClaim := { program := "ytkddbcgkfnmgbaa", sum := "052d597ca8583a721d6e4832ee072e8856ae5717c83de56c00a48db33165d398", func := "moot/mootlaw3.VectorOrderless", spec := "vectorOrderless", apart := false, narrowed := true }
def VectorOrderlessUptoSaid : Prop := vectorOrderlessUptoRow.holds Try.pinned (OpenSpec.upto vectorOrderlessSpec)

/-- 'mootlaw3.VectorThrift', WHERE WHAT IT READS IS OF BULK AT MOST 1048576: true; the input reads as it did. -/
def vectorThriftUptoRow : OpenClaim := { program := "ytkddbcgkfnmgbaa", sum := "052d597ca8583a721d6e4832ee072e8856ae5717c83de56c00a48db33165d398", func := "moot/mootlaw3.VectorThrift", spec := "vectorThrift", apart := false, narrowed := true }
def VectorThriftUptoSaid : Prop := vectorThriftUptoRow.holds Try.pinned (OpenSpec.upto vectorThriftSpec)

/-- 'mootlaw3.VectorLeast', WHERE WHAT IT READS IS OF BULK AT MOST 1048576: true; the input reads as it did. -/
def vectorLeastUptoRow : OpenClaim := { program := "ytkddbcgkfnmgbaa", sum := "052d597ca8583a721d6e4832ee072e8856ae5717c83de56c00a48db33165d398", func := "moot/mootlaw3.VectorLeast", spec := "vectorLeast", apart := false, narrowed := true }
def VectorLeastUptoSaid : Prop := vectorLeastUptoRow.holds Try.pinned (OpenSpec.upto vectorLeastSpec)

/-- 'mootlaw3.VectorUnions', WHERE WHAT IT READS IS OF BULK AT MOST 1048576: true; the input reads as it did. -/
def vectorUnionsUptoRow : OpenClaim := { program := "ytkddbcgkfnmgbaa", sum := "052d597ca8583a721d6e4832ee072e8856ae5717c83de56c00a48db33165d398", func := "moot/mootlaw3.VectorUnions", spec := "vectorUnions", apart := false, narrowed := true }
def VectorUnionsUptoSaid : Prop := vectorUnionsUptoRow.holds Try.pinned (OpenSpec.upto vectorUnionsSpec)

/-- 'mootlaw3.VectorMeans', WHERE WHAT IT READS IS OF BULK AT MOST 1048576: true; the input reads as it did. -/
def vectorMeansUptoRow : OpenClaim := { program := "ytkddbcgkfnmgbaa", sum := "052d597ca8583a721d6e4832ee072e8856ae5717c83de56c00a48db33165d398", func := "moot/mootlaw3.VectorMeans", spec := "vectorMeans", apart := false, narrowed := true }
def VectorMeansUptoSaid : Prop := vectorMeansUptoRow.holds Try.pinned (OpenSpec.upto vectorMeansSpec)

/-- 'mootlaw3.VectorPacks', WHERE WHAT IT READS IS OF BULK AT MOST 1048576: true; the input reads as it did. -/
def vectorPacksUptoRow : OpenClaim := { program := "ytkddbcgkfnmgbaa", sum := "052d597ca8583a721d6e4832ee072e8856ae5717c83de56c00a48db33165d398", func := "moot/mootlaw3.VectorPacks", spec := "vectorPacks", apart := false, narrowed := true }
def VectorPacksUptoSaid : Prop := vectorPacksUptoRow.holds Try.pinned (OpenSpec.upto vectorPacksSpec)

end Rows
end Go.Proofs.Ytkddbcgkfnmgbaa
