/- A struct built of parts, some of many cells, as the walk meets it. -/
import Derived.Test.YtjpggmenbnkbbaaGreatDoorBlk
import Derived.Test.YtjpggmenbnkbbaaGreatDoorRMath
import Derived.Laws.Tables
import Derived.Test.YtjpggmenbnkbbaaGreatDoorRows
namespace Go.Proofs.YtjpggmenbnkbbaaGreatDoor
open Go.RowKit Go.Wire1

theorem wpList_build {P : Program} {ops : Array Oper} {rest : List Oper} {op : Oper} {a : Act} {w : World} {Q : Exit → Act → World → Prop} (hgd : op.guard = none) (ty : TypeId) (parts : List (Nat × Operand)) (ho : op.op = .build ty parts.toArray)
    (vs : List (Nat × Value)) (hv : (parts.map fun p => (p.1, a.eval p.2)) = vs) (cells : Array Value) (hb : P.built ty vs = some cells) (h : wpList P ops Q rest (a.put op.dst (.agg cells)) w) : wpList P ops Q (op :: rest) a w :=
  wpList_plain hgd fun _ hK => by
    unfold Oper.wp execOp
    have e : (parts.toArray.map fun (x : Nat × Operand) => match x with | (i, x) => (i, a.eval x)) = vs.toArray := by rw [← hv]; simp
    simp only [ho]
    rw [e]
    simp only [Sem.run_bind, Sem.run_pure, Result.andThen_ok, run_build w ty vs.toArray cells (by simpa using hb)]
    exact hK _ _ h
theorem built_writer (r : Rc) (b : Option Addr) (n c : Nat) : Tryz.prog.built 49 [(0, Value.agg (rcs r).toArray), (1, Value.slice b n c)] = some (rcs r ++ [Value.slice b n c]).toArray := by kernel_rfl
end Go.Proofs.YtjpggmenbnkbbaaGreatDoor
