/- An argument that is a ballot. -/
import Derived.Test.YtpbbbbmnboeffaaQArgs
namespace Go.Proofs.Ytpbbbbmnboeffaa
open Go.ChangeShapes Go.WideShapes Go.ChangeAt Go.RowKit Go.Wire1

set_option maxRecDepth 100000 in
theorem vopen_bal {H : Type} {enc : TypeId × Value → H} {W : World} {b0 : Nat} {v : Value} {d : DataW H} {p : List MemPlace}
    (hv : Value.okWide Try.prog W .any b0 23 v) (h : DataW.Trod enc Try.prog W 0 (fun _ => true) true 23 v d p) :
    ∃ x y : Int, v = .agg #[.int .i64 x, .int .i64 y] ∧ -9223372036854775808 ≤ x ∧ x ≤ 9223372036854775807 ∧ -9223372036854775808 ≤ y ∧ y ≤ 9223372036854775807 := by
  obtain ⟨c0, c1, y0, y1, n, rfl, _, _, t0, t1⟩ := Go.Joins.open_agg2 Try.underlying23 (by kernel_rfl) qcellsB hv h
  obtain ⟨k0, e0, _, w0⟩ := DataW.trod_int Try.underlying3 t0
  obtain ⟨k1, e1, _, w1⟩ := DataW.trod_int Try.underlying3 t1
  simp only [List.cons.injEq, and_true] at e0 e1
  subst e0 e1
  have b0 := bounds_i64 w0
  have b1 := bounds_i64 w1
  exact ⟨k0, k1, rfl, by omega, by omega, by omega, by omega⟩
end Go.Proofs.Ytpbbbbmnboeffaa
