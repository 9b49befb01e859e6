/- The contract of the statements' own put. -/
import Derived.Test.YtjojiccojmajoaaDoorRows
import Derived.WalkKit
namespace Go.Proofs.YtjojiccojmajoaaDoor
open Go.RowKit
set_option maxHeartbeats 400000 in
set_option maxRecDepth 100000 in
theorem put_any (k : ByteArray) (w : World) :
    Calls Tryd.prog 7 #[.string k] w fun e w' => e = .returned (.agg #[.int .i64 2, .int .i64 7, .int .i64 300, .string k, .string ⟨#[]⟩, .string ⟨#[118, 119]⟩, .string ⟨#[]⟩, .int .i64 0]) ∧ Below w.heap.size w w' := by
  go_enter Tryd.func7, Tryd.ntmps7
  go_wp2
  refine bodyPost_ret (v := .agg #[.int .i64 2, .int .i64 7, .int .i64 300, .string k, .string ⟨#[]⟩, .string ⟨#[118, 119]⟩, .string ⟨#[]⟩, .int .i64 0]) (by simp [results, Tryd.results7, go_sem]) rfl ⟨rfl, ?_⟩
  exact (Below.refl _ _).alloc (Nat.le_refl _) _
end Go.Proofs.YtjojiccojmajoaaDoor
