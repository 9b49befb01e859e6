/- The contract of the statements' own num. -/
import Derived.Test.YtjojiccojmajoaaDoorRows
import Derived.WalkKit
namespace Go.Proofs.YtjojiccojmajoaaDoor
open Go.RowKit
set_option maxHeartbeats 400000 in
set_option maxRecDepth 100000 in
theorem num_any (e : Int) (w : World) :
    Calls Tryd.prog 8 #[.int .i64 e] w fun e' w' => e' = .returned (.int .i64 e) ∧ w = w' := by
  go_enter Tryd.func8, Tryd.ntmps8
  go_wp2
  go_ret
  exact ⟨rfl, rfl⟩
end Go.Proofs.YtjojiccojmajoaaDoor
