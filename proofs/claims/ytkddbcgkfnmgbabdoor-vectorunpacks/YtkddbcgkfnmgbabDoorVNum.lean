/- The contract of the statements' own num. -/
import Derived.Test.YtkddbcgkfnmgbabDoorRows
import Derived.WalkKit
namespace Go.Proofs.YtkddbcgkfnmgbabDoor
open Go.RowKit

set_option maxRecDepth 100000 in
theorem num_any (x : Int) (w : World) :
    Calls Tryd.prog 9 #[.int .i64 x] w fun e w' => e = .returned (.int .i64 x) ∧ w = w' := by
  go_enter Tryd.func9, Tryd.ntmps9
  go_wp2
  go_ret
  exact ⟨rfl, rfl⟩
end Go.Proofs.YtkddbcgkfnmgbabDoor
