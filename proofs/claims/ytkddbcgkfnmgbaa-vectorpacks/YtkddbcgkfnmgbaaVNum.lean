/- The contract of the statements' own num. -/
import Derived.Test.YtkddbcgkfnmgbaaRows
import Derived.WalkKit
namespace Go.Proofs.Ytkddbcgkfnmgbaa
open Go.RowKit

set_option maxRecDepth 100000 in
theorem num_any (x : Int) (w : World) :
    Calls Try.prog 11 #[.int .i64 x] w fun e w' => e = .returned (.int .i64 x) ∧ w = w' := by
  go_enter Try.func11, Try.ntmps11
  go_wp2
  go_ret
  exact ⟨rfl, rfl⟩
end Go.Proofs.Ytkddbcgkfnmgbaa
