/- The contract of the statements' helper tooLong. -/
import Derived.Test.YtibdgnegdnapoabDoorRows
import Derived.Test.YtibdgnegdnapoabDoorMath
import Derived.WalkKit
namespace Go.Proofs.YtibdgnegdnapoabDoor
open Go.RowKit Go.Wire1

set_option maxHeartbeats 400000 in
set_option maxRecDepth 100000 in
theorem tooLong_any (a : Option Addr) (n cap : Nat) (w : World) :
    Calls Tryd.prog 15 #[.slice a n cap] w fun e w' => e = .returned (.bool (decide (268435456 ≤ n))) ∧ w' = w := by
  by_cases h : 268435456 ≤ n
  · have d : decide (268435456 ≤ n) = true := by simp; exact h
    rw [d]
    go_enter Tryd.func15, Tryd.ntmps15
    go_wp2
    go_ret
    refine ⟨?_, rfl⟩
    simp <;> omega
  · have d : decide (268435456 ≤ n) = false := by simp; omega
    rw [d]
    go_enter Tryd.func15, Tryd.ntmps15
    go_wp2
    go_ret
    refine ⟨?_, rfl⟩
    simp <;> omega
end Go.Proofs.YtibdgnegdnapoabDoor
