/- The contract of isVersion. -/
import Derived.Test.YtooejihnifphkaaGreatDoorRows
import Derived.WalkKit
namespace Go.Proofs.YtooejihnifphkaaGreatDoor
open Go.RowKit

def okV (v : Int) : Bool := decide (v = 1 ∨ v = 2)
set_option maxRecDepth 100000 in
theorem visVersion_any (v : Int) (w : World) :
    Calls Tryz.prog 83 #[.int .i64 v] w fun e w' => e = .returned (.bool (okV v)) ∧ w = w' := by
  by_cases h1 : v = 1
  · subst h1
    go_enter Tryz.func83, Tryz.ntmps83
    go_wp2
    go_ret
    exact ⟨rfl, rfl⟩
  · by_cases h2 : v = 2
    · subst h2
      go_enter Tryz.func83, Tryz.ntmps83
      go_wp2
      go_ret
      exact ⟨rfl, rfl⟩
    · have HQ : Hid (okV v = false) := decide_eq_false (by omega)
      have d1 : (v == 1) = false := beq_eq_false_iff_ne.2 h1
      have d2 : (v == 2) = false := beq_eq_false_iff_ne.2 h2
      go_enter Tryz.func83, Tryz.ntmps83
      go_wp2
      go_ret
      exact ⟨by rw [HQ.out]; rfl, rfl⟩

end Go.Proofs.YtooejihnifphkaaGreatDoor
