/- The contract of the statements' helper begins. -/
import Derived.Test.YtbgahocmabiaeaaDkShow
namespace Go.Proofs.Ytbgahocmabiaeaa
open Go.RowKit Go.Wire1

set_option maxHeartbeats 1000000 in
set_option maxRecDepth 100000 in
theorem begins_yes (w : World) (a c : Option Addr) (n k cap cap' : Nat) (xs ys : List Int) (ha : Seg w a n xs) (hc : Seg w c k ys) (hk : n ≤ k) (hcap : k ≤ cap') (_hcm : cap' ≤ maxLen) (he : ys.take n = xs) :
    Calls Try.prog 23 #[.slice a n cap, .slice c k cap'] w fun r w' => r = .returned (.bool true) ∧ ∃ q, w' = w.drewN q := by
  have HA := hide ha
  have HC : Hid (Seg w c n xs) := by have := hc.take hk; rw [he] at this; exact this
  clear ha hc he
  have q1 : ¬ ((k : Int) < (n : Int)) := by omega
  have q2 : (n : Int) ≤ (cap' : Int) := by omega
  go_enter Try.func23, Try.ntmps23
  go_wp2_with fail
  refine (same_any a c n n cap cap' xs xs _ HA.out HC.out).mono ?_
  rintro e w2 ⟨rfl, q, rfl⟩
  rw [same_yes rfl]
  go_wp2
  go_ret
  exact ⟨rfl, q, rfl⟩
end Go.Proofs.Ytbgahocmabiaeaa
