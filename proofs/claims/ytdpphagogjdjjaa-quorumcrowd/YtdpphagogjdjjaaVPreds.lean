/- The contracts of isVector, isPlace and Covers. -/
import Derived.Test.YtdpphagogjdjjaaVInts
namespace Go.Proofs.Ytdpphagogjdjjaa
open Go.RowKit Go.Wire1

theorem isVec_fault {l : List Int} : isVec l = decide (fault l = 0) := by
  unfold isVec fault
  cases okW l.length <;> cases okL l <;> simp

def isPl (n : Nat) (i : Int) : Bool := decide (0 ≤ i ∧ i < n)

/-- The first list is nowhere below the second one, as far as k places. -/
def overK (xs ys : List Int) (k : Nat) : Bool := (List.range k).all fun q => decide (ys.getD q 0 ≤ xs.getD q 0)
def coversB (xs ys : List Int) : Bool := decide (xs.length = ys.length) && (isVec xs && (isVec ys && overK xs ys xs.length))
theorem overK_step {xs ys : List Int} {k : Nat} (h : overK xs ys k = true) (h2 : ys.getD k 0 ≤ xs.getD k 0) : overK xs ys (k + 1) = true := by
  unfold overK at *
  rw [List.range_succ, List.all_append, h]
  simp only [List.all_cons, List.all_nil, Bool.and_true, Bool.true_and, decide_eq_true_eq]
  exact h2
theorem overK_no {xs ys : List Int} {k n : Nat} (hk : k < n) (h : xs.getD k 0 < ys.getD k 0) : overK xs ys n = false := by
  rw [Bool.eq_false_iff]
  intro e
  have := of_decide_eq_true (List.all_eq_true.1 e k (List.mem_range.2 hk))
  omega
theorem overK_iff {xs ys : List Int} {n : Nat} : overK xs ys n = true ↔ ∀ q, q < n → ys.getD q 0 ≤ xs.getD q 0 := by
  unfold overK
  rw [List.all_eq_true]
  constructor
  · intro h q hq
    exact of_decide_eq_true (h q (List.mem_range.2 hq))
  · intro h q hq
    exact decide_eq_true (h q (List.mem_range.1 hq))

end Go.Proofs.Ytdpphagogjdjjaa
