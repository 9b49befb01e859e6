/- The plain mathematics of CommandNewer: what is valid at version 1; nothing of the program is named here. -/
import Derived.Test.YtooejihnifphkaaGreatDoorHMath
namespace Go.Wire1
open Go.RowKit

def isOld (c : Cm) : Bool := decide (c.kind ≤ 5) && (decide (c.val.size ≤ 1024) && decide (c.old.size ≤ 1024))
theorem fault_12 (c : Cm) (f : Nat) (hf : f < 7) (h45 : f ≠ 4 ∧ f ≠ 5) : faultF 1 c f = faultF 2 c f := by
  have : allowF 1 c f = allowF 2 c f := by
    rcases (by omega : f = 0 ∨ f = 1 ∨ f = 2 ∨ f = 3 ∨ f = 6) with rfl | rfl | rfl | rfl | rfl <;> rfl
  unfold faultF; rw [this]
theorem firstF_zero (v : Int) (c : Cm) : (firstF v c 7 0 = 0) ↔ ∀ f, f < 7 → faultF v c f = 0 := by
  constructor
  · intro h
    have go : ∀ k f, firstF v c k f = 0 → ∀ j, f ≤ j → j < f + k → faultF v c j = 0 := by
      intro k
      induction k with
      | zero => intro f _ j h1 h2; omega
      | succ k ih =>
        intro f hf j h1 h2
        simp only [firstF] at hf
        by_cases h0 : faultF v c f = 0
        · rw [if_pos h0] at hf
          by_cases e : j = f
          · rw [e]; exact h0
          · exact ih (f + 1) hf j (by omega) (by omega)
        · rw [if_neg h0] at hf; exact absurd hf h0
    exact fun f hf => go 7 0 h f (by omega) (by omega)
  · intro h
    have go : ∀ k f, (∀ j, f ≤ j → j < f + k → faultF v c j = 0) → firstF v c k f = 0 := by
      intro k
      induction k with
      | zero => intro f _; rfl
      | succ k ih =>
        intro f hf
        simp only [firstF]
        rw [if_pos (hf f (by omega) (by omega))]
        exact ih (f + 1) (fun j h1 h2 => hf j (by omega) (by omega))
    exact go 7 0 (fun j _ h2 => h j (by omega))
theorem fault_val (v : Int) (c : Cm) : faultF v c 4 = 0 ↔ if hasF c.kind 4 then c.val.size ≤ mostV v else c.val.size = 0 := by
  unfold faultF
  cases hasF c.kind 4
  · simp only [Bool.false_eq_true, if_false, zeroF]
    have : c.val.toList.isEmpty = decide (c.val.size = 0) := by
      rw [Lib.size_eq, Lib.toList_data]; cases c.val.data.toList <;> simp
    rw [this]
    by_cases h : c.val.size = 0 <;> simp [h]
  · simp only [if_true, allowF]
    by_cases h : c.val.size ≤ mostV v <;> simp [h, errF]
theorem fault_old (v : Int) (c : Cm) : faultF v c 5 = 0 ↔ if hasF c.kind 5 then c.old.size ≤ mostV v else c.old.size = 0 := by
  unfold faultF
  cases hasF c.kind 5
  · simp only [Bool.false_eq_true, if_false, zeroF]
    have : c.old.toList.isEmpty = decide (c.old.size = 0) := by
      rw [Lib.size_eq, Lib.toList_data]; cases c.old.data.toList <;> simp
    rw [this]
    by_cases h : c.old.size = 0 <;> simp [h]
  · simp only [if_true, allowF]
    by_cases h : c.old.size ≤ mostV v <;> simp [h, errF]
theorem kd_12 (kind : Int) : isKd 1 kind = true ↔ isKd 2 kind = true ∧ kind ≤ 5 := by
  by_cases h0 : 0 ≤ kind
  · by_cases h9 : kind < 9
    · obtain ⟨k, rfl⟩ := Int.eq_ofNat_of_zero_le h0
      have h : ∀ k : Fin 9, isKd 1 (k.val : Int) = true ↔ isKd 2 (k.val : Int) = true ∧ (k.val : Int) ≤ 5 := by decide
      exact h ⟨k, by omega⟩
    · simp [isKd, h9]
  · simp [isKd, h0]
/-- What is valid at version 1. -/
theorem newer (c : Cm) : (chk 1 c = 0) ↔ (chk 2 c = 0 ∧ isOld c = true) := by
  have e : ∀ v, isVer v = true → (chk v c = 0 ↔ isKd v c.kind = true ∧ ∀ f, f < 7 → faultF v c f = 0) := by
    intro v hv
    unfold chk
    rw [hv, if_pos rfl]
    cases h : isKd v c.kind with
    | false => simp
    | true => simp only [if_true, true_and]; exact firstF_zero v c
  rw [e 1 rfl, e 2 rfl, kd_12]
  simp only [isOld, Bool.and_eq_true, decide_eq_true_eq]
  have m1 : mostV 1 = 1024 := rfl
  have m2 : mostV 2 = 65536 := rfl
  constructor
  · rintro ⟨⟨h1, h2⟩, h3⟩
    have v4 := (fault_val 1 c).1 (h3 4 (by omega))
    have v5 := (fault_old 1 c).1 (h3 5 (by omega))
    rw [m1] at v4 v5
    refine ⟨⟨h1, fun f hf => ?_⟩, h2, ?_, ?_⟩
    · by_cases h4 : f = 4
      · subst h4; rw [fault_val 2 c, m2]; split at v4 <;> rename_i hh <;> simp only [hh, if_true, Bool.false_eq_true, if_false] <;> omega
      · by_cases h5 : f = 5
        · subst h5; rw [fault_old 2 c, m2]; split at v5 <;> rename_i hh <;> simp only [hh, if_true, Bool.false_eq_true, if_false] <;> omega
        · rw [← fault_12 c f hf ⟨h4, h5⟩]; exact h3 f hf
    · split at v4 <;> omega
    · split at v5 <;> omega
  · rintro ⟨⟨h1, h3⟩, h2, h4v, h5v⟩
    have v4 := (fault_val 2 c).1 (h3 4 (by omega))
    have v5 := (fault_old 2 c).1 (h3 5 (by omega))
    refine ⟨⟨h1, h2⟩, fun f hf => ?_⟩
    by_cases h4 : f = 4
    · subst h4; rw [fault_val 1 c, m1]; split at v4 <;> rename_i hh <;> simp only [hh, if_true, Bool.false_eq_true, if_false] <;> omega
    · by_cases h5 : f = 5
      · subst h5; rw [fault_old 1 c, m1]; split at v5 <;> rename_i hh <;> simp only [hh, if_true, Bool.false_eq_true, if_false] <;> omega
      · rw [fault_12 c f hf ⟨h4, h5⟩]; exact h3 f hf
end Go.Wire1
