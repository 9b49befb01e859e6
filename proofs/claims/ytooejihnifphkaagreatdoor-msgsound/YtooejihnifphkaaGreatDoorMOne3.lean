/- The texts of a valid message's command are short. -/
import Derived.Test.YtooejihnifphkaaGreatDoorMOne2
namespace Go.Proofs.YtooejihnifphkaaGreatDoor
open Go.RowKit Go.Wire1

theorem empty_size {s : ByteArray} (h : s.toList.isEmpty = true) : s.size = 0 := by rw [empty_of h]; rfl
theorem key_le {k : ByteArray} (h : isKeyB k = true) : k.size ≤ 64 := by
  unfold isKeyB at h
  simp only [Bool.and_eq_true, decide_eq_true_eq] at h
  exact h.2
/-- The lengths of a valid command's texts. -/
theorem chk_sizes {v : Int} {c : Cm} (h : chk v c = 0) : c.key.size ≤ 64 ∧ c.key2.size ≤ 64 ∧ c.val.size ≤ mostV v ∧ c.old.size ≤ mostV v := by
  have hf := (chk_zero h).2.2
  refine ⟨?_, ?_, ?_, ?_⟩
  · cases hh : hasF c.kind 2 with
    | false => rw [empty_size (zero_of (hf 2 (by decide)) rfl hh)]; omega
    | true => exact key_le (allow_of (hf 2 (by decide)) (by decide) rfl hh)
  · cases hh : hasF c.kind 3 with
    | false => rw [empty_size (zero_of (hf 3 (by decide)) rfl hh)]; omega
    | true =>
      have := allow_of (hf 3 (by decide)) (by decide) rfl hh
      exact key_le (Bool.and_eq_true_iff.1 this).1
  · cases hh : hasF c.kind 4 with
    | false => rw [empty_size (zero_of (hf 4 (by decide)) rfl hh)]; omega
    | true => exact of_decide_eq_true (allow_of (hf 4 (by decide)) (by decide) rfl hh)
  · cases hh : hasF c.kind 5 with
    | false => rw [empty_size (zero_of (hf 5 (by decide)) rfl hh)]; omega
    | true => exact of_decide_eq_true (allow_of (hf 5 (by decide)) (by decide) rfl hh)
theorem load_keys {v n : Int} {may : Bool} {c : Cm} {sq : Int} {dl : List Int} (h : loadF v n may c sq dl = 0) : c.key.size ≤ 140737488351232 ∧ c.key2.size ≤ 140737488351232 := by
  have hs := chk_sizes (val_load h).1
  omega
theorem msg_keys {v n : Int} {m : Ms} (h0 : chkM v n m = 0) : m.c.key.size ≤ 140737488351232 ∧ m.c.key2.size ≤ 140737488351232 := by
  obtain ⟨h1, h2, h3, h4⟩ := val_msg h0
  have ho := only_self h3
  have h7 := shK_le m
  generalize shK m = z at *
  have hz : ∀ c : Cm, c = zeroC → c.key.size ≤ 140737488351232 ∧ c.key2.size ≤ 140737488351232 := fun c e => by subst e; exact ⟨by show (0 : Nat) ≤ _; omega, by show (0 : Nat) ≤ _; omega⟩
  rcases (by omega : z = 0 ∨ z = 1 ∨ z = 2 ∨ z = 3 ∨ z = 4 ∨ z = 5 ∨ z = 6 ∨ z = 7) with rfl | rfl | rfl | rfl | rfl | rfl | rfl | rfl
  · exact hz _ (congrArg Ms.c ho).symm
  · exact load_keys (orL_cons.1 (orL_cons.1 (orL_cons.1 h4).2).2).1
  · exact hz _ (congrArg Ms.c ho).symm
  · exact hz _ (congrArg Ms.c ho).symm
  · exact load_keys (orL_cons.1 (orL_cons.1 h4).2).1
  · exact hz _ (congrArg Ms.c ho).symm
  · exact load_keys (orL_cons.1 (orL_cons.1 (orL_cons.1 (orL_cons.1 h4).2).2).2).1
  · exact hz _ (congrArg Ms.c ho).symm
end Go.Proofs.YtooejihnifphkaaGreatDoor
