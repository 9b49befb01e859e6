/- What Check takes: the bounds of a valid message's fields; its bytes. -/
import Derived.Test.YtooejihnifphkaaGreatDoorMCheck
import Derived.Test.YtooejihnifphkaaGreatDoorMBytesH
import Derived.Test.YtooejihnifphkaaGreatDoorOMath
namespace Go.Proofs.YtooejihnifphkaaGreatDoor
open Go.RowKit Go.Wire1

theorem unl_zero {b : Bool} {e : Int} (he : e ≠ 0) : unl b e = 0 ↔ b = true := by
  unfold unl
  cases b <;> simp [he]
theorem orL_cons {x : Int} {r : List Int} : orL (x :: r) = 0 ↔ x = 0 ∧ orL r = 0 := by
  rw [orL]
  by_cases h : x = 0
  · rw [if_pos h]; simp [h]
  · rw [if_neg h]; simp [h]
theorem orL_nil : orL [] = 0 := rfl
theorem val_inst {n row num : Int} (h : instB n row num = true) : 0 ≤ row ∧ row < n ∧ 1 ≤ num ∧ num ≤ 1048576 := by
  unfold instB at h
  simpa only [Bool.and_eq_true, decide_eq_true_eq] using h
theorem val_bal {n row x y : Int} (h : balB n row x y = true) : 0 ≤ x ∧ x ≤ 65535 ∧ 0 ≤ y ∧ y < n ∧ (0 < x ∨ y = row) := by
  unfold balB at h
  simpa only [Bool.and_eq_true, Bool.or_eq_true, decide_eq_true_eq, beq_iff_eq] using h
theorem val_ball {k : Nat} {n row x y : Int} (h : ballB k n row x y = true) : balB n row x y = true ∧ (rndM.getD k 0 : Int) ≤ x := by
  unfold ballB at h
  simpa only [Bool.and_eq_true, decide_eq_true_eq] using h
theorem val_deps {n : Int} {noop : Bool} {l : List Int} (h : depsB n noop l = true) (hn : 1 ≤ n ∧ n ≤ 7) : (l.length : Int) = n ∧ isVec l = true ∧ ∀ d ∈ l, 0 ≤ d ∧ d ≤ if noop then 0 else 1048576 := by
  unfold depsB at h
  simp only [Bool.and_eq_true, beq_iff_eq, List.all_eq_true] at h
  obtain ⟨h1, h2⟩ := h
  have h3 : ∀ d ∈ l, 0 ≤ d ∧ d ≤ if noop then 0 else 1048576 := fun d hd => by
    have := h2 d hd
    unfold depP at this
    simp only [Bool.and_eq_true, decide_eq_true_eq] at this
    exact this
  refine ⟨h1, ?_, h3⟩
  unfold isVec
  have e1 : okW l.length = true := by unfold okW; simp; omega
  have e2 : okL l = true := by
    unfold okL
    rw [List.all_eq_true]
    intro d hd
    have := h3 d hd
    unfold okE
    cases noop <;> simp at this ⊢ <;> omega
  rw [e1, e2]; rfl
theorem diffK_ten (l : List Int) (k : Nat) : (diffK l k).length ≤ 10 * k := by
  induction k with
  | zero => simp [diffK]
  | succ k ih =>
    simp only [diffK, List.length_append]
    split
    · simp; omega
    · have := enc_ten (zig (l.getD k 0 - prev l k)); omega
theorem packR_len {v : Int} {l : List Int} (hv : v = 1 ∨ v = 2) (h : isVec l = true) : 0 < (packR v l).length ∧ (packR v l).length ≤ 1000 := by
  rw [packR_vec hv h]
  unfold isVec at h
  rw [Bool.and_eq_true] at h
  have hw : 1 ≤ l.length ∧ l.length ≤ 7 := by have := h.1; unfold okW at this; simpa using this
  unfold packL
  split
  · have := plainK_len h.2 l.length; omega
  · unfold Wire1.tight
    rw [List.length_append]
    have := encF_pos (maskK l l.length); have := enc_ten (maskK l l.length); have := diffK_ten l l.length
    omega
theorem val_call {v n : Int} (h : callF v n = 0) : (v = 1 ∨ v = 2) ∧ 1 ≤ n ∧ n ≤ 7 := by
  unfold callF at h
  split at h
  · rename_i h1
    split at h
    · rename_i h2; exact ⟨h1, h2⟩
    · cases h
  · cases h
theorem val_load {v n : Int} {may : Bool} {c : Cm} {sq : Int} {dl : List Int} (h : loadF v n may c sq dl = 0) : chk v c = 0 ∧ (may || !(c.kind == 0)) = true ∧ seqB (c.kind == 0) sq = true ∧ depsB n (c.kind == 0) dl = true := by
  unfold loadF at h
  simp only [orL_cons, orL_nil, and_true, unl_zero (show (57 : Int) ≠ 0 by decide), unl_zero (show (55 : Int) ≠ 0 by decide), unl_zero (show (56 : Int) ≠ 0 by decide)] at h
  exact ⟨by omega, h.2.1, h.2.2.1, h.2.2.2⟩
theorem val_seq {noop : Bool} {sq : Int} (h : seqB noop sq = true) : 0 ≤ sq ∧ sq ≤ 1073741824 := by
  unfold seqB at h
  cases noop <;> simp at h <;> omega
/-- A valid message's bytes, in parts. -/
def msP (v : Int) (m : Ms) : Nat → List (List Int)
  | 1 => [staP v m.kind.toNat m.row.toNat m.num.toNat, balP v m.x.toNat m.y.toNat, lodP v m.c m.sq.toNat m.dl]
  | 2 => [staP v m.kind.toNat m.row.toNat m.num.toNat, balP v m.x.toNat m.y.toNat, attP v m.sq.toNat m.dl]
  | 3 => [staP v m.kind.toNat m.row.toNat m.num.toNat, balP v m.x.toNat m.y.toNat]
  | 4 => [staP v m.kind.toNat m.row.toNat m.num.toNat, lodP v m.c m.sq.toNat m.dl]
  | 5 => [staP v m.kind.toNat m.row.toNat m.num.toNat, balP v m.x.toNat m.y.toNat, votP v 0 false]
  | 6 => [staP v m.kind.toNat m.row.toNat m.num.toNat, balP v m.x.toNat m.y.toNat, votP v m.st.toNat m.sm, balP v m.p.toNat m.q.toNat, lodP v m.c m.sq.toNat m.dl]
  | 7 => [staP v m.kind.toNat m.row.toNat m.num.toNat, balP v m.x.toNat m.y.toNat, balP v m.p.toNat m.q.toNat]
  | _ => [staP v m.kind.toNat m.row.toNat m.num.toNat]
def msB (v : Int) (m : Ms) : List Int := (msP v m (shK m)).flatten
/-- What Check takes. -/
theorem val_msg {v n : Int} {m : Ms} (h : chkM v n m = 0) : callF v n = 0 ∧ isMK v m.kind = true ∧ extraM m = false ∧ shF v n m (shK m) = 0 := by
  unfold chkM at h
  split at h
  · rename_i h1
    split at h
    · rename_i h2
      split at h
      · cases h
      · rename_i h3; exact ⟨h1, h2, by simpa using h3, h⟩
    · cases h
  · rename_i h1; exact absurd h h1
theorem shF_inst {v n : Int} {m : Ms} {k : Nat} (h : shF v n m k = 0) : instB n m.row m.num = true := by
  have h52 : (52 : Int) ≠ 0 := by decide
  match k with
  | 0 => exact (unl_zero h52).1 h
  | 1 => exact (unl_zero h52).1 (orL_cons.1 h).1
  | 2 => exact (unl_zero h52).1 (orL_cons.1 h).1
  | 3 => exact (unl_zero h52).1 (orL_cons.1 h).1
  | 4 => exact (unl_zero h52).1 (orL_cons.1 h).1
  | 5 => exact (unl_zero h52).1 (orL_cons.1 h).1
  | 6 => exact (unl_zero h52).1 (orL_cons.1 h).1
  | 7 => exact (unl_zero h52).1 (orL_cons.1 h).1
  | k + 8 => exact (unl_zero h52).1 h
def hasB : Nat → Bool
  | 1 => true
  | 2 => true
  | 3 => true
  | 5 => true
  | 6 => true
  | 7 => true
  | _ => false
theorem shF_ball {v n : Int} {m : Ms} {k : Nat} (h : shF v n m k = 0) (hb : hasB k = true) : ballB m.kind.toNat n m.row m.x m.y = true := by
  have h53 : (53 : Int) ≠ 0 := by decide
  match k, hb with
  | 1, _ => exact (unl_zero h53).1 (orL_cons.1 (orL_cons.1 h).2).1
  | 2, _ => exact (unl_zero h53).1 (orL_cons.1 (orL_cons.1 h).2).1
  | 3, _ => exact (unl_zero h53).1 (orL_cons.1 (orL_cons.1 h).2).1
  | 5, _ => exact (unl_zero h53).1 (orL_cons.1 (orL_cons.1 h).2).1
  | 6, _ => exact (unl_zero h53).1 (orL_cons.1 (orL_cons.1 h).2).1
  | 7, _ => exact (unl_zero h53).1 (orL_cons.1 (orL_cons.1 h).2).1
end Go.Proofs.YtooejihnifphkaaGreatDoor
