/- The plain mathematics of a command's bytes; nothing of the program is named here. -/
import Derived.Test.YtooejihnifphkaaGreatDoorHMath
namespace Go.Wire1
open Go.RowKit

/-- A text's bytes, as numbers. -/
def tx (s : ByteArray) : List Int := s.data.toList.map fun b => (b.toNat : Int)
theorem tx_len (s : ByteArray) : (tx s).length = s.size := by
  show (s.data.toList.map _).length = s.data.size
  rw [List.length_map, Array.length_toList]
/-- A text as an item: its length, its bytes. -/
def ptx (s : ByteArray) : List Int := enc s.size ++ tx s
/-- How many bytes two texts share at their beginning. -/
def shL : List UInt8 → List UInt8 → Nat
  | a :: x, b :: y => if a = b then shL x y + 1 else 0
  | _, _ => 0
def shared (k k2 : ByteArray) : Nat := shL k.data.toList k2.data.toList
theorem shL_le : ∀ x y : List UInt8, shL x y ≤ x.length ∧ shL x y ≤ y.length
  | [], _ => by simp [shL]
  | _ :: _, [] => by simp [shL]
  | a :: x, b :: y => by
    have := shL_le x y
    simp only [shL]
    split <;> simp <;> omega
theorem shared_le (k k2 : ByteArray) : shared k k2 ≤ k.size ∧ shared k k2 ≤ k2.size := by
  have := shL_le k.data.toList k2.data.toList
  rw [← Lib.size_eq, ← Lib.size_eq] at this
  exact this
theorem shL_drop : ∀ (i : Nat) (x y : List UInt8), i < x.length → i < y.length → shL (x.drop i) (y.drop i) = if x.getD i 0 = y.getD i 0 then shL (x.drop (i + 1)) (y.drop (i + 1)) + 1 else 0 := by
  intro i x y hx hy
  rw [List.drop_eq_getElem_cons hx, List.drop_eq_getElem_cons hy, List.getD, List.getD, List.getElem?_eq_getElem hx, List.getElem?_eq_getElem hy]
  rfl
theorem shL_end (i : Nat) (x y : List UInt8) (h : x.length ≤ i ∨ y.length ≤ i) : shL (x.drop i) (y.drop i) = 0 := by
  rcases h with h | h
  · rw [List.drop_eq_nil_of_le h]; rfl
  · rw [List.drop_eq_nil_of_le h]; cases x.drop i <;> rfl

def restC (c : Cm) : List Int :=
  if 6 ≤ c.kind then enc (shared c.key c.key2) ++ ptx (c.key2.extract (shared c.key c.key2) c.key2.size)
  else if c.kind = 5 then ptx c.old ++ ptx c.val
  else if c.kind = 2 then ptx c.val
  else if c.kind = 4 then enc (zig c.n)
  else []
/-- The bytes of a command. -/
def encC (c : Cm) : List Int := if c.kind = 0 then [0] else [c.kind] ++ enc c.client.toNat ++ enc c.req.toNat ++ ptx c.key ++ restC c

theorem chk_zero {v : Int} {c : Cm} (h : chk v c = 0) : (v = 1 ∨ v = 2) ∧ isKd v c.kind = true ∧ ∀ f, f < 7 → faultF v c f = 0 := by
  unfold chk at h
  cases h1 : isVer v with
  | false => rw [h1] at h; simp at h
  | true =>
    cases h2 : isKd v c.kind with
    | false => rw [h1, h2] at h; simp at h
    | true =>
      rw [h1, h2] at h
      simp only [if_true] at h
      refine ⟨by simpa [isVer] using h1, rfl, ?_⟩
      have go : ∀ k f, firstF v c k f = 0 → ∀ j, f ≤ j → j < f + k → faultF v c j = 0 := by
        intro k
        induction k with
        | zero => intro f _ j h1 h2; omega
        | succ k ih =>
          intro f hf j h1 h2
          simp only [firstF] at hf
          by_cases h0 : faultF v c f = 0
          · rw [if_pos h0] at hf
            by_cases e : j = f
            · rw [e]; exact h0
            · exact ih (f + 1) hf j (by omega) (by omega)
          · rw [if_neg h0] at hf; exact absurd hf h0
      exact fun f hf => go 7 0 h f (by omega) (by omega)
theorem has_allow {v : Int} {c : Cm} {f : Nat} (h : faultF v c f = 0) (hf : f < 6) (hh : hasF c.kind f = true) : allowF v c f = true := by
  unfold faultF at h
  rw [hh] at h
  simp only [if_true] at h
  cases ha : allowF v c f with
  | true => rfl
  | false =>
    rw [ha] at h
    simp only [Bool.false_eq_true, if_false, errF] at h
    split at h <;> omega
/-- What a command that Check takes is. -/
structure Sound (c : Cm) : Prop where
  k0 : 0 ≤ c.kind
  k8 : c.kind ≤ 8
  client : c.kind ≠ 0 → 0 ≤ c.client ∧ c.client ≤ 65535
  req : c.kind ≠ 0 → 0 ≤ c.req ∧ c.req ≤ 1073741824
  key : c.kind ≠ 0 → 1 ≤ c.key.size ∧ c.key.size ≤ 64
  key2 : 6 ≤ c.kind → 1 ≤ c.key2.size ∧ c.key2.size ≤ 64 ∧ isPairB c.kind c.key c.key2 = true
  val : c.kind = 2 ∨ c.kind = 5 → c.val.size ≤ 65536
  old : c.kind = 5 → c.old.size ≤ 65536
theorem hasT (k : Fin 9) : (k.val ≠ 0 → hasF (k.val : Int) 0 = true ∧ hasF (k.val : Int) 1 = true ∧ hasF (k.val : Int) 2 = true) ∧ (6 ≤ k.val → hasF (k.val : Int) 3 = true) ∧ (k.val = 2 ∨ k.val = 5 → hasF (k.val : Int) 4 = true) ∧ (k.val = 5 → hasF (k.val : Int) 5 = true) := by
  revert k; decide
theorem sound_of {v : Int} {c : Cm} (h : chk v c = 0) : Sound c := by
  obtain ⟨hv, hk, hf⟩ := chk_zero h
  simp only [isKd, Bool.and_eq_true, decide_eq_true_eq] at hk
  obtain ⟨k, hkk⟩ := Int.eq_ofNat_of_zero_le hk.1
  have hk9 : k < 9 := by omega
  obtain ⟨t1, t2, t3, t4⟩ := hasT ⟨k, hk9⟩
  simp only at t1 t2 t3 t4
  rw [show ((k : Nat) : Int) = c.kind from hkk.symm] at t1 t2 t3 t4
  have hm : mostV v ≤ 65536 := by unfold mostV; split <;> omega
  refine ⟨hk.1, by omega, fun hn => ?_, fun hn => ?_, fun hn => ?_, fun hn => ?_, fun hn => ?_, fun hn => ?_⟩
  · have := has_allow (hf 0 (by omega)) (by omega) (t1 (by omega)).1
    simpa [allowF] using this
  · have := has_allow (hf 1 (by omega)) (by omega) (t1 (by omega)).2.1
    simpa [allowF] using this
  · have := has_allow (hf 2 (by omega)) (by omega) (t1 (by omega)).2.2
    simp only [allowF, isKeyB, Bool.and_eq_true, decide_eq_true_eq] at this
    exact this
  · have := has_allow (hf 3 (by omega)) (by omega) (t2 (by omega))
    simp only [allowF, isKeyB, Bool.and_eq_true, decide_eq_true_eq] at this
    exact ⟨this.1.1, this.1.2, this.2⟩
  · have := has_allow (hf 4 (by omega)) (by omega) (t3 (by omega))
    simp only [allowF, decide_eq_true_eq] at this
    omega
  · have := has_allow (hf 5 (by omega)) (by omega) (t4 (by omega))
    simp only [allowF, decide_eq_true_eq] at this
    omega
end Go.Wire1
