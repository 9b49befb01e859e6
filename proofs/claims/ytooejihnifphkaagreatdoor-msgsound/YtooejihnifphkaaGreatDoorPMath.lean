/- The plain mathematics of a vector's two layouts; nothing of the program is named here. -/
import Derived.Test.YtooejihnifphkaaGreatDoorVMath
namespace Go.Wire1
open Go.RowKit

/-- The entry ahead of a place, 0 at the first. -/
def prev (l : List Int) (i : Nat) : Int := if i = 0 then 0 else l.getD (i - 1) 0
/-- Version 1, as far as k entries. -/
def plainK (l : List Int) : Nat → List Int
  | 0 => []
  | k + 1 => plainK l k ++ enc (l.getD k 0).toNat
/-- Version 2: the mask's first k bits, and their differences. -/
def maskK (l : List Int) : Nat → Nat
  | 0 => 0
  | k + 1 => maskK l k + if l.getD k 0 = prev l k then 0 else 2 ^ k
def diffK (l : List Int) : Nat → List Int
  | 0 => []
  | k + 1 => diffK l k ++ if l.getD k 0 = prev l k then [] else enc (zig (l.getD k 0 - prev l k))
def tight (l : List Int) : List Int := enc (maskK l l.length) ++ diffK l l.length
def packL (v : Int) (l : List Int) : List Int := if v = 1 then plainK l l.length else tight l
def packE (v : Int) (l : List Int) : Nat := if v = 1 ∨ v = 2 then fault l else 2
def packR (v : Int) (l : List Int) : List Int := if packE v l = 0 then packL v l else []

theorem prev_zero (l : List Int) : prev l 0 = 0 := rfl
theorem prev_succ (l : List Int) (k : Nat) : prev l (k + 1) = l.getD k 0 := by simp [prev]
theorem prev_ok {l : List Int} (h : okL l = true) (k : Nat) : 0 ≤ prev l k ∧ prev l k ≤ 1048576 := by
  unfold prev; split
  · omega
  · exact okL_at h _
theorem maskK_lt (l : List Int) (k : Nat) : maskK l k < 2 ^ k := by
  induction k with
  | zero => simp [maskK]
  | succ k ih => simp only [maskK, Nat.pow_succ]; split <;> omega
theorem maskK_same {l : List Int} {k : Nat} (h : l.getD k 0 = prev l k) : maskK l (k + 1) = maskK l k ∧ diffK l (k + 1) = diffK l k := by
  simp only [maskK, diffK, if_pos h, Nat.add_zero, List.append_nil, and_self]
theorem maskK_diff {l : List Int} {k : Nat} (h : ¬ l.getD k 0 = prev l k) : maskK l (k + 1) = maskK l k + 2 ^ k ∧ diffK l (k + 1) = diffK l k ++ enc (zig (l.getD k 0 - prev l k)) := by
  simp only [maskK, diffK, if_neg h, and_self]
theorem or_pow {m k : Nat} (h : m < 2 ^ k) : m ||| 2 ^ k = m + 2 ^ k := by
  rw [Nat.or_comm, ← Nat.mul_one (2 ^ k), ← Nat.two_pow_add_eq_or_of_lt h]; omega
theorem pow7 {k : Nat} (h : k ≤ 7) : 2 ^ k ≤ 128 := by
  have : (2 : Nat) ^ 7 = 128 := rfl
  rw [← this]; exact Nat.pow_le_pow_right (by decide) h
theorem plainK_len {l : List Int} (h : okL l = true) (k : Nat) : k ≤ (plainK l k).length ∧ (plainK l k).length ≤ 10 * k := by
  induction k with
  | zero => simp [plainK]
  | succ k ih =>
    have h1 := okL_at h k
    have := enc_le (l.getD k 0).toNat (by omega)
    simp only [plainK, List.length_append]; omega
theorem zig_of {x : Int} (h : -1048576 ≤ x ∧ x ≤ 1048576) : zig x ≤ 2097152 := by unfold zig; split <;> omega
/-- How many places differ from the one before, of the first k. -/
def turnsK (l : List Int) : Nat → Nat
  | 0 => 0
  | k + 1 => turnsK l k + if l.getD k 0 = prev l k then 0 else 1
theorem turnsK_le (l : List Int) (k : Nat) : turnsK l k ≤ k := by
  induction k with
  | zero => simp [turnsK]
  | succ k ih => simp only [turnsK]; split <;> omega
theorem enc4 {x : Nat} (h : x ≤ 2097152) : 1 ≤ (enc x).length ∧ (enc x).length ≤ 4 := by
  rw [enc_len x (by omega)]
  have e : x / 128 / 128 / 128 / 128 = 0 := by omega
  have c : ∀ f z, cnt (f + 1) z ≤ 1 + cnt f (z / 128) := fun f z => by simp only [cnt]; split <;> omega
  have h1 : cnt 9 (x / 128) ≤ _ := c 8 (x / 128)
  have h2 : cnt 8 (x / 128 / 128) ≤ _ := c 7 (x / 128 / 128)
  have h3 : cnt 7 (x / 128 / 128 / 128) ≤ _ := c 6 (x / 128 / 128 / 128)
  rw [e, cnt_zero] at h3
  omega
theorem enc1 {x : Nat} (h : x < 128) : enc x = [(x : Int)] := encF_small 9 x h
theorem diffK_len {l : List Int} (h : okL l = true) (k : Nat) : turnsK l k ≤ (diffK l k).length ∧ (diffK l k).length ≤ 4 * turnsK l k := by
  induction k with
  | zero => simp [turnsK, diffK]
  | succ k ih =>
    have h1 := okL_at h k
    have h2 := prev_ok h k
    have h3 := enc4 (zig_of (x := l.getD k 0 - prev l k) (by omega))
    simp only [turnsK, diffK]
    split
    · simpa using ih
    · rw [List.length_append]; omega
theorem diffK_le {l : List Int} (h : okL l = true) (k : Nat) : (diffK l k).length ≤ 4 * k := by
  have := diffK_len h k
  have := turnsK_le l k
  omega
theorem tight_len {l : List Int} (h : isVec l = true) : (tight l).length = 1 + (diffK l l.length).length := by
  have h7 : l.length ≤ 7 := by unfold isVec at h; simp only [Bool.and_eq_true] at h; exact (of_decide_eq_true h.1).2
  have := maskK_lt l l.length
  have := pow7 h7
  unfold tight
  rw [List.length_append, enc1 (by omega)]
  rfl
theorem byt_plainK (l : List Int) (k : Nat) : Byt (plainK l k) := by
  induction k with
  | zero => intro z hz; cases hz
  | succ k ih => exact byt_app ih (byt_enc _)
theorem byt_diffK (l : List Int) (k : Nat) : Byt (diffK l k) := by
  induction k with
  | zero => intro z hz; cases hz
  | succ k ih =>
    simp only [diffK]
    split
    · simpa using ih
    · exact byt_app ih (byt_enc _)
theorem byt_packR (v : Int) (l : List Int) : Byt (packR v l) := by
  unfold packR packL tight
  split
  · split
    · exact byt_plainK _ _
    · exact byt_app (byt_enc _) (byt_diffK _ _)
  · intro z hz; cases hz
end Go.Wire1
