/- The plain mathematics of reading a vector's two layouts; nothing of the program is named here. -/
import Derived.Test.YtooejihnifphkaaGreatDoorPMath
namespace Go.Wire1
open Go.RowKit

/-- What reading answers: the entries and their bytes, or the error's number. -/
abbrev Rd := Except Nat (List Int × Nat)
/-- Version 1: k numbers. -/
def rd1 (l : List Int) : Nat → Rd
  | 0 => .ok ([], 0)
  | k + 1 => match rd1 l k with
    | .error e => .error e
    | .ok (xs, p) => match dec (l.drop p) with
      | .error i => .error (11 + i)
      | .ok (x, m) => if 1048576 < x then .error 32 else .ok (xs ++ [(x : Int)], p + m)
def last0 (xs : List Int) : Int := xs.getLastD 0
/-- A difference and the entry that it makes. -/
def entry (q : Int) (l : List Int) : Except Nat (Int × Nat) := match dec l with
  | .error i => .error (11 + i)
  | .ok (u, m) => if unzig u = 0 then .error 34 else if unzig u < -q ∨ 1048576 - q < unzig u then .error 32 else .ok (q + unzig u, m)
/-- Version 2, behind the mask: k entries. -/
def rd2 (l : List Int) (mask p0 : Nat) : Nat → Rd
  | 0 => .ok ([], p0)
  | k + 1 => match rd2 l mask p0 k with
    | .error e => .error e
    | .ok (xs, p) => if mask / 2 ^ k % 2 = 1 then
        (match entry (last0 xs) (l.drop p) with
          | .error e => .error e
          | .ok (y, m) => .ok (xs ++ [y], p + m))
      else .ok (xs ++ [last0 xs], p)
def upk2 (l : List Int) (n : Nat) : Rd := match dec l with
  | .error i => .error (11 + i)
  | .ok (mask, m) => if 2 ^ n ≤ mask then .error 33 else rd2 l mask m n
def upk (v n : Int) (l : List Int) : Rd := if v = 1 ∨ v = 2 then (if 1 ≤ n ∧ n ≤ 7 then (if v = 1 then rd1 l n.toNat else upk2 l n.toNat) else .error 3) else .error 2
def upL : Rd → List Int
  | .ok (xs, _) => xs
  | .error _ => []
def upN : Rd → Nat
  | .ok (_, p) => p
  | .error _ => 0
def upE : Rd → Nat
  | .ok _ => 0
  | .error e => e

theorem rd1_err {l : List Int} {k e : Nat} (h : rd1 l k = .error e) : ∀ j, rd1 l (k + j) = .error e
  | 0 => h
  | j + 1 => by show rd1 l (k + j + 1) = _; simp only [rd1, rd1_err h j]
theorem rd1_err' {l : List Int} {k n e : Nat} (h : rd1 l k = .error e) (hk : k ≤ n) : rd1 l n = .error e := by
  have := rd1_err h (n - k)
  rwa [show k + (n - k) = n by omega] at this
theorem rd2_err {l : List Int} {mask p0 k e : Nat} (h : rd2 l mask p0 k = .error e) : ∀ j, rd2 l mask p0 (k + j) = .error e
  | 0 => h
  | j + 1 => by show rd2 l mask p0 (k + j + 1) = _; simp only [rd2, rd2_err h j]
theorem rd2_err' {l : List Int} {mask p0 k n e : Nat} (h : rd2 l mask p0 k = .error e) (hk : k ≤ n) : rd2 l mask p0 n = .error e := by
  have := rd2_err h (n - k)
  rwa [show k + (n - k) = n by omega] at this
theorem rd1_step {l : List Int} {k p x m : Nat} {xs : List Int} (h : rd1 l k = .ok (xs, p)) (hd : dec (l.drop p) = .ok (x, m)) (hx : x ≤ 1048576) : rd1 l (k + 1) = .ok (xs ++ [(x : Int)], p + m) := by
  simp only [rd1, h, hd]; rw [if_neg (by omega)]
theorem rd1_bad {l : List Int} {k p i : Nat} {xs : List Int} (h : rd1 l k = .ok (xs, p)) (hd : dec (l.drop p) = .error i) : rd1 l (k + 1) = .error (11 + i) := by
  simp only [rd1, h, hd]
theorem rd1_big {l : List Int} {k p x m : Nat} {xs : List Int} (h : rd1 l k = .ok (xs, p)) (hd : dec (l.drop p) = .ok (x, m)) (hx : 1048576 < x) : rd1 l (k + 1) = .error 32 := by
  simp only [rd1, h, hd]; rw [if_pos hx]
theorem rd1_len {l : List Int} (hy : Byt l) : ∀ {k p : Nat} {xs : List Int}, rd1 l k = .ok (xs, p) → xs.length = k ∧ p ≤ l.length ∧ okL xs = true
  | 0, p, xs, h => by simp only [rd1, Except.ok.injEq, Prod.mk.injEq] at h; obtain ⟨rfl, rfl⟩ := h; exact ⟨rfl, Nat.zero_le _, rfl⟩
  | k + 1, p, xs, h => by
    cases hr : rd1 l k with
    | error e => simp only [rd1, hr] at h; cases h
    | ok q =>
      obtain ⟨ys, p'⟩ := q
      have ih := rd1_len hy hr
      cases hd : dec (l.drop p') with
      | error i => rw [rd1_bad hr hd] at h; cases h
      | ok q2 =>
        obtain ⟨x, m⟩ := q2
        have hm := dec_len (byt_drop hy p') hd
        rw [List.length_drop] at hm
        by_cases hx : 1048576 < x
        · rw [rd1_big hr hd hx] at h; cases h
        · rw [rd1_step hr hd (by omega)] at h
          simp only [Except.ok.injEq, Prod.mk.injEq] at h
          obtain ⟨rfl, rfl⟩ := h
          refine ⟨by rw [List.length_append, ih.1]; rfl, by omega, ?_⟩
          unfold okL at *
          rw [List.all_append, ih.2.2]
          simp only [List.all_cons, List.all_nil, Bool.and_true, Bool.true_and, okE, decide_eq_true_eq]
          omega
theorem dec_i (l : List Int) {i : Nat} (h : dec l = .error i) : i < 3 := dec_err h

theorem last_snoc (xs : List Int) (y : Int) : last0 (xs ++ [y]) = y := by simp [last0]
theorem entry_len {q : Int} {l : List Int} (hy : Byt l) {y : Int} {m : Nat} (h : entry q l = .ok (y, m)) : 0 ≤ y ∧ y ≤ 1048576 ∧ 1 ≤ m ∧ m ≤ l.length := by
  unfold entry at h
  cases hd : dec l with
  | error i => rw [hd] at h; cases h
  | ok p =>
    obtain ⟨u, k⟩ := p
    rw [hd] at h
    simp only at h
    have hm := dec_len hy hd
    split at h
    · cases h
    · split at h
      · cases h
      · simp only [Except.ok.injEq, Prod.mk.injEq] at h
        omega
theorem rd2_set {l : List Int} {mask p0 k p m : Nat} {xs : List Int} {y : Int} (h : rd2 l mask p0 k = .ok (xs, p)) (hb : mask / 2 ^ k % 2 = 1) (he : entry (last0 xs) (l.drop p) = .ok (y, m)) : rd2 l mask p0 (k + 1) = .ok (xs ++ [y], p + m) := by
  simp only [rd2, h]; rw [if_pos hb, he]
theorem rd2_bad {l : List Int} {mask p0 k p e : Nat} {xs : List Int} (h : rd2 l mask p0 k = .ok (xs, p)) (hb : mask / 2 ^ k % 2 = 1) (he : entry (last0 xs) (l.drop p) = .error e) : rd2 l mask p0 (k + 1) = .error e := by
  simp only [rd2, h]; rw [if_pos hb, he]
theorem rd2_keep {l : List Int} {mask p0 k p : Nat} {xs : List Int} (h : rd2 l mask p0 k = .ok (xs, p)) (hb : ¬ mask / 2 ^ k % 2 = 1) : rd2 l mask p0 (k + 1) = .ok (xs ++ [last0 xs], p) := by
  simp only [rd2, h]; rw [if_neg hb]
theorem okL_snoc {xs : List Int} {y : Int} (h : okL xs = true) (hy : 0 ≤ y ∧ y ≤ 1048576) : okL (xs ++ [y]) = true := by
  unfold okL at *
  rw [List.all_append, h]
  simp only [List.all_cons, List.all_nil, Bool.and_true, Bool.true_and, okE, decide_eq_true_eq]
  exact hy
theorem last_ok {xs : List Int} (h : okL xs = true) : 0 ≤ last0 xs ∧ last0 xs ≤ 1048576 := by
  unfold last0
  rcases List.eq_nil_or_concat xs with rfl | ⟨ys, y, rfl⟩
  · simp
  · have := List.all_eq_true.1 h y (by simp)
    simp only [okE, decide_eq_true_eq] at this
    simpa using this
theorem rd2_len {l : List Int} (hy : Byt l) {mask p0 : Nat} (h0 : p0 ≤ l.length) : ∀ {k p : Nat} {xs : List Int}, rd2 l mask p0 k = .ok (xs, p) → xs.length = k ∧ p ≤ l.length ∧ okL xs = true
  | 0, p, xs, h => by simp only [rd2, Except.ok.injEq, Prod.mk.injEq] at h; obtain ⟨rfl, rfl⟩ := h; exact ⟨rfl, h0, rfl⟩
  | k + 1, p, xs, h => by
    cases hr : rd2 l mask p0 k with
    | error e => simp only [rd2, hr] at h; cases h
    | ok q =>
      obtain ⟨ys, p'⟩ := q
      have ih := rd2_len hy h0 hr
      by_cases hb : mask / 2 ^ k % 2 = 1
      · cases he : entry (last0 ys) (l.drop p') with
        | error e => rw [rd2_bad hr hb he] at h; cases h
        | ok q2 =>
          obtain ⟨y, m⟩ := q2
          rw [rd2_set hr hb he] at h
          simp only [Except.ok.injEq, Prod.mk.injEq] at h
          obtain ⟨rfl, rfl⟩ := h
          have hm := entry_len (byt_drop hy p') he
          rw [List.length_drop] at hm
          exact ⟨by rw [List.length_append, ih.1]; rfl, by omega, okL_snoc ih.2.2 ⟨hm.1, hm.2.1⟩⟩
      · rw [rd2_keep hr hb] at h
        simp only [Except.ok.injEq, Prod.mk.injEq] at h
        obtain ⟨rfl, rfl⟩ := h
        exact ⟨by rw [List.length_append, ih.1]; rfl, ih.2.1, okL_snoc ih.2.2 (last_ok ih.2.2)⟩
theorem entry_err {q : Int} {l : List Int} {e : Nat} (h : entry q l = .error e) : 11 ≤ e ∧ e ≤ 34 := by
  unfold entry at h
  cases hd : dec l with
  | error i => rw [hd] at h; simp only [Except.error.injEq] at h; have := dec_err hd; omega
  | ok p =>
    obtain ⟨u, k⟩ := p
    rw [hd] at h
    simp only at h
    split at h
    · simp only [Except.error.injEq] at h; omega
    · split at h
      · simp only [Except.error.injEq] at h; omega
      · cases h
end Go.Wire1
