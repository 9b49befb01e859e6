/- Texts of the proof, joined. -/
import Derived.Test.YtpjdgbhjjknopaaDoorJ01
/- The plain mathematics of the document's own reading of a number: the last byte is sought first, then the digits are summed up from the highest. -/
namespace Go.Wire1
/-- How many bytes in front bear 128, f at most. -/
def lead : Nat → List Int → Nat
  | 0, _ => 0
  | _ + 1, [] => 0
  | f + 1, z :: r => if 128 ≤ z then 1 + lead f r else 0

/-- What digits to the base 128, the low ones first, are worth. -/
def valD : List Int → Nat
  | [] => 0
  | z :: r => z.toNat % 128 + 128 * valD r

theorem lead_yes (f : Nat) (z : Int) (r : List Int) (h : 128 ≤ z) : lead (f + 1) (z :: r) = 1 + lead f r := by simp [lead, h]
theorem lead_no (f : Nat) (z : Int) (r : List Int) (h : ¬ 128 ≤ z) : lead f (z :: r) = 0 := by cases f <;> simp [lead, h]
theorem lead_nil (f : Nat) : lead f [] = 0 := by cases f <;> simp [lead]

theorem decF_short (f : Nat) : ∀ t l, l.length ≤ lead f l → decF f t l = .error 0 := by
  induction f with
  | zero =>
    intro t l h
    cases l with
    | nil => rfl
    | cons z r => simp [lead] at h
  | succ g ih =>
    intro t l h
    cases l with
    | nil => rfl
    | cons z r =>
      by_cases hz : 128 ≤ z
      · rw [lead_yes _ _ _ hz] at h
        simp only [decF, if_pos hz]
        rw [ih false r (by simp only [List.length_cons] at h; omega)]
      · rw [lead_no _ _ _ hz] at h; simp at h

theorem decF_end (f : Nat) : ∀ t l, Byt l → lead f l < l.length → lead f l = f → decF f t l = (if l.getD f 0 = 0 then .error 2 else if l.getD f 0 = 1 then .ok (valD (l.take (f + 1)), f + 1) else .error 1) := by
  induction f with
  | zero =>
    intro t l _ h _
    cases l with
    | nil => simp at h
    | cons z r =>
      simp only [decF, List.getD_cons_zero]
      split
      · rfl
      · split
        · rename_i e; subst e; rfl
        · rfl
  | succ g ih =>
    intro t l hy h he
    cases l with
    | nil => simp at h
    | cons z r =>
      have hb := hy z (by simp)
      have hr : Byt r := fun y hy' => hy y (by simp [hy'])
      by_cases hz : 128 ≤ z
      · rw [lead_yes _ _ _ hz] at h he
        have hi := ih false r hr (by simp only [List.length_cons] at h; omega) (by omega)
        simp only [decF, if_pos hz, hi, List.getD_cons_succ]
        by_cases h0 : r.getD g 0 = 0
        · simp only [if_pos h0]
        · by_cases h1 : r.getD g 0 = 1
          · have e : (z - 128).toNat = z.toNat % 128 := by omega
            simp only [if_neg h0, if_pos h1, List.take_succ_cons, valD, e]
          · simp only [if_neg h0, if_neg h1]
      · rw [lead_no _ _ _ hz] at he; omega

theorem decF_mid (f : Nat) : ∀ t l, Byt l → lead f l < l.length → lead f l < f → l.getD (lead f l) 0 < 128 ∧ decF f t l = (if l.getD (lead f l) 0 = 0 ∧ (0 < lead f l ∨ t = false) then .error 2 else .ok (valD (l.take (lead f l + 1)), lead f l + 1)) := by
  induction f with
  | zero => intro t l _ _ h; omega
  | succ g ih =>
    intro t l hy h he
    cases l with
    | nil => simp at h
    | cons z r =>
      have hb := hy z (by simp)
      have hr : Byt r := fun y hy' => hy y (by simp [hy'])
      by_cases hz : 128 ≤ z
      · have hl := lead_yes g z r hz
        rw [hl] at h he ⊢
        have hi := ih false r hr (by simp only [List.length_cons] at h; omega) (by omega)
        have e1 : (z :: r).getD (1 + lead g r) 0 = r.getD (lead g r) 0 := by rw [Nat.add_comm, List.getD_cons_succ]
        refine ⟨by rw [e1]; exact hi.1, ?_⟩
        simp only [decF, if_pos hz, hi.2, e1]
        have e : (z - 128).toNat = z.toNat % 128 := by omega
        by_cases h0 : r.getD (lead g r) 0 = 0
        · rw [if_pos ⟨h0, .inr trivial⟩, if_pos ⟨h0, .inl (by omega)⟩]
        · rw [if_neg (fun h => h0 h.1), if_neg (fun h => h0 h.1)]
          have e2 : (z :: r).take (1 + lead g r + 1) = z :: r.take (lead g r + 1) := by rw [show 1 + lead g r + 1 = (lead g r + 1) + 1 by omega, List.take_succ_cons]
          simp only [e2, valD, e]
          congr 2
          omega
      · have hl := lead_no (g + 1) z r hz
        rw [hl]
        refine ⟨by simp only [List.getD_cons_zero]; omega, ?_⟩
        simp only [decF, if_neg hz, List.getD_cons_zero]
        by_cases h0 : z = 0 ∧ t = false
        · rw [if_pos h0, if_pos ⟨h0.1, .inr h0.2⟩]
        · rw [if_neg h0, if_neg (fun h => h0 ⟨h.1, h.2.resolve_left (by omega)⟩)]
          simp only [Nat.zero_add, List.take_succ_cons, List.take_zero, valD]
          congr 2
          omega

/-- The digits from place i on, m of them. -/
def valAt (l : List Int) (i m : Nat) : Nat := valD ((l.drop i).take m)
theorem valAt_zero (l : List Int) (i : Nat) : valAt l i 0 = 0 := by simp [valAt, valD]
theorem valAt_step {l : List Int} {i m : Nat} (h : i < l.length) : valAt l i (m + 1) = (l.getD i 0).toNat % 128 + 128 * valAt l (i + 1) m := by
  simp only [valAt, drop_cons h, List.take_succ_cons, valD]
theorem valD_lt (l : List Int) : valD l < 128 ^ l.length := by
  induction l with
  | nil => simp [valD]
  | cons z r ih =>
    have : z.toNat % 128 < 128 := Nat.mod_lt _ (by decide)
    simp only [valD, List.length_cons, Nat.pow_succ]
    omega
theorem valAt_lt (l : List Int) (i m : Nat) : valAt l i m < 128 ^ m := by
  have h1 := valD_lt ((l.drop i).take m)
  have h2 : ((l.drop i).take m).length ≤ m := List.length_take_le _ _
  exact Nat.lt_of_lt_of_le h1 (Nat.pow_le_pow_right (by decide) h2)

/-- With a tenth digit of at most 1 all digits together fit. -/
theorem valAt_bd {l : List Int} {k i : Nat} (hk : k ≤ 9) (hl : k < l.length) (h9 : k = 9 → l.getD 9 0 ≤ 1) (hi : i ≤ k) : valAt l i (k + 1 - i) < 2 * 128 ^ (9 - i) := by
  by_cases e : k = 9
  · subst e
    have key : ∀ d i, i + d = 9 → valAt l i (d + 1) < 2 * 128 ^ d := by
      intro d
      induction d with
      | zero =>
        intro i hi
        obtain rfl : i = 9 := by omega
        have := h9 rfl
        rw [valAt_step hl, valAt_zero]
        simp only [Nat.pow_zero]
        omega
      | succ d ih =>
        intro i hi
        have := ih (i + 1) (by omega)
        have hm : (l.getD i 0).toNat % 128 < 128 := Nat.mod_lt _ (by decide)
        rw [valAt_step (by omega), Nat.pow_succ]
        omega
    have h := key (9 - i) i (by omega)
    have e2 : 9 + 1 - i = 9 - i + 1 := by omega
    rw [e2]; exact h
  · have h := valAt_lt l i (k + 1 - i)
    have h2 : 128 ^ (k + 1 - i) ≤ 128 ^ (9 - i) := Nat.pow_le_pow_right (by decide) (by omega)
    omega

theorem valAt_64 {l : List Int} {k i : Nat} (hk : k ≤ 9) (hl : k < l.length) (h9 : k = 9 → l.getD 9 0 ≤ 1) (hi : i ≤ k) : valAt l i (k + 1 - i) < 18446744073709551616 := by
  have h := valAt_bd hk hl h9 hi
  have h2 : 128 ^ (9 - i) ≤ 128 ^ 9 := Nat.pow_le_pow_right (by decide) (by omega)
  have e : (128 : Nat) ^ 9 = 9223372036854775808 := by decide
  omega

theorem ref_ways {l : List Int} {k : Nat} (hy : Byt l) (hlt : k < l.length) (hk : k ≤ 9) (hL : lead 9 l = k) :
    (k = 9 ∧ 1 < l.getD k 0 ∧ dec l = .error 1) ∨ (0 < k ∧ l.getD k 0 = 0 ∧ dec l = .error 2) ∨ ((k = 9 ∧ l.getD k 0 = 1 ∨ k < 9 ∧ 0 < l.getD k 0 ∧ l.getD k 0 < 128 ∨ k = 0 ∧ l.getD k 0 = 0) ∧ dec l = .ok (valAt l 0 (k + 1), k + 1)) := by
  have hz := byt_at hy k
  by_cases h9 : k = 9
  · subst h9
    have h := decF_end 9 true l hy (by omega) hL
    by_cases h0 : l.getD 9 0 = 0
    · rw [if_pos h0] at h; exact .inr (.inl ⟨by omega, h0, h⟩)
    · by_cases h1 : l.getD 9 0 = 1
      · rw [if_neg h0, if_pos h1] at h; exact .inr (.inr ⟨.inl ⟨rfl, h1⟩, by simpa [valAt, dec] using h⟩)
      · rw [if_neg h0, if_neg h1] at h; exact .inl ⟨rfl, by omega, h⟩
  · obtain ⟨hs, h⟩ := decF_mid 9 true l hy (by omega) (by omega)
    rw [hL] at hs h
    by_cases h0 : l.getD k 0 = 0
    · by_cases hk0 : 0 < k
      · rw [if_pos ⟨h0, .inl hk0⟩] at h; exact .inr (.inl ⟨hk0, h0, h⟩)
      · rw [if_neg (fun hh => by rcases hh.2 with h2 | h2; exact hk0 h2; cases h2)] at h
        exact .inr (.inr ⟨.inr (.inr ⟨by omega, h0⟩), by simpa [valAt, dec] using h⟩)
    · rw [if_neg (fun hh => h0 hh.1)] at h
      exact .inr (.inr ⟨.inr (.inl ⟨by omega, by omega, hs⟩), by simpa [valAt, dec] using h⟩)

end Go.Wire1
