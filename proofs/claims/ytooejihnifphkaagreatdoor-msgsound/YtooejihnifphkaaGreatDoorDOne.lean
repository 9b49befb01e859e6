/- What Decode takes is what Encode writes: the mathematics. -/
import Derived.Test.YtooejihnifphkaaGreatDoorDDec
namespace Go.Proofs.YtooejihnifphkaaGreatDoor
open Go.RowKit Go.Wire1

theorem noteF_zero {own f ft : Int} (ho : own ≠ 0) (h : noteF own f ft = 0) : f = 0 ∧ ft = 0 := by
  unfold noteF at h
  split at h
  · rename_i h0; exact ⟨h0, h⟩
  · split at h
    · exact absurd h (refF_ne _ _ ho)
    · rename_i h0 _; exact absurd h (refF_ne _ _ h0)
theorem take_on {l : List Int} {k m : Nat} : l.take (k + m) = l.take k ++ (l.drop k).take m := List.take_add
theorem num_at {l : List Int} {k x m : Nat} (hy : Byt l) (hk : k ≤ l.length) (h : dec (l.drop k) = .ok (x, m)) : k + m ≤ l.length ∧ l.take (k + m) = l.take k ++ enc x ∧ 1 ≤ m := by
  have h1 := dec_form (byt_drop hy k) h
  have h2 := dec_len (byt_drop hy k) h
  rw [List.length_drop] at h2
  exact ⟨by omega, by rw [take_on, h1], h2.1⟩
theorem sNum_ok {most : Nat} {own : Int} {l : List Int} {s : St} (hy : Byt l) (ho : own ≠ 0) (hk : s.k ≤ l.length) (h : (sNum most own l s).2.ft = 0) :
    s.ft = 0 ∧ (sNum most own l s).1 ≤ most ∧ (sNum most own l s).2.k ≤ l.length ∧ l.take (sNum most own l s).2.k = l.take s.k ++ enc (sNum most own l s).1 := by
  obtain ⟨hf, hft⟩ := noteF_zero ho (show noteF own (gU most l s).2.2 s.ft = 0 from h)
  refine ⟨hft, gU_le _ _ _, ?_⟩
  show (gU most l s).2.1 ≤ l.length ∧ l.take (gU most l s).2.1 = l.take s.k ++ enc (gU most l s).1
  by_cases hs : s.f = 0
  · cases hd : dec (l.drop s.k) with
    | error i =>
      have e : gU most l s = (0, s.k, 11 + (i : Int)) := by unfold gU; rw [if_pos hs, hd]
      rw [e] at hf; simp only at hf; omega
    | ok p =>
      obtain ⟨x, m⟩ := p
      by_cases hm : most < x
      · have e : gU most l s = (0, s.k, 14) := by unfold gU; rw [if_pos hs, hd]; simp only; rw [if_pos hm]
        rw [e] at hf; simp at hf
      · have e : gU most l s = (x, s.k + m, 0) := by unfold gU; rw [if_pos hs, hd]; simp only; rw [if_neg hm]
        rw [e]
        have := num_at hy hk hd
        exact ⟨this.1, this.2.1⟩
  · have e : gU most l s = (0, s.k, s.f) := by unfold gU; rw [if_neg hs]
    rw [e] at hf; exact absurd hf hs
theorem sInt_ok {l : List Int} {s : St} (hy : Byt l) (hk : s.k ≤ l.length) (h : (sInt l s).2.ft = 0) :
    s.ft = 0 ∧ (sInt l s).2.k ≤ l.length ∧ l.take (sInt l s).2.k = l.take s.k ++ enc (zig (sInt l s).1) := by
  obtain ⟨hf, hft⟩ := noteF_zero (by decide) (show noteF 14 (gI l s).2.2 s.ft = 0 from h)
  refine ⟨hft, ?_⟩
  show (gI l s).2.1 ≤ l.length ∧ l.take (gI l s).2.1 = l.take s.k ++ enc (zig (gI l s).1)
  by_cases hs : s.f = 0
  · cases hd : dec (l.drop s.k) with
    | error i =>
      have e : gI l s = (0, s.k, 11 + (i : Int)) := by unfold gI; rw [if_pos hs, hd]
      rw [e] at hf; simp only at hf; omega
    | ok p =>
      obtain ⟨x, m⟩ := p
      have e : gI l s = (unzig x, s.k + m, 0) := by unfold gI; rw [if_pos hs, hd]
      rw [e]
      have := num_at hy hk hd
      exact ⟨this.1, by rw [zig_unzig]; exact this.2.1⟩
  · have e : gI l s = (0, s.k, s.f) := by unfold gI; rw [if_neg hs]
    rw [e] at hf; exact absurd hf hs
theorem tx_str {L : List Int} (h : Byt L) : tx (strOfNums L) = L := by
  induction L with
  | nil => rfl
  | cons z r ih =>
    have hz := h z (List.mem_cons_self ..)
    have hr : Byt r := fun y hy => h y (List.mem_cons_of_mem _ hy)
    have := ih hr
    simp [tx, strOfNums] at this ⊢
    refine ⟨by omega, this⟩
theorem sTxt_ok {least most own : Int} {l : List Int} {s : St} (hy : Byt l) (ho : own ≠ 0) (hk : s.k ≤ l.length) (h : (sTxt least most own l s).2.ft = 0) :
    s.ft = 0 ∧ least ≤ ((sTxt least most own l s).1.size : Int) ∧ ((sTxt least most own l s).1.size : Int) ≤ most ∧ (sTxt least most own l s).2.k ≤ l.length ∧ l.take (sTxt least most own l s).2.k = l.take s.k ++ ptx (sTxt least most own l s).1 := by
  obtain ⟨hf, hft⟩ := noteF_zero ho (show noteF own (gT least most l s).2.2 s.ft = 0 from h)
  refine ⟨hft, ?_⟩
  show least ≤ ((gT least most l s).1.size : Int) ∧ ((gT least most l s).1.size : Int) ≤ most ∧ (gT least most l s).2.1 ≤ l.length ∧ l.take (gT least most l s).2.1 = l.take s.k ++ ptx (gT least most l s).1
  by_cases hs : s.f = 0
  · cases hd : dec (l.drop s.k) with
    | error i =>
      have e : gT least most l s = (⟨#[]⟩, s.k, 11 + (i : Int)) := by unfold gT; rw [if_pos hs, hd]
      rw [e] at hf; simp only at hf; omega
    | ok p =>
      obtain ⟨x, m⟩ := p
      by_cases hm : least ≤ (x : Int) ∧ (x : Int) ≤ most
      · by_cases hr : s.k + m + x ≤ l.length
        · have e : gT least most l s = (strOfNums ((l.drop (s.k + m)).take x), s.k + (m + x), 0) := by unfold gT; rw [if_pos hs, hd]; simp only; rw [if_pos hm, if_pos hr]
          rw [e]
          have hsz : (strOfNums ((l.drop (s.k + m)).take x)).size = x := by rw [strOfNums_size, List.length_take, List.length_drop]; omega
          have h3 := num_at hy hk hd
          refine ⟨by simp only; omega, by simp only; omega, by simp only; omega, ?_⟩
          show l.take (s.k + (m + x)) = l.take s.k ++ (enc (strOfNums ((l.drop (s.k + m)).take x)).size ++ tx (strOfNums ((l.drop (s.k + m)).take x)))
          rw [hsz, tx_str (byt_take (byt_drop hy _) _), ← Nat.add_assoc, take_on, h3.2.1, List.append_assoc]
        · have e : gT least most l s = (⟨#[]⟩, s.k, 11) := by unfold gT; rw [if_pos hs, hd]; simp only; rw [if_pos hm, if_neg hr]
          rw [e] at hf; simp at hf
      · have e : gT least most l s = (⟨#[]⟩, s.k, 15) := by unfold gT; rw [if_pos hs, hd]; simp only; rw [if_neg hm]
        rw [e] at hf; simp at hf
  · have e : gT least most l s = (⟨#[]⟩, s.k, s.f) := by unfold gT; rw [if_neg hs]
    rw [e] at hf; exact absurd hf hs
theorem sKind_got {v : Int} {l : List Int} {s : St} (h : (sKind v l s).2.ft = 0) :
    s.ft = 0 ∧ (sKind v l s).2.k ≤ l.length ∧ l.take (sKind v l s).2.k = l.take s.k ++ [(sKind v l s).1] := by
  have hkd := sKind_ok h
  have h' : noteF 41 (gB 255 l s).2.2 s.ft = 0 := by
    have e : (sKind v l s).2.ft = noteF 41 (gB 255 l s).2.2 s.ft := by
      show (if isKd v (sKind v l s).1 then _ else _) = _
      rw [hkd]; rfl
    rw [← e]; exact h
  obtain ⟨hf, hft⟩ := noteF_zero (by decide) h'
  refine ⟨hft, ?_⟩
  show (gB 255 l s).2.1 ≤ l.length ∧ l.take (gB 255 l s).2.1 = l.take s.k ++ [(gB 255 l s).1]
  by_cases hs : s.f = 0
  · by_cases h1 : l.length ≤ s.k
    · have e : gB 255 l s = (0, s.k, 11) := by unfold gB; rw [if_pos hs, if_pos h1]
      rw [e] at hf; simp at hf
    · by_cases h2 : 255 < l.getD s.k 0
      · have e : gB 255 l s = (0, s.k, 14) := by unfold gB; rw [if_pos hs, if_neg h1, if_pos h2]
        rw [e] at hf; simp at hf
      · have e : gB 255 l s = (l.getD s.k 0, s.k + 1, 0) := by unfold gB; rw [if_pos hs, if_neg h1, if_neg h2]
        rw [e]
        have hlt : s.k < l.length := by omega
        refine ⟨hlt, ?_⟩
        show l.take (s.k + 1) = l.take s.k ++ [l.getD s.k 0]
        rw [take_on, List.drop_eq_getElem_cons hlt, List.getD, List.getElem?_eq_getElem hlt]
        rfl
  · have e : gB 255 l s = (0, s.k, s.f) := by unfold gB; rw [if_neg hs]
    rw [e] at hf; exact absurd hf hs
end Go.Proofs.YtooejihnifphkaaGreatDoor
