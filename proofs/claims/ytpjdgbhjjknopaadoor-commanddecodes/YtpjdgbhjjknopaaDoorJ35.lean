/- Texts of the proof, joined. -/
import Derived.Test.YtpjdgbhjjknopaaDoorJ33
import Derived.Test.YtpjdgbhjjknopaaDoorJ34
/- The document's own Decode and the program's are one: the mathematics. -/
namespace Go.Proofs.YtpjdgbhjjknopaaDoor
open Go.RowKit Go.Wire1

theorem decF_take (f : Nat) : ∀ (t : Bool) (l : List Int) (m : Nat), f + 1 ≤ m → decF f t (l.take m) = decF f t l := by
  induction f with
  | zero =>
    intro t l m hm
    obtain ⟨m, rfl⟩ : ∃ j, m = j + 1 := ⟨m - 1, by omega⟩
    cases l <;> rfl
  | succ f ih =>
    intro t l m hm
    obtain ⟨m, rfl⟩ : ∃ j, m = j + 1 := ⟨m - 1, by omega⟩
    cases l with
    | nil => rfl
    | cons z r =>
      show decF (f + 1) t (z :: r.take m) = decF (f + 1) t (z :: r)
      simp only [decF, ih false r m (by omega)]
theorem dec_drop {l : List Int} {k M : Nat} (h : k + 10 ≤ M) : dec ((l.take M).drop k) = dec (l.drop k) := by
  rw [List.drop_take]; exact decF_take 9 true _ _ (by omega)
theorem take_mid {l : List Int} {j x M : Nat} (h : j + x ≤ M) : ((l.take M).drop j).take x = (l.drop j).take x := by
  rw [List.drop_take, List.take_take, Nat.min_eq_left (by omega)]

theorem noteF_stay {own f ft : Int} (h : ft ≠ 0) : noteF own f ft = ft := by
  unfold noteF refF
  split
  · rfl
  · split <;> first | rfl | rw [if_neg h]
theorem refF_stay {e ft : Int} (h : ft ≠ 0) : refF e ft = ft := if_neg h
theorem noteF_err {own : Int} {i : Nat} (h : i < 3) : noteF own (11 + (i : Int)) 0 = 11 + (i : Int) := by
  unfold noteF refF
  rw [if_neg (by omega), if_neg (by omega), if_pos rfl]
theorem sNum_stay {most : Nat} {own : Int} {l : List Int} {s : St} (h : s.ft ≠ 0) : (sNum most own l s).2.ft = s.ft := noteF_stay h
theorem sInt_stay {l : List Int} {s : St} (h : s.ft ≠ 0) : (sInt l s).2.ft = s.ft := noteF_stay h
theorem sTxt_stay {least most own : Int} {l : List Int} {s : St} (h : s.ft ≠ 0) : (sTxt least most own l s).2.ft = s.ft := noteF_stay h
theorem k2_stay {kind : Int} {key : ByteArray} {l : List Int} {s : St} (h : (k2T key l s).2.ft ≠ 0) : (sKey2 kind key l s).2.ft = (k2T key l s).2.ft := by
  have h1 : k2F1 key l s = (k2T key l s).2.ft := by
    unfold k2F1; split
    · exact refF_stay h
    · rfl
  show k2F kind key l s = _
  unfold k2F
  split
  · exact h1
  · rw [h1]; exact refF_stay h
theorem sKey2_stay {kind : Int} {key : ByteArray} {l : List Int} {s : St} (h : s.ft ≠ 0) : (sKey2 kind key l s).2.ft = s.ft := by
  have h1 : (k2A key l s).2.ft = s.ft := sNum_stay h
  have h2 : (k2T key l s).2.ft = s.ft := (sTxt_stay (by rw [h1]; exact h)).trans h1
  rw [k2_stay (by rw [h2]; exact h), h2]

section
variable {l : List Int} {k M : Nat}
theorem num_al (top : Nat) (own : Int) (hy : Byt l) (hM : k + 10 ≤ M) :
    (rcU top own l k 0).2.2 = (sNum top own (l.take M) ⟨k, 0, 0⟩).2.ft ∧ (own ≠ 0 → (rcU top own l k 0).2.2 = 0 → (sNum top own (l.take M) ⟨k, 0, 0⟩).2 = ⟨(rcU top own l k 0).2.1, 0, 0⟩ ∧ (sNum top own (l.take M) ⟨k, 0, 0⟩).1 = (rcU top own l k 0).1 ∧ (rcU top own l k 0).2.1 ≤ k + 10) := by
  cases hd : dec (l.drop k) with
  | error i =>
    have e1 : rcU top own l k 0 = (0, k, 11 + (i : Int)) := by unfold rcU; rw [hd]; rfl
    have e2 : gU top (l.take M) ⟨k, 0, 0⟩ = (0, k, 11 + (i : Int)) := by unfold gU; rw [dec_drop hM, hd]; rfl
    have hi := dec_err hd
    unfold sNum
    rw [e1, e2]
    exact ⟨(noteF_err hi).symm, fun _ h => absurd h (by show ¬ (11 + (i : Int)) = 0; omega)⟩
  | ok p =>
    obtain ⟨x, m⟩ := p
    have hm := dec_len (byt_drop hy k) hd
    by_cases hx : top < x
    · have e1 : rcU top own l k 0 = (0, k, own) := by unfold rcU; rw [hd]; exact if_pos hx
      have e2 : gU top (l.take M) ⟨k, 0, 0⟩ = (0, k, 14) := by unfold gU; rw [dec_drop hM, hd]; exact if_pos hx
      unfold sNum
      rw [e1, e2]
      exact ⟨rfl, fun ho h => absurd h ho⟩
    · have e1 : rcU top own l k 0 = (x, k + m, 0) := by unfold rcU; rw [hd]; exact if_neg hx
      have e2 : gU top (l.take M) ⟨k, 0, 0⟩ = (x, k + m, 0) := by unfold gU; rw [dec_drop hM, hd]; exact if_neg hx
      unfold sNum
      rw [e1, e2]
      exact ⟨rfl, fun _ _ => ⟨rfl, rfl, by show k + m ≤ k + 10; omega⟩⟩
theorem int_al (hy : Byt l) (hM : k + 10 ≤ M) :
    (rcI l k).2.2 = (sInt (l.take M) ⟨k, 0, 0⟩).2.ft ∧ ((rcI l k).2.2 = 0 → (sInt (l.take M) ⟨k, 0, 0⟩).2 = ⟨(rcI l k).2.1, 0, 0⟩ ∧ (sInt (l.take M) ⟨k, 0, 0⟩).1 = (rcI l k).1 ∧ (rcI l k).2.1 ≤ k + 10) := by
  cases hd : dec (l.drop k) with
  | error i =>
    have e1 : rcI l k = (0, k, 11 + (i : Int)) := by unfold rcI; rw [hd]
    have e2 : gI (l.take M) ⟨k, 0, 0⟩ = (0, k, 11 + (i : Int)) := by unfold gI; rw [dec_drop hM, hd]; rfl
    have hi := dec_err hd
    unfold sInt
    rw [e1, e2]
    exact ⟨(noteF_err hi).symm, fun h => absurd h (by show ¬ (11 + (i : Int)) = 0; omega)⟩
  | ok p =>
    obtain ⟨x, m⟩ := p
    have hm := dec_len (byt_drop hy k) hd
    have e1 : rcI l k = (unzig x, k + m, 0) := by unfold rcI; rw [hd]
    have e2 : gI (l.take M) ⟨k, 0, 0⟩ = (unzig x, k + m, 0) := by unfold gI; rw [dec_drop hM, hd]; rfl
    unfold sInt
    rw [e1, e2]
    exact ⟨rfl, fun _ => ⟨rfl, rfl, by show k + m ≤ k + 10; omega⟩⟩
theorem txt_al (least top : Nat) (lz tz own : Int) (hl : ∀ x : Nat, lz ≤ (x : Int) ↔ least ≤ x) (ht : tz = (top : Int)) (hy : Byt l) (hM : k + 10 + top ≤ M) :
    (rcT least top own l k 0).2.2 = (sTxt lz tz own (l.take M) ⟨k, 0, 0⟩).2.ft ∧ (own ≠ 0 → (rcT least top own l k 0).2.2 = 0 → (sTxt lz tz own (l.take M) ⟨k, 0, 0⟩).2 = ⟨(rcT least top own l k 0).2.1, 0, 0⟩ ∧ (sTxt lz tz own (l.take M) ⟨k, 0, 0⟩).1 = (rcT least top own l k 0).1 ∧ (rcT least top own l k 0).2.1 ≤ k + 10 + top) := by
  subst ht
  have hM1 : k + 10 ≤ M := by omega
  cases hd : dec (l.drop k) with
  | error i =>
    have e0 : rcU top own l k 0 = (0, k, 11 + (i : Int)) := by unfold rcU; rw [hd]; rfl
    have e1 : rcT least top own l k 0 = (⟨#[]⟩, k, 11 + (i : Int)) := by unfold rcT; rw [e0, if_neg (by show ¬ (11 + (i : Int)) = 0; omega)]
    have e2 : gT lz (top : Int) (l.take M) ⟨k, 0, 0⟩ = (⟨#[]⟩, k, 11 + (i : Int)) := by unfold gT; rw [dec_drop (k := k) hM1, hd]; rfl
    have hi := dec_err hd
    unfold sTxt
    rw [e1, e2]
    exact ⟨(noteF_err hi).symm, fun _ h => absurd h (by show ¬ (11 + (i : Int)) = 0; omega)⟩
  | ok p =>
    obtain ⟨x, m⟩ := p
    have hm := dec_len (byt_drop hy k) hd
    by_cases hx : top < x
    · have e0 : rcU top own l k 0 = (0, k, own) := by unfold rcU; rw [hd]; exact if_pos hx
      have e2 : gT lz (top : Int) (l.take M) ⟨k, 0, 0⟩ = (⟨#[]⟩, k, 15) := by unfold gT; rw [dec_drop (k := k) hM1, hd]; show (if lz ≤ (x : Int) ∧ (x : Int) ≤ (top : Int) then _ else _) = _; exact if_neg (fun h => by have := h.2; omega)
      have e3 : (sTxt lz (top : Int) own (l.take M) ⟨k, 0, 0⟩).2.ft = own := by unfold sTxt; rw [e2]; rfl
      by_cases ho : own = 0
      · rw [e3]
        subst ho
        refine ⟨?_, fun h => absurd rfl h⟩
        unfold rcT
        rw [e0, if_pos rfl]
        show (if 0 < least then _ else _ : ByteArray × Nat × Int).2.2 = 0
        split
        · rfl
        · show (if l.length < k + 0 then _ else _ : ByteArray × Nat × Int).2.2 = 0
          rw [if_neg (by have := hm.2.2; rw [List.length_drop] at this; omega)]
      · have e1 : rcT least top own l k 0 = (⟨#[]⟩, k, own) := by unfold rcT; rw [e0, if_neg ho]
        rw [e1, e3]
        exact ⟨rfl, fun _ h => absurd h ho⟩
    · have e0 : rcU top own l k 0 = (x, k + m, 0) := by unfold rcU; rw [hd]; exact if_neg hx
      by_cases hlt : x < least
      · have e1 : rcT least top own l k 0 = (⟨#[]⟩, k + m, own) := by unfold rcT; rw [e0, if_pos rfl]; exact if_pos hlt
        have e2 : gT lz (top : Int) (l.take M) ⟨k, 0, 0⟩ = (⟨#[]⟩, k, 15) := by unfold gT; rw [dec_drop (k := k) hM1, hd]; show (if lz ≤ (x : Int) ∧ (x : Int) ≤ (top : Int) then _ else _) = _; exact if_neg (fun h => by have := (hl x).1 h.1; omega)
        unfold sTxt
        rw [e1, e2]
        exact ⟨rfl, fun ho h => absurd h ho⟩
      · have hin : lz ≤ (x : Int) ∧ (x : Int) ≤ (top : Int) := ⟨(hl x).2 (by omega), by omega⟩
        by_cases hf : l.length < k + m + x
        · have e1 : rcT least top own l k 0 = (⟨#[]⟩, k + m, 11) := by
            unfold rcT; rw [e0, if_pos rfl]
            show (if x < least then _ else if l.length < k + m + x then _ else _) = _
            rw [if_neg hlt, if_pos hf]
          have e2 : gT lz (top : Int) (l.take M) ⟨k, 0, 0⟩ = (⟨#[]⟩, k, 11) := by
            unfold gT; rw [dec_drop (k := k) hM1, hd]
            show (if lz ≤ (x : Int) ∧ (x : Int) ≤ (top : Int) then (if k + m + x ≤ (l.take M).length then _ else _) else _) = _
            rw [if_pos hin, if_neg (by rw [List.length_take]; omega)]
          unfold sTxt
          rw [e1, e2]
          exact ⟨rfl, fun _ h => absurd h (by show ¬ (11 : Int) = 0; decide)⟩
        · have e1 : rcT least top own l k 0 = (strOfNums ((l.drop (k + m)).take x), k + m + x, 0) := by
            unfold rcT; rw [e0, if_pos rfl]
            show (if x < least then _ else if l.length < k + m + x then _ else _) = _
            rw [if_neg hlt, if_neg hf]
          have e2 : gT lz (top : Int) (l.take M) ⟨k, 0, 0⟩ = (strOfNums ((l.drop (k + m)).take x), k + m + x, 0) := by
            unfold gT; rw [dec_drop (k := k) hM1, hd]
            show (if lz ≤ (x : Int) ∧ (x : Int) ≤ (top : Int) then (if k + m + x ≤ (l.take M).length then _ else _) else _) = _
            rw [if_pos hin, if_pos (by rw [List.length_take]; omega), take_mid (j := k + m) (x := x) (M := M) (by omega), Nat.add_assoc k m x]
          unfold sTxt
          rw [e1, e2]
          exact ⟨rfl, fun _ _ => ⟨rfl, rfl, by show k + m + x ≤ k + 10 + top; omega⟩⟩
theorem key2_al (kind : Int) (key : ByteArray) (hk : key.size ≤ 64) (hy : Byt l) (hM : k + 84 ≤ M) :
    (rcK kind key l k 0).2.2 = (sKey2 kind key (l.take M) ⟨k, 0, 0⟩).2.ft ∧ ((rcK kind key l k 0).2.2 = 0 → (sKey2 kind key (l.take M) ⟨k, 0, 0⟩).2 = ⟨(rcK kind key l k 0).2.1, 0, 0⟩ ∧ (sKey2 kind key (l.take M) ⟨k, 0, 0⟩).1 = (rcK kind key l k 0).1 ∧ (rcK kind key l k 0).2.1 ≤ k + 84) := by
  obtain ⟨A1, A2⟩ := num_al (l := l) (k := k) (M := M) key.size 45 hy (by omega)
  have A2 := A2 (by decide)
  by_cases hf : (rkA key l k 0).2.2 = 0
  · obtain ⟨a1, a2, a3⟩ := A2 hf
    have hx : (rkA key l k 0).1 ≤ key.size := rcU_le _ _ _ _ _
    have hka : k2A key (l.take M) ⟨k, 0, 0⟩ = ((rkA key l k 0).1, ⟨(rkA key l k 0).2.1, 0, 0⟩) := Prod.ext a2 a1
    have ha3 : (rkA key l k 0).2.1 ≤ k + 10 := a3
    obtain ⟨T1, T2⟩ := txt_al (l := l) (k := (rkA key l k 0).2.1) (M := M) (1 - (rkA key l k 0).1) (64 - (rkA key l k 0).1) (1 - ((rkA key l k 0).1 : Int)) (64 - ((rkA key l k 0).1 : Int)) 45 (fun x => by omega) (by omega) hy (by omega)
    have T2 := T2 (by decide)
    have eR : rkT key l k 0 = rcT (1 - (rkA key l k 0).1) (64 - (rkA key l k 0).1) 45 l (rkA key l k 0).2.1 0 := by unfold rkT; rw [hf]
    have eS : k2T key (l.take M) ⟨k, 0, 0⟩ = sTxt (1 - ((rkA key l k 0).1 : Int)) (64 - ((rkA key l k 0).1 : Int)) 45 (l.take M) ⟨(rkA key l k 0).2.1, 0, 0⟩ := by unfold k2T; rw [hka]
    rw [← eR, ← eS] at T1 T2
    by_cases hg : (rkT key l k 0).2.2 = 0
    · obtain ⟨t1, t2, t3⟩ := T2 hg
      have eK : k2K key (l.take M) ⟨k, 0, 0⟩ = rkK key l k 0 := by unfold k2K rkK; rw [hka, t2]
      have t0 : (k2T key (l.take M) ⟨k, 0, 0⟩).2.ft = 0 := by rw [t1]
      have tk : (k2T key (l.take M) ⟨k, 0, 0⟩).2.k = (rkT key l k 0).2.1 := by rw [t1]
      have tf : (k2T key (l.take M) ⟨k, 0, 0⟩).2.f = 0 := by rw [t1]
      have eA : (k2A key (l.take M) ⟨k, 0, 0⟩).1 = (rkA key l k 0).1 := by rw [hka]
      have eQ : sKey2 kind key (l.take M) ⟨k, 0, 0⟩ = (rkK key l k 0, ⟨(rkT key l k 0).2.1, 0, k2F kind key (l.take M) ⟨k, 0, 0⟩⟩) := by unfold sKey2; rw [eK, tk, tf]
      have hb : (rkT key l k 0).2.1 ≤ k + 84 := by omega
      have eF1 : k2F1 key (l.take M) ⟨k, 0, 0⟩ = if (rkA key l k 0).1 < shared key (rkK key l k 0) then 13 else 0 := by
        unfold k2F1; rw [eA, eK, t0]; rfl
      have eF : k2F kind key (l.take M) ⟨k, 0, 0⟩ = if (rkA key l k 0).1 < shared key (rkK key l k 0) then 13 else if isPairB kind key (rkK key l k 0) then 0 else 45 := by
        unfold k2F; rw [eK, eF1]
        split
        · split <;> rfl
        · split <;> rfl
      rw [eQ, eF]
      unfold rcK
      rw [if_pos hg]
      by_cases h1 : (rkA key l k 0).1 < shared key (rkK key l k 0)
      · rw [if_pos h1, if_pos h1]
        exact ⟨rfl, fun h => absurd h (by show ¬ (13 : Int) = 0; decide)⟩
      · rw [if_neg h1, if_neg h1]
        cases h2 : isPairB kind key (rkK key l k 0) with
        | true => exact ⟨rfl, fun _ => ⟨rfl, rfl, hb⟩⟩
        | false => exact ⟨rfl, fun h => absurd h (by show ¬ (45 : Int) = 0; decide)⟩
    · have e1 : (rcK kind key l k 0).2.2 = (rkT key l k 0).2.2 := by unfold rcK; rw [if_neg hg]
      have e2 : (sKey2 kind key (l.take M) ⟨k, 0, 0⟩).2.ft = (k2T key (l.take M) ⟨k, 0, 0⟩).2.ft := k2_stay (by rw [← T1]; exact hg)
      rw [e1, e2]
      exact ⟨T1, fun h => absurd h hg⟩
  · have eT : rkT key l k 0 = (⟨#[]⟩, (rkA key l k 0).2.1, (rkA key l k 0).2.2) := by
      have e : rcU (64 - (rkA key l k 0).1) 45 l (rkA key l k 0).2.1 (rkA key l k 0).2.2 = (0, (rkA key l k 0).2.1, (rkA key l k 0).2.2) := by unfold rcU; rw [if_neg hf]
      unfold rkT rcT; rw [e, if_neg hf]
    have e1 : (rcK kind key l k 0).2.2 = (rkA key l k 0).2.2 := by unfold rcK; rw [eT, if_neg hf]
    have hA : (k2A key (l.take M) ⟨k, 0, 0⟩).2.ft ≠ 0 := by show (sNum key.size 45 (l.take M) ⟨k, 0, 0⟩).2.ft ≠ 0; rw [← A1]; exact hf
    have hT : (k2T key (l.take M) ⟨k, 0, 0⟩).2.ft = (k2A key (l.take M) ⟨k, 0, 0⟩).2.ft := sTxt_stay hA
    have e2 : (sKey2 kind key (l.take M) ⟨k, 0, 0⟩).2.ft = (k2A key (l.take M) ⟨k, 0, 0⟩).2.ft := (k2_stay (by rw [hT]; exact hA)).trans hT
    rw [e1, e2]
    exact ⟨A1, fun h => absurd h hf⟩
end
end Go.Proofs.YtpjdgbhjjknopaaDoor
