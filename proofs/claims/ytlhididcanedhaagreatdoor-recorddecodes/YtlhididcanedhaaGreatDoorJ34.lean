/- Texts of the proof, joined. -/
import Derived.Test.YtlhididcanedhaaGreatDoorJ33
import Derived.Test.YtlhididcanedhaaGreatDoorJ27
import Derived.Test.YtlhididcanedhaaGreatDoorJ03
/- The document's own Decode and the program's are one: the mathematics. -/
namespace Go.Proofs.YtlhididcanedhaaGreatDoor
open Go.RowKit Go.Wire1

theorem decF_take (f : Nat) : ∀ (t : Bool) (l : List Int) (m : Nat), f + 1 ≤ m → decF f t (l.take m) = decF f t l := by
  induction f with
  | zero =>
    intro t l m hm
    obtain ⟨m, rfl⟩ : ∃ j, m = j + 1 := ⟨m - 1, by omega⟩
    cases l <;> rfl
  | succ f ih =>
    intro t l m hm
    obtain ⟨m, rfl⟩ : ∃ j, m = j + 1 := ⟨m - 1, by omega⟩
    cases l with
    | nil => rfl
    | cons z r =>
      show decF (f + 1) t (z :: r.take m) = decF (f + 1) t (z :: r)
      simp only [decF, ih false r m (by omega)]
theorem dec_drop {l : List Int} {k M : Nat} (h : k + 10 ≤ M) : dec ((l.take M).drop k) = dec (l.drop k) := by
  rw [List.drop_take]; exact decF_take 9 true _ _ (by omega)
theorem take_mid {l : List Int} {j x M : Nat} (h : j + x ≤ M) : ((l.take M).drop j).take x = (l.drop j).take x := by
  rw [List.drop_take, List.take_take, Nat.min_eq_left (by omega)]

theorem noteF_stay {own f ft : Int} (h : ft ≠ 0) : noteF own f ft = ft := by
  unfold noteF refF
  split
  · rfl
  · split <;> first | rfl | rw [if_neg h]
theorem refF_stay {e ft : Int} (h : ft ≠ 0) : refF e ft = ft := if_neg h
theorem noteF_err {own : Int} {i : Nat} (h : i < 3) : noteF own (11 + (i : Int)) 0 = 11 + (i : Int) := by
  unfold noteF refF
  rw [if_neg (by omega), if_neg (by omega), if_pos rfl]
theorem sNum_stay {most : Nat} {own : Int} {l : List Int} {s : St} (h : s.ft ≠ 0) : (sNum most own l s).2.ft = s.ft := noteF_stay h
theorem sInt_stay {l : List Int} {s : St} (h : s.ft ≠ 0) : (sInt l s).2.ft = s.ft := noteF_stay h
theorem sTxt_stay {least most own : Int} {l : List Int} {s : St} (h : s.ft ≠ 0) : (sTxt least most own l s).2.ft = s.ft := noteF_stay h
theorem k2_stay {kind : Int} {key : ByteArray} {l : List Int} {s : St} (h : (k2T key l s).2.ft ≠ 0) : (sKey2 kind key l s).2.ft = (k2T key l s).2.ft := by
  have h1 : k2F1 key l s = (k2T key l s).2.ft := by
    unfold k2F1; split
    · exact refF_stay h
    · rfl
  show k2F kind key l s = _
  unfold k2F
  split
  · exact h1
  · rw [h1]; exact refF_stay h
theorem sKey2_stay {kind : Int} {key : ByteArray} {l : List Int} {s : St} (h : s.ft ≠ 0) : (sKey2 kind key l s).2.ft = s.ft := by
  have h1 : (k2A key l s).2.ft = s.ft := sNum_stay h
  have h2 : (k2T key l s).2.ft = s.ft := (sTxt_stay (by rw [h1]; exact h)).trans h1
  rw [k2_stay (by rw [h2]; exact h), h2]

section
variable {l : List Int} {k M : Nat}
theorem num_al (top : Nat) (own : Int) (hy : Byt l) (hM : k + 10 ≤ M) :
    (rcU top own l k 0).2.2 = (sNum top own (l.take M) ⟨k, 0, 0⟩).2.ft ∧ (own ≠ 0 → (rcU top own l k 0).2.2 = 0 → (sNum top own (l.take M) ⟨k, 0, 0⟩).2 = ⟨(rcU top own l k 0).2.1, 0, 0⟩ ∧ (sNum top own (l.take M) ⟨k, 0, 0⟩).1 = (rcU top own l k 0).1 ∧ (rcU top own l k 0).2.1 ≤ k + 10) := by
  cases hd : dec (l.drop k) with
  | error i =>
    have e1 : rcU top own l k 0 = (0, k, 11 + (i : Int)) := by unfold rcU; rw [hd]; rfl
    have e2 : gU top (l.take M) ⟨k, 0, 0⟩ = (0, k, 11 + (i : Int)) := by unfold gU; rw [dec_drop hM, hd]; rfl
    have hi := dec_err hd
    unfold sNum
    rw [e1, e2]
    exact ⟨(noteF_err hi).symm, fun _ h => absurd h (by show ¬ (11 + (i : Int)) = 0; omega)⟩
  | ok p =>
    obtain ⟨x, m⟩ := p
    have hm := dec_len (byt_drop hy k) hd
    by_cases hx : top < x
    · have e1 : rcU top own l k 0 = (0, k, own) := by unfold rcU; rw [hd]; exact if_pos hx
      have e2 : gU top (l.take M) ⟨k, 0, 0⟩ = (0, k, 14) := by unfold gU; rw [dec_drop hM, hd]; exact if_pos hx
      unfold sNum
      rw [e1, e2]
      exact ⟨rfl, fun ho h => absurd h ho⟩
    · have e1 : rcU top own l k 0 = (x, k + m, 0) := by unfold rcU; rw [hd]; exact if_neg hx
      have e2 : gU top (l.take M) ⟨k, 0, 0⟩ = (x, k + m, 0) := by unfold gU; rw [dec_drop hM, hd]; exact if_neg hx
      unfold sNum
      rw [e1, e2]
      exact ⟨rfl, fun _ _ => ⟨rfl, rfl, by show k + m ≤ k + 10; omega⟩⟩
theorem int_al (hy : Byt l) (hM : k + 10 ≤ M) :
    (rcI l k).2.2 = (sInt (l.take M) ⟨k, 0, 0⟩).2.ft ∧ ((rcI l k).2.2 = 0 → (sInt (l.take M) ⟨k, 0, 0⟩).2 = ⟨(rcI l k).2.1, 0, 0⟩ ∧ (sInt (l.take M) ⟨k, 0, 0⟩).1 = (rcI l k).1 ∧ (rcI l k).2.1 ≤ k + 10) := by
  cases hd : dec (l.drop k) with
  | error i =>
    have e1 : rcI l k = (0, k, 11 + (i : Int)) := by unfold rcI; rw [hd]
    have e2 : gI (l.take M) ⟨k, 0, 0⟩ = (0, k, 11 + (i : Int)) := by unfold gI; rw [dec_drop hM, hd]; rfl
    have hi := dec_err hd
    unfold sInt
    rw [e1, e2]
    exact ⟨(noteF_err hi).symm, fun h => absurd h (by show ¬ (11 + (i : Int)) = 0; omega)⟩
  | ok p =>
    obtain ⟨x, m⟩ := p
    have hm := dec_len (byt_drop hy k) hd
    have e1 : rcI l k = (unzig x, k + m, 0) := by unfold rcI; rw [hd]
    have e2 : gI (l.take M) ⟨k, 0, 0⟩ = (unzig x, k + m, 0) := by unfold gI; rw [dec_drop hM, hd]; rfl
    unfold sInt
    rw [e1, e2]
    exact ⟨rfl, fun _ => ⟨rfl, rfl, by show k + m ≤ k + 10; omega⟩⟩
theorem txt_al (least top : Nat) (lz tz own : Int) (hl : ∀ x : Nat, lz ≤ (x : Int) ↔ least ≤ x) (ht : tz = (top : Int)) (hy : Byt l) (hM : k + 10 + top ≤ M) :
    (rcT least top own l k 0).2.2 = (sTxt lz tz own (l.take M) ⟨k, 0, 0⟩).2.ft ∧ (own ≠ 0 → (rcT least top own l k 0).2.2 = 0 → (sTxt lz tz own (l.take M) ⟨k, 0, 0⟩).2 = ⟨(rcT least top own l k 0).2.1, 0, 0⟩ ∧ (sTxt lz tz own (l.take M) ⟨k, 0, 0⟩).1 = (rcT least top own l k 0).1 ∧ (rcT least top own l k 0).2.1 ≤ k + 10 + top) := by
  subst ht
  have hM1 : k + 10 ≤ M := by omega
  cases hd : dec (l.drop k) with
  | error i =>
    have e0 : rcU top own l k 0 = (0, k, 11 + (i : Int)) := by unfold rcU; rw [hd]; rfl
    have e1 : rcT least top own l k 0 = (⟨#[]⟩, k, 11 + (i : Int)) := by unfold rcT; rw [e0, if_neg (by show ¬ (11 + (i : Int)) = 0; omega)]
    have e2 : gT lz (top : Int) (l.take M) ⟨k, 0, 0⟩ = (⟨#[]⟩, k, 11 + (i : Int)) := by unfold gT; rw [dec_drop (k := k) hM1, hd]; rfl
    have hi := dec_err hd
    unfold sTxt
    rw [e1, e2]
    exact ⟨(noteF_err hi).symm, fun _ h => absurd h (by show ¬ (11 + (i : Int)) = 0; omega)⟩
  | ok p =>
    obtain ⟨x, m⟩ := p
    have hm := dec_len (byt_drop hy k) hd
    by_cases hx : top < x
    · have e0 : rcU top own l k 0 = (0, k, own) := by unfold rcU; rw [hd]; exact if_pos hx
      have e2 : gT lz (top : Int) (l.take M) ⟨k, 0, 0⟩ = (⟨#[]⟩, k, 15) := by unfold gT; rw [dec_drop (k := k) hM1, hd]; show (if lz ≤ (x : Int) ∧ (x : Int) ≤ (top : Int) then _ else _) = _; exact if_neg (fun h => by have := h.2; omega)
      have e3 : (sTxt lz (top : Int) own (l.take M) ⟨k, 0, 0⟩).2.ft = own := by unfold sTxt; rw [e2]; rfl
      by_cases ho : own = 0
      · rw [e3]
        subst ho
        refine ⟨?_, fun h => absurd rfl h⟩
        unfold rcT
        rw [e0, if_pos rfl]
        show (if 0 < least then _ else _ : ByteArray × Nat × Int).2.2 = 0
        split
        · rfl
        · show (if l.length < k + 0 then _ else _ : ByteArray × Nat × Int).2.2 = 0
          rw [if_neg (by have := hm.2.2; rw [List.length_drop] at this; omega)]
      · have e1 : rcT least top own l k 0 = (⟨#[]⟩, k, own) := by unfold rcT; rw [e0, if_neg ho]
        rw [e1, e3]
        exact ⟨rfl, fun _ h => absurd h ho⟩
    · have e0 : rcU top own l k 0 = (x, k + m, 0) := by unfold rcU; rw [hd]; exact if_neg hx
      by_cases hlt : x < least
      · have e1 : rcT least top own l k 0 = (⟨#[]⟩, k + m, own) := by unfold rcT; rw [e0, if_pos rfl]; exact if_pos hlt
        have e2 : gT lz (top : Int) (l.take M) ⟨k, 0, 0⟩ = (⟨#[]⟩, k, 15) := by unfold gT; rw [dec_drop (k := k) hM1, hd]; show (if lz ≤ (x : Int) ∧ (x : Int) ≤ (top : Int) then _ else _) = _; exact if_neg (fun h => by have := (hl x).1 h.1; omega)
        unfold sTxt
        rw [e1, e2]
        exact ⟨rfl, fun ho h => absurd h ho⟩
      · have hin : lz ≤ (x : Int) ∧ (x : Int) ≤ (top : Int) := ⟨(hl x).2 (by omega), by omega⟩
        by_cases hf : l.length < k + m + x
        · have e1 : rcT least top own l k 0 = (⟨#[]⟩, k + m, 11) := by
            unfold rcT; rw [e0, if_pos rfl]
            show (if x < least then _ else if l.length < k + m + x then _ else _) = _
            rw [if_neg hlt, if_pos hf]
          have e2 : gT lz (top : Int) (l.take M) ⟨k, 0, 0⟩ = (⟨#[]⟩, k, 11) := by
            unfold gT; rw [dec_drop (k := k) hM1, hd]
            show (if lz ≤ (x : Int) ∧ (x : Int) ≤ (top : Int) then (if k + m + x ≤ (l.take M).length then _ else _) else _) = _
            rw [if_pos hin, if_neg (by rw [List.length_take]; omega)]
          unfold sTxt
          rw [e1, e2]
          exact ⟨rfl, fun _ h => absurd h (by show ¬ (11 : Int) = 0; decide)⟩
        · have e1 : rcT least top own l k 0 = (strOfNums ((l.drop (k + m)).take x), k + m + x, 0) := by
            unfold rcT; rw [e0, if_pos rfl]
            show (if x < least then _ else if l.length < k + m + x then _ else _) = _
            rw [if_neg hlt, if_neg hf]
          have e2 : gT lz (top : Int) (l.take M) ⟨k, 0, 0⟩ = (strOfNums ((l.drop (k + m)).take x), k + m + x, 0) := by
            unfold gT; rw [dec_drop (k := k) hM1, hd]
            show (if lz ≤ (x : Int) ∧ (x : Int) ≤ (top : Int) then (if k + m + x ≤ (l.take M).length then _ else _) else _) = _
            rw [if_pos hin, if_pos (by rw [List.length_take]; omega), take_mid (j := k + m) (x := x) (M := M) (by omega), Nat.add_assoc k m x]
          unfold sTxt
          rw [e1, e2]
          exact ⟨rfl, fun _ _ => ⟨rfl, rfl, by show k + m + x ≤ k + 10 + top; omega⟩⟩
theorem key2_al (kind : Int) (key : ByteArray) (hk : key.size ≤ 64) (hy : Byt l) (hM : k + 84 ≤ M) :
    (rcK kind key l k 0).2.2 = (sKey2 kind key (l.take M) ⟨k, 0, 0⟩).2.ft ∧ ((rcK kind key l k 0).2.2 = 0 → (sKey2 kind key (l.take M) ⟨k, 0, 0⟩).2 = ⟨(rcK kind key l k 0).2.1, 0, 0⟩ ∧ (sKey2 kind key (l.take M) ⟨k, 0, 0⟩).1 = (rcK kind key l k 0).1 ∧ (rcK kind key l k 0).2.1 ≤ k + 84) := by
  obtain ⟨A1, A2⟩ := num_al (l := l) (k := k) (M := M) key.size 45 hy (by omega)
  have A2 := A2 (by decide)
  by_cases hf : (rkA key l k 0).2.2 = 0
  · obtain ⟨a1, a2, a3⟩ := A2 hf
    have hx : (rkA key l k 0).1 ≤ key.size := rcU_le _ _ _ _ _
    have hka : k2A key (l.take M) ⟨k, 0, 0⟩ = ((rkA key l k 0).1, ⟨(rkA key l k 0).2.1, 0, 0⟩) := Prod.ext a2 a1
    have ha3 : (rkA key l k 0).2.1 ≤ k + 10 := a3
    obtain ⟨T1, T2⟩ := txt_al (l := l) (k := (rkA key l k 0).2.1) (M := M) (1 - (rkA key l k 0).1) (64 - (rkA key l k 0).1) (1 - ((rkA key l k 0).1 : Int)) (64 - ((rkA key l k 0).1 : Int)) 45 (fun x => by omega) (by omega) hy (by omega)
    have T2 := T2 (by decide)
    have eR : rkT key l k 0 = rcT (1 - (rkA key l k 0).1) (64 - (rkA key l k 0).1) 45 l (rkA key l k 0).2.1 0 := by unfold rkT; rw [hf]
    have eS : k2T key (l.take M) ⟨k, 0, 0⟩ = sTxt (1 - ((rkA key l k 0).1 : Int)) (64 - ((rkA key l k 0).1 : Int)) 45 (l.take M) ⟨(rkA key l k 0).2.1, 0, 0⟩ := by unfold k2T; rw [hka]
    rw [← eR, ← eS] at T1 T2
    by_cases hg : (rkT key l k 0).2.2 = 0
    · obtain ⟨t1, t2, t3⟩ := T2 hg
      have eK : k2K key (l.take M) ⟨k, 0, 0⟩ = rkK key l k 0 := by unfold k2K rkK; rw [hka, t2]
      have t0 : (k2T key (l.take M) ⟨k, 0, 0⟩).2.ft = 0 := by rw [t1]
      have tk : (k2T key (l.take M) ⟨k, 0, 0⟩).2.k = (rkT key l k 0).2.1 := by rw [t1]
      have tf : (k2T key (l.take M) ⟨k, 0, 0⟩).2.f = 0 := by rw [t1]
      have eA : (k2A key (l.take M) ⟨k, 0, 0⟩).1 = (rkA key l k 0).1 := by rw [hka]
      have eQ : sKey2 kind key (l.take M) ⟨k, 0, 0⟩ = (rkK key l k 0, ⟨(rkT key l k 0).2.1, 0, k2F kind key (l.take M) ⟨k, 0, 0⟩⟩) := by unfold sKey2; rw [eK, tk, tf]
      have hb : (rkT key l k 0).2.1 ≤ k + 84 := by omega
      have eF1 : k2F1 key (l.take M) ⟨k, 0, 0⟩ = if (rkA key l k 0).1 < shared key (rkK key l k 0) then 13 else 0 := by
        unfold k2F1; rw [eA, eK, t0]; rfl
      have eF : k2F kind key (l.take M) ⟨k, 0, 0⟩ = if (rkA key l k 0).1 < shared key (rkK key l k 0) then 13 else if isPairB kind key (rkK key l k 0) then 0 else 45 := by
        unfold k2F; rw [eK, eF1]
        split
        · split <;> rfl
        · split <;> rfl
      rw [eQ, eF]
      unfold rcK
      rw [if_pos hg]
      by_cases h1 : (rkA key l k 0).1 < shared key (rkK key l k 0)
      · rw [if_pos h1, if_pos h1]
        exact ⟨rfl, fun h => absurd h (by show ¬ (13 : Int) = 0; decide)⟩
      · rw [if_neg h1, if_neg h1]
        cases h2 : isPairB kind key (rkK key l k 0) with
        | true => exact ⟨rfl, fun _ => ⟨rfl, rfl, hb⟩⟩
        | false => exact ⟨rfl, fun h => absurd h (by show ¬ (45 : Int) = 0; decide)⟩
    · have e1 : (rcK kind key l k 0).2.2 = (rkT key l k 0).2.2 := by unfold rcK; rw [if_neg hg]
      have e2 : (sKey2 kind key (l.take M) ⟨k, 0, 0⟩).2.ft = (k2T key (l.take M) ⟨k, 0, 0⟩).2.ft := k2_stay (by rw [← T1]; exact hg)
      rw [e1, e2]
      exact ⟨T1, fun h => absurd h hg⟩
  · have eT : rkT key l k 0 = (⟨#[]⟩, (rkA key l k 0).2.1, (rkA key l k 0).2.2) := by
      have e : rcU (64 - (rkA key l k 0).1) 45 l (rkA key l k 0).2.1 (rkA key l k 0).2.2 = (0, (rkA key l k 0).2.1, (rkA key l k 0).2.2) := by unfold rcU; rw [if_neg hf]
      unfold rkT rcT; rw [e, if_neg hf]
    have e1 : (rcK kind key l k 0).2.2 = (rkA key l k 0).2.2 := by unfold rcK; rw [eT, if_neg hf]
    have hA : (k2A key (l.take M) ⟨k, 0, 0⟩).2.ft ≠ 0 := by show (sNum key.size 45 (l.take M) ⟨k, 0, 0⟩).2.ft ≠ 0; rw [← A1]; exact hf
    have hT : (k2T key (l.take M) ⟨k, 0, 0⟩).2.ft = (k2A key (l.take M) ⟨k, 0, 0⟩).2.ft := sTxt_stay hA
    have e2 : (sKey2 kind key (l.take M) ⟨k, 0, 0⟩).2.ft = (k2A key (l.take M) ⟨k, 0, 0⟩).2.ft := (k2_stay (by rw [hT]; exact hA)).trans hT
    rw [e1, e2]
    exact ⟨A1, fun h => absurd h hf⟩
end
end Go.Proofs.YtlhididcanedhaaGreatDoor
/- The document's own Decode and the program's are one, letter by letter. -/
namespace Go.Proofs.YtlhididcanedhaaGreatDoor
open Go.RowKit Go.Wire1

/-- Both have come to one place, or to one fault. -/
structure Agr (B : Nat) (p : Cm × Nat × Int) (c : Cm) (s : St) : Prop where
  ft : p.2.2 = s.ft
  at0 : p.2.2 = 0 → s = ⟨p.2.1, 0, 0⟩ ∧ p.1 = c ∧ p.2.1 ≤ B ∧ c.key.size ≤ 64
def rcS (v x : Int) (l : List Int) (p : Cm × Nat × Int) : Cm × Nat × Int := if p.2.2 = 0 then rcF v x p.1 l p.2.1 else p
theorem Agr.bad {B B' : Nat} {p : Cm × Nat × Int} {c c' : Cm} {s s' : St} {v x : Int} {l : List Int} (h : Agr B p c s) (hp : p.2.2 ≠ 0) (e : s.ft ≠ 0 → s'.ft = s.ft) : Agr B' (rcS v x l p) c' s' := by
  have e1 : rcS v x l p = p := if_neg hp
  rw [e1]
  exact ⟨h.ft.trans (e (by rw [← h.ft]; exact hp)).symm, fun h0 => absurd h0 hp⟩
section
variable {B M : Nat} {p : Cm × Nat × Int} {c : Cm} {s : St} {l : List Int} (v : Int)
theorem Agr.client (h : Agr B p c s) (hy : Byt l) (hM : B + 10 ≤ M) : Agr (B + 10) (rcS v 99 l p) { c with client := ((sNum 65535 42 (l.take M) s).1 : Nat) } (sNum 65535 42 (l.take M) s).2 := by
  by_cases hp : p.2.2 = 0
  · obtain ⟨rfl, rfl, hb, hk⟩ := h.at0 hp
    obtain ⟨A1, A2⟩ := num_al (l := l) (k := p.2.1) (M := M) 65535 42 hy (by omega)
    have e : rcS v 99 l p = ({ p.1 with client := ((rcU 65535 42 l p.2.1 0).1 : Nat) }, (rcU 65535 42 l p.2.1 0).2) := if_pos hp
    rw [e]
    refine ⟨A1, fun h0 => ?_⟩
    obtain ⟨a1, a2, a3⟩ := A2 (by decide) h0
    rw [a1, a2]
    exact ⟨rfl, rfl, by show (rcU 65535 42 l p.2.1 0).2.1 ≤ _; omega, hk⟩
  · exact h.bad hp sNum_stay
theorem Agr.req (h : Agr B p c s) (hy : Byt l) (hM : B + 10 ≤ M) : Agr (B + 10) (rcS v 114 l p) { c with req := ((sNum 1073741824 43 (l.take M) s).1 : Nat) } (sNum 1073741824 43 (l.take M) s).2 := by
  by_cases hp : p.2.2 = 0
  · obtain ⟨rfl, rfl, hb, hk⟩ := h.at0 hp
    obtain ⟨A1, A2⟩ := num_al (l := l) (k := p.2.1) (M := M) 1073741824 43 hy (by omega)
    have e : rcS v 114 l p = ({ p.1 with req := ((rcU 1073741824 43 l p.2.1 0).1 : Nat) }, (rcU 1073741824 43 l p.2.1 0).2) := if_pos hp
    rw [e]
    refine ⟨A1, fun h0 => ?_⟩
    obtain ⟨a1, a2, a3⟩ := A2 (by decide) h0
    rw [a1, a2]
    exact ⟨rfl, rfl, by show (rcU 1073741824 43 l p.2.1 0).2.1 ≤ _; omega, hk⟩
  · exact h.bad hp sNum_stay
theorem Agr.key (h : Agr B p c s) (hy : Byt l) (hM : B + 74 ≤ M) : Agr (B + 74) (rcS v 107 l p) { c with key := (sTxt 1 64 44 (l.take M) s).1 } (sTxt 1 64 44 (l.take M) s).2 := by
  by_cases hp : p.2.2 = 0
  · obtain ⟨rfl, rfl, hb, hk⟩ := h.at0 hp
    obtain ⟨A1, A2⟩ := txt_al (l := l) (k := p.2.1) (M := M) 1 64 1 64 44 (fun x => by omega) rfl hy (by omega)
    have e : rcS v 107 l p = ({ p.1 with key := (rcT 1 64 44 l p.2.1 0).1 }, (rcT 1 64 44 l p.2.1 0).2) := if_pos hp
    rw [e]
    refine ⟨A1, fun h0 => ?_⟩
    obtain ⟨a1, a2, a3⟩ := A2 (by decide) h0
    rw [a1, a2]
    exact ⟨rfl, rfl, by show (rcT 1 64 44 l p.2.1 0).2.1 ≤ _; omega, rcT_size _ _ _ _ _ _⟩
  · exact h.bad hp sTxt_stay
theorem Agr.key2 (h : Agr B p c s) (hy : Byt l) (hM : B + 84 ≤ M) : Agr (B + 84) (rcS v 106 l p) { c with key2 := (sKey2 c.kind c.key (l.take M) s).1 } (sKey2 c.kind c.key (l.take M) s).2 := by
  by_cases hp : p.2.2 = 0
  · obtain ⟨rfl, rfl, hb, hk⟩ := h.at0 hp
    obtain ⟨A1, A2⟩ := key2_al (l := l) (k := p.2.1) (M := M) p.1.kind p.1.key hk hy (by omega)
    have e : rcS v 106 l p = ({ p.1 with key2 := (rcK p.1.kind p.1.key l p.2.1 0).1 }, (rcK p.1.kind p.1.key l p.2.1 0).2) := if_pos hp
    rw [e]
    refine ⟨A1, fun h0 => ?_⟩
    obtain ⟨a1, a2, a3⟩ := A2 h0
    rw [a1, a2]
    exact ⟨rfl, rfl, by show (rcK p.1.kind p.1.key l p.2.1 0).2.1 ≤ _; omega, hk⟩
  · exact h.bad hp sKey2_stay
theorem Agr.old (h : Agr B p c s) (hy : Byt l) (hM : B + 65546 ≤ M) : Agr (B + 65546) (rcS v 111 l p) { c with old := (sTxt 0 (mostV v : Nat) 47 (l.take M) s).1 } (sTxt 0 (mostV v : Nat) 47 (l.take M) s).2 := by
  have hm := mostV_le v
  by_cases hp : p.2.2 = 0
  · obtain ⟨rfl, rfl, hb, hk⟩ := h.at0 hp
    obtain ⟨A1, A2⟩ := txt_al (l := l) (k := p.2.1) (M := M) 0 (mostV v) 0 (mostV v : Nat) 47 (fun x => by omega) rfl hy (by omega)
    have e : rcS v 111 l p = ({ p.1 with old := (rcT 0 (mostV v) 47 l p.2.1 0).1 }, (rcT 0 (mostV v) 47 l p.2.1 0).2) := if_pos hp
    rw [e]
    refine ⟨A1, fun h0 => ?_⟩
    obtain ⟨a1, a2, a3⟩ := A2 (by decide) h0
    rw [a1, a2]
    exact ⟨rfl, rfl, by show (rcT 0 (mostV v) 47 l p.2.1 0).2.1 ≤ _; omega, hk⟩
  · exact h.bad hp sTxt_stay
theorem Agr.val (h : Agr B p c s) (hy : Byt l) (hM : B + 65546 ≤ M) : Agr (B + 65546) (rcS v 118 l p) { c with val := (sTxt 0 (mostV v : Nat) 46 (l.take M) s).1 } (sTxt 0 (mostV v : Nat) 46 (l.take M) s).2 := by
  have hm := mostV_le v
  by_cases hp : p.2.2 = 0
  · obtain ⟨rfl, rfl, hb, hk⟩ := h.at0 hp
    obtain ⟨A1, A2⟩ := txt_al (l := l) (k := p.2.1) (M := M) 0 (mostV v) 0 (mostV v : Nat) 46 (fun x => by omega) rfl hy (by omega)
    have e : rcS v 118 l p = ({ p.1 with val := (rcT 0 (mostV v) 46 l p.2.1 0).1 }, (rcT 0 (mostV v) 46 l p.2.1 0).2) := if_pos hp
    rw [e]
    refine ⟨A1, fun h0 => ?_⟩
    obtain ⟨a1, a2, a3⟩ := A2 (by decide) h0
    rw [a1, a2]
    exact ⟨rfl, rfl, by show (rcT 0 (mostV v) 46 l p.2.1 0).2.1 ≤ _; omega, hk⟩
  · exact h.bad hp sTxt_stay
theorem Agr.n (h : Agr B p c s) (hy : Byt l) (hM : B + 10 ≤ M) : Agr (B + 10) (rcS v 110 l p) { c with n := (sInt (l.take M) s).1 } (sInt (l.take M) s).2 := by
  by_cases hp : p.2.2 = 0
  · obtain ⟨rfl, rfl, hb, hk⟩ := h.at0 hp
    obtain ⟨A1, A2⟩ := int_al (l := l) (k := p.2.1) (M := M) hy (by omega)
    have e : rcS v 110 l p = ({ p.1 with n := (rcI l p.2.1).1 }, (rcI l p.2.1).2) := if_pos hp
    rw [e]
    refine ⟨A1, fun h0 => ?_⟩
    obtain ⟨a1, a2, a3⟩ := A2 h0
    rw [a1, a2]
    exact ⟨rfl, rfl, by show (rcI l p.2.1).2.1 ≤ _; omega, hk⟩
  · exact h.bad hp sInt_stay
end
/-- The whole of a command of the kind x: what the letters give is what the program's scan gives. -/
theorem agr_all (v x : Int) (l : List Int) (hy : Byt l) (h1 : 1 ≤ x) (h8 : x ≤ 8) :
    Agr 131281 (rcGo v (fldS x) l { zeroC with kind := x } (fldS x).size) (sAll v x (l.take 131281) ⟨1, 0, 0⟩).1 (sAll v x (l.take 131281) ⟨1, 0, 0⟩).2 := by
  have A0 : Agr 1 (({ zeroC with kind := x }, 1, 0) : Cm × Nat × Int) { zeroC with kind := x } ⟨1, 0, 0⟩ := ⟨rfl, fun _ => ⟨rfl, rfl, Nat.le_refl _, by show (0 : Nat) ≤ 64; omega⟩⟩
  have A3 := ((A0.client (M := 131281) v hy (by omega)).req (M := 131281) v hy (by omega)).key (M := 131281) v hy (by omega)
  have up : ∀ {B p c s}, Agr B p c s → B ≤ 131281 → Agr 131281 p c s := fun h hB => ⟨h.ft, fun h0 => by obtain ⟨a, b, c, d⟩ := h.at0 h0; exact ⟨a, b, by omega, d⟩⟩
  have hx : x = 1 ∨ x = 2 ∨ x = 3 ∨ x = 4 ∨ x = 5 ∨ x = 6 ∨ x = 7 ∨ x = 8 := by omega
  rcases hx with rfl | rfl | rfl | rfl | rfl | rfl | rfl | rfl
  · exact up A3 (by omega)
  · exact up (A3.val (M := 131281) v hy (by omega)) (by omega)
  · exact up A3 (by omega)
  · exact up (A3.n (M := 131281) v hy (by omega)) (by omega)
  · exact up ((A3.old (M := 131281) v hy (by omega)).val (M := 131281) v hy (by omega)) (by omega)
  · exact up (A3.key2 (M := 131281) v hy (by omega)) (by omega)
  · exact up (A3.key2 (M := 131281) v hy (by omega)) (by omega)
  · exact up (A3.key2 (M := 131281) v hy (by omega)) (by omega)
/-- The document's own Decode gives what the program's gives. -/
theorem rcD_decC (v : Int) (l : List Int) (hy : Byt l) : rcD v l = decC v l := by
  cases hver : isVer v with
  | false =>
    unfold rcD decC
    rw [hver]; rfl
  | true =>
    have hv : v = 1 ∨ v = 2 := by simpa [isVer] using hver
    cases l with
    | nil =>
      have e : sCmd v (List.take 131281 []) ⟨0, 0, 0⟩ = (⟨0, 0, 0, ⟨#[]⟩, ⟨#[]⟩, ⟨#[]⟩, ⟨#[]⟩, 0⟩, ⟨0, 11, 11⟩) := by rcases hv with rfl | rfl <;> rfl
      unfold rcD decC
      rw [hver, if_pos rfl, if_pos rfl, e]; rfl
    | cons x r =>
      have hxb : 0 ≤ x ∧ x < 256 := hy x (by simp)
      have eL : (x :: r).take 131281 = x :: r.take 131280 := rfl
      cases hk : isKd v x with
      | false =>
        have e1 : gB 255 (x :: r.take 131280) ⟨0, 0, 0⟩ = (x, 1, 0) := by
          unfold gB
          show (if (0 : Int) = 0 then (if (x :: r.take 131280).length ≤ 0 then _ else if 255 < x then _ else _) else _) = _
          rw [if_pos rfl, if_neg (by simp), if_neg (by omega)]; rfl
        have e2 : (sKind v (x :: r.take 131280) ⟨0, 0, 0⟩) = (x, ⟨1, 0, 41⟩) := by
          unfold sKind; rw [e1]
          show (x, (⟨1, 0, if isKd v x then _ else _⟩ : St)) = _
          rw [hk]; rfl
        have e3 : (sCmd v (x :: r.take 131280) ⟨0, 0, 0⟩).2.ft = 41 := by
          unfold sCmd; rw [e2, if_neg (fun q => absurd q.1 (by show ¬ (41 : Int) = 0; decide))]
        unfold rcD decC
        rw [hver, if_pos rfl, if_pos rfl, eL, e3]
        show (if knownR v x then _ else _) = _
        rw [known_eq hv, hk]; rfl
      | true =>
        have e2 := sKind_full (v := v) (x := x) (l := x :: r.take 131280) hk rfl
        have hr := isKd_range hk
        unfold rcD decC
        rw [hver, if_pos rfl, if_pos rfl]
        show (if knownR v x then _ else _) = _
        rw [known_eq hv, hk, if_pos rfl]
        by_cases hz : x = 0
        · subst hz
          have e3 : sCmd v (0 :: r.take 131280) ⟨0, 0, 0⟩ = (⟨0, 0, 0, ⟨#[]⟩, ⟨#[]⟩, ⟨#[]⟩, ⟨#[]⟩, 0⟩, ⟨1, 0, 0⟩) := by
            unfold sCmd; rw [e2, if_neg (fun q => q.2 rfl)]
          rw [eL, e3]; rfl
        · have e3 : sCmd v ((x :: r).take 131281) ⟨0, 0, 0⟩ = sAll v x ((x :: r).take 131281) ⟨1, 0, 0⟩ := by
            rw [eL]; unfold sCmd; rw [e2, if_pos ⟨rfl, hz⟩]
          rw [e3]
          have A := agr_all v x (x :: r) hy (by omega) (by omega)
          by_cases h0 : (rcGo v (fldS x) (x :: r) { zeroC with kind := x } (fldS x).size).2.2 = 0
          · obtain ⟨a1, a2, _, _⟩ := A.at0 h0
            have h0' := h0
            rw [A.ft] at h0'
            rw [if_pos h0, if_pos h0', a1, ← a2]
            exact Prod.ext rfl (Prod.ext rfl h0)
          · have h0' := h0
            rw [A.ft] at h0'
            rw [if_neg h0, if_neg h0', A.ft]
end Go.Proofs.YtlhididcanedhaaGreatDoor
/- The contracts of the document's own Width and Entries; one more int onto a row of our own. -/
namespace Go.Proofs.YtlhididcanedhaaGreatDoor
open Go.RowKit Go.Wire1

theorem pushI {B : Nat} {w wr w1 : World} {v v' : Value} {o : Obj} {pre : List Int} {z : Int} (hB : B ≤ wr.heap.size) (hown : wr.ownsRow B 3 1 v pre.length (pre.map (Value.int .i64))) (hbel : Below B w wr)
    (hown' : w1.ownsRow B 3 1 v' (pre.length + 1) (pre.map (Value.int .i64) ++ [.int .i64 z])) (hgrow : (wr.alloc o).grownBy w1 v.ownBlock) :
    w1.ownsRow B 3 1 v' (pre ++ [z]).length ((pre ++ [z]).map (Value.int .i64)) ∧ Below B w w1 :=
  ⟨by simpa using hown', (hbel.alloc hB o).grown hgrow (by simp; omega) (fun j hj => (hown.lt j hj).1)⟩

end Go.Proofs.YtlhididcanedhaaGreatDoor
