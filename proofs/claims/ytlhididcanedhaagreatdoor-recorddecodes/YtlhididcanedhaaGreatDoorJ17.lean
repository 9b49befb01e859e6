/- Texts of the proof, joined. -/
import Derived.Test.YtlhididcanedhaaGreatDoorJ16
import Derived.Test.YtlhididcanedhaaGreatDoorJ02
/- What Decode takes is what Encode writes: the mathematics. -/
namespace Go.Proofs.YtlhididcanedhaaGreatDoor
open Go.RowKit Go.Wire1

theorem noteF_zero {own f ft : Int} (ho : own ≠ 0) (h : noteF own f ft = 0) : f = 0 ∧ ft = 0 := by
  unfold noteF at h
  split at h
  · rename_i h0; exact ⟨h0, h⟩
  · split at h
    · exact absurd h (refF_ne _ _ ho)
    · rename_i h0 _; exact absurd h (refF_ne _ _ h0)
theorem take_on {l : List Int} {k m : Nat} : l.take (k + m) = l.take k ++ (l.drop k).take m := List.take_add
theorem num_at {l : List Int} {k x m : Nat} (hy : Byt l) (hk : k ≤ l.length) (h : dec (l.drop k) = .ok (x, m)) : k + m ≤ l.length ∧ l.take (k + m) = l.take k ++ enc x ∧ 1 ≤ m := by
  have h1 := dec_form (byt_drop hy k) h
  have h2 := dec_len (byt_drop hy k) h
  rw [List.length_drop] at h2
  exact ⟨by omega, by rw [take_on, h1], h2.1⟩
theorem sNum_ok {most : Nat} {own : Int} {l : List Int} {s : St} (hy : Byt l) (ho : own ≠ 0) (hk : s.k ≤ l.length) (h : (sNum most own l s).2.ft = 0) :
    s.ft = 0 ∧ (sNum most own l s).1 ≤ most ∧ (sNum most own l s).2.k ≤ l.length ∧ l.take (sNum most own l s).2.k = l.take s.k ++ enc (sNum most own l s).1 := by
  obtain ⟨hf, hft⟩ := noteF_zero ho (show noteF own (gU most l s).2.2 s.ft = 0 from h)
  refine ⟨hft, gU_le _ _ _, ?_⟩
  show (gU most l s).2.1 ≤ l.length ∧ l.take (gU most l s).2.1 = l.take s.k ++ enc (gU most l s).1
  by_cases hs : s.f = 0
  · cases hd : dec (l.drop s.k) with
    | error i =>
      have e : gU most l s = (0, s.k, 11 + (i : Int)) := by unfold gU; rw [if_pos hs, hd]
      rw [e] at hf; simp only at hf; omega
    | ok p =>
      obtain ⟨x, m⟩ := p
      by_cases hm : most < x
      · have e : gU most l s = (0, s.k, 14) := by unfold gU; rw [if_pos hs, hd]; simp only; rw [if_pos hm]
        rw [e] at hf; simp at hf
      · have e : gU most l s = (x, s.k + m, 0) := by unfold gU; rw [if_pos hs, hd]; simp only; rw [if_neg hm]
        rw [e]
        have := num_at hy hk hd
        exact ⟨this.1, this.2.1⟩
  · have e : gU most l s = (0, s.k, s.f) := by unfold gU; rw [if_neg hs]
    rw [e] at hf; exact absurd hf hs
theorem sInt_ok {l : List Int} {s : St} (hy : Byt l) (hk : s.k ≤ l.length) (h : (sInt l s).2.ft = 0) :
    s.ft = 0 ∧ (sInt l s).2.k ≤ l.length ∧ l.take (sInt l s).2.k = l.take s.k ++ enc (zig (sInt l s).1) := by
  obtain ⟨hf, hft⟩ := noteF_zero (by decide) (show noteF 14 (gI l s).2.2 s.ft = 0 from h)
  refine ⟨hft, ?_⟩
  show (gI l s).2.1 ≤ l.length ∧ l.take (gI l s).2.1 = l.take s.k ++ enc (zig (gI l s).1)
  by_cases hs : s.f = 0
  · cases hd : dec (l.drop s.k) with
    | error i =>
      have e : gI l s = (0, s.k, 11 + (i : Int)) := by unfold gI; rw [if_pos hs, hd]
      rw [e] at hf; simp only at hf; omega
    | ok p =>
      obtain ⟨x, m⟩ := p
      have e : gI l s = (unzig x, s.k + m, 0) := by unfold gI; rw [if_pos hs, hd]
      rw [e]
      have := num_at hy hk hd
      exact ⟨this.1, by rw [zig_unzig]; exact this.2.1⟩
  · have e : gI l s = (0, s.k, s.f) := by unfold gI; rw [if_neg hs]
    rw [e] at hf; exact absurd hf hs
theorem tx_str {L : List Int} (h : Byt L) : tx (strOfNums L) = L := by
  induction L with
  | nil => rfl
  | cons z r ih =>
    have hz := h z (List.mem_cons_self ..)
    have hr : Byt r := fun y hy => h y (List.mem_cons_of_mem _ hy)
    have := ih hr
    simp [tx, strOfNums] at this ⊢
    refine ⟨by omega, this⟩
theorem sTxt_ok {least most own : Int} {l : List Int} {s : St} (hy : Byt l) (ho : own ≠ 0) (hk : s.k ≤ l.length) (h : (sTxt least most own l s).2.ft = 0) :
    s.ft = 0 ∧ least ≤ ((sTxt least most own l s).1.size : Int) ∧ ((sTxt least most own l s).1.size : Int) ≤ most ∧ (sTxt least most own l s).2.k ≤ l.length ∧ l.take (sTxt least most own l s).2.k = l.take s.k ++ ptx (sTxt least most own l s).1 := by
  obtain ⟨hf, hft⟩ := noteF_zero ho (show noteF own (gT least most l s).2.2 s.ft = 0 from h)
  refine ⟨hft, ?_⟩
  show least ≤ ((gT least most l s).1.size : Int) ∧ ((gT least most l s).1.size : Int) ≤ most ∧ (gT least most l s).2.1 ≤ l.length ∧ l.take (gT least most l s).2.1 = l.take s.k ++ ptx (gT least most l s).1
  by_cases hs : s.f = 0
  · cases hd : dec (l.drop s.k) with
    | error i =>
      have e : gT least most l s = (⟨#[]⟩, s.k, 11 + (i : Int)) := by unfold gT; rw [if_pos hs, hd]
      rw [e] at hf; simp only at hf; omega
    | ok p =>
      obtain ⟨x, m⟩ := p
      by_cases hm : least ≤ (x : Int) ∧ (x : Int) ≤ most
      · by_cases hr : s.k + m + x ≤ l.length
        · have e : gT least most l s = (strOfNums ((l.drop (s.k + m)).take x), s.k + (m + x), 0) := by unfold gT; rw [if_pos hs, hd]; simp only; rw [if_pos hm, if_pos hr]
          rw [e]
          have hsz : (strOfNums ((l.drop (s.k + m)).take x)).size = x := by rw [strOfNums_size, List.length_take, List.length_drop]; omega
          have h3 := num_at hy hk hd
          refine ⟨by simp only; omega, by simp only; omega, by simp only; omega, ?_⟩
          show l.take (s.k + (m + x)) = l.take s.k ++ (enc (strOfNums ((l.drop (s.k + m)).take x)).size ++ tx (strOfNums ((l.drop (s.k + m)).take x)))
          rw [hsz, tx_str (byt_take (byt_drop hy _) _), ← Nat.add_assoc, take_on, h3.2.1, List.append_assoc]
        · have e : gT least most l s = (⟨#[]⟩, s.k, 11) := by unfold gT; rw [if_pos hs, hd]; simp only; rw [if_pos hm, if_neg hr]
          rw [e] at hf; simp at hf
      · have e : gT least most l s = (⟨#[]⟩, s.k, 15) := by unfold gT; rw [if_pos hs, hd]; simp only; rw [if_neg hm]
        rw [e] at hf; simp at hf
  · have e : gT least most l s = (⟨#[]⟩, s.k, s.f) := by unfold gT; rw [if_neg hs]
    rw [e] at hf; exact absurd hf hs
theorem sKind_got {v : Int} {l : List Int} {s : St} (h : (sKind v l s).2.ft = 0) :
    s.ft = 0 ∧ (sKind v l s).2.k ≤ l.length ∧ l.take (sKind v l s).2.k = l.take s.k ++ [(sKind v l s).1] := by
  have hkd := sKind_ok h
  have h' : noteF 41 (gB 255 l s).2.2 s.ft = 0 := by
    have e : (sKind v l s).2.ft = noteF 41 (gB 255 l s).2.2 s.ft := by
      show (if isKd v (sKind v l s).1 then _ else _) = _
      rw [hkd]; rfl
    rw [← e]; exact h
  obtain ⟨hf, hft⟩ := noteF_zero (by decide) h'
  refine ⟨hft, ?_⟩
  show (gB 255 l s).2.1 ≤ l.length ∧ l.take (gB 255 l s).2.1 = l.take s.k ++ [(gB 255 l s).1]
  by_cases hs : s.f = 0
  · by_cases h1 : l.length ≤ s.k
    · have e : gB 255 l s = (0, s.k, 11) := by unfold gB; rw [if_pos hs, if_pos h1]
      rw [e] at hf; simp at hf
    · by_cases h2 : 255 < l.getD s.k 0
      · have e : gB 255 l s = (0, s.k, 14) := by unfold gB; rw [if_pos hs, if_neg h1, if_pos h2]
        rw [e] at hf; simp at hf
      · have e : gB 255 l s = (l.getD s.k 0, s.k + 1, 0) := by unfold gB; rw [if_pos hs, if_neg h1, if_neg h2]
        rw [e]
        have hlt : s.k < l.length := by omega
        refine ⟨hlt, ?_⟩
        show l.take (s.k + 1) = l.take s.k ++ [l.getD s.k 0]
        rw [take_on, List.drop_eq_getElem_cons hlt, List.getD, List.getElem?_eq_getElem hlt]
        rfl
  · have e : gB 255 l s = (0, s.k, s.f) := by unfold gB; rw [if_neg hs]
    rw [e] at hf; exact absurd hf hs
end Go.Proofs.YtlhididcanedhaaGreatDoor
/- What Decode takes is what Encode writes: the mathematics, second part. -/
namespace Go.Proofs.YtlhididcanedhaaGreatDoor
open Go.RowKit Go.Wire1

theorem shL_ge : ∀ (x t : List UInt8) (i : Nat), i ≤ x.length → i ≤ shL x (x.take i ++ t)
  | _, _, 0, _ => Nat.zero_le _
  | [], _, i + 1, h => by simp at h
  | z :: x, t, i + 1, h => by
    have := shL_ge x t i (by simpa using h)
    simp only [List.take_succ_cons, List.cons_append, shL, if_true]
    omega
theorem data_cut (k t : ByteArray) (i : Nat) : (k.extract 0 i ++ t).data.toList = k.data.toList.take i ++ t.data.toList := by
  rw [ByteArray.data_append, Array.toList_append, ByteArray.data_extract, Array.toList_extract]
  simp
theorem shared_cut {k t : ByteArray} {i : Nat} (hi : i ≤ k.size) (h : ¬ i < shared k (k.extract 0 i ++ t)) : shared k (k.extract 0 i ++ t) = i := by
  have : i ≤ shared k (k.extract 0 i ++ t) := by
    unfold shared
    rw [data_cut]
    exact shL_ge _ _ _ (by rw [← Lib.size_eq]; exact hi)
  omega
theorem size_cut (k t : ByteArray) (i : Nat) (hi : i ≤ k.size) : (k.extract 0 i ++ t).size = i + t.size := by
  rw [ByteArray.size_append, ByteArray.size_extract]; omega
theorem rest_cut (k t : ByteArray) (i : Nat) (hi : i ≤ k.size) : (k.extract 0 i ++ t).extract i (k.extract 0 i ++ t).size = t := by
  apply ByteArray.ext
  apply Array.toList_inj.1
  rw [ByteArray.data_extract, Array.toList_extract, data_cut, size_cut k t i hi]
  have h1 : (k.data.toList.take i).length = i := by rw [List.length_take, Array.length_toList]; exact Nat.min_eq_left hi
  have h2 : t.data.toList.length ≤ i + t.size - i := by rw [Array.length_toList]; show t.size ≤ _; omega
  rw [List.extract_eq_take_drop, List.drop_left' h1, List.take_of_length_le h2]

theorem sKey2_got {kind : Int} {key : ByteArray} {l : List Int} {s : St} (hy : Byt l) (hk : s.k ≤ l.length) (h : (sKey2 kind key l s).2.ft = 0) :
    s.ft = 0 ∧ 1 ≤ (sKey2 kind key l s).1.size ∧ (sKey2 kind key l s).1.size ≤ 64 ∧ isPairB kind key (sKey2 kind key l s).1 = true ∧ (sKey2 kind key l s).2.k ≤ l.length ∧
    l.take (sKey2 kind key l s).2.k = l.take s.k ++ (enc (shared key (sKey2 kind key l s).1) ++ ptx ((sKey2 kind key l s).1.extract (shared key (sKey2 kind key l s).1) (sKey2 kind key l s).1.size)) := by
  show s.ft = 0 ∧ 1 ≤ (k2K key l s).size ∧ (k2K key l s).size ≤ 64 ∧ isPairB kind key (k2K key l s) = true ∧ (k2T key l s).2.k ≤ l.length ∧
    l.take (k2T key l s).2.k = l.take s.k ++ (enc (shared key (k2K key l s)) ++ ptx ((k2K key l s).extract (shared key (k2K key l s)) (k2K key l s).size))
  have hF : k2F kind key l s = 0 := h
  have hp : isPairB kind key (k2K key l s) = true := by
    cases hp : isPairB kind key (k2K key l s) with
    | true => rfl
    | false => unfold k2F at hF; rw [hp] at hF; exact absurd hF (refF_ne _ _ (by decide))
  have hF1 : k2F1 key l s = 0 := by unfold k2F at hF; rw [hp] at hF; exact hF
  have hsh : ¬ (k2A key l s).1 < shared key (k2K key l s) := fun q => by
    unfold k2F1 at hF1; rw [if_pos q] at hF1; exact absurd hF1 (refF_ne _ _ (by decide))
  have hT : (k2T key l s).2.ft = 0 := by unfold k2F1 at hF1; rw [if_neg hsh] at hF1; exact hF1
  have gA : (k2A key l s).1 ≤ key.size := gU_le _ _ _
  have tk : ∀ hk' : (k2A key l s).2.k ≤ l.length, _ := fun hk' => sTxt_ok (s := (k2A key l s).2) (least := 1 - ((k2A key l s).1 : Int)) (most := 64 - ((k2A key l s).1 : Int)) (own := 45) hy (by decide) hk' hT
  have a0 : (k2A key l s).2.ft = 0 := (noteF_zero (own := 45) (by decide) (show noteF 45 (gT (1 - ((k2A key l s).1 : Int)) (64 - ((k2A key l s).1 : Int)) l (k2A key l s).2).2.2 (k2A key l s).2.ft = 0 from hT)).2
  obtain ⟨q0, _, q2, q3⟩ := sNum_ok (most := key.size) (own := 45) hy (by decide) hk a0
  obtain ⟨_, p1, p2, p3, p4⟩ := tk q2
  have p1' : 1 - ((k2A key l s).1 : Int) ≤ ((k2T key l s).1.size : Int) := p1
  have p2' : ((k2T key l s).1.size : Int) ≤ 64 - ((k2A key l s).1 : Int) := p2
  have ez : (k2K key l s).size = (k2A key l s).1 + (k2T key l s).1.size := size_cut _ _ _ gA
  have es : shared key (k2K key l s) = (k2A key l s).1 := shared_cut gA hsh
  have er : (k2K key l s).extract (k2A key l s).1 (k2K key l s).size = (k2T key l s).1 := rest_cut _ _ _ gA
  refine ⟨q0, by omega, by omega, hp, p3, ?_⟩
  rw [es, er, ← List.append_assoc]
  exact p4.trans (by rw [show l.take (k2A key l s).2.k = l.take s.k ++ enc (k2A key l s).1 from q3]; rfl)

theorem chk_all {v : Int} {c : Cm} (hv : isVer v = true) (hk : isKd v c.kind = true) (h : ∀ f, f < 7 → faultF v c f = 0) : chk v c = 0 := by
  unfold chk
  rw [hv, hk]
  simp [firstF, h]
theorem fault_noop {v : Int} {f : Nat} (hf : f < 7) : faultF v ⟨0, 0, 0, ⟨#[]⟩, ⟨#[]⟩, ⟨#[]⟩, ⟨#[]⟩, 0⟩ f = 0 := by
  have hb : f = 0 ∨ f = 1 ∨ f = 2 ∨ f = 3 ∨ f = 4 ∨ f = 5 ∨ f = 6 := by omega
  rcases hb with rfl | rfl | rfl | rfl | rfl | rfl | rfl <;> simp [faultF, hasF, fieldsL, zeroF]
/-- The fields behind Key: which a kind has, and that each is allowed. -/
def TailOk (v : Int) (c : Cm) : Prop :=
  (if 6 ≤ c.kind then 1 ≤ c.key2.size ∧ c.key2.size ≤ 64 ∧ isPairB c.kind c.key c.key2 = true else c.key2 = ⟨#[]⟩) ∧
  (if c.kind = 2 ∨ c.kind = 5 then c.val.size ≤ mostV v else c.val = ⟨#[]⟩) ∧
  (if c.kind = 5 then c.old.size ≤ mostV v else c.old = ⟨#[]⟩) ∧ (if c.kind = 4 then True else c.n = 0)
theorem fault_all {v : Int} {c : Cm} (h1 : 1 ≤ c.kind) (h9 : c.kind < 9) (ha : 0 ≤ c.client ∧ c.client ≤ 65535) (hb : 0 ≤ c.req ∧ c.req ≤ 1073741824) (hc : 1 ≤ c.key.size ∧ c.key.size ≤ 64) (ht : TailOk v c) {f : Nat} (hf : f < 7) : faultF v c f = 0 := by
  obtain ⟨kind, client, req, key, key2, val, old, n⟩ := c
  simp only [TailOk] at h1 h9 ha hb hc ht
  have h8 : kind = 1 ∨ kind = 2 ∨ kind = 3 ∨ kind = 4 ∨ kind = 5 ∨ kind = 6 ∨ kind = 7 ∨ kind = 8 := by omega
  have h7 : f = 0 ∨ f = 1 ∨ f = 2 ∨ f = 3 ∨ f = 4 ∨ f = 5 ∨ f = 6 := by omega
  obtain ⟨t1, t2, t3, t4⟩ := ht
  rcases h8 with rfl | rfl | rfl | rfl | rfl | rfl | rfl | rfl <;> simp at t1 t2 t3 t4 <;>
    rcases h7 with rfl | rfl | rfl | rfl | rfl | rfl | rfl <;> simp [faultF, hasF, fieldsL, zeroF, allowF, isKeyB, ha, hb, hc, t1, t2, t3, t4] <;> exact fun h => absurd h (by decide)

theorem sTxt_ft {least most own : Int} {l : List Int} {s : St} (ho : own ≠ 0) (h : (sTxt least most own l s).2.ft = 0) : s.ft = 0 := (noteF_zero ho (show noteF own (gT least most l s).2.2 s.ft = 0 from h)).2
theorem sNum_ft {most : Nat} {own : Int} {l : List Int} {s : St} (ho : own ≠ 0) (h : (sNum most own l s).2.ft = 0) : s.ft = 0 := (noteF_zero ho (show noteF own (gU most l s).2.2 s.ft = 0 from h)).2
theorem sInt_ft {l : List Int} {s : St} (h : (sInt l s).2.ft = 0) : s.ft = 0 := (noteF_zero (by decide) (show noteF 14 (gI l s).2.2 s.ft = 0 from h)).2
theorem refF_zero {e ft : Int} (he : e ≠ 0) (h : refF e ft = 0) : False := refF_ne e ft he h
theorem sKey2_ft {kind : Int} {key : ByteArray} {l : List Int} {s : St} (h : (sKey2 kind key l s).2.ft = 0) : s.ft = 0 := by
  have hF : k2F kind key l s = 0 := h
  have hF1 : k2F1 key l s = 0 := by
    unfold k2F at hF
    split at hF
    · exact hF
    · exact (refF_zero (by decide) hF).elim
  have hT : (k2T key l s).2.ft = 0 := by
    unfold k2F1 at hF1
    split at hF1
    · exact (refF_zero (by decide) hF1).elim
    · exact hF1
  exact sNum_ft (by decide) (sTxt_ft (by decide) hT)
theorem sTail_ft {v x : Int} {cl rq : Nat} {ky : ByteArray} {l : List Int} {s : St} (h : (sTail v x cl rq ky l s).2.ft = 0) : s.ft = 0 := by
  unfold sTail at h
  split at h
  · exact sKey2_ft h
  · split at h
    · exact sTxt_ft (by decide) (sTxt_ft (by decide) h)
    · split at h
      · exact sTxt_ft (by decide) h
      · split at h
        · exact sInt_ft h
        · exact h
theorem sTail_got {v x : Int} {cl rq : Nat} {ky : ByteArray} {l : List Int} {s : St} (hy : Byt l) (h1 : 1 ≤ x) (h9 : x < 9) (hk : s.k ≤ l.length) (h : (sTail v x cl rq ky l s).2.ft = 0) :
    (sTail v x cl rq ky l s).1.kind = x ∧ (sTail v x cl rq ky l s).1.client = cl ∧ (sTail v x cl rq ky l s).1.req = rq ∧ (sTail v x cl rq ky l s).1.key = ky ∧ TailOk v (sTail v x cl rq ky l s).1 ∧
    (sTail v x cl rq ky l s).2.k ≤ l.length ∧ l.take (sTail v x cl rq ky l s).2.k = l.take s.k ++ restC (sTail v x cl rq ky l s).1 := by
  by_cases a : x = 6 ∨ x = 7 ∨ x = 8
  · have e : sTail v x cl rq ky l s = (⟨x, cl, rq, ky, (sKey2 x ky l s).1, ⟨#[]⟩, ⟨#[]⟩, 0⟩, (sKey2 x ky l s).2) := by unfold sTail; rw [if_pos a]
    rw [e] at h ⊢
    obtain ⟨_, q1, q2, q3, q4, q5⟩ := sKey2_got hy hk h
    refine ⟨rfl, rfl, rfl, rfl, ?_, q4, ?_⟩
    · unfold TailOk
      rw [if_pos (show 6 ≤ x by omega), if_neg (show ¬ (x = 2 ∨ x = 5) by omega), if_neg (show ¬ x = 5 by omega), if_neg (show ¬ x = 4 by omega)]
      exact ⟨⟨q1, q2, q3⟩, rfl, rfl, rfl⟩
    · unfold restC
      rw [if_pos (show 6 ≤ x by omega)]
      exact q5
  · by_cases b5 : x = 5
    · have e : sTail v x cl rq ky l s = (⟨x, cl, rq, ky, ⟨#[]⟩, (sTxt 0 (mostV v : Nat) 46 l (sTxt 0 (mostV v : Nat) 47 l s).2).1, (sTxt 0 (mostV v : Nat) 47 l s).1, 0⟩, (sTxt 0 (mostV v : Nat) 46 l (sTxt 0 (mostV v : Nat) 47 l s).2).2) := by unfold sTail; rw [if_neg a, if_pos b5]
      rw [e] at h ⊢
      obtain ⟨_, _, o2, o3, o4⟩ := sTxt_ok (own := 47) hy (by decide) hk (sTxt_ft (by decide) h)
      obtain ⟨_, _, p2, p3, p4⟩ := sTxt_ok (own := 46) hy (by decide) o3 h
      refine ⟨rfl, rfl, rfl, rfl, ?_, p3, ?_⟩
      · unfold TailOk
        rw [if_neg (show ¬ 6 ≤ x by omega), if_pos (show (x = 2 ∨ x = 5) by omega), if_pos (show x = 5 by omega), if_neg (show ¬ x = 4 by omega)]
        exact ⟨rfl, Int.ofNat_le.1 p2, Int.ofNat_le.1 o2, rfl⟩
      · unfold restC
        rw [if_neg (show ¬ 6 ≤ x by omega), if_pos (show x = 5 by omega)]
        rw [o4, List.append_assoc] at p4
        exact p4
    · by_cases b2 : x = 2
      · have e : sTail v x cl rq ky l s = (⟨x, cl, rq, ky, ⟨#[]⟩, (sTxt 0 (mostV v : Nat) 46 l s).1, ⟨#[]⟩, 0⟩, (sTxt 0 (mostV v : Nat) 46 l s).2) := by unfold sTail; rw [if_neg a, if_neg b5, if_pos b2]
        rw [e] at h ⊢
        obtain ⟨_, _, p2, p3, p4⟩ := sTxt_ok (own := 46) hy (by decide) hk h
        refine ⟨rfl, rfl, rfl, rfl, ?_, p3, ?_⟩
        · unfold TailOk
          rw [if_neg (show ¬ 6 ≤ x by omega), if_pos (show (x = 2 ∨ x = 5) by omega), if_neg (show ¬ x = 5 by omega), if_neg (show ¬ x = 4 by omega)]
          exact ⟨rfl, Int.ofNat_le.1 p2, rfl, rfl⟩
        · unfold restC
          rw [if_neg (show ¬ 6 ≤ x by omega), if_neg (show ¬ x = 5 by omega), if_pos (show x = 2 by omega)]
          exact p4
      · by_cases b4 : x = 4
        · have e : sTail v x cl rq ky l s = (⟨x, cl, rq, ky, ⟨#[]⟩, ⟨#[]⟩, ⟨#[]⟩, (sInt l s).1⟩, (sInt l s).2) := by unfold sTail; rw [if_neg a, if_neg b5, if_neg b2, if_pos b4]
          rw [e] at h ⊢
          obtain ⟨_, p3, p4⟩ := sInt_ok hy hk h
          refine ⟨rfl, rfl, rfl, rfl, ?_, p3, ?_⟩
          · unfold TailOk
            rw [if_neg (show ¬ 6 ≤ x by omega), if_neg (show ¬ (x = 2 ∨ x = 5) by omega), if_neg (show ¬ x = 5 by omega), if_pos (show x = 4 by omega)]
            exact ⟨rfl, rfl, rfl, trivial⟩
          · unfold restC
            rw [if_neg (show ¬ 6 ≤ x by omega), if_neg (show ¬ x = 5 by omega), if_neg (show ¬ x = 2 by omega), if_pos (show x = 4 by omega)]
            exact p4
        · have e : sTail v x cl rq ky l s = (⟨x, cl, rq, ky, ⟨#[]⟩, ⟨#[]⟩, ⟨#[]⟩, 0⟩, s) := by unfold sTail; rw [if_neg a, if_neg b5, if_neg b2, if_neg b4]
          rw [e]
          refine ⟨rfl, rfl, rfl, rfl, ?_, hk, ?_⟩
          · unfold TailOk
            rw [if_neg (show ¬ 6 ≤ x by omega), if_neg (show ¬ (x = 2 ∨ x = 5) by omega), if_neg (show ¬ x = 5 by omega), if_neg (show ¬ x = 4 by omega)]
            exact ⟨rfl, rfl, rfl, rfl⟩
          · unfold restC
            rw [if_neg (show ¬ 6 ≤ x by omega), if_neg (show ¬ x = 5 by omega), if_neg (show ¬ x = 2 by omega), if_neg (show ¬ x = 4 by omega), List.append_nil]
theorem isKd_le {v k : Int} (h : isKd v k = true) : 0 ≤ k ∧ k < 9 := isKd_range h
/-- What is read with no fault is a command that Check takes, and just the bytes that Encode writes of it. -/
theorem sCmd_one {v : Int} {l : List Int} (hv : isVer v = true) (hy : Byt l) (h : (sCmd v l ⟨0, 0, 0⟩).2.ft = 0) :
    chk v (sCmd v l ⟨0, 0, 0⟩).1 = 0 ∧ (sCmd v l ⟨0, 0, 0⟩).2.k ≤ l.length ∧ encC (sCmd v l ⟨0, 0, 0⟩).1 = l.take (sCmd v l ⟨0, 0, 0⟩).2.k := by
  obtain ⟨x, hx⟩ : ∃ x, (sKind v l ⟨0, 0, 0⟩).1 = x := ⟨_, rfl⟩
  obtain ⟨s1, hs1⟩ : ∃ s1, (sKind v l ⟨0, 0, 0⟩).2 = s1 := ⟨_, rfl⟩
  by_cases h0 : s1.ft = 0
  · have hK := sKind_ok (v := v) (l := l) (s := ⟨0, 0, 0⟩) (by rw [hs1]; exact h0)
    obtain ⟨_, k1, k2⟩ := sKind_got (v := v) (l := l) (s := ⟨0, 0, 0⟩) (by rw [hs1]; exact h0)
    rw [hx] at hK k2
    rw [hs1] at k1 k2
    have k2' : l.take s1.k = [x] := by rw [k2]; rfl
    have hr := isKd_le hK
    by_cases hz : x = 0
    · subst hz
      have e : sCmd v l ⟨0, 0, 0⟩ = (⟨0, 0, 0, ⟨#[]⟩, ⟨#[]⟩, ⟨#[]⟩, ⟨#[]⟩, 0⟩, s1) := by unfold sCmd; rw [hx, hs1, if_neg (fun q => q.2 rfl)]
      rw [e]
      refine ⟨?_, k1, ?_⟩
      · exact chk_all hv hK fun f hf => fault_noop hf
      · rw [k2']; rfl
    · have e : sCmd v l ⟨0, 0, 0⟩ = sAll v x l s1 := by unfold sCmd; rw [hx, hs1, if_pos ⟨h0, hz⟩]
      rw [e] at h ⊢
      have f4 := sTail_ft h
      have f3 := sTxt_ft (by decide) f4
      have f2 := sNum_ft (by decide) f3
      obtain ⟨_, a1, a2, a3⟩ := sNum_ok (own := 42) hy (by decide) k1 f2
      obtain ⟨_, b1, b2, b3⟩ := sNum_ok (own := 43) hy (by decide) a2 f3
      obtain ⟨_, c1, c2, c3, c4⟩ := sTxt_ok (own := 44) hy (by decide) b2 f4
      obtain ⟨t1, t2, t3, t4, t5, t6, t7⟩ := sTail_got hy (show 1 ≤ x by omega) (show x < 9 by omega) c3 h
      change chk v (sTail _ _ _ _ _ _ _).1 = 0 ∧ (sTail _ _ _ _ _ _ _).2.k ≤ _ ∧ encC (sTail _ _ _ _ _ _ _).1 = l.take (sTail _ _ _ _ _ _ _).2.k
      refine ⟨chk_all hv (by rw [t1]; exact hK) fun f hf => fault_all (by rw [t1]; omega) (by rw [t1]; omega) (by rw [t2]; omega) (by rw [t3]; omega) (by rw [t4]; omega) t5 hf, t6, ?_⟩
      unfold encC
      rw [if_neg (by rw [t1]; exact hz), t7, t1, t2, t3, t4, c4, b3, a3, k2']
      rfl
  · have e : sCmd v l ⟨0, 0, 0⟩ = (⟨x, 0, 0, ⟨#[]⟩, ⟨#[]⟩, ⟨#[]⟩, ⟨#[]⟩, 0⟩, s1) := by unfold sCmd; rw [hx, hs1, if_neg (fun q => h0 q.1)]
    rw [e] at h
    exact absurd h h0
theorem encC_pos (c : Cm) : 1 ≤ (encC c).length := by
  unfold encC
  split <;> simp
/-- What Decode takes. -/
theorem decC_one {v : Int} {l : List Int} (hy : Byt l) (h : (decC v l).2.2 = 0) :
    isVer v = true ∧ chk v (decC v l).1 = 0 ∧ 1 ≤ (decC v l).2.1 ∧ (decC v l).2.1 ≤ l.length ∧ encC (decC v l).1 = l.take (decC v l).2.1 := by
  cases hv : isVer v with
  | false =>
    have e : decC v l = (zeroC, 0, 2) := by unfold decC; rw [hv]; rfl
    rw [e] at h; simp at h
  | true =>
    by_cases h0 : (sCmd v (l.take 131281) ⟨0, 0, 0⟩).2.ft = 0
    · have e : decC v l = ((sCmd v (l.take 131281) ⟨0, 0, 0⟩).1, (sCmd v (l.take 131281) ⟨0, 0, 0⟩).2.k, 0) := by unfold decC; rw [hv, if_pos rfl, if_pos h0]
      rw [e]
      obtain ⟨q1, q2, q3⟩ := sCmd_one hv (byt_take hy _) h0
      have hp := encC_pos (sCmd v (l.take 131281) ⟨0, 0, 0⟩).1
      have hq := q2
      rw [List.length_take] at hq
      rw [q3, List.length_take] at hp
      refine ⟨rfl, q1, by simp only; omega, by simp only; omega, ?_⟩
      rw [q3, List.take_take, Nat.min_eq_left (by omega)]
    · have e : decC v l = (zeroC, 0, (sCmd v (l.take 131281) ⟨0, 0, 0⟩).2.ft) := by unfold decC; rw [hv, if_pos rfl, if_neg h0]
      rw [e] at h; exact absurd h h0
end Go.Proofs.YtlhididcanedhaaGreatDoor
/- The plain mathematics of a vector's two layouts; nothing of the program is named here. -/
namespace Go.Wire1
open Go.RowKit

/-- The entry ahead of a place, 0 at the first. -/
def prev (l : List Int) (i : Nat) : Int := if i = 0 then 0 else l.getD (i - 1) 0
/-- Version 1, as far as k entries. -/
def plainK (l : List Int) : Nat → List Int
  | 0 => []
  | k + 1 => plainK l k ++ enc (l.getD k 0).toNat
/-- Version 2: the mask's first k bits, and their differences. -/
def maskK (l : List Int) : Nat → Nat
  | 0 => 0
  | k + 1 => maskK l k + if l.getD k 0 = prev l k then 0 else 2 ^ k
def diffK (l : List Int) : Nat → List Int
  | 0 => []
  | k + 1 => diffK l k ++ if l.getD k 0 = prev l k then [] else enc (zig (l.getD k 0 - prev l k))
def tight (l : List Int) : List Int := enc (maskK l l.length) ++ diffK l l.length
def packL (v : Int) (l : List Int) : List Int := if v = 1 then plainK l l.length else tight l
def packE (v : Int) (l : List Int) : Nat := if v = 1 ∨ v = 2 then fault l else 2
def packR (v : Int) (l : List Int) : List Int := if packE v l = 0 then packL v l else []

theorem prev_succ (l : List Int) (k : Nat) : prev l (k + 1) = l.getD k 0 := by simp [prev]
theorem prev_ok {l : List Int} (h : okL l = true) (k : Nat) : 0 ≤ prev l k ∧ prev l k ≤ 1048576 := by
  unfold prev; split
  · omega
  · exact okL_at h _
theorem maskK_lt (l : List Int) (k : Nat) : maskK l k < 2 ^ k := by
  induction k with
  | zero => simp [maskK]
  | succ k ih => simp only [maskK, Nat.pow_succ]; split <;> omega
theorem maskK_same {l : List Int} {k : Nat} (h : l.getD k 0 = prev l k) : maskK l (k + 1) = maskK l k ∧ diffK l (k + 1) = diffK l k := by
  simp only [maskK, diffK, if_pos h, Nat.add_zero, List.append_nil, and_self]
theorem maskK_diff {l : List Int} {k : Nat} (h : ¬ l.getD k 0 = prev l k) : maskK l (k + 1) = maskK l k + 2 ^ k ∧ diffK l (k + 1) = diffK l k ++ enc (zig (l.getD k 0 - prev l k)) := by
  simp only [maskK, diffK, if_neg h, and_self]
theorem pow7 {k : Nat} (h : k ≤ 7) : 2 ^ k ≤ 128 := by
  have : (2 : Nat) ^ 7 = 128 := rfl
  rw [← this]; exact Nat.pow_le_pow_right (by decide) h
/-- How many places differ from the one before, of the first k. -/
def turnsK (l : List Int) : Nat → Nat
  | 0 => 0
  | k + 1 => turnsK l k + if l.getD k 0 = prev l k then 0 else 1
theorem enc1 {x : Nat} (h : x < 128) : enc x = [(x : Int)] := encF_small 9 x h
end Go.Wire1
