/- Texts of the proof, joined. -/
import Derived.Test.YtlhididcanedhaaGreatDoorJ17
/- What Encode writes is read back, and each beginning of it ends too early: the mathematics. -/
namespace Go.Proofs.YtlhididcanedhaaGreatDoor
open Go.RowKit Go.Wire1

/-- A scan that has come to the bytes' end too early. -/
def Bad (s : St) : Prop := s.f = 11 ∧ s.ft = 11
theorem note_bad (own : Int) : noteF own 11 11 = 11 := by simp [noteF, refF]
theorem note_short (own : Int) : noteF own 11 0 = 11 := by simp [noteF, refF]
theorem note_none (own : Int) : noteF own 0 0 = 0 := by simp [noteF]
theorem sNum_bad {most : Nat} {own : Int} {l : List Int} {s : St} (h : Bad s) : Bad (sNum most own l s).2 := by
  have e : gU most l s = (0, s.k, 11) := by unfold gU; rw [if_neg (by rw [h.1]; decide), h.1]
  simp only [Bad, sNum, e, h.2, note_bad, and_self]
theorem sInt_bad {l : List Int} {s : St} (h : Bad s) : Bad (sInt l s).2 := by
  have e : gI l s = (0, s.k, 11) := by unfold gI; rw [if_neg (by rw [h.1]; decide), h.1]
  simp only [Bad, sInt, e, h.2, note_bad, and_self]
theorem sTxt_bad {least most own : Int} {l : List Int} {s : St} (h : Bad s) : Bad (sTxt least most own l s).2 := by
  have e : gT least most l s = (⟨#[]⟩, s.k, 11) := by unfold gT; rw [if_neg (by rw [h.1]; decide), h.1]
  simp only [Bad, sTxt, e, h.2, note_bad, and_self]
theorem refF_bad (e : Int) : refF e 11 = 11 := by simp [refF]
theorem k2_bad {kind : Int} {key : ByteArray} {l : List Int} {s : St} (h : Bad (k2T key l s).2) : Bad (sKey2 kind key l s).2 := by
  refine ⟨h.1, ?_⟩
  have h1 : k2F1 key l s = 11 := by
    unfold k2F1
    split
    · rw [h.2]; exact refF_bad _
    · exact h.2
  show k2F kind key l s = 11
  unfold k2F
  split
  · exact h1
  · rw [h1]; exact refF_bad _
theorem sKey2_bad {kind : Int} {key : ByteArray} {l : List Int} {s : St} (h : Bad s) : Bad (sKey2 kind key l s).2 := k2_bad (sTxt_bad (sNum_bad h))
theorem sTail_bad {v x : Int} {cl rq : Nat} {ky : ByteArray} {l : List Int} {s : St} (h : Bad s) : Bad (sTail v x cl rq ky l s).2 := by
  unfold sTail
  split
  · exact sKey2_bad h
  · split
    · exact sTxt_bad (sTxt_bad h)
    · split
      · exact sTxt_bad h
      · split
        · exact sInt_bad h
        · exact h

theorem drop_app {l E r : List Int} {k : Nat} (h : l.drop k = E ++ r) : l.drop (k + E.length) = r := by
  rw [← List.drop_drop, h, List.drop_left]
theorem str_tx (s : ByteArray) : strOfNums (tx s) = s := by
  apply ByteArray.ext
  apply Array.toList_inj.1
  simp only [strOfNums, tx, List.map_map]
  refine Eq.trans (List.map_congr_left fun b _ => ?_) (List.map_id _)
  simp
/-- A number that stands there whole. -/
theorem sNum_full {most x : Nat} {own : Int} {l r : List Int} {k : Nat} (hx : x ≤ most) (hl : x < 18446744073709551616) (h : l.drop k = enc x ++ r) : sNum most own l ⟨k, 0, 0⟩ = (x, ⟨k + (enc x).length, 0, 0⟩) := by
  have e : gU most l ⟨k, 0, 0⟩ = (x, k + (enc x).length, 0) := by
    unfold gU
    simp only [if_true, h, dec_enc x r hl]
    rw [if_neg (by omega)]
  unfold sNum
  rw [e]
  simp only [note_none]
theorem sNum_cut {most x j : Nat} {own : Int} {l : List Int} {k : Nat} (h : l.drop k = (enc x).take j) (hj : j < (enc x).length) : Bad (sNum most own l ⟨k, 0, 0⟩).2 := by
  have e : gU most l ⟨k, 0, 0⟩ = (0, k, 11) := by
    unfold gU
    simp only [if_true, h, dec_cut x j hj]
    rfl
  simp only [Bad, sNum, e, note_short, and_self]
theorem sInt_full {x : Int} {l r : List Int} {k : Nat} (hl : zig x < 18446744073709551616) (h : l.drop k = enc (zig x) ++ r) : sInt l ⟨k, 0, 0⟩ = (x, ⟨k + (enc (zig x)).length, 0, 0⟩) := by
  have e : gI l ⟨k, 0, 0⟩ = (x, k + (enc (zig x)).length, 0) := by
    unfold gI
    simp only [if_true, h, dec_enc (zig x) r hl, unzig_zig]
  unfold sInt
  rw [e]
  simp only [note_none]
theorem sInt_cut {x j : Nat} {l : List Int} {k : Nat} (h : l.drop k = (enc x).take j) (hj : j < (enc x).length) : Bad (sInt l ⟨k, 0, 0⟩).2 := by
  have e : gI l ⟨k, 0, 0⟩ = (0, k, 11) := by
    unfold gI
    simp only [if_true, h, dec_cut x j hj]
    rfl
  simp only [Bad, sInt, e, note_short, and_self]
theorem sTxt_full {least most own : Int} {t : ByteArray} {l r : List Int} {k : Nat} (h1 : least ≤ (t.size : Int)) (h2 : (t.size : Int) ≤ most) (hl : t.size < 18446744073709551616) (h : l.drop k = ptx t ++ r) : sTxt least most own l ⟨k, 0, 0⟩ = (t, ⟨k + (ptx t).length, 0, 0⟩) := by
  have hh : l.drop k = enc t.size ++ (tx t ++ r) := by rw [h]; unfold ptx; rw [List.append_assoc]
  have hlen : (l.drop k).length = (enc t.size).length + (t.size + r.length) := by rw [hh, List.length_append, List.length_append, tx_len]
  rw [List.length_drop] at hlen
  have hp := (enc_le t.size hl).1
  have e : gT least most l ⟨k, 0, 0⟩ = (t, k + (ptx t).length, 0) := by
    unfold gT
    simp only [if_true]
    rw [hh, dec_enc t.size _ hl]
    simp only
    rw [if_pos ⟨h1, h2⟩, if_pos (by omega), drop_app hh, List.take_left' (tx_len t), str_tx]
    show _ = (t, k + (enc t.size ++ tx t).length, 0)
    rw [List.length_append, tx_len]
  unfold sTxt
  rw [e]
  simp only [note_none]
theorem sTxt_cut {least most own : Int} {t : ByteArray} {j : Nat} {l : List Int} {k : Nat} (h1 : least ≤ (t.size : Int)) (h2 : (t.size : Int) ≤ most) (hl : t.size < 18446744073709551616) (h : l.drop k = (ptx t).take j) (hj : j < (ptx t).length) : Bad (sTxt least most own l ⟨k, 0, 0⟩).2 := by
  have e : gT least most l ⟨k, 0, 0⟩ = (⟨#[]⟩, k, 11) := by
    unfold gT
    simp only [if_true]
    by_cases hc : j < (enc t.size).length
    · have hh : l.drop k = (enc t.size).take j := by rw [h]; unfold ptx; rw [List.take_append_of_le_length (by omega)]
      rw [hh, dec_cut _ _ hc]
      rfl
    · have hh : l.drop k = enc t.size ++ (tx t).take (j - (enc t.size).length) := by
        rw [h]; unfold ptx; rw [List.take_append, List.take_of_length_le (by omega)]
      have hlen : (l.drop k).length = j := by rw [h, List.length_take]; omega
      rw [List.length_drop] at hlen
      have hpl : (ptx t).length = (enc t.size).length + t.size := by unfold ptx; rw [List.length_append, tx_len]
      have hp := (enc_le t.size hl).1
      rw [hh, dec_enc t.size _ hl]
      simp only
      rw [if_pos ⟨h1, h2⟩, if_neg (by omega)]
  simp only [Bad, sTxt, e, note_short, and_self]
theorem cut_at {l E r : List Int} {k j : Nat} (h : l.drop k = (E ++ r).take j) : (j < E.length ∧ l.drop k = E.take j) ∨ (E.length ≤ j ∧ l.drop k = E ++ r.take (j - E.length)) := by
  by_cases hc : j < E.length
  · exact .inl ⟨hc, by rw [h, List.take_append_of_le_length (by omega)]⟩
  · exact .inr ⟨by omega, by rw [h, List.take_append, List.take_of_length_le (by omega)]⟩

theorem empty_of {s : ByteArray} (h : s.toList.isEmpty = true) : s = ⟨#[]⟩ := by
  rw [Lib.toList_data, List.isEmpty_iff] at h
  apply ByteArray.ext
  apply Array.toList_inj.1
  exact h
theorem zero_of {v k : Int} {c : Cm} {f : Nat} (h : faultF v c f = 0) (hk : c.kind = k) (hh : hasF k f = false) : zeroF c f = true := by
  unfold faultF at h
  rw [hk, hh] at h
  cases hz : zeroF c f with
  | true => rfl
  | false => rw [hz] at h; simp at h
theorem allow_of {v k : Int} {c : Cm} {f : Nat} (h : faultF v c f = 0) (hf : f < 6) (hk : c.kind = k) (hh : hasF k f = true) : allowF v c f = true := has_allow h hf (by rw [hk]; exact hh)
/-- Which fields a command that Check takes has. -/
theorem tailOk_of {v : Int} {c : Cm} (h : chk v c = 0) (h0 : c.kind ≠ 0) : TailOk v c := by
  obtain ⟨hv, hk, hf⟩ := chk_zero h
  have hr := isKd_range hk
  have g3 := hf 3 (by omega)
  have g4 := hf 4 (by omega)
  have g5 := hf 5 (by omega)
  have g6 := hf 6 (by omega)
  clear hf h hk
  have h8 : c.kind = 1 ∨ c.kind = 2 ∨ c.kind = 3 ∨ c.kind = 4 ∨ c.kind = 5 ∨ c.kind = 6 ∨ c.kind = 7 ∨ c.kind = 8 := by omega
  unfold TailOk
  rcases h8 with h | h | h | h | h | h | h | h <;> refine ⟨?_, ?_, ?_, ?_⟩ <;> split <;> rename_i q
  all_goals first
    | (exfalso; omega)
    | trivial
    | exact empty_of (zero_of g3 h (by decide))
    | exact empty_of (zero_of g4 h (by decide))
    | exact empty_of (zero_of g5 h (by decide))
    | (have z := zero_of g6 h (by decide); simpa [zeroF] using z)
    | (have z := allow_of g4 (by decide) h (by decide); simpa [allowF] using z)
    | (have z := allow_of g5 (by decide) h (by decide); simpa [allowF] using z)
    | (have z := allow_of g3 (by decide) h (by decide); simp only [allowF, isKeyB, Bool.and_eq_true, decide_eq_true_eq] at z; exact ⟨z.1.1, z.1.2, z.2⟩)
theorem noop_of {v : Int} {c : Cm} (h : chk v c = 0) (h0 : c.kind = 0) : c = ⟨0, 0, 0, ⟨#[]⟩, ⟨#[]⟩, ⟨#[]⟩, ⟨#[]⟩, 0⟩ := by
  obtain ⟨hv, hk, hf⟩ := chk_zero h
  have z0 := zero_of (hf 0 (by omega)) h0 (by decide)
  have z1 := zero_of (hf 1 (by omega)) h0 (by decide)
  have z2 := zero_of (hf 2 (by omega)) h0 (by decide)
  have z3 := zero_of (hf 3 (by omega)) h0 (by decide)
  have z4 := zero_of (hf 4 (by omega)) h0 (by decide)
  have z5 := zero_of (hf 5 (by omega)) h0 (by decide)
  have z6 := zero_of (hf 6 (by omega)) h0 (by decide)
  simp only [zeroF, beq_iff_eq] at z0 z1 z2 z3 z4 z5 z6
  obtain ⟨kind, client, req, key, key2, val, old, n⟩ := c
  simp only at h0 z0 z1 z2 z3 z4 z5 z6
  rw [h0, z0, z1, empty_of z2, empty_of z3, empty_of z4, empty_of z5, z6]
end Go.Proofs.YtlhididcanedhaaGreatDoor
/- What Encode writes is read back, and each beginning of it ends too early: the mathematics, second part. -/
namespace Go.Proofs.YtlhididcanedhaaGreatDoor
open Go.RowKit Go.Wire1

theorem shL_take : ∀ x y : List UInt8, x.take (shL x y) = y.take (shL x y)
  | [], _ => by simp [shL]
  | _ :: _, [] => by simp [shL]
  | a :: x, b :: y => by
    simp only [shL]
    split
    · rename_i h
      rw [List.take_succ_cons, List.take_succ_cons, shL_take x y, h]
    · simp
theorem shared_join (k k2 : ByteArray) : k.extract 0 (shared k k2) ++ k2.extract (shared k k2) k2.size = k2 := by
  apply ByteArray.ext
  apply Array.toList_inj.1
  rw [data_cut]
  have e : (k2.extract (shared k k2) k2.size).data.toList = k2.data.toList.drop (shared k k2) := by
    rw [ByteArray.data_extract, Array.toList_extract, List.extract_eq_take_drop]
    rw [List.take_of_length_le]
    rw [List.length_drop, Array.length_toList]
    exact Nat.le_refl _
  rw [e, show shared k k2 = shL k.data.toList k2.data.toList from rfl, shL_take, List.take_append_drop]
theorem ext_size (k2 : ByteArray) (i : Nat) : (k2.extract i k2.size).size = k2.size - i := by
  rw [ByteArray.size_extract]; omega
theorem sKey2_full {kind : Int} {key k2 : ByteArray} {l r : List Int} {k : Nat} (hk : key.size ≤ 64) (h1 : 1 ≤ k2.size) (h2 : k2.size ≤ 64) (hp : isPairB kind key k2 = true)
    (h : l.drop k = (enc (shared key k2) ++ ptx (k2.extract (shared key k2) k2.size)) ++ r) : sKey2 kind key l ⟨k, 0, 0⟩ = (k2, ⟨k + (enc (shared key k2) ++ ptx (k2.extract (shared key k2) k2.size)).length, 0, 0⟩) := by
  have hs := shared_le key k2
  rw [List.append_assoc] at h
  have eA : k2A key l ⟨k, 0, 0⟩ = (shared key k2, ⟨k + (enc (shared key k2)).length, 0, 0⟩) := sNum_full hs.1 (by omega) h
  have ez := ext_size k2 (shared key k2)
  have eT : k2T key l ⟨k, 0, 0⟩ = (k2.extract (shared key k2) k2.size, ⟨k + (enc (shared key k2)).length + (ptx (k2.extract (shared key k2) k2.size)).length, 0, 0⟩) := by
    unfold k2T
    rw [eA]
    exact sTxt_full (by simp only; omega) (by simp only; omega) (by omega) (drop_app h)
  have eK : k2K key l ⟨k, 0, 0⟩ = k2 := by unfold k2K; rw [eA, eT]; exact shared_join key k2
  have eF1 : k2F1 key l ⟨k, 0, 0⟩ = 0 := by unfold k2F1; rw [eK, eA, eT, if_neg (Nat.lt_irrefl _)]
  have eF : k2F kind key l ⟨k, 0, 0⟩ = 0 := by unfold k2F; rw [eK, if_pos hp, eF1]
  unfold sKey2
  rw [eK, eT, eF, List.length_append, Nat.add_assoc]
theorem sKey2_cut {kind : Int} {key k2 : ByteArray} {l : List Int} {k j : Nat} (hk : key.size ≤ 64) (h1 : 1 ≤ k2.size) (h2 : k2.size ≤ 64)
    (h : l.drop k = (enc (shared key k2) ++ ptx (k2.extract (shared key k2) k2.size)).take j) (hj : j < (enc (shared key k2) ++ ptx (k2.extract (shared key k2) k2.size)).length) : Bad (sKey2 kind key l ⟨k, 0, 0⟩).2 := by
  have hs := shared_le key k2
  have ez := ext_size k2 (shared key k2)
  apply k2_bad
  rcases cut_at h with ⟨hc, hh⟩ | ⟨hc, hh⟩
  · exact sTxt_bad (sNum_cut hh hc)
  · have eA : k2A key l ⟨k, 0, 0⟩ = (shared key k2, ⟨k + (enc (shared key k2)).length, 0, 0⟩) := sNum_full hs.1 (by omega) hh
    unfold k2T
    rw [eA]
    rw [List.length_append] at hj
    exact sTxt_cut (t := k2.extract (shared key k2) k2.size) (j := j - (enc (shared key k2)).length) (by simp only; omega) (by simp only; omega) (by omega) (drop_app hh) (by omega)

theorem mostV_le (v : Int) : mostV v ≤ 65536 := by unfold mostV; split <;> omega
theorem sTail_full {v : Int} {c : Cm} {cl rq : Nat} {l r : List Int} {k : Nat} (h1 : 1 ≤ c.kind) (h9 : c.kind < 9) (hk : c.key.size ≤ 64) (hn1 : -9223372036854775808 ≤ c.n) (hn2 : c.n ≤ 9223372036854775807) (ht : TailOk v c)
    (h : l.drop k = restC c ++ r) : sTail v c.kind cl rq c.key l ⟨k, 0, 0⟩ = (⟨c.kind, cl, rq, c.key, c.key2, c.val, c.old, c.n⟩, ⟨k + (restC c).length, 0, 0⟩) := by
  obtain ⟨kind, client, req, key, key2, val, old, n⟩ := c
  obtain ⟨t1, t2, t3, t4⟩ := ht
  have hm := mostV_le v
  simp only at h1 h9 hk hn1 hn2 t1 t2 t3 t4 h ⊢
  by_cases a : 6 ≤ kind
  · rw [if_pos a] at t1
    rw [if_neg (show ¬ (kind = 2 ∨ kind = 5) by omega)] at t2
    rw [if_neg (show ¬ kind = 5 by omega)] at t3
    rw [if_neg (show ¬ kind = 4 by omega)] at t4
    subst t2 t3 t4
    have er : restC ⟨kind, client, req, key, key2, ⟨#[]⟩, ⟨#[]⟩, 0⟩ = enc (shared key key2) ++ ptx (key2.extract (shared key key2) key2.size) := by unfold restC; rw [if_pos a]
    rw [er] at h ⊢
    unfold sTail
    rw [if_pos (by omega), sKey2_full hk t1.1 t1.2.1 t1.2.2 h]
  · rw [if_neg a] at t1
    subst t1
    by_cases b5 : kind = 5
    · subst b5
      rw [if_pos (Or.inr rfl)] at t2
      rw [if_pos rfl] at t3
      rw [if_neg (by decide)] at t4
      subst t4
      have er : restC ⟨5, client, req, key, ⟨#[]⟩, val, old, 0⟩ = ptx old ++ ptx val := rfl
      rw [er] at h ⊢
      rw [List.append_assoc] at h
      have e1 : sTxt 0 (mostV v : Nat) 47 l ⟨k, 0, 0⟩ = (old, ⟨k + (ptx old).length, 0, 0⟩) := sTxt_full (by omega) (by omega) (by omega) h
      have e2 : sTxt 0 (mostV v : Nat) 46 l ⟨k + (ptx old).length, 0, 0⟩ = (val, ⟨k + (ptx old).length + (ptx val).length, 0, 0⟩) := sTxt_full (by omega) (by omega) (by omega) (drop_app h)
      unfold sTail
      rw [if_neg (by decide), if_pos rfl, e1]
      simp only
      rw [e2, List.length_append, Nat.add_assoc]
    · rw [if_neg b5] at t3
      subst t3
      by_cases b2 : kind = 2
      · subst b2
        rw [if_pos (Or.inl rfl)] at t2
        rw [if_neg (by decide)] at t4
        subst t4
        have er : restC ⟨2, client, req, key, ⟨#[]⟩, val, ⟨#[]⟩, 0⟩ = ptx val := rfl
        rw [er] at h ⊢
        unfold sTail
        rw [if_neg (by decide), if_neg (by decide), if_pos rfl, sTxt_full (by omega) (by omega) (by omega) h]
      · rw [if_neg (by omega)] at t2
        subst t2
        by_cases b4 : kind = 4
        · subst b4
          have er : restC ⟨4, client, req, key, ⟨#[]⟩, ⟨#[]⟩, ⟨#[]⟩, n⟩ = enc (zig n) := rfl
          rw [er] at h ⊢
          unfold sTail
          rw [if_neg (by decide), if_neg (by decide), if_neg (by decide), if_pos rfl, sInt_full (zig_lt n hn1 hn2) h]
        · rw [if_neg b4] at t4
          subst t4
          have er : restC ⟨kind, client, req, key, ⟨#[]⟩, ⟨#[]⟩, ⟨#[]⟩, 0⟩ = [] := by unfold restC; rw [if_neg a, if_neg b5, if_neg b2, if_neg b4]
          rw [er]
          unfold sTail
          rw [if_neg (by omega), if_neg b5, if_neg b2, if_neg b4]
          rfl
theorem sTail_cut {v : Int} {c : Cm} {cl rq : Nat} {l : List Int} {k j : Nat} (h1 : 1 ≤ c.kind) (h9 : c.kind < 9) (hk : c.key.size ≤ 64) (ht : TailOk v c)
    (h : l.drop k = (restC c).take j) (hj : j < (restC c).length) : Bad (sTail v c.kind cl rq c.key l ⟨k, 0, 0⟩).2 := by
  obtain ⟨kind, client, req, key, key2, val, old, n⟩ := c
  obtain ⟨t1, t2, t3, t4⟩ := ht
  have hm := mostV_le v
  simp only at h1 h9 hk t1 t2 t3 t4 h hj ⊢
  by_cases a : 6 ≤ kind
  · rw [if_pos a] at t1
    have er : restC ⟨kind, client, req, key, key2, val, old, n⟩ = enc (shared key key2) ++ ptx (key2.extract (shared key key2) key2.size) := by unfold restC; rw [if_pos a]
    rw [er] at h hj
    unfold sTail
    rw [if_pos (by omega)]
    exact sKey2_cut hk t1.1 t1.2.1 h hj
  · by_cases b5 : kind = 5
    · subst b5
      rw [if_pos (Or.inr rfl)] at t2
      rw [if_pos rfl] at t3
      have er : restC ⟨5, client, req, key, key2, val, old, n⟩ = ptx old ++ ptx val := rfl
      rw [er] at h hj
      unfold sTail
      rw [if_neg (by decide), if_pos rfl]
      rcases cut_at h with ⟨hc, hh⟩ | ⟨hc, hh⟩
      · exact sTxt_bad (sTxt_cut (by omega) (by omega) (by omega) hh hc)
      · have e1 : sTxt 0 (mostV v : Nat) 47 l ⟨k, 0, 0⟩ = (old, ⟨k + (ptx old).length, 0, 0⟩) := sTxt_full (by omega) (by omega) (by omega) hh
        rw [e1]
        rw [List.length_append] at hj
        exact sTxt_cut (t := val) (j := j - (ptx old).length) (by omega) (by omega) (by omega) (drop_app hh) (by omega)
    · by_cases b2 : kind = 2
      · subst b2
        rw [if_pos (Or.inl rfl)] at t2
        have er : restC ⟨2, client, req, key, key2, val, old, n⟩ = ptx val := rfl
        rw [er] at h hj
        unfold sTail
        rw [if_neg (by decide), if_neg (by decide), if_pos rfl]
        exact sTxt_cut (by omega) (by omega) (by omega) h hj
      · by_cases b4 : kind = 4
        · subst b4
          have er : restC ⟨4, client, req, key, key2, val, old, n⟩ = enc (zig n) := rfl
          rw [er] at h hj
          unfold sTail
          rw [if_neg (by decide), if_neg (by decide), if_neg (by decide), if_pos rfl]
          exact sInt_cut h hj
        · have er : restC ⟨kind, client, req, key, key2, val, old, n⟩ = [] := by unfold restC; rw [if_neg a, if_neg b5, if_neg b2, if_neg b4]
          rw [er] at hj
          simp at hj

theorem sKind_full {v x : Int} {l r : List Int} (hx : isKd v x = true) (h : l = x :: r) : sKind v l ⟨0, 0, 0⟩ = (x, ⟨1, 0, 0⟩) := by
  have hr := isKd_range hx
  have e : gB 255 l ⟨0, 0, 0⟩ = (x, 1, 0) := by
    unfold gB
    subst h
    simp only [if_true, List.length_cons]
    rw [if_neg (by omega), if_neg (by simp; omega)]
    rfl
  unfold sKind
  rw [e]
  simp only [hx, if_true, note_none]
theorem isVer_of {v : Int} (h : v = 1 ∨ v = 2) : isVer v = true := by rcases h with rfl | rfl <;> rfl
/-- A command that Check takes, written, is read back, whatever stands behind it. -/
theorem sCmd_full {v : Int} {c : Cm} {r : List Int} (h : chk v c = 0) (hn1 : -9223372036854775808 ≤ c.n) (hn2 : c.n ≤ 9223372036854775807) : sCmd v (encC c ++ r) ⟨0, 0, 0⟩ = (c, ⟨(encC c).length, 0, 0⟩) := by
  have hc := chk_zero h
  have hs := sound_of h
  have hr := isKd_range hc.2.1
  by_cases h0 : c.kind = 0
  · have hz := noop_of h h0
    have hk := hc.2.1
    rw [hz] at hk ⊢
    have e : sKind v (encC ⟨0, 0, 0, ⟨#[]⟩, ⟨#[]⟩, ⟨#[]⟩, ⟨#[]⟩, 0⟩ ++ r) ⟨0, 0, 0⟩ = (0, ⟨1, 0, 0⟩) := sKind_full hk rfl
    unfold sCmd
    rw [e]
    rfl
  · have ht := tailOk_of h h0
    have hcl := hs.client h0
    have hrq := hs.req h0
    have hky := hs.key h0
    have eE : encC c ++ r = c.kind :: (enc c.client.toNat ++ (enc c.req.toNat ++ (ptx c.key ++ (restC c ++ r)))) := by unfold encC; rw [if_neg h0]; simp
    have eL : (encC c).length = 1 + (enc c.client.toNat).length + (enc c.req.toNat).length + (ptx c.key).length + (restC c).length := by unfold encC; rw [if_neg h0]; simp; omega
    rw [eL, eE]
    generalize hL : c.kind :: (enc c.client.toNat ++ (enc c.req.toNat ++ (ptx c.key ++ (restC c ++ r)))) = L
    have e0 : sKind v L ⟨0, 0, 0⟩ = (c.kind, ⟨1, 0, 0⟩) := sKind_full hc.2.1 hL.symm
    have d1 : L.drop 1 = enc c.client.toNat ++ (enc c.req.toNat ++ (ptx c.key ++ (restC c ++ r))) := by rw [← hL]; rfl
    have e1 : sNum 65535 42 L ⟨1, 0, 0⟩ = (c.client.toNat, ⟨1 + (enc c.client.toNat).length, 0, 0⟩) := sNum_full (by omega) (by omega) d1
    have d2 := drop_app d1
    have e2 : sNum 1073741824 43 L ⟨1 + (enc c.client.toNat).length, 0, 0⟩ = (c.req.toNat, ⟨1 + (enc c.client.toNat).length + (enc c.req.toNat).length, 0, 0⟩) := sNum_full (by omega) (by omega) d2
    have d3 := drop_app d2
    have e3 : sTxt 1 64 44 L ⟨1 + (enc c.client.toNat).length + (enc c.req.toNat).length, 0, 0⟩ = (c.key, ⟨1 + (enc c.client.toNat).length + (enc c.req.toNat).length + (ptx c.key).length, 0, 0⟩) := sTxt_full (by omega) (by omega) (by omega) d3
    have d4 := drop_app d3
    have e4 := sTail_full (v := v) (c := c) (cl := c.client.toNat) (rq := c.req.toNat) (by omega) (by omega) hky.2 hn1 hn2 ht d4
    unfold sCmd
    rw [e0]
    simp only
    rw [if_pos ⟨trivial, h0⟩]
    unfold sAll
    rw [e1]
    simp only
    rw [e2]
    simp only
    rw [e3]
    simp only
    rw [e4]
    have q1 : ((c.client.toNat : Nat) : Int) = c.client := by omega
    have q2 : ((c.req.toNat : Nat) : Int) = c.req := by omega
    rw [q1, q2]
theorem sCmd_cut {v : Int} {c : Cm} {j : Nat} (h : chk v c = 0) (hj : j < (encC c).length) : (sCmd v ((encC c).take j) ⟨0, 0, 0⟩).2.ft = 11 := by
  have hc := chk_zero h
  have hs := sound_of h
  have hr := isKd_range hc.2.1
  cases j with
  | zero =>
    have e : gB 255 ((encC c).take 0) ⟨0, 0, 0⟩ = (0, 0, 11) := by rw [List.take_zero]; rfl
    have hk : isKd v 0 = true := by rcases hc.1 with rfl | rfl <;> decide
    have e2 : sKind v ((encC c).take 0) ⟨0, 0, 0⟩ = (0, ⟨0, 11, 11⟩) := by
      unfold sKind
      rw [e]
      simp only [hk, if_true, note_short]
    unfold sCmd
    rw [e2]
    rfl
  | succ j =>
    have h0 : c.kind ≠ 0 := fun h0 => by
      have : (encC c).length = 1 := by unfold encC; rw [if_pos h0]; rfl
      omega
    have ht := tailOk_of h h0
    have hcl := hs.client h0
    have hrq := hs.req h0
    have hky := hs.key h0
    have eE : encC c = c.kind :: (enc c.client.toNat ++ (enc c.req.toNat ++ (ptx c.key ++ restC c))) := by unfold encC; rw [if_neg h0]; simp
    rw [eE, List.length_cons] at hj
    rw [eE, List.take_succ_cons]
    generalize hL : c.kind :: (enc c.client.toNat ++ (enc c.req.toNat ++ (ptx c.key ++ restC c))).take j = L
    have e0 : sKind v L ⟨0, 0, 0⟩ = (c.kind, ⟨1, 0, 0⟩) := sKind_full hc.2.1 hL.symm
    have d1 : L.drop 1 = (enc c.client.toNat ++ (enc c.req.toNat ++ (ptx c.key ++ restC c))).take j := by rw [← hL]; rfl
    simp only [List.length_append] at hj
    suffices hb : Bad (sCmd v L ⟨0, 0, 0⟩).2 from hb.2
    unfold sCmd
    rw [e0]
    simp only
    rw [if_pos ⟨trivial, h0⟩]
    unfold sAll
    rcases cut_at d1 with ⟨g1, f1⟩ | ⟨g1, f1⟩
    · exact sTail_bad (sTxt_bad (sNum_bad (sNum_cut f1 g1)))
    · have e1 : sNum 65535 42 L ⟨1, 0, 0⟩ = (c.client.toNat, ⟨1 + (enc c.client.toNat).length, 0, 0⟩) := sNum_full (by omega) (by omega) f1
      rw [e1]
      simp only
      rcases cut_at (drop_app f1) with ⟨g2, f2⟩ | ⟨g2, f2⟩
      · exact sTail_bad (sTxt_bad (sNum_cut f2 g2))
      · have e2 : sNum 1073741824 43 L ⟨1 + (enc c.client.toNat).length, 0, 0⟩ = (c.req.toNat, ⟨1 + (enc c.client.toNat).length + (enc c.req.toNat).length, 0, 0⟩) := sNum_full (by omega) (by omega) f2
        rw [e2]
        simp only
        rcases cut_at (drop_app f2) with ⟨g3, f3⟩ | ⟨g3, f3⟩
        · exact sTail_bad (sTxt_cut (by omega) (by omega) (by omega) f3 g3)
        · have e3 : sTxt 1 64 44 L ⟨1 + (enc c.client.toNat).length + (enc c.req.toNat).length, 0, 0⟩ = (c.key, ⟨1 + (enc c.client.toNat).length + (enc c.req.toNat).length + (ptx c.key).length, 0, 0⟩) := sTxt_full (by omega) (by omega) (by omega) f3
          rw [e3]
          simp only
          exact sTail_cut (by omega) (by omega) hky.2 ht (drop_app f3) (by omega)

theorem ptx_le {s : ByteArray} (h : s.size ≤ 65536) : (ptx s).length ≤ 10 + s.size := by
  unfold ptx
  rw [List.length_append, tx_len]
  have := enc_le s.size (by omega)
  omega
theorem encC_le {v : Int} {c : Cm} (h : chk v c = 0) : (encC c).length ≤ 131281 := by
  have hc := chk_zero h
  have hs := sound_of h
  have hr := isKd_range hc.2.1
  by_cases h0 : c.kind = 0
  · have : (encC c).length = 1 := by unfold encC; rw [if_pos h0]; rfl
    omega
  · have ht := tailOk_of h h0
    have hcl := hs.client h0
    have hrq := hs.req h0
    have hky := hs.key h0
    have hm := mostV_le v
    have a1 := enc_le c.client.toNat (by omega)
    have a2 := enc_le c.req.toNat (by omega)
    have a3 := ptx_le (s := c.key) (by omega)
    have eL : (encC c).length = 1 + (enc c.client.toNat).length + (enc c.req.toNat).length + (ptx c.key).length + (restC c).length := by unfold encC; rw [if_neg h0]; simp; omega
    have a4 : (restC c).length ≤ 131092 := by
      obtain ⟨t1, t2, t3, t4⟩ := ht
      unfold restC
      split
      · rename_i q
        rw [if_pos q] at t1
        have s1 := shared_le c.key c.key2
        have s2 := ext_size c.key2 (shared c.key c.key2)
        have b1 := enc_le (shared c.key c.key2) (by omega)
        have b2 := ptx_le (s := c.key2.extract (shared c.key c.key2) c.key2.size) (by omega)
        rw [List.length_append]
        omega
      · split
        · rename_i q
          rw [if_pos (Or.inr q)] at t2
          rw [if_pos q] at t3
          have b1 := ptx_le (s := c.old) (by omega)
          have b2 := ptx_le (s := c.val) (by omega)
          rw [List.length_append]
          omega
        · split
          · rename_i q
            rw [if_pos (Or.inl q)] at t2
            have b2 := ptx_le (s := c.val) (by omega)
            omega
          · split
            · have : ∀ x, (enc x).length ≤ 10 := fun x => by
                have : ∀ f y, (encF f y).length ≤ f := fun f => by
                  induction f with
                  | zero => intro y; simp [encF]
                  | succ g ih => intro y; simp only [encF]; split <;> simp; exact ih _
                exact this 10 x
              have := this (zig c.n)
              omega
            · simp
    omega
/-- What Encode wrote is read back. -/
theorem decC_full {v : Int} {c : Cm} {r : List Int} (h : chk v c = 0) (hn1 : -9223372036854775808 ≤ c.n) (hn2 : c.n ≤ 9223372036854775807) : decC v (encC c ++ r) = (c, (encC c).length, 0) := by
  have hl := encC_le h
  unfold decC
  rw [if_pos (isVer_of (chk_zero h).1), List.take_append, List.take_of_length_le hl, sCmd_full h hn1 hn2]
  rfl
/-- A proper beginning ends too early. -/
theorem decC_cut {v : Int} {c : Cm} {j : Nat} (h : chk v c = 0) (hj : j < (encC c).length) : decC v ((encC c).take j) = (zeroC, 0, 11) := by
  have hl := encC_le h
  have hq := sCmd_cut h hj
  unfold decC
  rw [if_pos (isVer_of (chk_zero h).1), List.take_take, Nat.min_eq_right (by omega), if_neg (by rw [hq]; decide), hq]
end Go.Proofs.YtlhididcanedhaaGreatDoor
