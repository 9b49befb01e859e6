/- Texts of the proof, joined. -/
import Derived.Test.YtlapgnbiflcpfaaGreatDoorJ20
/- What Encode writes is read back, and each beginning of it ends too early: the mathematics. -/
namespace Go.Proofs.YtlapgnbiflcpfaaGreatDoor
open Go.RowKit Go.Wire1

/-- A scan that has come to the bytes' end too early. -/
def Bad (s : St) : Prop := s.f = 11 ∧ s.ft = 11
theorem note_bad (own : Int) : noteF own 11 11 = 11 := by simp [noteF, refF]
theorem note_short (own : Int) : noteF own 11 0 = 11 := by simp [noteF, refF]
theorem note_none (own : Int) : noteF own 0 0 = 0 := by simp [noteF]
theorem sNum_bad {most : Nat} {own : Int} {l : List Int} {s : St} (h : Bad s) : Bad (sNum most own l s).2 := by
  have e : gU most l s = (0, s.k, 11) := by unfold gU; rw [if_neg (by rw [h.1]; decide), h.1]
  simp only [Bad, sNum, e, h.2, note_bad, and_self]
theorem sInt_bad {l : List Int} {s : St} (h : Bad s) : Bad (sInt l s).2 := by
  have e : gI l s = (0, s.k, 11) := by unfold gI; rw [if_neg (by rw [h.1]; decide), h.1]
  simp only [Bad, sInt, e, h.2, note_bad, and_self]
theorem sTxt_bad {least most own : Int} {l : List Int} {s : St} (h : Bad s) : Bad (sTxt least most own l s).2 := by
  have e : gT least most l s = (⟨#[]⟩, s.k, 11) := by unfold gT; rw [if_neg (by rw [h.1]; decide), h.1]
  simp only [Bad, sTxt, e, h.2, note_bad, and_self]
theorem refF_bad (e : Int) : refF e 11 = 11 := by simp [refF]
theorem k2_bad {kind : Int} {key : ByteArray} {l : List Int} {s : St} (h : Bad (k2T key l s).2) : Bad (sKey2 kind key l s).2 := by
  refine ⟨h.1, ?_⟩
  have h1 : k2F1 key l s = 11 := by
    unfold k2F1
    split
    · rw [h.2]; exact refF_bad _
    · exact h.2
  show k2F kind key l s = 11
  unfold k2F
  split
  · exact h1
  · rw [h1]; exact refF_bad _
theorem sKey2_bad {kind : Int} {key : ByteArray} {l : List Int} {s : St} (h : Bad s) : Bad (sKey2 kind key l s).2 := k2_bad (sTxt_bad (sNum_bad h))
theorem sTail_bad {v x : Int} {cl rq : Nat} {ky : ByteArray} {l : List Int} {s : St} (h : Bad s) : Bad (sTail v x cl rq ky l s).2 := by
  unfold sTail
  split
  · exact sKey2_bad h
  · split
    · exact sTxt_bad (sTxt_bad h)
    · split
      · exact sTxt_bad h
      · split
        · exact sInt_bad h
        · exact h

theorem drop_app {l E r : List Int} {k : Nat} (h : l.drop k = E ++ r) : l.drop (k + E.length) = r := by
  rw [← List.drop_drop, h, List.drop_left]
theorem str_tx (s : ByteArray) : strOfNums (tx s) = s := by
  apply ByteArray.ext
  apply Array.toList_inj.1
  simp only [strOfNums, tx, List.map_map]
  refine Eq.trans (List.map_congr_left fun b _ => ?_) (List.map_id _)
  simp
/-- A number that stands there whole. -/
theorem sNum_full {most x : Nat} {own : Int} {l r : List Int} {k : Nat} (hx : x ≤ most) (hl : x < 18446744073709551616) (h : l.drop k = enc x ++ r) : sNum most own l ⟨k, 0, 0⟩ = (x, ⟨k + (enc x).length, 0, 0⟩) := by
  have e : gU most l ⟨k, 0, 0⟩ = (x, k + (enc x).length, 0) := by
    unfold gU
    simp only [if_true, h, dec_enc x r hl]
    rw [if_neg (by omega)]
  unfold sNum
  rw [e]
  simp only [note_none]
theorem sNum_cut {most x j : Nat} {own : Int} {l : List Int} {k : Nat} (h : l.drop k = (enc x).take j) (hj : j < (enc x).length) : Bad (sNum most own l ⟨k, 0, 0⟩).2 := by
  have e : gU most l ⟨k, 0, 0⟩ = (0, k, 11) := by
    unfold gU
    simp only [if_true, h, dec_cut x j hj]
    rfl
  simp only [Bad, sNum, e, note_short, and_self]
theorem sInt_full {x : Int} {l r : List Int} {k : Nat} (hl : zig x < 18446744073709551616) (h : l.drop k = enc (zig x) ++ r) : sInt l ⟨k, 0, 0⟩ = (x, ⟨k + (enc (zig x)).length, 0, 0⟩) := by
  have e : gI l ⟨k, 0, 0⟩ = (x, k + (enc (zig x)).length, 0) := by
    unfold gI
    simp only [if_true, h, dec_enc (zig x) r hl, unzig_zig]
  unfold sInt
  rw [e]
  simp only [note_none]
theorem sInt_cut {x j : Nat} {l : List Int} {k : Nat} (h : l.drop k = (enc x).take j) (hj : j < (enc x).length) : Bad (sInt l ⟨k, 0, 0⟩).2 := by
  have e : gI l ⟨k, 0, 0⟩ = (0, k, 11) := by
    unfold gI
    simp only [if_true, h, dec_cut x j hj]
    rfl
  simp only [Bad, sInt, e, note_short, and_self]
theorem sTxt_full {least most own : Int} {t : ByteArray} {l r : List Int} {k : Nat} (h1 : least ≤ (t.size : Int)) (h2 : (t.size : Int) ≤ most) (hl : t.size < 18446744073709551616) (h : l.drop k = ptx t ++ r) : sTxt least most own l ⟨k, 0, 0⟩ = (t, ⟨k + (ptx t).length, 0, 0⟩) := by
  have hh : l.drop k = enc t.size ++ (tx t ++ r) := by rw [h]; unfold ptx; rw [List.append_assoc]
  have hlen : (l.drop k).length = (enc t.size).length + (t.size + r.length) := by rw [hh, List.length_append, List.length_append, tx_len]
  rw [List.length_drop] at hlen
  have hp := (enc_le t.size hl).1
  have e : gT least most l ⟨k, 0, 0⟩ = (t, k + (ptx t).length, 0) := by
    unfold gT
    simp only [if_true]
    rw [hh, dec_enc t.size _ hl]
    simp only
    rw [if_pos ⟨h1, h2⟩, if_pos (by omega), drop_app hh, List.take_left' (tx_len t), str_tx]
    show _ = (t, k + (enc t.size ++ tx t).length, 0)
    rw [List.length_append, tx_len]
  unfold sTxt
  rw [e]
  simp only [note_none]
theorem sTxt_cut {least most own : Int} {t : ByteArray} {j : Nat} {l : List Int} {k : Nat} (h1 : least ≤ (t.size : Int)) (h2 : (t.size : Int) ≤ most) (hl : t.size < 18446744073709551616) (h : l.drop k = (ptx t).take j) (hj : j < (ptx t).length) : Bad (sTxt least most own l ⟨k, 0, 0⟩).2 := by
  have e : gT least most l ⟨k, 0, 0⟩ = (⟨#[]⟩, k, 11) := by
    unfold gT
    simp only [if_true]
    by_cases hc : j < (enc t.size).length
    · have hh : l.drop k = (enc t.size).take j := by rw [h]; unfold ptx; rw [List.take_append_of_le_length (by omega)]
      rw [hh, dec_cut _ _ hc]
      rfl
    · have hh : l.drop k = enc t.size ++ (tx t).take (j - (enc t.size).length) := by
        rw [h]; unfold ptx; rw [List.take_append, List.take_of_length_le (by omega)]
      have hlen : (l.drop k).length = j := by rw [h, List.length_take]; omega
      rw [List.length_drop] at hlen
      have hpl : (ptx t).length = (enc t.size).length + t.size := by unfold ptx; rw [List.length_append, tx_len]
      have hp := (enc_le t.size hl).1
      rw [hh, dec_enc t.size _ hl]
      simp only
      rw [if_pos ⟨h1, h2⟩, if_neg (by omega)]
  simp only [Bad, sTxt, e, note_short, and_self]
theorem cut_at {l E r : List Int} {k j : Nat} (h : l.drop k = (E ++ r).take j) : (j < E.length ∧ l.drop k = E.take j) ∨ (E.length ≤ j ∧ l.drop k = E ++ r.take (j - E.length)) := by
  by_cases hc : j < E.length
  · exact .inl ⟨hc, by rw [h, List.take_append_of_le_length (by omega)]⟩
  · exact .inr ⟨by omega, by rw [h, List.take_append, List.take_of_length_le (by omega)]⟩

theorem empty_of {s : ByteArray} (h : s.toList.isEmpty = true) : s = ⟨#[]⟩ := by
  rw [Lib.toList_data, List.isEmpty_iff] at h
  apply ByteArray.ext
  apply Array.toList_inj.1
  exact h
theorem zero_of {v k : Int} {c : Cm} {f : Nat} (h : faultF v c f = 0) (hk : c.kind = k) (hh : hasF k f = false) : zeroF c f = true := by
  unfold faultF at h
  rw [hk, hh] at h
  cases hz : zeroF c f with
  | true => rfl
  | false => rw [hz] at h; simp at h
theorem allow_of {v k : Int} {c : Cm} {f : Nat} (h : faultF v c f = 0) (hf : f < 6) (hk : c.kind = k) (hh : hasF k f = true) : allowF v c f = true := has_allow h hf (by rw [hk]; exact hh)
/-- Which fields a command that Check takes has. -/
theorem tailOk_of {v : Int} {c : Cm} (h : chk v c = 0) (h0 : c.kind ≠ 0) : TailOk v c := by
  obtain ⟨hv, hk, hf⟩ := chk_zero h
  have hr := isKd_range hk
  have g3 := hf 3 (by omega)
  have g4 := hf 4 (by omega)
  have g5 := hf 5 (by omega)
  have g6 := hf 6 (by omega)
  clear hf h hk
  have h8 : c.kind = 1 ∨ c.kind = 2 ∨ c.kind = 3 ∨ c.kind = 4 ∨ c.kind = 5 ∨ c.kind = 6 ∨ c.kind = 7 ∨ c.kind = 8 := by omega
  unfold TailOk
  rcases h8 with h | h | h | h | h | h | h | h <;> refine ⟨?_, ?_, ?_, ?_⟩ <;> split <;> rename_i q
  all_goals first
    | (exfalso; omega)
    | trivial
    | exact empty_of (zero_of g3 h (by decide))
    | exact empty_of (zero_of g4 h (by decide))
    | exact empty_of (zero_of g5 h (by decide))
    | (have z := zero_of g6 h (by decide); simpa [zeroF] using z)
    | (have z := allow_of g4 (by decide) h (by decide); simpa [allowF] using z)
    | (have z := allow_of g5 (by decide) h (by decide); simpa [allowF] using z)
    | (have z := allow_of g3 (by decide) h (by decide); simp only [allowF, isKeyB, Bool.and_eq_true, decide_eq_true_eq] at z; exact ⟨z.1.1, z.1.2, z.2⟩)
theorem noop_of {v : Int} {c : Cm} (h : chk v c = 0) (h0 : c.kind = 0) : c = ⟨0, 0, 0, ⟨#[]⟩, ⟨#[]⟩, ⟨#[]⟩, ⟨#[]⟩, 0⟩ := by
  obtain ⟨hv, hk, hf⟩ := chk_zero h
  have z0 := zero_of (hf 0 (by omega)) h0 (by decide)
  have z1 := zero_of (hf 1 (by omega)) h0 (by decide)
  have z2 := zero_of (hf 2 (by omega)) h0 (by decide)
  have z3 := zero_of (hf 3 (by omega)) h0 (by decide)
  have z4 := zero_of (hf 4 (by omega)) h0 (by decide)
  have z5 := zero_of (hf 5 (by omega)) h0 (by decide)
  have z6 := zero_of (hf 6 (by omega)) h0 (by decide)
  simp only [zeroF, beq_iff_eq] at z0 z1 z2 z3 z4 z5 z6
  obtain ⟨kind, client, req, key, key2, val, old, n⟩ := c
  simp only at h0 z0 z1 z2 z3 z4 z5 z6
  rw [h0, z0, z1, empty_of z2, empty_of z3, empty_of z4, empty_of z5, z6]
end Go.Proofs.YtlapgnbiflcpfaaGreatDoor
