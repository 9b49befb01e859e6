/- Decode at a valid message's bytes, cut short, with more behind; how long they are: the mathematics. -/
import Derived.Test.YtooejihnifphkaaGreatDoorMSame
import Derived.Test.YtooejihnifphkaaGreatDoorDSpoilt
namespace Go.Proofs.YtooejihnifphkaaGreatDoor
open Go.RowKit Go.Wire1

theorem ba_inj {s t : ByteArray} (h : s.toList = t.toList) : s = t := by
  rw [Lib.toList_data, Lib.toList_data] at h
  apply ByteArray.ext
  exact Array.toList_inj.1 h
theorem cm_ext {c d : Cm} (h1 : c.kind = d.kind) (h2 : c.client = d.client) (h3 : c.req = d.req) (h4 : c.key.toList = d.key.toList) (h5 : c.key2.toList = d.key2.toList) (h6 : c.val.toList = d.val.toList) (h7 : c.old.toList = d.old.toList) (h8 : c.n = d.n) : c = d := by
  obtain ⟨_, _, _, _, _, _, _, _⟩ := c
  obtain ⟨_, _, _, _, _, _, _, _⟩ := d
  simp only at h1 h2 h3 h4 h5 h6 h7 h8
  rw [h1, h2, h3, ba_inj h4, ba_inj h5, ba_inj h6, ba_inj h7, h8]
theorem only_head (m : Ms) (k : Nat) : (only m k).kind = m.kind ∧ (only m k).row = m.row ∧ (only m k).num = m.num := by
  unfold only
  split <;> exact ⟨rfl, rfl, rfl⟩
theorem only_self {m : Ms} (h : extraM m = false) : only m (shK m) = m := by
  unfold extraM at h
  rw [decide_eq_false_iff_not, Classical.not_not] at h
  have hd := only_dl m (shK m)
  have hh := only_head m (shK m)
  generalize only m (shK m) = o at h hd hh
  obtain ⟨a1, a2, a3, a4, a5, a6, a7, a8, a9, a10, a11, a12, a13, a14, a15, a16⟩ := h
  have hc := cm_ext a7 a8 a9 a10 a11 a12 a13 a14
  have hl : o.dl = m.dl := by
    rw [hd] at a16 ⊢
    split at a16
    · rename_i h; rw [if_pos h]
    · rename_i h
      rw [if_neg h]
      exact (List.eq_nil_of_length_eq_zero (by simpa using a16)).symm
  obtain ⟨_, _, _, _, _, _, _, _, _, _, _, _⟩ := m
  obtain ⟨_, _, _, _, _, _, _, _, _, _, _, _⟩ := o
  simp only at *
  obtain ⟨b1, b2, b3⟩ := hh
  subst b1 b2 b3 a1 a2 a3 a4 a5 a6 a15 hc hl
  rfl
section
variable {v n : Int} {m : Ms} (h0 : chkM v n m = 0) (hn1 : -9223372036854775808 ≤ m.c.n) (hn2 : m.c.n ≤ 9223372036854775807)
include h0 hn1 hn2
theorem msB_full (r : List Int) : rdMsg v n (msB v m ++ r) 0 = (m, r, 0) := by
  have := (msB_rds h0 hn1 hn2).full r
  rwa [only_self (val_msg h0).2.2.1] at this
theorem decM_back : decM v n (msB v m) = (m, 0) := by
  have := msB_full h0 hn1 hn2 []
  rw [List.append_nil] at this
  unfold decM
  rw [this, if_pos (val_msg h0).1]
  rfl
theorem decM_rest {r : List Int} (hr : r ≠ []) : decM v n (msB v m ++ r) = (zeroM, 59) := by
  have := msB_full h0 hn1 hn2 r
  unfold decM
  rw [this, if_pos (val_msg h0).1]
  have e : endF r 0 = 59 := by unfold endF; rw [if_neg hr]; rfl
  simp only [e]
  rfl
theorem decM_cut {k : Nat} (hk : k < (msB v m).length) : decM v n ((msB v m).take k) = (zeroM, 11) := by
  have := (msB_rds h0 hn1 hn2).cut k hk
  have e : endF (rdMsg v n ((msB v m).take k) 0).2.1 (rdMsg v n ((msB v m).take k) 0).2.2 = 11 := by
    rw [this]; unfold endF; split
    · rfl
    · exact refF_stk (by decide)
  unfold decM
  rw [if_pos (val_msg h0).1, e]
  rfl
end
theorem balP_len2 (v : Int) (x y : Nat) : (balP v x y).length ≤ 20 := by
  unfold balP
  have := enc_ten x; have := enc_ten y; have := enc_ten (8 * x + y)
  split
  · rw [List.length_append]; omega
  · omega
theorem votP_len2 (v : Int) (st : Nat) (sm : Bool) : (votP v st sm).length ≤ 2 := by
  unfold votP votP1 votP2
  split
  · split <;> simp
  · simp
theorem staP_len2 (v : Int) (kd row num : Nat) : 2 ≤ (staP v kd row num).length ∧ (staP v kd row num).length ≤ 21 := by
  have := insP_len v row num
  unfold staP
  rw [List.length_cons]
  omega
theorem lodP_len2 {v n : Int} {may : Bool} {c : Cm} {sq : Int} {dl : List Int} (hv : v = 1 ∨ v = 2) (hn : 1 ≤ n ∧ n ≤ 7) (h : loadF v n may c sq dl = 0) : (lodP v c sq.toNat dl).length ≤ 140000 := by
  have hl := val_load h
  have := encC_le hl.1
  have := enc_ten sq.toNat
  have := (packR_len hv (val_deps hl.2.2.2 hn).2.1).2
  unfold lodP attP
  simp only [List.length_append]
  omega
/-- How long a valid message's bytes are. -/
theorem msB_len {v n : Int} {m : Ms} (h0 : chkM v n m = 0) : 2 ≤ (msB v m).length ∧ (msB v m).length ≤ 1048576 := by
  obtain ⟨h1, h2, h3, h4⟩ := val_msg h0
  obtain ⟨hv, hn⟩ := val_call h1
  have h7 := shK_le m
  unfold msB
  generalize shK m = z at *
  have s := staP_len2 v m.kind.toNat m.row.toNat m.num.toNat
  have b := balP_len2 v m.x.toNat m.y.toNat
  have b2 := balP_len2 v m.p.toNat m.q.toNat
  have t := votP_len2 v m.st.toNat m.sm
  have t0 := votP_len2 v 0 false
  rcases (by omega : z = 0 ∨ z = 1 ∨ z = 2 ∨ z = 3 ∨ z = 4 ∨ z = 5 ∨ z = 6 ∨ z = 7) with hz | hz | hz | hz | hz | hz | hz | hz <;> subst hz
  · simp only [msP, List.flatten_cons, List.flatten_nil, List.length_append, List.length_nil]; omega
  · have := lodP_len2 hv hn (orL_cons.1 (orL_cons.1 (orL_cons.1 h4).2).2).1
    simp only [msP, List.flatten_cons, List.flatten_nil, List.length_append, List.length_nil]; omega
  · have hd5 := (unl_zero (show (56 : Int) ≠ 0 by decide)).1 (orL_cons.1 (orL_cons.1 (orL_cons.1 (orL_cons.1 h4).2).2).2).1
    have := (packR_len hv (val_deps hd5 hn).2.1).2
    have := enc_ten m.sq.toNat
    simp only [msP, attP, List.flatten_cons, List.flatten_nil, List.length_append, List.length_nil]; omega
  · simp only [msP, List.flatten_cons, List.flatten_nil, List.length_append, List.length_nil]; omega
  · have := lodP_len2 hv hn (orL_cons.1 (orL_cons.1 h4).2).1
    simp only [msP, List.flatten_cons, List.flatten_nil, List.length_append, List.length_nil]; omega
  · simp only [msP, List.flatten_cons, List.flatten_nil, List.length_append, List.length_nil]; omega
  · have := lodP_len2 hv hn (orL_cons.1 (orL_cons.1 (orL_cons.1 (orL_cons.1 h4).2).2).2).1
    simp only [msP, List.flatten_cons, List.flatten_nil, List.length_append, List.length_nil]; omega
  · simp only [msP, List.flatten_cons, List.flatten_nil, List.length_append, List.length_nil]; omega
theorem byt_nil : Byt [] := fun _ h => by cases h
theorem byt_ins (v : Int) (x y : Nat) : Byt (insP v x y) := by
  unfold insP; split
  · exact byt_app (byt_enc _) (byt_enc _)
  · exact byt_enc _
theorem byt_bal (v : Int) (x y : Nat) : Byt (balP v x y) := by
  unfold balP; split
  · exact byt_app (byt_enc _) (byt_enc _)
  · exact byt_enc _
theorem byt_vot (v : Int) {st : Nat} (h : st ≤ 2) (sm : Bool) : Byt (votP v st sm) := fun z hz => by
  unfold votP votP1 votP2 at hz
  rcases (by omega : st = 0 ∨ st = 1 ∨ st = 2) with rfl | rfl | rfl <;> cases sm <;> (split at hz <;> simp at hz <;> omega)
theorem byt_sta (v : Int) {kd : Nat} (h : kd < 10) (row num : Nat) : Byt (staP v kd row num) := fun z hz => by
  unfold staP at hz
  rcases List.mem_cons.1 hz with rfl | h
  · omega
  · exact byt_ins _ _ _ z h
theorem byt_lod {v n : Int} {may : Bool} {c : Cm} {sq : Int} {dl : List Int} (h : loadF v n may c sq dl = 0) : Byt (lodP v c sq.toNat dl) := by
  have hs := sound_of (val_load h).1
  exact byt_app (byt_encC hs.k0 hs.k8) (byt_app (byt_enc _) (byt_packR _ _))
/-- A valid message's bytes are bytes. -/
theorem byt_msB {v n : Int} {m : Ms} (h0 : chkM v n m = 0) : Byt (msB v m) := by
  obtain ⟨h1, h2, h3, h4⟩ := val_msg h0
  obtain ⟨kd, hkd, hkd9, hkd0⟩ := isMK_nat h2
  have h7 := shK_le m
  have s := byt_sta v (kd := m.kind.toNat) (by omega) m.row.toNat m.num.toNat
  have b := byt_bal v m.x.toNat m.y.toNat
  have b2 := byt_bal v m.p.toNat m.q.toNat
  unfold msB
  generalize shK m = z at *
  rcases (by omega : z = 0 ∨ z = 1 ∨ z = 2 ∨ z = 3 ∨ z = 4 ∨ z = 5 ∨ z = 6 ∨ z = 7) with hz | hz | hz | hz | hz | hz | hz | hz <;> subst hz
  · exact byt_app s byt_nil
  · exact byt_app s (byt_app b (byt_app (byt_lod (orL_cons.1 (orL_cons.1 (orL_cons.1 h4).2).2).1) byt_nil))
  · exact byt_app s (byt_app b (byt_app (byt_app (byt_enc _) (byt_packR _ _)) byt_nil))
  · exact byt_app s (byt_app b byt_nil)
  · exact byt_app s (byt_app (byt_lod (orL_cons.1 (orL_cons.1 h4).2).1) byt_nil)
  · exact byt_app s (byt_app b (byt_app (byt_vot v (by decide) false) byt_nil))
  · have hvt := (unl_zero (show (54 : Int) ≠ 0 by decide)).1 (orL_cons.1 (orL_cons.1 (orL_cons.1 h4).2).2).1
    have hvv := val_vote hvt
    exact byt_app s (byt_app b (byt_app (byt_vot v (by omega) m.sm) (byt_app b2 (byt_app (byt_lod (orL_cons.1 (orL_cons.1 (orL_cons.1 (orL_cons.1 h4).2).2).2).1) byt_nil))))
  · exact byt_app s (byt_app b (byt_app b2 byt_nil))
end Go.Proofs.YtooejihnifphkaaGreatDoor
