/- Encode, at every message. -/
import Derived.Test.YtooejihnifphkaaGreatDoorMEnc
import Derived.Test.YtooejihnifphkaaGreatDoorMVal
namespace Go.Proofs.YtooejihnifphkaaGreatDoor
open Go.RowKit Go.Wire1

/-- What Encode answers. -/
def EnPost (v n : Int) (m : Ms) (w : World) (r : Ending) (w' : World) : Prop := ∃ u, r = .returned (.tuple #[u, .int .i64 (chkM v n m)]) ∧ w'.ownsRow w.heap.size 5 1 u (if chkM v n m = 0 then msB v m else []).length ((if chkM v n m = 0 then msB v m else []).map (Value.int .u8)) ∧ Below w.heap.size w w'
theorem val_vote {n row x y st : Int} {sm : Bool} {p q : Int} (h : voteB n row x y st sm p q = true) : (st = 1 ∨ st = 2) ∧ 0 ≤ p ∧ p ≤ 65535 ∧ 0 ≤ q ∧ q < n ∧ (0 < p ∨ q = row) ∧ belB p q x y = true ∧ ((st = 1 ∧ p = 0) ∨ sm = false) := by
  unfold voteB at h
  simp only [Bool.and_eq_true, Bool.or_eq_true, beq_iff_eq, Bool.not_eq_true'] at h
  obtain ⟨h1, h2, h3, h4⟩ := h
  have hb := val_bal h2
  exact ⟨h1, hb.1, hb.2.1, hb.2.2.1, hb.2.2.2.1, hb.2.2.2.2, h3, h4⟩
theorem val_nack {n row x y p q : Int} (h : nackB n row x y p q = true) : 0 ≤ p ∧ p ≤ 65535 ∧ 0 ≤ q ∧ q < n ∧ (0 < p ∨ q = row) ∧ belB x y p q = true := by
  unfold nackB at h
  rw [Bool.and_eq_true] at h
  have hb := val_bal h.1
  exact ⟨hb.1, hb.2.1, hb.2.2.1, hb.2.2.2.1, hb.2.2.2.2, h.2⟩
set_option maxHeartbeats 4000000 in
theorem menc_good1 (n : Int) (k row num x y p q st : Int) (sm : Bool) (c : Cm) (sq : Int) (dl : List Int) (ua : Option Addr) (uk uc : Nat) (w : World) (hKc : Knd w) (hK : Kmd w) (hk1 : c.key.size ≤ 140737488351232) (hk2 : c.key2.size ≤ 140737488351232) (hn1 : -9223372036854775808 ≤ c.n) (hn2 : c.n ≤ 9223372036854775807) (hI : SegI w ua uk dl) (h0 : chkM 1 n ⟨k, row, num, x, y, p, q, st, sm, c, sq, dl⟩ = 0) :
    Calls Tryz.prog 11 #[.int .i64 1, .int .i64 n, .agg (mgc ⟨k, row, num, x, y, p, q, st, sm, c, sq, dl⟩ (.slice ua uk uc)).toArray] w fun r w' => ∃ u, r = .returned (.tuple #[u, .int .i64 0]) ∧ w'.ownsRow w.heap.size 5 1 u (msB 1 ⟨k, row, num, x, y, p, q, st, sm, c, sq, dl⟩).length ((msB 1 ⟨k, row, num, x, y, p, q, st, sm, c, sq, dl⟩).map (Value.int .u8)) ∧ Below w.heap.size w w' := by
  obtain ⟨h1, h2, h3, h4⟩ := val_msg h0
  have hn := (val_call h1).2
  have hin := val_inst (shF_inst h4)
  obtain ⟨kd, hkd, hkd9, hkd0⟩ := isMK_nat h2
  have hCk : Hid (∀ W, Below w.heap.size w W → Calls Tryz.prog 10 #[.int .i64 1, .int .i64 n, .agg (mgc ⟨k, row, num, x, y, p, q, st, sm, c, sq, dl⟩ (.slice ua uk uc)).toArray] W fun r w' => r = .returned (.int .i64 0) ∧ Below W.heap.size W w') := fun W hW => by
    have := mcheck_any 1 n ⟨k, row, num, x, y, p, q, st, sm, c, sq, dl⟩ ua uk uc W (hKc.below hW (Nat.le_refl _)) (hK.below hW (Nat.le_refl _)) hk1 hk2 (hI.below hW (Nat.le_refl _))
    rwa [h0] at this
  have hSO := fun W => shapeOf_any ⟨k, row, num, x, y, p, q, st, sm, c, sq, dl⟩ ua uk uc W
  have hCW : ∀ W, Below w.heap.size w W → Knd W := fun W h => hKc.below h (Nat.le_refl _)
  have hIW : ∀ W, Below w.heap.size w W → SegI W ua uk dl := fun W h => hI.below h (Nat.le_refl _)
  obtain rfl : k = (kd : Int) := hkd
  obtain ⟨rw, rfl⟩ := Int.eq_ofNat_of_zero_le (show 0 ≤ row from hin.1)
  obtain ⟨nu, rfl⟩ := Int.eq_ofNat_of_zero_le (show 0 ≤ num by have := hin.2.2.1; simp only at this; omega)
  simp only at hin
  have h7 := shK_le ⟨(kd : Int), (rw : Int), (nu : Int), x, y, p, q, st, sm, c, sq, dl⟩
  unfold msB
  unfold shV at hSO
  generalize shK ⟨(kd : Int), (rw : Int), (nu : Int), x, y, p, q, st, sm, c, sq, dl⟩ = z at *
  clear h0 h1 h2 h3
  rcases (by omega : z = 0 ∨ z = 1 ∨ z = 2 ∨ z = 3 ∨ z = 4 ∨ z = 5 ∨ z = 6 ∨ z = 7) with hz0 | hz0 | hz0 | hz0 | hz0 | hz0 | hz0 | hz0
  · subst hz0
    exact menc_bare 1 n (kd : Int) (rw : Int) (nu : Int) x y p q st sm c sq ua uk uc w _ _ _ hCk (fun W => hSO W) (fun W => layout1 W) (fun W h => bytes_bare1 kd rw nu W (by omega) (by omega) (by omega))
  · subst hz0
    have hbb := val_bal (val_ball (shF_ball h4 rfl)).1
    obtain ⟨xx, rfl⟩ := Int.eq_ofNat_of_zero_le (show 0 ≤ x from hbb.1)
    obtain ⟨yy, rfl⟩ := Int.eq_ofNat_of_zero_le (show 0 ≤ y from hbb.2.2.1)
    simp only at hbb
    have hld := val_load (orL_cons.1 (orL_cons.1 (orL_cons.1 h4).2).2).1
    have hz : chk 1 c = 0 := hld.1
    have hsq := val_seq hld.2.2.1
    have hdv := val_deps hld.2.2.2 hn
    have hp := packR_len (v := 1) (.inl rfl) hdv.2.1
    obtain ⟨qq, rfl⟩ := Int.eq_ofNat_of_zero_le (show 0 ≤ sq from hsq.1)
    simp only at hsq
    exact menc_proposal 1 n (kd : Int) (rw : Int) (nu : Int) (xx : Int) (yy : Int) p q st sm c (qq : Int) ua uk uc w _ _ _ hCk (fun W => hSO W) (fun W => layout1 W) (fun W h => bytes_proposal1 kd rw nu xx yy c qq ua uk uc dl W (by omega) (by omega) (by omega) (by omega) (by omega) (hCW W h) hk1 hk2 hn1 hn2 hz (by omega) (hIW W h) hp.1 hp.2)
  · subst hz0
    have hbb := val_bal (val_ball (shF_ball h4 rfl)).1
    obtain ⟨xx, rfl⟩ := Int.eq_ofNat_of_zero_le (show 0 ≤ x from hbb.1)
    obtain ⟨yy, rfl⟩ := Int.eq_ofNat_of_zero_le (show 0 ≤ y from hbb.2.2.1)
    simp only at hbb
    have hs5 := (unl_zero (show (55 : Int) ≠ 0 by decide)).1 (orL_cons.1 (orL_cons.1 (orL_cons.1 h4).2).2).1
    have hd5 := (unl_zero (show (56 : Int) ≠ 0 by decide)).1 (orL_cons.1 (orL_cons.1 (orL_cons.1 (orL_cons.1 h4).2).2).2).1
    have hsq := val_seq hs5
    have hdv := val_deps hd5 hn
    have hp := packR_len (v := 1) (.inl rfl) hdv.2.1
    obtain ⟨qq, rfl⟩ := Int.eq_ofNat_of_zero_le (show 0 ≤ sq from hsq.1)
    simp only at hsq
    exact menc_estimate 1 n (kd : Int) (rw : Int) (nu : Int) (xx : Int) (yy : Int) p q st sm c (qq : Int) ua uk uc w _ _ _ hCk (fun W => hSO W) (fun W => layout1 W) (fun W h => bytes_estimate1 kd rw nu xx yy qq ua uk uc dl W (by omega) (by omega) (by omega) (by omega) (by omega) (by omega) (hIW W h) hp.1 hp.2)
  · subst hz0
    have hbb := val_bal (val_ball (shF_ball h4 rfl)).1
    obtain ⟨xx, rfl⟩ := Int.eq_ofNat_of_zero_le (show 0 ≤ x from hbb.1)
    obtain ⟨yy, rfl⟩ := Int.eq_ofNat_of_zero_le (show 0 ≤ y from hbb.2.2.1)
    simp only at hbb
    exact menc_balloted 1 n (kd : Int) (rw : Int) (nu : Int) (xx : Int) (yy : Int) p q st sm c sq ua uk uc w _ _ _ hCk (fun W => hSO W) (fun W => layout1 W) (fun W h => bytes_balloted1 kd rw nu xx yy W (by omega) (by omega) (by omega) (by omega) (by omega))
  · subst hz0
    have hld := val_load (orL_cons.1 (orL_cons.1 h4).2).1
    have hz : chk 1 c = 0 := hld.1
    have hsq := val_seq hld.2.2.1
    have hdv := val_deps hld.2.2.2 hn
    have hp := packR_len (v := 1) (.inl rfl) hdv.2.1
    obtain ⟨qq, rfl⟩ := Int.eq_ofNat_of_zero_le (show 0 ≤ sq from hsq.1)
    simp only at hsq
    exact menc_commit 1 n (kd : Int) (rw : Int) (nu : Int) x y p q st sm c (qq : Int) ua uk uc w _ _ _ hCk (fun W => hSO W) (fun W => layout1 W) (fun W h => bytes_commit1 kd rw nu c qq ua uk uc dl W (by omega) (by omega) (by omega) (hCW W h) hk1 hk2 hn1 hn2 hz (by omega) (hIW W h) hp.1 hp.2)
  · subst hz0
    have hbb := val_bal (val_ball (shF_ball h4 rfl)).1
    obtain ⟨xx, rfl⟩ := Int.eq_ofNat_of_zero_le (show 0 ≤ x from hbb.1)
    obtain ⟨yy, rfl⟩ := Int.eq_ofNat_of_zero_le (show 0 ≤ y from hbb.2.2.1)
    simp only at hbb
    exact menc_noVote 1 n (kd : Int) (rw : Int) (nu : Int) (xx : Int) (yy : Int) p q st sm c sq ua uk uc w _ _ _ hCk (fun W => hSO W) (fun W => layout1 W) (fun W h => bytes_noVote1 kd rw nu xx yy W (by omega) (by omega) (by omega) (by omega) (by omega))
  · subst hz0
    have hbb := val_bal (val_ball (shF_ball h4 rfl)).1
    obtain ⟨xx, rfl⟩ := Int.eq_ofNat_of_zero_le (show 0 ≤ x from hbb.1)
    obtain ⟨yy, rfl⟩ := Int.eq_ofNat_of_zero_le (show 0 ≤ y from hbb.2.2.1)
    simp only at hbb
    have hvt := (unl_zero (show (54 : Int) ≠ 0 by decide)).1 (orL_cons.1 (orL_cons.1 (orL_cons.1 h4).2).2).1
    have hld := val_load (orL_cons.1 (orL_cons.1 (orL_cons.1 (orL_cons.1 h4).2).2).2).1
    have hvv := val_vote hvt
    obtain ⟨pp, rfl⟩ := Int.eq_ofNat_of_zero_le (show 0 ≤ p from hvv.2.1)
    obtain ⟨rr, rfl⟩ := Int.eq_ofNat_of_zero_le (show 0 ≤ q from hvv.2.2.2.1)
    obtain ⟨ss, rfl⟩ := Int.eq_ofNat_of_zero_le (show 0 ≤ st by have := hvv.1; simp only at this; omega)
    simp only at hvv
    have hz : chk 1 c = 0 := hld.1
    have hsq := val_seq hld.2.2.1
    have hdv := val_deps hld.2.2.2 hn
    have hp := packR_len (v := 1) (.inl rfl) hdv.2.1
    obtain ⟨qq, rfl⟩ := Int.eq_ofNat_of_zero_le (show 0 ≤ sq from hsq.1)
    simp only at hsq
    exact menc_vote 1 n (kd : Int) (rw : Int) (nu : Int) (xx : Int) (yy : Int) (pp : Int) (rr : Int) (ss : Int) sm c (qq : Int) ua uk uc w _ _ _ hCk (fun W => hSO W) (fun W => layout1 W) (fun W h => bytes_vote1 kd rw nu xx yy ss sm pp rr c qq ua uk uc dl W (by omega) (by omega) (by omega) (by omega) (by omega) (by omega) (by omega) (by omega) (hCW W h) hk1 hk2 hn1 hn2 hz (by omega) (hIW W h) hp.1 hp.2)
  · subst hz0
    have hbb := val_bal (val_ball (shF_ball h4 rfl)).1
    obtain ⟨xx, rfl⟩ := Int.eq_ofNat_of_zero_le (show 0 ≤ x from hbb.1)
    obtain ⟨yy, rfl⟩ := Int.eq_ofNat_of_zero_le (show 0 ≤ y from hbb.2.2.1)
    simp only at hbb
    have hnk := (unl_zero (show (54 : Int) ≠ 0 by decide)).1 (orL_cons.1 (orL_cons.1 (orL_cons.1 h4).2).2).1
    have hvv := val_nack hnk
    obtain ⟨pp, rfl⟩ := Int.eq_ofNat_of_zero_le (show 0 ≤ p from hvv.1)
    obtain ⟨rr, rfl⟩ := Int.eq_ofNat_of_zero_le (show 0 ≤ q from hvv.2.2.1)
    simp only at hvv
    exact menc_nack 1 n (kd : Int) (rw : Int) (nu : Int) (xx : Int) (yy : Int) (pp : Int) (rr : Int) st sm c sq ua uk uc w _ _ _ hCk (fun W => hSO W) (fun W => layout1 W) (fun W h => bytes_nack1 kd rw nu xx yy pp rr W (by omega) (by omega) (by omega) (by omega) (by omega) (by omega) (by omega))
set_option maxHeartbeats 4000000 in
theorem menc_good2 (n : Int) (k row num x y p q st : Int) (sm : Bool) (c : Cm) (sq : Int) (dl : List Int) (ua : Option Addr) (uk uc : Nat) (w : World) (hKc : Knd w) (hK : Kmd w) (hk1 : c.key.size ≤ 140737488351232) (hk2 : c.key2.size ≤ 140737488351232) (hn1 : -9223372036854775808 ≤ c.n) (hn2 : c.n ≤ 9223372036854775807) (hI : SegI w ua uk dl) (h0 : chkM 2 n ⟨k, row, num, x, y, p, q, st, sm, c, sq, dl⟩ = 0) :
    Calls Tryz.prog 11 #[.int .i64 2, .int .i64 n, .agg (mgc ⟨k, row, num, x, y, p, q, st, sm, c, sq, dl⟩ (.slice ua uk uc)).toArray] w fun r w' => ∃ u, r = .returned (.tuple #[u, .int .i64 0]) ∧ w'.ownsRow w.heap.size 5 1 u (msB 2 ⟨k, row, num, x, y, p, q, st, sm, c, sq, dl⟩).length ((msB 2 ⟨k, row, num, x, y, p, q, st, sm, c, sq, dl⟩).map (Value.int .u8)) ∧ Below w.heap.size w w' := by
  obtain ⟨h1, h2, h3, h4⟩ := val_msg h0
  have hn := (val_call h1).2
  have hin := val_inst (shF_inst h4)
  obtain ⟨kd, hkd, hkd9, hkd0⟩ := isMK_nat h2
  have hCk : Hid (∀ W, Below w.heap.size w W → Calls Tryz.prog 10 #[.int .i64 2, .int .i64 n, .agg (mgc ⟨k, row, num, x, y, p, q, st, sm, c, sq, dl⟩ (.slice ua uk uc)).toArray] W fun r w' => r = .returned (.int .i64 0) ∧ Below W.heap.size W w') := fun W hW => by
    have := mcheck_any 2 n ⟨k, row, num, x, y, p, q, st, sm, c, sq, dl⟩ ua uk uc W (hKc.below hW (Nat.le_refl _)) (hK.below hW (Nat.le_refl _)) hk1 hk2 (hI.below hW (Nat.le_refl _))
    rwa [h0] at this
  have hSO := fun W => shapeOf_any ⟨k, row, num, x, y, p, q, st, sm, c, sq, dl⟩ ua uk uc W
  have hCW : ∀ W, Below w.heap.size w W → Knd W := fun W h => hKc.below h (Nat.le_refl _)
  have hIW : ∀ W, Below w.heap.size w W → SegI W ua uk dl := fun W h => hI.below h (Nat.le_refl _)
  obtain rfl : k = (kd : Int) := hkd
  obtain ⟨rw, rfl⟩ := Int.eq_ofNat_of_zero_le (show 0 ≤ row from hin.1)
  obtain ⟨nu, rfl⟩ := Int.eq_ofNat_of_zero_le (show 0 ≤ num by have := hin.2.2.1; simp only at this; omega)
  simp only at hin
  have h7 := shK_le ⟨(kd : Int), (rw : Int), (nu : Int), x, y, p, q, st, sm, c, sq, dl⟩
  unfold msB
  unfold shV at hSO
  generalize shK ⟨(kd : Int), (rw : Int), (nu : Int), x, y, p, q, st, sm, c, sq, dl⟩ = z at *
  clear h0 h1 h2 h3
  rcases (by omega : z = 0 ∨ z = 1 ∨ z = 2 ∨ z = 3 ∨ z = 4 ∨ z = 5 ∨ z = 6 ∨ z = 7) with hz0 | hz0 | hz0 | hz0 | hz0 | hz0 | hz0 | hz0
  · subst hz0
    exact menc_bare 2 n (kd : Int) (rw : Int) (nu : Int) x y p q st sm c sq ua uk uc w _ _ _ hCk (fun W => hSO W) (fun W => layout2 2 (by decide) W) (fun W h => bytes_bare2 kd rw nu W (by omega) (by omega) (by omega))
  · subst hz0
    have hbb := val_bal (val_ball (shF_ball h4 rfl)).1
    obtain ⟨xx, rfl⟩ := Int.eq_ofNat_of_zero_le (show 0 ≤ x from hbb.1)
    obtain ⟨yy, rfl⟩ := Int.eq_ofNat_of_zero_le (show 0 ≤ y from hbb.2.2.1)
    simp only at hbb
    have hld := val_load (orL_cons.1 (orL_cons.1 (orL_cons.1 h4).2).2).1
    have hz : chk 2 c = 0 := hld.1
    have hsq := val_seq hld.2.2.1
    have hdv := val_deps hld.2.2.2 hn
    have hp := packR_len (v := 2) (.inr rfl) hdv.2.1
    obtain ⟨qq, rfl⟩ := Int.eq_ofNat_of_zero_le (show 0 ≤ sq from hsq.1)
    simp only at hsq
    exact menc_proposal 2 n (kd : Int) (rw : Int) (nu : Int) (xx : Int) (yy : Int) p q st sm c (qq : Int) ua uk uc w _ _ _ hCk (fun W => hSO W) (fun W => layout2 2 (by decide) W) (fun W h => bytes_proposal2 kd rw nu xx yy c qq ua uk uc dl W (by omega) (by omega) (by omega) (by omega) (by omega) (hCW W h) hk1 hk2 hn1 hn2 hz (by omega) (hIW W h) hp.1 hp.2)
  · subst hz0
    have hbb := val_bal (val_ball (shF_ball h4 rfl)).1
    obtain ⟨xx, rfl⟩ := Int.eq_ofNat_of_zero_le (show 0 ≤ x from hbb.1)
    obtain ⟨yy, rfl⟩ := Int.eq_ofNat_of_zero_le (show 0 ≤ y from hbb.2.2.1)
    simp only at hbb
    have hs5 := (unl_zero (show (55 : Int) ≠ 0 by decide)).1 (orL_cons.1 (orL_cons.1 (orL_cons.1 h4).2).2).1
    have hd5 := (unl_zero (show (56 : Int) ≠ 0 by decide)).1 (orL_cons.1 (orL_cons.1 (orL_cons.1 (orL_cons.1 h4).2).2).2).1
    have hsq := val_seq hs5
    have hdv := val_deps hd5 hn
    have hp := packR_len (v := 2) (.inr rfl) hdv.2.1
    obtain ⟨qq, rfl⟩ := Int.eq_ofNat_of_zero_le (show 0 ≤ sq from hsq.1)
    simp only at hsq
    exact menc_estimate 2 n (kd : Int) (rw : Int) (nu : Int) (xx : Int) (yy : Int) p q st sm c (qq : Int) ua uk uc w _ _ _ hCk (fun W => hSO W) (fun W => layout2 2 (by decide) W) (fun W h => bytes_estimate2 kd rw nu xx yy qq ua uk uc dl W (by omega) (by omega) (by omega) (by omega) (by omega) (by omega) (hIW W h) hp.1 hp.2)
  · subst hz0
    have hbb := val_bal (val_ball (shF_ball h4 rfl)).1
    obtain ⟨xx, rfl⟩ := Int.eq_ofNat_of_zero_le (show 0 ≤ x from hbb.1)
    obtain ⟨yy, rfl⟩ := Int.eq_ofNat_of_zero_le (show 0 ≤ y from hbb.2.2.1)
    simp only at hbb
    exact menc_balloted 2 n (kd : Int) (rw : Int) (nu : Int) (xx : Int) (yy : Int) p q st sm c sq ua uk uc w _ _ _ hCk (fun W => hSO W) (fun W => layout2 2 (by decide) W) (fun W h => bytes_balloted2 kd rw nu xx yy W (by omega) (by omega) (by omega) (by omega) (by omega))
  · subst hz0
    have hld := val_load (orL_cons.1 (orL_cons.1 h4).2).1
    have hz : chk 2 c = 0 := hld.1
    have hsq := val_seq hld.2.2.1
    have hdv := val_deps hld.2.2.2 hn
    have hp := packR_len (v := 2) (.inr rfl) hdv.2.1
    obtain ⟨qq, rfl⟩ := Int.eq_ofNat_of_zero_le (show 0 ≤ sq from hsq.1)
    simp only at hsq
    exact menc_commit 2 n (kd : Int) (rw : Int) (nu : Int) x y p q st sm c (qq : Int) ua uk uc w _ _ _ hCk (fun W => hSO W) (fun W => layout2 2 (by decide) W) (fun W h => bytes_commit2 kd rw nu c qq ua uk uc dl W (by omega) (by omega) (by omega) (hCW W h) hk1 hk2 hn1 hn2 hz (by omega) (hIW W h) hp.1 hp.2)
  · subst hz0
    have hbb := val_bal (val_ball (shF_ball h4 rfl)).1
    obtain ⟨xx, rfl⟩ := Int.eq_ofNat_of_zero_le (show 0 ≤ x from hbb.1)
    obtain ⟨yy, rfl⟩ := Int.eq_ofNat_of_zero_le (show 0 ≤ y from hbb.2.2.1)
    simp only at hbb
    exact menc_noVote 2 n (kd : Int) (rw : Int) (nu : Int) (xx : Int) (yy : Int) p q st sm c sq ua uk uc w _ _ _ hCk (fun W => hSO W) (fun W => layout2 2 (by decide) W) (fun W h => bytes_noVote2 kd rw nu xx yy W (by omega) (by omega) (by omega) (by omega) (by omega))
  · subst hz0
    have hbb := val_bal (val_ball (shF_ball h4 rfl)).1
    obtain ⟨xx, rfl⟩ := Int.eq_ofNat_of_zero_le (show 0 ≤ x from hbb.1)
    obtain ⟨yy, rfl⟩ := Int.eq_ofNat_of_zero_le (show 0 ≤ y from hbb.2.2.1)
    simp only at hbb
    have hvt := (unl_zero (show (54 : Int) ≠ 0 by decide)).1 (orL_cons.1 (orL_cons.1 (orL_cons.1 h4).2).2).1
    have hld := val_load (orL_cons.1 (orL_cons.1 (orL_cons.1 (orL_cons.1 h4).2).2).2).1
    have hvv := val_vote hvt
    obtain ⟨pp, rfl⟩ := Int.eq_ofNat_of_zero_le (show 0 ≤ p from hvv.2.1)
    obtain ⟨rr, rfl⟩ := Int.eq_ofNat_of_zero_le (show 0 ≤ q from hvv.2.2.2.1)
    obtain ⟨ss, rfl⟩ := Int.eq_ofNat_of_zero_le (show 0 ≤ st by have := hvv.1; simp only at this; omega)
    simp only at hvv
    have hz : chk 2 c = 0 := hld.1
    have hsq := val_seq hld.2.2.1
    have hdv := val_deps hld.2.2.2 hn
    have hp := packR_len (v := 2) (.inr rfl) hdv.2.1
    obtain ⟨qq, rfl⟩ := Int.eq_ofNat_of_zero_le (show 0 ≤ sq from hsq.1)
    simp only at hsq
    exact menc_vote 2 n (kd : Int) (rw : Int) (nu : Int) (xx : Int) (yy : Int) (pp : Int) (rr : Int) (ss : Int) sm c (qq : Int) ua uk uc w _ _ _ hCk (fun W => hSO W) (fun W => layout2 2 (by decide) W) (fun W h => bytes_vote2 kd rw nu xx yy ss sm pp rr c qq ua uk uc dl W (by omega) (by omega) (by omega) (by omega) (by omega) (by omega) (by omega) (by omega) (hCW W h) hk1 hk2 hn1 hn2 hz (by omega) (hIW W h) hp.1 hp.2)
  · subst hz0
    have hbb := val_bal (val_ball (shF_ball h4 rfl)).1
    obtain ⟨xx, rfl⟩ := Int.eq_ofNat_of_zero_le (show 0 ≤ x from hbb.1)
    obtain ⟨yy, rfl⟩ := Int.eq_ofNat_of_zero_le (show 0 ≤ y from hbb.2.2.1)
    simp only at hbb
    have hnk := (unl_zero (show (54 : Int) ≠ 0 by decide)).1 (orL_cons.1 (orL_cons.1 (orL_cons.1 h4).2).2).1
    have hvv := val_nack hnk
    obtain ⟨pp, rfl⟩ := Int.eq_ofNat_of_zero_le (show 0 ≤ p from hvv.1)
    obtain ⟨rr, rfl⟩ := Int.eq_ofNat_of_zero_le (show 0 ≤ q from hvv.2.2.1)
    simp only at hvv
    exact menc_nack 2 n (kd : Int) (rw : Int) (nu : Int) (xx : Int) (yy : Int) (pp : Int) (rr : Int) st sm c sq ua uk uc w _ _ _ hCk (fun W => hSO W) (fun W => layout2 2 (by decide) W) (fun W h => bytes_nack2 kd rw nu xx yy pp rr W (by omega) (by omega) (by omega) (by omega) (by omega) (by omega) (by omega))
theorem mencode_any (v n : Int) (m : Ms) (ua : Option Addr) (uk uc : Nat) (w : World) (hKc : Knd w) (hK : Kmd w) (hk1 : m.c.key.size ≤ 140737488351232) (hk2 : m.c.key2.size ≤ 140737488351232) (hn1 : -9223372036854775808 ≤ m.c.n) (hn2 : m.c.n ≤ 9223372036854775807) (hI : SegI w ua uk m.dl) :
    Calls Tryz.prog 11 #[.int .i64 v, .int .i64 n, .agg (mgc m (.slice ua uk uc)).toArray] w fun r w' => EnPost v n m w r w' := by
  unfold EnPost
  by_cases h0 : chkM v n m = 0
  · rw [h0, if_pos rfl]
    have hv := (val_call (val_msg h0).1).1
    obtain ⟨k, row, num, x, y, p, q, st, sm, c, sq, dl⟩ := m
    rcases hv with rfl | rfl
    · exact menc_good1 n k row num x y p q st sm c sq dl ua uk uc w hKc hK hk1 hk2 hn1 hn2 hI h0
    · exact menc_good2 n k row num x y p q st sm c sq dl ua uk uc w hKc hK hk1 hk2 hn1 hn2 hI h0
  · rw [if_neg h0]
    have hC : Hid (∀ W, Below w.heap.size w W → Calls Tryz.prog 10 #[.int .i64 v, .int .i64 n, .agg (mgc m (.slice ua uk uc)).toArray] W fun r w' => r = .returned (.int .i64 (chkM v n m)) ∧ Below W.heap.size W w') := fun W hW => mcheck_any v n m ua uk uc W (hKc.below hW (Nat.le_refl _)) (hK.below hW (Nat.le_refl _)) hk1 hk2 (hI.below hW (Nat.le_refl _))
    obtain ⟨k, row, num, x, y, p, q, st, sm, c, sq, dl⟩ := m
    refine (menc_no v n k row num x y p q st sm c sq ua uk uc w _ h0 hC).mono ?_
    rintro r w' ⟨rfl, hb⟩
    exact ⟨_, rfl, World.ownsRow_nil _ _ _ _, hb⟩
end Go.Proofs.YtooejihnifphkaaGreatDoor
