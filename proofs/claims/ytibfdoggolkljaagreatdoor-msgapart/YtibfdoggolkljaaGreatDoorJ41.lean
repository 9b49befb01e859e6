import Derived.Test.YtibfdoggolkljaaGreatDoorJ39
import Derived.Test.YtibfdoggolkljaaGreatDoorJ40
set_option maxHeartbeats 4000000
namespace Go.Proofs.YtibfdoggolkljaaGreatDoor
open Go.RowKit Go.Wire1
def EnPost (v n : Int) (m : Ms) (w : World) (r : Ending) (w' : World) : Prop := ∃ u, r = .returned (.tuple #[u, .int .i64 (chkM v n m)]) ∧ w'.ownsRow w.heap.size 5 1 u (if chkM v n m = 0 then msB v m else []).length ((if chkM v n m = 0 then msB v m else []).map (Value.int .u8)) ∧ Below w.heap.size w w'
theorem val_vote {n row x y st : Int} {sm : Bool} {p q : Int} (h : voteB n row x y st sm p q = true) : (st = 1 ∨ st = 2) ∧ 0 ≤ p ∧ p ≤ 65535 ∧ 0 ≤ q ∧ q < n ∧ (0 < p ∨ q = row) ∧ belB p q x y = true ∧ ((st = 1 ∧ p = 0) ∨ sm = false) := by
 unfold voteB at h
 simp only [Bool.and_eq_true, Bool.or_eq_true, beq_iff_eq, Bool.not_eq_true'] at h
 obtain ⟨h1, h2, h3, h4⟩ := h
 have hb := val_bal h2
 exact ⟨h1, hb.1, hb.2.1, hb.2.2.1, hb.2.2.2.1, hb.2.2.2.2, h3, h4⟩
theorem val_nack {n row x y p q : Int} (h : nackB n row x y p q = true) : 0 ≤ p ∧ p ≤ 65535 ∧ 0 ≤ q ∧ q < n ∧ (0 < p ∨ q = row) ∧ belB x y p q = true := by
 unfold nackB at h
 rw [Bool.and_eq_true] at h
 have hb := val_bal h.1
 exact ⟨hb.1, hb.2.1, hb.2.2.1, hb.2.2.2.1, hb.2.2.2.2, h.2⟩
theorem menc_good1 (n : Int) (k row num x y p q st : Int) (sm : Bool) (c : Cm) (sq : Int) (dl : List Int) (ua : Option Addr) (uk uc : Nat) (w : World) (hKc : Knd w) (hK : Kmd w) (hk1 : c.key.size ≤ 140737488351232) (hk2 : c.key2.size ≤ 140737488351232) (hn1 : -9223372036854775808 ≤ c.n) (hn2 : c.n ≤ 9223372036854775807) (hI : SegI w ua uk dl) (h0 : chkM 1 n ⟨k, row, num, x, y, p, q, st, sm, c, sq, dl⟩ = 0) :
  Calls Tryz.prog 5 #[.int .i64 1, .int .i64 n, .agg (mgc ⟨k, row, num, x, y, p, q, st, sm, c, sq, dl⟩ (.slice ua uk uc)).toArray] w fun r w' => ∃ u, r = .returned (.tuple #[u, .int .i64 0]) ∧ w'.ownsRow w.heap.size 5 1 u (msB 1 ⟨k, row, num, x, y, p, q, st, sm, c, sq, dl⟩).length ((msB 1 ⟨k, row, num, x, y, p, q, st, sm, c, sq, dl⟩).map (Value.int .u8)) ∧ Below w.heap.size w w' := by
 obtain ⟨h1, h2, h3, h4⟩ := val_msg h0
 have hn := (val_call h1).2
 have hin := val_inst (shF_inst h4)
 obtain ⟨kd, hkd, hkd9, hkd0⟩ := isMK_nat h2
 have hCk : Hid (∀ W, Below w.heap.size w W → Calls Tryz.prog 12 #[.int .i64 1, .int .i64 n, .agg (mgc ⟨k, row, num, x, y, p, q, st, sm, c, sq, dl⟩ (.slice ua uk uc)).toArray] W fun r w' => r = .returned (.int .i64 0) ∧ Below W.heap.size W w') := fun W hW => by
  have := mcheck_any 1 n ⟨k, row, num, x, y, p, q, st, sm, c, sq, dl⟩ ua uk uc W (hKc.below hW zN) (hK.below hW zN) hk1 hk2 (hI.below hW zN)
  rwa [h0] at this
 have hSO := fun W => shapeOf_any ⟨k, row, num, x, y, p, q, st, sm, c, sq, dl⟩ ua uk uc W
 have hCW : ∀ W, Below w.heap.size w W → Knd W := fun W h => hKc.below h zN
 have hIW : ∀ W, Below w.heap.size w W → SegI W ua uk dl := fun W h => hI.below h zN
 obtain rfl : k = (kd : Int) := hkd
 obtain ⟨rw, rfl⟩ := zI (show 0 ≤ row from hin.1)
 obtain ⟨nu, rfl⟩ := zI (show 0 ≤ num by have := hin.2.2.1; simp only at this; omega)
 simp only at hin
 have h7 := shK_le ⟨(kd : Int), (rw : Int), (nu : Int), x, y, p, q, st, sm, c, sq, dl⟩
 unfold msB
 unfold shV at hSO
 generalize shK ⟨(kd : Int), (rw : Int), (nu : Int), x, y, p, q, st, sm, c, sq, dl⟩ = z at *
 clear h0 h1 h2 h3
 rcases (by omega : z = 0 ∨ z = 1 ∨ z = 2 ∨ z = 3 ∨ z = 4 ∨ z = 5 ∨ z = 6 ∨ z = 7) with hz0 | hz0 | hz0 | hz0 | hz0 | hz0 | hz0 | hz0
 ·subst hz0
  exact menc_bare 1 n (kd : Int) (rw : Int) (nu : Int) x y p q st sm c sq ua uk uc w _ _ _ hCk (fun W => hSO W) (fun W => layout1 W) (fun W h => bytes_bare lc1 kd rw nu W (by omega) (by omega) (by omega))
 ·subst hz0
  have hbb := val_bal (val_ball (shF_ball h4 rfl)).1
  obtain ⟨xx, rfl⟩ := zI (show 0 ≤ x from hbb.1)
  obtain ⟨yy, rfl⟩ := zI (show 0 ≤ y from hbb.2.2.1)
  simp only at hbb
  have hld := val_load (orL_cons.1 (orL_cons.1 (orL_cons.1 h4).2).2).1
  have hz : chk 1 c = 0 := hld.1
  have hsq := val_seq hld.2.2.1
  have hdv := val_deps hld.2.2.2 hn
  have hp := packR_len (v := 1) (.inl rfl) hdv.2.1
  obtain ⟨qq, rfl⟩ := zI (show 0 ≤ sq from hsq.1)
  simp only at hsq
  exact menc_proposal 1 n (kd : Int) (rw : Int) (nu : Int) (xx : Int) (yy : Int) p q st sm c (qq : Int) ua uk uc w _ _ _ hCk (fun W => hSO W) (fun W => layout1 W) (fun W h => bytes_proposal lc1 kd rw nu xx yy c qq ua uk uc dl W (by omega) (by omega) (by omega) (by omega) (by omega) (hCW W h) hk1 hk2 hn1 hn2 hz (by omega) (hIW W h) hp.1 hp.2)
 ·subst hz0
  have hbb := val_bal (val_ball (shF_ball h4 rfl)).1
  obtain ⟨xx, rfl⟩ := zI (show 0 ≤ x from hbb.1)
  obtain ⟨yy, rfl⟩ := zI (show 0 ≤ y from hbb.2.2.1)
  simp only at hbb
  have hs5 := (unl_zero (show (55 : Int) ≠ 0 by decide)).1 (orL_cons.1 (orL_cons.1 (orL_cons.1 h4).2).2).1
  have hd5 := (unl_zero (show (56 : Int) ≠ 0 by decide)).1 (orL_cons.1 (orL_cons.1 (orL_cons.1 (orL_cons.1 h4).2).2).2).1
  have hsq := val_seq hs5
  have hdv := val_deps hd5 hn
  have hp := packR_len (v := 1) (.inl rfl) hdv.2.1
  obtain ⟨qq, rfl⟩ := zI (show 0 ≤ sq from hsq.1)
  simp only at hsq
  exact menc_estimate 1 n (kd : Int) (rw : Int) (nu : Int) (xx : Int) (yy : Int) p q st sm c (qq : Int) ua uk uc w _ _ _ hCk (fun W => hSO W) (fun W => layout1 W) (fun W h => bytes_estimate lc1 kd rw nu xx yy qq ua uk uc dl W (by omega) (by omega) (by omega) (by omega) (by omega) (by omega) (hIW W h) hp.1 hp.2)
 ·subst hz0
  have hbb := val_bal (val_ball (shF_ball h4 rfl)).1
  obtain ⟨xx, rfl⟩ := zI (show 0 ≤ x from hbb.1)
  obtain ⟨yy, rfl⟩ := zI (show 0 ≤ y from hbb.2.2.1)
  simp only at hbb
  exact menc_balloted 1 n (kd : Int) (rw : Int) (nu : Int) (xx : Int) (yy : Int) p q st sm c sq ua uk uc w _ _ _ hCk (fun W => hSO W) (fun W => layout1 W) (fun W h => bytes_balloted lc1 kd rw nu xx yy W (by omega) (by omega) (by omega) (by omega) (by omega))
 ·subst hz0
  have hld := val_load (orL_cons.1 (orL_cons.1 h4).2).1
  have hz : chk 1 c = 0 := hld.1
  have hsq := val_seq hld.2.2.1
  have hdv := val_deps hld.2.2.2 hn
  have hp := packR_len (v := 1) (.inl rfl) hdv.2.1
  obtain ⟨qq, rfl⟩ := zI (show 0 ≤ sq from hsq.1)
  simp only at hsq
  exact menc_commit 1 n (kd : Int) (rw : Int) (nu : Int) x y p q st sm c (qq : Int) ua uk uc w _ _ _ hCk (fun W => hSO W) (fun W => layout1 W) (fun W h => bytes_commit lc1 kd rw nu c qq ua uk uc dl W (by omega) (by omega) (by omega) (hCW W h) hk1 hk2 hn1 hn2 hz (by omega) (hIW W h) hp.1 hp.2)
 ·subst hz0
  have hbb := val_bal (val_ball (shF_ball h4 rfl)).1
  obtain ⟨xx, rfl⟩ := zI (show 0 ≤ x from hbb.1)
  obtain ⟨yy, rfl⟩ := zI (show 0 ≤ y from hbb.2.2.1)
  simp only at hbb
  exact menc_noVote 1 n (kd : Int) (rw : Int) (nu : Int) (xx : Int) (yy : Int) p q st sm c sq ua uk uc w _ _ _ hCk (fun W => hSO W) (fun W => layout1 W) (fun W h => bytes_noVote lc1 kd rw nu xx yy W (by omega) (by omega) (by omega) (by omega) (by omega))
 ·subst hz0
  have hbb := val_bal (val_ball (shF_ball h4 rfl)).1
  obtain ⟨xx, rfl⟩ := zI (show 0 ≤ x from hbb.1)
  obtain ⟨yy, rfl⟩ := zI (show 0 ≤ y from hbb.2.2.1)
  simp only at hbb
  have hvt := (unl_zero (show (54 : Int) ≠ 0 by decide)).1 (orL_cons.1 (orL_cons.1 (orL_cons.1 h4).2).2).1
  have hld := val_load (orL_cons.1 (orL_cons.1 (orL_cons.1 (orL_cons.1 h4).2).2).2).1
  have hvv := val_vote hvt
  obtain ⟨pp, rfl⟩ := zI (show 0 ≤ p from hvv.2.1)
  obtain ⟨rr, rfl⟩ := zI (show 0 ≤ q from hvv.2.2.2.1)
  obtain ⟨ss, rfl⟩ := zI (show 0 ≤ st by have := hvv.1; simp only at this; omega)
  simp only at hvv
  have hz : chk 1 c = 0 := hld.1
  have hsq := val_seq hld.2.2.1
  have hdv := val_deps hld.2.2.2 hn
  have hp := packR_len (v := 1) (.inl rfl) hdv.2.1
  obtain ⟨qq, rfl⟩ := zI (show 0 ≤ sq from hsq.1)
  simp only at hsq
  exact menc_vote 1 n (kd : Int) (rw : Int) (nu : Int) (xx : Int) (yy : Int) (pp : Int) (rr : Int) (ss : Int) sm c (qq : Int) ua uk uc w _ _ _ hCk (fun W => hSO W) (fun W => layout1 W) (fun W h => bytes_vote lc1 kd rw nu xx yy ss sm pp rr c qq ua uk uc dl W (by omega) (by omega) (by omega) (by omega) (by omega) (by omega) (by omega) (by omega) (hCW W h) hk1 hk2 hn1 hn2 hz (by omega) (hIW W h) hp.1 hp.2)
 ·subst hz0
  have hbb := val_bal (val_ball (shF_ball h4 rfl)).1
  obtain ⟨xx, rfl⟩ := zI (show 0 ≤ x from hbb.1)
  obtain ⟨yy, rfl⟩ := zI (show 0 ≤ y from hbb.2.2.1)
  simp only at hbb
  have hnk := (unl_zero (show (54 : Int) ≠ 0 by decide)).1 (orL_cons.1 (orL_cons.1 (orL_cons.1 h4).2).2).1
  have hvv := val_nack hnk
  obtain ⟨pp, rfl⟩ := zI (show 0 ≤ p from hvv.1)
  obtain ⟨rr, rfl⟩ := zI (show 0 ≤ q from hvv.2.2.1)
  simp only at hvv
  exact menc_nack 1 n (kd : Int) (rw : Int) (nu : Int) (xx : Int) (yy : Int) (pp : Int) (rr : Int) st sm c sq ua uk uc w _ _ _ hCk (fun W => hSO W) (fun W => layout1 W) (fun W h => bytes_nack lc1 kd rw nu xx yy pp rr W (by omega) (by omega) (by omega) (by omega) (by omega) (by omega) (by omega))
theorem menc_good2 (n : Int) (k row num x y p q st : Int) (sm : Bool) (c : Cm) (sq : Int) (dl : List Int) (ua : Option Addr) (uk uc : Nat) (w : World) (hKc : Knd w) (hK : Kmd w) (hk1 : c.key.size ≤ 140737488351232) (hk2 : c.key2.size ≤ 140737488351232) (hn1 : -9223372036854775808 ≤ c.n) (hn2 : c.n ≤ 9223372036854775807) (hI : SegI w ua uk dl) (h0 : chkM 2 n ⟨k, row, num, x, y, p, q, st, sm, c, sq, dl⟩ = 0) :
  Calls Tryz.prog 5 #[.int .i64 2, .int .i64 n, .agg (mgc ⟨k, row, num, x, y, p, q, st, sm, c, sq, dl⟩ (.slice ua uk uc)).toArray] w fun r w' => ∃ u, r = .returned (.tuple #[u, .int .i64 0]) ∧ w'.ownsRow w.heap.size 5 1 u (msB 2 ⟨k, row, num, x, y, p, q, st, sm, c, sq, dl⟩).length ((msB 2 ⟨k, row, num, x, y, p, q, st, sm, c, sq, dl⟩).map (Value.int .u8)) ∧ Below w.heap.size w w' := by
 obtain ⟨h1, h2, h3, h4⟩ := val_msg h0
 have hn := (val_call h1).2
 have hin := val_inst (shF_inst h4)
 obtain ⟨kd, hkd, hkd9, hkd0⟩ := isMK_nat h2
 have hCk : Hid (∀ W, Below w.heap.size w W → Calls Tryz.prog 12 #[.int .i64 2, .int .i64 n, .agg (mgc ⟨k, row, num, x, y, p, q, st, sm, c, sq, dl⟩ (.slice ua uk uc)).toArray] W fun r w' => r = .returned (.int .i64 0) ∧ Below W.heap.size W w') := fun W hW => by
  have := mcheck_any 2 n ⟨k, row, num, x, y, p, q, st, sm, c, sq, dl⟩ ua uk uc W (hKc.below hW zN) (hK.below hW zN) hk1 hk2 (hI.below hW zN)
  rwa [h0] at this
 have hSO := fun W => shapeOf_any ⟨k, row, num, x, y, p, q, st, sm, c, sq, dl⟩ ua uk uc W
 have hCW : ∀ W, Below w.heap.size w W → Knd W := fun W h => hKc.below h zN
 have hIW : ∀ W, Below w.heap.size w W → SegI W ua uk dl := fun W h => hI.below h zN
 obtain rfl : k = (kd : Int) := hkd
 obtain ⟨rw, rfl⟩ := zI (show 0 ≤ row from hin.1)
 obtain ⟨nu, rfl⟩ := zI (show 0 ≤ num by have := hin.2.2.1; simp only at this; omega)
 simp only at hin
 have h7 := shK_le ⟨(kd : Int), (rw : Int), (nu : Int), x, y, p, q, st, sm, c, sq, dl⟩
 unfold msB
 unfold shV at hSO
 generalize shK ⟨(kd : Int), (rw : Int), (nu : Int), x, y, p, q, st, sm, c, sq, dl⟩ = z at *
 clear h0 h1 h2 h3
 rcases (by omega : z = 0 ∨ z = 1 ∨ z = 2 ∨ z = 3 ∨ z = 4 ∨ z = 5 ∨ z = 6 ∨ z = 7) with hz0 | hz0 | hz0 | hz0 | hz0 | hz0 | hz0 | hz0
 ·subst hz0
  exact menc_bare 2 n (kd : Int) (rw : Int) (nu : Int) x y p q st sm c sq ua uk uc w _ _ _ hCk (fun W => hSO W) (fun W => layout2 2 (by decide) W) (fun W h => bytes_bare lc2 kd rw nu W (by omega) (by omega) (by omega))
 ·subst hz0
  have hbb := val_bal (val_ball (shF_ball h4 rfl)).1
  obtain ⟨xx, rfl⟩ := zI (show 0 ≤ x from hbb.1)
  obtain ⟨yy, rfl⟩ := zI (show 0 ≤ y from hbb.2.2.1)
  simp only at hbb
  have hld := val_load (orL_cons.1 (orL_cons.1 (orL_cons.1 h4).2).2).1
  have hz : chk 2 c = 0 := hld.1
  have hsq := val_seq hld.2.2.1
  have hdv := val_deps hld.2.2.2 hn
  have hp := packR_len (v := 2) (.inr rfl) hdv.2.1
  obtain ⟨qq, rfl⟩ := zI (show 0 ≤ sq from hsq.1)
  simp only at hsq
  exact menc_proposal 2 n (kd : Int) (rw : Int) (nu : Int) (xx : Int) (yy : Int) p q st sm c (qq : Int) ua uk uc w _ _ _ hCk (fun W => hSO W) (fun W => layout2 2 (by decide) W) (fun W h => bytes_proposal lc2 kd rw nu xx yy c qq ua uk uc dl W (by omega) (by omega) (by omega) (by omega) (by omega) (hCW W h) hk1 hk2 hn1 hn2 hz (by omega) (hIW W h) hp.1 hp.2)
 ·subst hz0
  have hbb := val_bal (val_ball (shF_ball h4 rfl)).1
  obtain ⟨xx, rfl⟩ := zI (show 0 ≤ x from hbb.1)
  obtain ⟨yy, rfl⟩ := zI (show 0 ≤ y from hbb.2.2.1)
  simp only at hbb
  have hs5 := (unl_zero (show (55 : Int) ≠ 0 by decide)).1 (orL_cons.1 (orL_cons.1 (orL_cons.1 h4).2).2).1
  have hd5 := (unl_zero (show (56 : Int) ≠ 0 by decide)).1 (orL_cons.1 (orL_cons.1 (orL_cons.1 (orL_cons.1 h4).2).2).2).1
  have hsq := val_seq hs5
  have hdv := val_deps hd5 hn
  have hp := packR_len (v := 2) (.inr rfl) hdv.2.1
  obtain ⟨qq, rfl⟩ := zI (show 0 ≤ sq from hsq.1)
  simp only at hsq
  exact menc_estimate 2 n (kd : Int) (rw : Int) (nu : Int) (xx : Int) (yy : Int) p q st sm c (qq : Int) ua uk uc w _ _ _ hCk (fun W => hSO W) (fun W => layout2 2 (by decide) W) (fun W h => bytes_estimate lc2 kd rw nu xx yy qq ua uk uc dl W (by omega) (by omega) (by omega) (by omega) (by omega) (by omega) (hIW W h) hp.1 hp.2)
 ·subst hz0
  have hbb := val_bal (val_ball (shF_ball h4 rfl)).1
  obtain ⟨xx, rfl⟩ := zI (show 0 ≤ x from hbb.1)
  obtain ⟨yy, rfl⟩ := zI (show 0 ≤ y from hbb.2.2.1)
  simp only at hbb
  exact menc_balloted 2 n (kd : Int) (rw : Int) (nu : Int) (xx : Int) (yy : Int) p q st sm c sq ua uk uc w _ _ _ hCk (fun W => hSO W) (fun W => layout2 2 (by decide) W) (fun W h => bytes_balloted lc2 kd rw nu xx yy W (by omega) (by omega) (by omega) (by omega) (by omega))
 ·subst hz0
  have hld := val_load (orL_cons.1 (orL_cons.1 h4).2).1
  have hz : chk 2 c = 0 := hld.1
  have hsq := val_seq hld.2.2.1
  have hdv := val_deps hld.2.2.2 hn
  have hp := packR_len (v := 2) (.inr rfl) hdv.2.1
  obtain ⟨qq, rfl⟩ := zI (show 0 ≤ sq from hsq.1)
  simp only at hsq
  exact menc_commit 2 n (kd : Int) (rw : Int) (nu : Int) x y p q st sm c (qq : Int) ua uk uc w _ _ _ hCk (fun W => hSO W) (fun W => layout2 2 (by decide) W) (fun W h => bytes_commit lc2 kd rw nu c qq ua uk uc dl W (by omega) (by omega) (by omega) (hCW W h) hk1 hk2 hn1 hn2 hz (by omega) (hIW W h) hp.1 hp.2)
 ·subst hz0
  have hbb := val_bal (val_ball (shF_ball h4 rfl)).1
  obtain ⟨xx, rfl⟩ := zI (show 0 ≤ x from hbb.1)
  obtain ⟨yy, rfl⟩ := zI (show 0 ≤ y from hbb.2.2.1)
  simp only at hbb
  exact menc_noVote 2 n (kd : Int) (rw : Int) (nu : Int) (xx : Int) (yy : Int) p q st sm c sq ua uk uc w _ _ _ hCk (fun W => hSO W) (fun W => layout2 2 (by decide) W) (fun W h => bytes_noVote lc2 kd rw nu xx yy W (by omega) (by omega) (by omega) (by omega) (by omega))
 ·subst hz0
  have hbb := val_bal (val_ball (shF_ball h4 rfl)).1
  obtain ⟨xx, rfl⟩ := zI (show 0 ≤ x from hbb.1)
  obtain ⟨yy, rfl⟩ := zI (show 0 ≤ y from hbb.2.2.1)
  simp only at hbb
  have hvt := (unl_zero (show (54 : Int) ≠ 0 by decide)).1 (orL_cons.1 (orL_cons.1 (orL_cons.1 h4).2).2).1
  have hld := val_load (orL_cons.1 (orL_cons.1 (orL_cons.1 (orL_cons.1 h4).2).2).2).1
  have hvv := val_vote hvt
  obtain ⟨pp, rfl⟩ := zI (show 0 ≤ p from hvv.2.1)
  obtain ⟨rr, rfl⟩ := zI (show 0 ≤ q from hvv.2.2.2.1)
  obtain ⟨ss, rfl⟩ := zI (show 0 ≤ st by have := hvv.1; simp only at this; omega)
  simp only at hvv
  have hz : chk 2 c = 0 := hld.1
  have hsq := val_seq hld.2.2.1
  have hdv := val_deps hld.2.2.2 hn
  have hp := packR_len (v := 2) (.inr rfl) hdv.2.1
  obtain ⟨qq, rfl⟩ := zI (show 0 ≤ sq from hsq.1)
  simp only at hsq
  exact menc_vote 2 n (kd : Int) (rw : Int) (nu : Int) (xx : Int) (yy : Int) (pp : Int) (rr : Int) (ss : Int) sm c (qq : Int) ua uk uc w _ _ _ hCk (fun W => hSO W) (fun W => layout2 2 (by decide) W) (fun W h => bytes_vote lc2 kd rw nu xx yy ss sm pp rr c qq ua uk uc dl W (by omega) (by omega) (by omega) (by omega) (by omega) (by omega) (by omega) (by omega) (hCW W h) hk1 hk2 hn1 hn2 hz (by omega) (hIW W h) hp.1 hp.2)
 ·subst hz0
  have hbb := val_bal (val_ball (shF_ball h4 rfl)).1
  obtain ⟨xx, rfl⟩ := zI (show 0 ≤ x from hbb.1)
  obtain ⟨yy, rfl⟩ := zI (show 0 ≤ y from hbb.2.2.1)
  simp only at hbb
  have hnk := (unl_zero (show (54 : Int) ≠ 0 by decide)).1 (orL_cons.1 (orL_cons.1 (orL_cons.1 h4).2).2).1
  have hvv := val_nack hnk
  obtain ⟨pp, rfl⟩ := zI (show 0 ≤ p from hvv.1)
  obtain ⟨rr, rfl⟩ := zI (show 0 ≤ q from hvv.2.2.1)
  simp only at hvv
  exact menc_nack 2 n (kd : Int) (rw : Int) (nu : Int) (xx : Int) (yy : Int) (pp : Int) (rr : Int) st sm c sq ua uk uc w _ _ _ hCk (fun W => hSO W) (fun W => layout2 2 (by decide) W) (fun W h => bytes_nack lc2 kd rw nu xx yy pp rr W (by omega) (by omega) (by omega) (by omega) (by omega) (by omega) (by omega))
theorem mencode_any (v n : Int) (m : Ms) (ua : Option Addr) (uk uc : Nat) (w : World) (hKc : Knd w) (hK : Kmd w) (hk1 : m.c.key.size ≤ 140737488351232) (hk2 : m.c.key2.size ≤ 140737488351232) (hn1 : -9223372036854775808 ≤ m.c.n) (hn2 : m.c.n ≤ 9223372036854775807) (hI : SegI w ua uk m.dl) :
  Calls Tryz.prog 5 #[.int .i64 v, .int .i64 n, .agg (mgc m (.slice ua uk uc)).toArray] w fun r w' => EnPost v n m w r w' := by
 unfold EnPost
 by_cases h0 : chkM v n m = 0
 ·rw [h0, if_pos rfl]
  have hv := (val_call (val_msg h0).1).1
  obtain ⟨k, row, num, x, y, p, q, st, sm, c, sq, dl⟩ := m
  rcases hv with rfl | rfl
  ·exact menc_good1 n k row num x y p q st sm c sq dl ua uk uc w hKc hK hk1 hk2 hn1 hn2 hI h0
  ·exact menc_good2 n k row num x y p q st sm c sq dl ua uk uc w hKc hK hk1 hk2 hn1 hn2 hI h0
 ·rw [if_neg h0]
  have hC : Hid (∀ W, Below w.heap.size w W → Calls Tryz.prog 12 #[.int .i64 v, .int .i64 n, .agg (mgc m (.slice ua uk uc)).toArray] W fun r w' => r = .returned (.int .i64 (chkM v n m)) ∧ Below W.heap.size W w') := fun W hW => mcheck_any v n m ua uk uc W (hKc.below hW zN) (hK.below hW zN) hk1 hk2 (hI.below hW zN)
  obtain ⟨k, row, num, x, y, p, q, st, sm, c, sq, dl⟩ := m
  refine (menc_no v n k row num x y p q st sm c sq ua uk uc w _ h0 hC).mono ?_
  rintro r w' ⟨rfl, hb⟩
  exact ⟨_, rfl, World.ownsRow_nil _ _ _ _, hb⟩
open Go.RowKit Go.Wire1
structure Rds {α : Type} (R : List Int → Int → α × List Int × Int) (B : List Int) (a : α) : Prop where
 full : ∀ r, R (B ++ r) 0 = (a, r, 0)
 cut : ∀ k, k < B.length → (R (B.take k) 0).2.2 = 11
def Stk {α : Type} (R : List Int → Int → α × List Int × Int) : Prop := ∀ l f, f ≠ 0 → (R l f).2.2 = f
theorem refF_stk {e f : Int} (h : f ≠ 0) : refF e f = f := by unfold refF; rw [if_neg h]
theorem refF_z {e : Int} : refF e 0 = e := rfl
theorem take_l {B C : List Int} {k : Nat} (h : k < B.length) : (B ++ C).take k = B.take k := by rw [List.take_append, show k - B.length = 0 by omega]; simp
theorem take_r {B C : List Int} {k : Nat} (h : ¬ k < B.length) : (B ++ C).take k = B ++ C.take (k - B.length) := by rw [List.take_append, List.take_of_length_le (by omega)]
theorem num_stk : Stk iNum := fun l f h => by unfold iNum; rw [if_neg h]
theorem num_rds {x : Nat} (hx : x < 18446744073709551616) : Rds iNum (enc x) x := by
 refine ⟨fun r => ?_, fun k hk => ?_⟩
 ·unfold iNum; rw [if_pos rfl, dec_enc x r hx]; simp
 ·unfold iNum; rw [if_pos rfl, dec_cut x k hk]; rfl
theorem next_stk : Stk iNext := fun l f h => by unfold iNext; rw [if_neg h]
theorem next_rds (x : Int) : Rds iNext [x] x := by
 refine ⟨fun r => by unfold iNext; rw [if_pos rfl]; rfl, fun k hk => ?_⟩
 obtain rfl : k = 0 := by simpa using hk
 rfl
theorem two_stk : Stk iTwo := fun l f h => by
 unfold iTwo
 show (iNum (iNum l f).2.1 (iNum l f).2.2).2.2 = f
 rw [num_stk l f h]; exact num_stk _ f h
theorem top31_nat {x : Nat} (h : x ≤ 2147483647) : top31 x = (x : Int) := by unfold top31; omega
theorem two_rds {x y : Nat} (hx : x ≤ 2147483647) (hy : y ≤ 2147483647) : Rds iTwo (enc x ++ enc y) ((x : Int), (y : Int)) := by
 have rx := num_rds (x := x) (by omega)
 have ry := num_rds (x := y) (by omega)
 refine ⟨fun r => ?_, fun k hk => ?_⟩
 ·unfold iTwo
  rw [List.append_assoc, rx.full]
  simp only [ry.full, top31_nat hx, top31_nat hy]
 ·unfold iTwo
  show (iNum (iNum ((enc x ++ enc y).take k) 0).2.1 (iNum ((enc x ++ enc y).take k) 0).2.2).2.2 = 11
  by_cases h : k < (enc x).length
  ·rw [take_l h, rx.cut k h]; exact num_stk _ 11 (by decide)
  ·rw [take_r h, rx.full]
   rw [zL] at hk
   exact ry.cut _ (by omega)
theorem pack_stk : Stk iPack := fun l f h => by unfold iPack; exact num_stk l f h
theorem pack_rds {x y : Nat} (hx : x ≤ 2147483647) (hy : y ≤ 7) : Rds iPack (enc (8 * x + y)) ((x : Int), (y : Int)) := by
 have rx := num_rds (x := 8 * x + y) (by omega)
 refine ⟨fun r => ?_, fun k hk => ?_⟩
 ·unfold iPack
  rw [rx.full]
  simp only
  rw [show (8 * x + y) / 8 = x by omega, show (8 * x + y) % 8 = y by omega, top31_nat hx]
 ·unfold iPack; exact rx.cut k hk
theorem inst_stk (v : Int) : Stk (iInst v) := fun l f h => by
 unfold iInst
 split
 ·exact two_stk l f h
 ·exact pack_stk l f h
theorem inst_rds (v : Int) {x y : Nat} (hx : x ≤ 7) (hy : y ≤ 2147483647) : Rds (iInst v) (insP v x y) ((x : Int), (y : Int)) := by
 unfold insP
 by_cases hv : v = 1
 ·rw [if_pos hv]
  have t := two_rds (x := x) (y := y) (by omega) hy
  exact ⟨fun r => by unfold iInst; rw [if_pos hv]; exact t.full r, fun k hk => by unfold iInst; rw [if_pos hv]; exact t.cut k hk⟩
 ·rw [if_neg hv]
  have t := pack_rds (x := y) (y := x) hy hx
  exact ⟨fun r => by unfold iInst; rw [if_neg hv, t.full r], fun k hk => by unfold iInst; rw [if_neg hv]; exact t.cut k hk⟩
theorem bal_stk (v : Int) : Stk (iBal v) := fun l f h => by
 unfold iBal
 split
 ·exact two_stk l f h
 ·exact pack_stk l f h
theorem bal_rds (v : Int) {x y : Nat} (hx : x ≤ 2147483647) (hy : y ≤ 7) : Rds (iBal v) (balP v x y) ((x : Int), (y : Int)) := by
 unfold balP
 by_cases hv : v = 1
 ·rw [if_pos hv]
  have t := two_rds (x := x) (y := y) hx (by omega)
  exact ⟨fun r => by unfold iBal; rw [if_pos hv]; exact t.full r, fun k hk => by unfold iBal; rw [if_pos hv]; exact t.cut k hk⟩
 ·rw [if_neg hv]
  have t := pack_rds (x := x) (y := y) hx hy
  exact ⟨fun r => by unfold iBal; rw [if_neg hv]; exact t.full r, fun k hk => by unfold iBal; rw [if_neg hv]; exact t.cut k hk⟩
theorem balF_stk (v n : Int) (kd : Nat) (row : Int) : Stk (iBalF v n kd row) := fun l f h => by
 unfold iBalF
 show refF _ (iBal v l f).2.2 = f
 rw [bal_stk v l f h]; exact refF_stk h
theorem balF_rds (v n : Int) (kd : Nat) (row : Int) {x y : Nat} (hx : x ≤ 2147483647) (hy : y ≤ 7) (hb : ballB kd n row (x : Int) (y : Int) = true) : Rds (iBalF v n kd row) (balP v x y) ((x : Int), (y : Int)) := by
 have t := bal_rds v hx hy
 refine ⟨fun r => ?_, fun k hk => ?_⟩
 ·unfold iBalF; rw [t.full]; simp only [hb, refF_z]; rfl
 ·unfold iBalF
  show refF _ (iBal v _ 0).2.2 = 11
  rw [t.cut k hk]; exact refF_stk (by decide)
theorem head_rds (v n : Int) {kd row num : Nat} (hr : row ≤ 7) (hn : num ≤ 2147483647) (hk : isMK v (kd : Int) = true) (hi : instB n (row : Int) (num : Int) = true) : Rds (iHead v n) (staP v kd row num) ((kd : Int), (row : Int), (num : Int)) := by
 have t := inst_rds v hr hn
 have nx := next_rds (kd : Int)
 have e : staP v kd row num = [(kd : Int)] ++ insP v row num := rfl
 refine ⟨fun r => ?_, fun k hk2 => ?_⟩
 ·unfold iHead
  rw [e, List.append_assoc, nx.full]
  simp only [hk, unl, refF_z, if_true, t.full, hi]
 ·unfold iHead
  show refF _ (iInst v _ (refF _ (iNext ((staP v kd row num).take k) 0).2.2)).2.2 = 11
  rw [e] at hk2 ⊢
  by_cases h : k < [(kd : Int)].length
  ·rw [take_l h, nx.cut k h]
   simp only [refF_stk (show (11 : Int) ≠ 0 by decide), fun l => inst_stk v l 11 (by decide)]
  ·rw [take_r h, nx.full]
   simp only [hk, unl, refF_z, if_true]
   rw [zL] at hk2
   rw [t.cut _ (by omega)]; exact refF_stk (by decide)
theorem vote_stk (v : Int) : Stk (iVote v) := fun l f h => by
 unfold iVote
 split
 ·unfold vote1
  split
  ·show refF _ (iNext l f).2.2 = f
   rw [next_stk l f h]; exact refF_stk h
  ·show refF _ (iNext _ (refF _ (iNext l f).2.2)).2.2 = f
   rw [next_stk l f h, refF_stk h, next_stk _ f h]; exact refF_stk h
 ·unfold vote2
  have := next_stk l f h
  split
  ·exact this
  ·split
   ·exact this
   ·show refF _ (iNext l f).2.2 = f
    rw [this]; exact refF_stk h
theorem vote_rds (v : Int) {st : Nat} {sm : Bool} (hs : st ≤ 2) (hm : sm = true → st = 1) : Rds (iVote v) (votP v st sm) ((st : Int), sm) := by
 unfold votP
 by_cases hv : v = 1
 ·rw [if_pos hv]
  have hst : st = 0 ∨ st = 1 ∨ st = 2 := by omega
  refine ⟨fun r => ?_, fun k hk => ?_⟩
  ·unfold iVote; rw [if_pos hv]
   rcases hst with rfl | rfl | rfl <;> cases sm <;> first | rfl | (exact absurd (hm rfl) (by decide))
  ·unfold iVote; rw [if_pos hv]
   have hk2 : k < (if st = 0 then 1 else 2) := by
    rcases hst with rfl | rfl | rfl <;> cases sm <;> simpa [votP1] using hk
   have hk3 : k = 0 ∨ (st ≠ 0 ∧ k = 1) := by split at hk2 <;> omega
   rcases hk3 with rfl | ⟨h0, rfl⟩
   ·rfl
   ·rcases hst with rfl | rfl | rfl <;> cases sm <;> first
     | (exact absurd rfl h0)
     | (exact absurd (hm rfl) (by decide))
     | rfl
 ·rw [if_neg hv]
  have hst : st = 0 ∨ st = 1 ∨ st = 2 := by omega
  refine ⟨fun r => ?_, fun k hk => ?_⟩
  ·unfold iVote; rw [if_neg hv]
   rcases hst with rfl | rfl | rfl <;> cases sm <;> first | rfl | (exact absurd (hm rfl) (by decide))
  ·unfold iVote; rw [if_neg hv]
   obtain rfl : k = 0 := by simpa [votP2] using hk
   rfl
theorem cmd_stk (v : Int) : Stk (iCmd v) := fun l f h => by unfold iCmd; rw [if_neg h]
theorem cmd_rds {v : Int} {c : Cm} (h : chk v c = 0) (hn1 : -9223372036854775808 ≤ c.n) (hn2 : c.n ≤ 9223372036854775807) : Rds (iCmd v) (encC c) c := by
 refine ⟨fun r => ?_, fun k hk => ?_⟩
 ·unfold iCmd; rw [if_pos rfl, decC_full h hn1 hn2]; simp
 ·unfold iCmd; rw [if_pos rfl, decC_cut h hk]
theorem deps_stk (v n : Int) : Stk (iDeps v n) := fun l f h => by unfold iDeps; rw [if_neg h]
theorem deps_rds {v n : Int} {dl : List Int} (hv : v = 1 ∨ v = 2) (h : isVec dl = true) (hl : (dl.length : Int) = n) : Rds (iDeps v n) (packR v dl) dl := by
 subst hl
 refine ⟨fun r => ?_, fun k hk => ?_⟩
 ·unfold iDeps; rw [if_pos rfl, upk_back hv h]; simp [upL, upN, upE]
 ·unfold iDeps; rw [if_pos rfl, upk_cut hv h hk]; rfl
theorem attr_stk (v n : Int) (noop : Bool) : Stk (iAttr v n noop) := fun l f h => by
 unfold iAttr
 show refF _ (iDeps v n _ (refF _ (iNum l f).2.2)).2.2 = f
 rw [num_stk l f h, refF_stk h, deps_stk v n _ f h]; exact refF_stk h
theorem attr_rds {v n : Int} {noop : Bool} {sq : Nat} {dl : List Int} (hv : v = 1 ∨ v = 2) (hn : 1 ≤ n ∧ n ≤ 7) (hs : seqB noop (sq : Int) = true) (hd : depsB n noop dl = true) : Rds (iAttr v n noop) (attP v sq dl) ((sq : Int), dl) := by
 have h1 := val_seq hs
 have h2 := val_deps hd hn
 have rn := num_rds (x := sq) (by omega)
 have rd := deps_rds hv h2.2.1 h2.1
 have ht := top31_nat (x := sq) (by omega)
 refine ⟨fun r => ?_, fun k hk => ?_⟩
 ·unfold iAttr attP
  rw [List.append_assoc, rn.full]
  simp only [ht, hs, unl, refF_z, if_true, rd.full, hd]
 ·unfold iAttr
  show refF _ (iDeps v n _ (refF _ (iNum ((attP v sq dl).take k) 0).2.2)).2.2 = 11
  unfold attP at hk ⊢
  by_cases h : k < (enc sq).length
  ·rw [take_l h, rn.cut k h]
   simp only [refF_stk (show (11 : Int) ≠ 0 by decide), fun l => deps_stk v n l 11 (by decide)]
  ·rw [take_r h, rn.full]
   simp only [ht, hs, unl, refF_z, if_true]
   rw [zL] at hk
   rw [rd.cut _ (by omega)]; exact refF_stk (by decide)
theorem load_stk (v n : Int) (may : Bool) : Stk (iLoad v n may) := fun l f h => by
 unfold iLoad
 show (iAttr v n _ _ (refF _ (iCmd v l f).2.2)).2.2 = f
 rw [cmd_stk v l f h, refF_stk h]; exact attr_stk v n _ _ f h
theorem load_rds {v n : Int} {may : Bool} {c : Cm} {sq : Nat} {dl : List Int} (hv : v = 1 ∨ v = 2) (hn : 1 ≤ n ∧ n ≤ 7) (hl : loadF v n may c (sq : Int) dl = 0) (hn1 : -9223372036854775808 ≤ c.n) (hn2 : c.n ≤ 9223372036854775807) : Rds (iLoad v n may) (lodP v c sq dl) (c, (sq : Int), dl) := by
 obtain ⟨h1, h2, h3, h4⟩ := val_load hl
 have rc := cmd_rds h1 hn1 hn2
 have ra := attr_rds hv hn h3 h4
 refine ⟨fun r => ?_, fun k hk => ?_⟩
 ·unfold iLoad lodP
  rw [List.append_assoc, rc.full]
  simp only [h2, unl, refF_z, if_true, ra.full]
 ·unfold iLoad
  show (iAttr v n _ _ (refF _ (iCmd v ((lodP v c sq dl).take k) 0).2.2)).2.2 = 11
  unfold lodP at hk ⊢
  by_cases h : k < (encC c).length
  ·rw [take_l h, rc.cut k h, refF_stk (by decide)]; exact attr_stk v n _ _ 11 (by decide)
  ·rw [take_r h, rc.full]
   simp only [h2, unl, refF_z, if_true]
   rw [zL] at hk
   exact ra.cut _ (by omega)
end Go.Proofs.YtibfdoggolkljaaGreatDoor
