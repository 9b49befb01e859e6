/- What Decode reads is valid, and its bytes are those that were read: a message. -/
import Derived.Test.YtooejihnifphkaaGreatDoorMOne
namespace Go.Proofs.YtooejihnifphkaaGreatDoor
open Go.RowKit Go.Wire1

def nB (c : Cm) : Prop := -9223372036854775808 ≤ c.n ∧ c.n ≤ 9223372036854775807
theorem nB_zero : nB zeroC := ⟨by show _ ≤ (0 : Int); omega, by show (0 : Int) ≤ _; omega⟩
theorem stop_frm (m : Ms) : Frm (stopM m) fun m' b => m' = m ∧ b = [] := fun _ _ _ => ⟨[], rfl, rfl, rfl⟩
theorem end_frm (m : Ms) (e : Int) : Frm (endM m e) fun m' b => m' = m ∧ b = [] ∧ e = 0 := fun _ _ h => ⟨[], rfl, rfl, rfl, ((refF_both (e := e) (f := 0)).1 h).1⟩
theorem lMs_frm (v n : Int) (may : Bool) (mk : Cm → Int → List Int → Ms) : Frm (lMs v n may mk) fun m b => ∃ c sq dl, loadF v n may c sq dl = 0 ∧ nB c ∧ b = lodP v c sq.toNat dl ++ [] ∧ m = mk c sq dl := fun l hy h => by
  obtain ⟨b, e, p1, p2, p3⟩ := load_frm v n may l hy h
  exact ⟨b, e, _, _, _, p1, p2, by rw [List.append_nil]; exact p3, rfl⟩
theorem aMs_frm (v n : Int) (mk : Int → List Int → Ms) : Frm (aMs v n mk) fun m b => ∃ sq dl, seqB false sq = true ∧ depsB n false dl = true ∧ b = attP v sq.toNat dl ++ [] ∧ m = mk sq dl := fun l hy h => by
  obtain ⟨b, e, p1, p2, p3⟩ := attr_frm v n false l hy h
  exact ⟨b, e, _, _, p1, p2, by rw [List.append_nil]; exact p3, rfl⟩
theorem gMs_frm (e : Int) {K : List Int → Int → Ms × List Int × Int} {P : Ms → List Int → Prop} (s : Stk K) (h : Frm K P) : Frm (gMs e K) fun m b => e = 0 ∧ P m b := fun l hy h0 => by
  have h1 := refF_both.1 (stk_zero s h0)
  have e1 : gMs e K l 0 = K l 0 := by unfold gMs; rw [h1.1]; rfl
  rw [e1] at h0 ⊢
  obtain ⟨b, q, p⟩ := h l hy h0
  exact ⟨b, q, h1.1, p⟩
theorem bMs_frm (v n : Int) (kd : Nat) (row : Int) (hn : n ≤ 7) {K : Int → Int → List Int → Int → Ms × List Int × Int} {P : Int → Int → Ms → List Int → Prop} (s : ∀ x y, Stk (K x y)) (h : ∀ x y, Frm (K x y) (P x y)) : Frm (bMs v n kd row K) fun m b => ∃ x y b2, ballB kd n row x y = true ∧ b = balP v x.toNat y.toNat ++ b2 ∧ P x y m b2 :=
  Frm.mono (Frm.bind (R1 := iBalF v n kd row) (R2 := fun t => K t.1 t.2) (P2 := fun t m b => P t.1 t.2 m b) (balF_frm v n kd row hn) (fun _ => s _ _) (fun _ _ _ => h _ _)) fun m b ⟨a, b1, b2, p1, p2, e⟩ => ⟨a.1, a.2, b2, p1.1, by rw [e, p1.2], p2⟩
theorem pMs_frm (v : Int) {K : Int → Int → List Int → Int → Ms × List Int × Int} {P : Int → Int → Ms → List Int → Prop} (s : ∀ x y, Stk (K x y)) (h : ∀ x y, Frm (K x y) (P x y)) : Frm (pMs v K) fun m b => ∃ x y b1 b2, (x < 2147483647 → y < 2147483647 → b1 = balP v x.toNat y.toNat) ∧ b = b1 ++ b2 ∧ P x y m b2 :=
  Frm.mono (Frm.bind (R1 := iBal v) (R2 := fun t => K t.1 t.2) (P2 := fun t m b => P t.1 t.2 m b) (bal_frm v) (fun _ => s _ _) (fun _ _ _ => h _ _)) fun _ _ ⟨a, b1, b2, p1, p2, e⟩ => ⟨a.1, a.2, b1, b2, p1.2.2, e, p2⟩
theorem vMs_frm (v : Int) {K : Int → Bool → List Int → Int → Ms × List Int × Int} {P : Int → Bool → Ms → List Int → Prop} (s : ∀ x y, Stk (K x y)) (h : ∀ x y, Frm (K x y) (P x y)) : Frm (vMs v K) fun m b => ∃ st sm b2, (st = 0 → sm = false) ∧ b = votP v st.toNat sm ++ b2 ∧ P st sm m b2 :=
  Frm.mono (Frm.bind (R1 := iVote v) (R2 := fun t => K t.1 t.2) (P2 := fun t m b => P t.1 t.2 m b) (vote_frm v) (fun _ => s _ _) (fun _ _ _ => h _ _)) fun m b ⟨a, b1, b2, p1, p2, e⟩ => ⟨a.1, a.2, b2, p1.2.2.1, by rw [e, p1.2.2.2], p2⟩
theorem mk_chk {v n : Int} {m : Ms} {z : Nat} (h1 : callF v n = 0) (h2 : isMK v m.kind = true) (hz : shK m = z) (ho : only m z = m) (h : shF v n m z = 0) : chkM v n m = 0 := by
  unfold chkM
  have hx : extraM m = false := by
    unfold extraM
    rw [hz, ho]
    simp
  rw [if_pos h1, if_pos h2, if_neg (by rw [hx]; decide), hz]
  exact h
/-- What was read behind the head. -/
def Tl (v n k row num : Int) (m : Ms) (b : List Int) : Prop := isMK v k = true → instB n row num = true → chkM v n m = 0 ∧ nB m.c ∧ staP v k.toNat row.toNat num.toNat ++ b = msB v m
theorem u52 {b : Bool} (h : b = true) : unl b 52 = 0 := (unl_zero (by decide)).2 h
theorem u53 {b : Bool} (h : b = true) : unl b 53 = 0 := (unl_zero (by decide)).2 h
theorem u55 {b : Bool} (h : b = true) : unl b 55 = 0 := (unl_zero (by decide)).2 h
theorem u56 {b : Bool} (h : b = true) : unl b 56 = 0 := (unl_zero (by decide)).2 h
theorem tail_frm (v n k row num : Int) (hc : callF v n = 0) (hk9 : k ≤ 9) (hk1 : 1 ≤ k) : Frm (rTail v n k row num) (Tl v n k row num) := by
  have hn : n ≤ 7 := (val_call hc).2.2
  have eq : ∀ {K : List Int → Int → Ms × List Int × Int} {P : Ms → List Int → Prop}, Frm K P → (∀ l f, rTail v n k row num l f = K l f) → (∀ m b, P m b → Tl v n k row num m b) → Frm (rTail v n k row num) (Tl v n k row num) := fun {K P} h e t => by
    have : rTail v n k row num = K := funext fun l => funext fun f => e l f
    rw [this]; exact h.mono t
  rcases (by omega : k = 1 ∨ k = 2 ∨ k = 3 ∨ k = 4 ∨ k = 5 ∨ k = 6 ∨ k = 7 ∨ k = 8 ∨ k = 9) with rfl | rfl | rfl | rfl | rfl | rfl | rfl | rfl | rfl
  · refine eq (bMs_frm v n 1 row hn (K := fun x y => lMs v n false fun c sq dl => ⟨1, row, num, x, y, 0, 0, 0, false, c, sq, dl⟩) (fun _ _ => lMs_stk _ _ _ _) (fun _ _ => lMs_frm _ _ _ _)) (fun l f => rfl) ?_
    rintro m b ⟨x, y, b2, hb, rfl, c, sq, dl, hl, hnb, rfl, rfl⟩ hk hi
    exact ⟨mk_chk (z := 1) hc hk rfl rfl (orL_cons.2 ⟨u52 hi, orL_cons.2 ⟨u53 hb, orL_cons.2 ⟨hl, rfl⟩⟩⟩), hnb, rfl⟩
  · refine eq (bMs_frm v n 2 row hn (K := fun x y => aMs v n fun sq dl => ⟨2, row, num, x, y, 0, 0, 0, false, zeroC, sq, dl⟩) (fun _ _ => aMs_stk _ _ _) (fun _ _ => aMs_frm _ _ _)) (fun l f => rfl) ?_
    rintro m b ⟨x, y, b2, hb, rfl, sq, dl, hs, hd, rfl, rfl⟩ hk hi
    exact ⟨mk_chk (z := 2) hc hk rfl rfl (orL_cons.2 ⟨u52 hi, orL_cons.2 ⟨u53 hb, orL_cons.2 ⟨u55 hs, orL_cons.2 ⟨u56 hd, rfl⟩⟩⟩⟩), nB_zero, rfl⟩
  · refine eq (bMs_frm v n 3 row hn (K := fun x y => lMs v n true fun c sq dl => ⟨3, row, num, x, y, 0, 0, 0, false, c, sq, dl⟩) (fun _ _ => lMs_stk _ _ _ _) (fun _ _ => lMs_frm _ _ _ _)) (fun l f => rfl) ?_
    rintro m b ⟨x, y, b2, hb, rfl, c, sq, dl, hl, hnb, rfl, rfl⟩ hk hi
    exact ⟨mk_chk (z := 1) hc hk rfl rfl (orL_cons.2 ⟨u52 hi, orL_cons.2 ⟨u53 hb, orL_cons.2 ⟨hl, rfl⟩⟩⟩), hnb, rfl⟩
  · refine eq (bMs_frm v n 4 row hn (K := fun x y => stopM ⟨4, row, num, x, y, 0, 0, 0, false, zeroC, 0, []⟩) (fun _ _ => stopM_stk _) (fun _ _ => stop_frm _)) (fun l f => rfl) ?_
    rintro m b ⟨x, y, b2, hb, rfl, rfl, rfl⟩ hk hi
    exact ⟨mk_chk (z := 3) hc hk rfl rfl (orL_cons.2 ⟨u52 hi, orL_cons.2 ⟨u53 hb, rfl⟩⟩), nB_zero, rfl⟩
  · refine eq (lMs_frm v n true fun c sq dl => ⟨5, row, num, 0, 0, 0, 0, 0, false, c, sq, dl⟩) (fun l f => rfl) ?_
    rintro m b ⟨c, sq, dl, hl, hnb, rfl, rfl⟩ hk hi
    exact ⟨mk_chk (z := 4) hc hk rfl rfl (orL_cons.2 ⟨u52 hi, orL_cons.2 ⟨hl, rfl⟩⟩), hnb, rfl⟩
  · refine eq (bMs_frm v n 6 row hn (K := fun x y => stopM ⟨6, row, num, x, y, 0, 0, 0, false, zeroC, 0, []⟩) (fun _ _ => stopM_stk _) (fun _ _ => stop_frm _)) (fun l f => rfl) ?_
    rintro m b ⟨x, y, b2, hb, rfl, rfl, rfl⟩ hk hi
    exact ⟨mk_chk (z := 3) hc hk rfl rfl (orL_cons.2 ⟨u52 hi, orL_cons.2 ⟨u53 hb, rfl⟩⟩), nB_zero, rfl⟩
  · have told : ∀ x y st sm, Frm (fun l f => if st = 0 then stopM ⟨7, row, num, x, y, 0, 0, 0, false, zeroC, 0, []⟩ l f else pMs v (fun p q => gMs (unl (voteB n row x y st sm p q) 54) (lMs v n (st != 1) fun c sq dl => ⟨7, row, num, x, y, p, q, st, sm, c, sq, dl⟩)) l f) fun m b => (st = 0 ∧ m = ⟨7, row, num, x, y, 0, 0, 0, false, zeroC, 0, []⟩ ∧ b = []) ∨ (st ≠ 0 ∧ ∃ p q b1 b2, (p < 2147483647 → q < 2147483647 → b1 = balP v p.toNat q.toNat) ∧ b = b1 ++ b2 ∧ unl (voteB n row x y st sm p q) 54 = 0 ∧ ∃ c sq dl, loadF v n (st != 1) c sq dl = 0 ∧ nB c ∧ b2 = lodP v c sq.toNat dl ++ [] ∧ m = ⟨7, row, num, x, y, p, q, st, sm, c, sq, dl⟩) := fun x y st sm l hy h => by
      by_cases h0 : st = 0
      · simp only [if_pos h0] at h ⊢
        exact ⟨[], rfl, .inl ⟨h0, rfl, rfl⟩⟩
      · simp only [if_neg h0] at h ⊢
        obtain ⟨b, e, p, q, b1, b2, r1, r2, r3, r4⟩ := pMs_frm v (fun _ _ => gMs_stk _ (lMs_stk _ _ _ _)) (fun p q => gMs_frm _ (lMs_stk _ _ _ _) (lMs_frm v n (st != 1) fun c sq dl => ⟨7, row, num, x, y, p, q, st, sm, c, sq, dl⟩)) l hy h
        exact ⟨b, e, .inr ⟨h0, p, q, b1, b2, r1, r2, r3, r4⟩⟩
    refine eq (bMs_frm v n 7 row hn (K := fun x y => vMs v fun st sm l f => if st = 0 then stopM ⟨7, row, num, x, y, 0, 0, 0, false, zeroC, 0, []⟩ l f else pMs v (fun p q => gMs (unl (voteB n row x y st sm p q) 54) (lMs v n (st != 1) fun c sq dl => ⟨7, row, num, x, y, p, q, st, sm, c, sq, dl⟩)) l f) (fun x y => vMs_stk v fun st sm => told_stk v n row num x y st sm) (fun x y => vMs_frm v (fun st sm => told_stk v n row num x y st sm) (fun st sm => told x y st sm))) (fun l f => rfl) ?_
    rintro m b ⟨x, y, b2, hb, rfl, st, sm, b3, hsm, rfl, hh⟩ hk hi
    rcases hh with ⟨rfl, rfl, rfl⟩ | ⟨h0, p, q, b4, b5, hbp, rfl, hvt, c, sq, dl, hl, hnb, rfl, rfl⟩
    · obtain rfl := hsm rfl
      exact ⟨mk_chk (z := 5) hc hk rfl rfl (orL_cons.2 ⟨u52 hi, orL_cons.2 ⟨u53 hb, rfl⟩⟩), nB_zero, rfl⟩
    · have hvv := val_vote ((unl_zero (by decide)).1 hvt)
      have e4 := hbp (by omega) (by omega)
      have hz : shK ⟨7, row, num, x, y, p, q, st, sm, c, sq, dl⟩ = 6 := by unfold shK; simp [h0]
      refine ⟨mk_chk (z := 6) hc hk hz rfl (orL_cons.2 ⟨u52 hi, orL_cons.2 ⟨u53 hb, orL_cons.2 ⟨hvt, orL_cons.2 ⟨hl, rfl⟩⟩⟩⟩), hnb, ?_⟩
      unfold msB
      rw [hz, e4]
      rfl
  · refine eq (bMs_frm v n 8 row hn (K := fun x y => pMs v fun p q => endM ⟨8, row, num, x, y, p, q, 0, false, zeroC, 0, []⟩ (unl (nackB n row x y p q) 54)) (fun x y => pMs_stk v fun _ _ => endM_stk _ _) (fun x y => pMs_frm v (fun _ _ => endM_stk _ _) (fun _ _ => end_frm _ _))) (fun l f => rfl) ?_
    rintro m b ⟨x, y, b2, hb, rfl, p, q, b4, b5, hbp, rfl, rfl, rfl, hnk⟩ hk hi
    have hvv := val_nack ((unl_zero (by decide)).1 hnk)
    have e4 := hbp (by omega) (by omega)
    exact ⟨mk_chk (z := 7) hc hk rfl rfl (orL_cons.2 ⟨u52 hi, orL_cons.2 ⟨u53 hb, orL_cons.2 ⟨hnk, rfl⟩⟩⟩), nB_zero, by rw [e4]; rfl⟩
  · refine eq (stop_frm ⟨9, row, num, 0, 0, 0, 0, 0, false, zeroC, 0, []⟩) (fun l f => rfl) ?_
    rintro m b ⟨rfl, rfl⟩ hk hi
    exact ⟨mk_chk (z := 0) hc hk rfl rfl (u52 hi), nB_zero, rfl⟩
theorem isMK_at {v k : Int} (h : isMK v k = true) : 1 ≤ k ∧ k ≤ 9 := by
  obtain ⟨j, rfl, h1, h2⟩ := isMK_nat h
  omega
/-- What Decode reads is valid, and is written as just these bytes. -/
theorem decM_one {v n : Int} {l : List Int} (hy : Byt l) (h : (decM v n l).2 = 0) : chkM v n (decM v n l).1 = 0 ∧ nB (decM v n l).1.c ∧ msB v (decM v n l).1 = l := by
  unfold decM at h ⊢
  by_cases hc : callF v n = 0
  · simp only [if_pos hc] at h ⊢
    by_cases he : endF (rdMsg v n l 0).2.1 (rdMsg v n l 0).2.2 = 0
    · simp only [if_pos he]
      have hr : (rdMsg v n l 0).2.1 = [] ∧ (rdMsg v n l 0).2.2 = 0 := by
        unfold endF at he
        split at he
        · exact ⟨by assumption, he⟩
        · exact absurd (refF_both.1 he).1 (by decide)
      rw [rdMsg_tail] at hr ⊢
      have h1 : (iHead v n l 0).2.2 = 0 := stk_zero (rTail_stk _ _ _ _ _) hr.2
      obtain ⟨b1, e1, p1, p2, p3⟩ := head_frm v n (val_call hc).2.2 l hy h1
      rw [h1] at hr ⊢
      have hk := isMK_at p1
      obtain ⟨b2, e2, q⟩ := tail_frm v n _ _ _ hc hk.2 hk.1 (iHead v n l 0).2.1 (byt_rest hy e1) hr.2
      obtain ⟨q1, q2, q3⟩ := q p1 p2
      refine ⟨q1, q2, ?_⟩
      rw [← q3, ← p3]
      rw [hr.1, List.append_nil] at e2
      rw [← e2]
      exact e1.symm
    · simp only [if_neg he] at h
      exact absurd h he
  · simp only [if_neg hc] at h
    exact absurd h hc
/-- Where Decode refuses it answers the zero message. -/
theorem decM_bad {v n : Int} {l : List Int} (h : (decM v n l).2 ≠ 0) : (decM v n l).1 = zeroM := by
  unfold decM at h ⊢
  split at h
  · split at h
    · exact absurd rfl h
    · rename_i h1 h2; rw [if_pos h1, if_neg h2]
  · rename_i h1; rw [if_neg h1]
end Go.Proofs.YtooejihnifphkaaGreatDoor
