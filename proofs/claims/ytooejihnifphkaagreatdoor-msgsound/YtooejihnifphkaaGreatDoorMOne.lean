/- What Decode reads is valid, and its bytes are those that were read: the parts. -/
import Derived.Test.YtooejihnifphkaaGreatDoorMBack3
namespace Go.Proofs.YtooejihnifphkaaGreatDoor
open Go.RowKit Go.Wire1

/-- A reading: what it took, and how that hangs together with what it gave. -/
def Frm {α : Type} (R : List Int → Int → α × List Int × Int) (Rel : α → List Int → Prop) : Prop := ∀ l, Byt l → (R l 0).2.2 = 0 → ∃ b, l = b ++ (R l 0).2.1 ∧ Rel (R l 0).1 b
theorem Frm.mono {α : Type} {R : List Int → Int → α × List Int × Int} {P Q : α → List Int → Prop} (h : Frm R P) (k : ∀ a b, P a b → Q a b) : Frm R Q := fun l hy h0 => by
  obtain ⟨b, e, p⟩ := h l hy h0
  exact ⟨b, e, k _ _ p⟩
theorem stk_zero {α : Type} {R : List Int → Int → α × List Int × Int} (s : Stk R) {l : List Int} {f : Int} (h : (R l f).2.2 = 0) : f = 0 := by
  by_cases hf : f = 0
  · exact hf
  · exact absurd ((s l f hf).symm.trans h) hf
theorem refF_both {e f : Int} : refF e f = 0 ↔ e = 0 ∧ f = 0 := by
  unfold refF
  by_cases h : f = 0
  · rw [if_pos h]; simp [h]
  · rw [if_neg h]; simp [h]
theorem byt_rest {l b r : List Int} (h : Byt l) (e : l = b ++ r) : Byt r := fun z hz => h z (by rw [e]; exact List.mem_append_right _ hz)
theorem Frm.bind {α β : Type} {R1 : List Int → Int → α × List Int × Int} {R2 : α → List Int → Int → β × List Int × Int} {P1 : α → List Int → Prop} {P2 : α → β → List Int → Prop} (h1 : Frm R1 P1) (s2 : ∀ a, Stk (R2 a)) (h2 : ∀ a b, P1 a b → Frm (R2 a) (P2 a)) : Frm (fun l f => R2 (R1 l f).1 (R1 l f).2.1 (R1 l f).2.2) (fun c b => ∃ a b1 b2, P1 a b1 ∧ P2 a c b2 ∧ b = b1 ++ b2) := fun l hy h0 => by
  have f1 : (R1 l 0).2.2 = 0 := stk_zero (s2 _) h0
  obtain ⟨b1, e1, p1⟩ := h1 l hy f1
  simp only [f1] at h0 ⊢
  obtain ⟨b2, e2, p2⟩ := h2 _ _ p1 (R1 l 0).2.1 (byt_rest hy e1) h0
  refine ⟨b1 ++ b2, ?_, (R1 l 0).1, b1, b2, p1, p2, rfl⟩
  rw [List.append_assoc, ← e2]
  exact e1
theorem upk_one {v n : Int} {b xs : List Int} {p : Nat} (hy : Byt b) (h : upk v n b = .ok (xs, p)) : (v = 1 ∨ v = 2) ∧ isVec xs = true ∧ (xs.length : Int) = n ∧ 1 ≤ p ∧ p ≤ b.length ∧ packE v xs = 0 ∧ packR v xs = b.take p := by
  have hl := upk_len hy h
  have hv : v = 1 ∨ v = 2 := by
    unfold upk at h
    split at h
    · assumption
    · cases h
  have hpr : packR v xs = b.take p := by
    rw [packR_vec hv hl.2.2]
    unfold upk at h
    rw [if_pos hv] at h
    split at h
    · rename_i hn
      unfold packL
      have hn2 : n.toNat = xs.length := by omega
      rcases hv with rfl | rfl
      · rw [if_pos rfl] at h ⊢
        rw [← rd1_form hy h, hn2]
      · rw [if_neg (by decide)] at h ⊢
        unfold upk2 at h
        cases hd : dec b with
        | error i => rw [hd] at h; cases h
        | ok q =>
          obtain ⟨M, p0⟩ := q
          rw [hd] at h
          simp only at h
          split at h
          · cases h
          · rename_i hM
            have hf := rd2_form hy (dec_len hy hd).2.2 (dec_form hy hd) h
            unfold Go.Wire1.tight
            rw [hn2] at hf hM
            rw [hf.2, Nat.mod_eq_of_lt (by omega), hf.1]
    · cases h
  refine ⟨hv, hl.2.2, hl.1, ?_, hl.2.1, packE_vec hv hl.2.2, hpr⟩
  have h1 := packR_pos hv hl.2.2
  have h2 : (packR v xs).length ≤ p := by rw [hpr]; exact List.length_take_le _ _
  omega
theorem rgI_bd {l : List Int} (hy : Byt l) (s : St) : -9223372036854775808 ≤ (gI l s).1 ∧ (gI l s).1 ≤ 9223372036854775807 := by
  unfold gI
  split
  · split
    · rename_i x m hd
      exact unzig_bd _ (dec_lt (byt_drop hy _) hd)
    · simp
  · simp
theorem rsTail_n {v x : Int} {cl rq : Nat} {ky : ByteArray} {l : List Int} {s : St} (hy : Byt l) : -9223372036854775808 ≤ (sTail v x cl rq ky l s).1.n ∧ (sTail v x cl rq ky l s).1.n ≤ 9223372036854775807 := by
  unfold sTail
  split
  · simp
  · split
    · simp
    · split
      · simp
      · split
        · exact rgI_bd hy s
        · simp
theorem rdecC_n {v : Int} {l : List Int} (hy : Byt l) : -9223372036854775808 ≤ (decC v l).1.n ∧ (decC v l).1.n ≤ 9223372036854775807 := by
  unfold decC
  split
  · split
    · show -9223372036854775808 ≤ (sCmd v (l.take 131281) ⟨0, 0, 0⟩).1.n ∧ (sCmd v (l.take 131281) ⟨0, 0, 0⟩).1.n ≤ 9223372036854775807
      unfold sCmd
      split
      · exact rsTail_n (byt_take hy _)
      · simp
    · simp [zeroC]
  · simp [zeroC]
theorem num_frm : Frm iNum fun x b => b = enc x := fun l hy h => by
  unfold iNum at h ⊢
  rw [if_pos rfl] at h ⊢
  cases hd : dec l with
  | error i => rw [hd] at h; simp only at h; omega
  | ok p =>
    obtain ⟨x, m⟩ := p
    exact ⟨l.take m, (List.take_append_drop m l).symm, (dec_form hy hd).symm⟩
theorem next_frm : Frm iNext fun x b => b = [x] ∧ 0 ≤ x ∧ x < 256 := fun l hy h => by
  unfold iNext at h ⊢
  rw [if_pos rfl] at h ⊢
  cases l with
  | nil => simp at h
  | cons x r => exact ⟨[x], rfl, rfl, hy x (List.mem_cons_self ..)⟩
theorem two_frm : Frm iTwo fun p b => ∃ x y : Nat, p = (top31 x, top31 y) ∧ b = enc x ++ enc y := fun l hy h => by
  unfold iTwo at h ⊢
  have f1 : (iNum l 0).2.2 = 0 := stk_zero num_stk h
  obtain ⟨b1, e1, p1⟩ := num_frm l hy f1
  simp only [f1] at h ⊢
  obtain ⟨b2, e2, p2⟩ := num_frm (iNum l 0).2.1 (byt_rest hy e1) h
  refine ⟨b1 ++ b2, ?_, _, _, rfl, by rw [p1, p2]⟩
  rw [List.append_assoc, ← e2]; exact e1
theorem pack_frm : Frm iPack fun p b => ∃ x : Nat, p = (top31 (x / 8), ((x % 8 : Nat) : Int)) ∧ b = enc x := fun l hy h => by
  obtain ⟨b1, e1, p1⟩ := num_frm l hy h
  exact ⟨b1, e1, _, rfl, p1⟩
theorem top31_back {x : Nat} (h : top31 x < 2147483647) : (top31 x).toNat = x := by unfold top31 at h ⊢; omega
theorem top31_nn (x : Nat) : 0 ≤ top31 x := by unfold top31; omega
theorem inst_frm (v : Int) : Frm (iInst v) fun p b => 0 ≤ p.1 ∧ 0 ≤ p.2 ∧ (p.1 < 2147483647 → p.2 < 2147483647 → b = insP v p.1.toNat p.2.toNat) := fun l hy h => by
  unfold iInst at h ⊢
  unfold insP
  by_cases hv : v = 1
  · simp only [if_pos hv] at h ⊢
    obtain ⟨b, e, x, y, p, q⟩ := two_frm l hy h
    refine ⟨b, e, ?_⟩
    rw [p]
    exact ⟨top31_nn x, top31_nn y, fun h1 h2 => by rw [top31_back h1, top31_back h2]; exact q⟩
  · simp only [if_neg hv] at h ⊢
    obtain ⟨b, e, x, p, q⟩ := pack_frm l hy h
    refine ⟨b, e, ?_⟩
    rw [p]
    refine ⟨by show (0 : Int) ≤ ((x % 8 : Nat) : Int); omega, top31_nn _, fun h1 h2 => ?_⟩
    show b = enc (8 * (top31 (x / 8)).toNat + ((x % 8 : Nat) : Int).toNat)
    rw [top31_back h2, q, Int.toNat_natCast]
    congr 1
    omega
theorem bal_frm (v : Int) : Frm (iBal v) fun p b => 0 ≤ p.1 ∧ 0 ≤ p.2 ∧ (p.1 < 2147483647 → p.2 < 2147483647 → b = balP v p.1.toNat p.2.toNat) := fun l hy h => by
  unfold iBal at h ⊢
  unfold balP
  by_cases hv : v = 1
  · simp only [if_pos hv] at h ⊢
    obtain ⟨b, e, x, y, p, q⟩ := two_frm l hy h
    refine ⟨b, e, ?_⟩
    rw [p]
    exact ⟨top31_nn x, top31_nn y, fun h1 h2 => by rw [top31_back h1, top31_back h2]; exact q⟩
  · simp only [if_neg hv] at h ⊢
    obtain ⟨b, e, x, p, q⟩ := pack_frm l hy h
    refine ⟨b, e, ?_⟩
    rw [p]
    refine ⟨top31_nn _, by show (0 : Int) ≤ ((x % 8 : Nat) : Int); omega, fun h1 h2 => ?_⟩
    show b = enc (8 * (top31 (x / 8)).toNat + ((x % 8 : Nat) : Int).toNat)
    rw [top31_back h1, q, Int.toNat_natCast]
    congr 1
    omega
theorem balF_frm (v n : Int) (kd : Nat) (row : Int) (hn : n ≤ 7) : Frm (iBalF v n kd row) fun p b => ballB kd n row p.1 p.2 = true ∧ b = balP v p.1.toNat p.2.toNat := fun l hy h => by
  unfold iBalF at h ⊢
  obtain ⟨h1, h2⟩ := refF_both.1 h
  have hb := (unl_zero (by decide)).1 h1
  obtain ⟨b, e, _, _, q⟩ := bal_frm v l hy h2
  have hv := val_bal (val_ball hb).1
  exact ⟨b, e, hb, q (by omega) (by omega)⟩
theorem head_frm (v n : Int) (hn : n ≤ 7) : Frm (iHead v n) fun p b => isMK v p.1 = true ∧ instB n p.2.1 p.2.2 = true ∧ b = staP v p.1.toNat p.2.1.toNat p.2.2.toNat := fun l hy h => by
  unfold iHead at h ⊢
  obtain ⟨h1, h2⟩ := refF_both.1 h
  have hi := (unl_zero (by decide)).1 h1
  have h3 := stk_zero (inst_stk v) h2
  obtain ⟨h4, h5⟩ := refF_both.1 h3
  have hk := (unl_zero (by decide)).1 h4
  obtain ⟨b1, e1, p1, p2, p3⟩ := next_frm l hy h5
  simp only [h3] at h2 hi ⊢
  obtain ⟨b2, e2, _, _, q⟩ := inst_frm v (iNext l 0).2.1 (byt_rest hy e1) h2
  have hv := val_inst hi
  refine ⟨b1 ++ b2, ?_, hk, hi, ?_⟩
  · rw [List.append_assoc, ← e2]; exact e1
  · rw [q (by omega) (by omega), p1]
    unfold staP
    rw [show (((iNext l 0).1.toNat : Nat) : Int) = (iNext l 0).1 by omega]
    rfl
theorem vote_frm (v : Int) : Frm (iVote v) fun p b => 0 ≤ p.1 ∧ p.1 ≤ 2 ∧ (p.1 = 0 → p.2 = false) ∧ b = votP v p.1.toNat p.2 := fun l hy h => by
  unfold iVote at h ⊢
  unfold votP
  by_cases hv : v = 1
  · simp only [if_pos hv] at h ⊢
    unfold vote1 at h ⊢
    by_cases h0 : (iNext l 0).1 = 0
    · simp only [if_pos h0] at h ⊢
      obtain ⟨_, h2⟩ := refF_both.1 h
      obtain ⟨b1, e1, p1, _, _⟩ := next_frm l hy h2
      exact ⟨b1, e1, Int.le_refl _, by decide, fun _ => by trivial, by rw [p1, h0]; rfl⟩
    · simp only [if_neg h0] at h ⊢
      obtain ⟨h1, h2⟩ := refF_both.1 h
      have hs := (unl_zero (by decide)).1 h1
      have h3 := stk_zero next_stk h2
      obtain ⟨h4, h5⟩ := refF_both.1 h3
      have hk := of_decide_eq_true ((unl_zero (by decide)).1 h4)
      obtain ⟨b1, e1, p1, p2, p3⟩ := next_frm l hy h5
      simp only [h3] at h2 hs ⊢
      obtain ⟨b2, e2, q1, q2, q3⟩ := next_frm (iNext l 0).2.1 (byt_rest hy e1) h2
      refine ⟨b1 ++ b2, ?_, p2, hk, fun h => absurd h h0, ?_⟩
      · rw [List.append_assoc, ← e2]; exact e1
      · rw [p1, q1]
        unfold votP1
        rw [if_neg (by omega), show (((iNext l 0).1.toNat : Nat) : Int) = (iNext l 0).1 by omega]
        simp only [Bool.or_eq_true, Bool.and_eq_true, beq_iff_eq] at hs
        rcases hs with hs | hs
        · rw [hs]; rfl
        · rw [hs.1]; rfl
  · simp only [if_neg hv] at h ⊢
    unfold vote2 at h ⊢
    by_cases h0 : (iNext l 0).1 = 0 ∨ (iNext l 0).1 = 1 ∨ (iNext l 0).1 = 2
    · simp only [if_pos h0] at h ⊢
      obtain ⟨b1, e1, p1, _, _⟩ := next_frm l hy h
      refine ⟨b1, e1, by omega, by omega, fun _ => by trivial, ?_⟩
      rw [p1]
      unfold votP2
      rw [show (((iNext l 0).1.toNat : Nat) : Int) = (iNext l 0).1 by omega]
      rfl
    · simp only [if_neg h0] at h ⊢
      by_cases h5 : (iNext l 0).1 = 5
      · simp only [if_pos h5] at h ⊢
        obtain ⟨b1, e1, p1, _, _⟩ := next_frm l hy h
        exact ⟨b1, e1, by decide, by decide, fun h => absurd h (by decide), by rw [p1, h5]; rfl⟩
      · simp only [if_neg h5] at h
        exact absurd (refF_both.1 h).1 (by decide)
theorem cmd_frm (v : Int) : Frm (iCmd v) fun c b => chk v c = 0 ∧ (-9223372036854775808 ≤ c.n ∧ c.n ≤ 9223372036854775807) ∧ b = encC c := fun l hy h => by
  unfold iCmd at h ⊢
  rw [if_pos rfl] at h ⊢
  obtain ⟨_, h1, _, _, h2⟩ := decC_one hy (by simpa using h)
  exact ⟨l.take (decC v l).2.1, (List.take_append_drop _ l).symm, h1, rdecC_n hy, h2.symm⟩
theorem deps_frm (v n : Int) : Frm (iDeps v n) fun dl b => b = packR v dl := fun l hy h => by
  unfold iDeps at h ⊢
  rw [if_pos rfl] at h ⊢
  cases hu : upk v n l with
  | error e =>
    rw [hu] at h
    have hp := upk_err hu
    simp only [upE] at h
    omega
  | ok p =>
    obtain ⟨xs, q⟩ := p
    have := upk_one hy hu
    exact ⟨l.take q, (List.take_append_drop _ l).symm, this.2.2.2.2.2.2.symm⟩
theorem attr_frm (v n : Int) (noop : Bool) : Frm (iAttr v n noop) fun p b => seqB noop p.1 = true ∧ depsB n noop p.2 = true ∧ b = attP v p.1.toNat p.2 := fun l hy h => by
  unfold iAttr at h ⊢
  obtain ⟨h1, h2⟩ := refF_both.1 h
  have hd := (unl_zero (by decide)).1 h1
  have h3 := stk_zero (deps_stk v n) h2
  obtain ⟨h4, h5⟩ := refF_both.1 h3
  have hs := (unl_zero (by decide)).1 h4
  obtain ⟨b1, e1, p1⟩ := num_frm l hy h5
  simp only [h3] at h2 hd ⊢
  obtain ⟨b2, e2, q⟩ := deps_frm v n (iNum l 0).2.1 (byt_rest hy e1) h2
  have hv := val_seq hs
  refine ⟨b1 ++ b2, ?_, hs, hd, ?_⟩
  · rw [List.append_assoc, ← e2]; exact e1
  · unfold attP
    rw [top31_back (by omega), p1, q]
theorem load_frm (v n : Int) (may : Bool) : Frm (iLoad v n may) fun p b => loadF v n may p.1 p.2.1 p.2.2 = 0 ∧ (-9223372036854775808 ≤ p.1.n ∧ p.1.n ≤ 9223372036854775807) ∧ b = lodP v p.1 p.2.1.toNat p.2.2 := fun l hy h => by
  unfold iLoad at h ⊢
  have h3 := stk_zero (attr_stk v n _) h
  obtain ⟨h4, h5⟩ := refF_both.1 h3
  have hm := (unl_zero (by decide)).1 h4
  obtain ⟨b1, e1, p1, pn, p2⟩ := cmd_frm v l hy h5
  simp only [h3] at h ⊢
  obtain ⟨b2, e2, q1, q2, q3⟩ := attr_frm v n _ (iCmd v l 0).2.1 (byt_rest hy e1) h
  refine ⟨b1 ++ b2, ?_, ?_, pn, ?_⟩
  · rw [List.append_assoc, ← e2]; exact e1
  · unfold loadF
    simp only [orL_cons, orL_nil, and_true, unl_zero (show (57 : Int) ≠ 0 by decide), unl_zero (show (55 : Int) ≠ 0 by decide), unl_zero (show (56 : Int) ≠ 0 by decide)]
    exact ⟨by rw [p1]; rfl, hm, q1, q2⟩
  · unfold lodP; rw [p2, q3]
end Go.Proofs.YtooejihnifphkaaGreatDoor
