import Derived.Test.YtppocmgcfeelhaaGreatDoorJ39
import Derived.Test.YtppocmgcfeelhaaGreatDoorJ42
namespace Go.Proofs.YtppocmgcfeelhaaGreatDoor
open Go.RowKit Go.Wire1
def Frm {α : Type} (R : List Int → Int → α × List Int × Int) (Rel : α → List Int → Prop) : Prop := ∀ l, Byt l → (R l 0).2.2 = 0 → ∃ b, l = b ++ (R l 0).2.1 ∧ Rel (R l 0).1 b
theorem Frm.mono {α : Type} {R : List Int → Int → α × List Int × Int} {P Q : α → List Int → Prop} (h : Frm R P) (k : ∀ a b, P a b → Q a b) : Frm R Q := fun l hy h0 => by
 obtain ⟨b, e, p⟩ := h l hy h0
 exact ⟨b, e, k _ _ p⟩
theorem stk_zero {α : Type} {R : List Int → Int → α × List Int × Int} (s : Stk R) {l : List Int} {f : Int} (h : (R l f).2.2 = 0) : f = 0 := by
 by_cases hf : f = 0
 ·exact hf
 ·exact absurd ((s l f hf).symm.trans h) hf
theorem refF_both {e f : Int} : refF e f = 0 ↔ e = 0 ∧ f = 0 := by
 unfold refF
 by_cases h : f = 0
 ·rw [if_pos h]; simp [h]
 ·rw [if_neg h]; simp [h]
theorem byt_rest {l b r : List Int} (h : Byt l) (e : l = b ++ r) : Byt r := fun z hz => h z (by rw [e]; exact List.mem_append_right _ hz)
theorem Frm.bind {α β : Type} {R1 : List Int → Int → α × List Int × Int} {R2 : α → List Int → Int → β × List Int × Int} {P1 : α → List Int → Prop} {P2 : α → β → List Int → Prop} (h1 : Frm R1 P1) (s2 : ∀ a, Stk (R2 a)) (h2 : ∀ a b, P1 a b → Frm (R2 a) (P2 a)) : Frm (fun l f => R2 (R1 l f).1 (R1 l f).2.1 (R1 l f).2.2) (fun c b => ∃ a b1 b2, P1 a b1 ∧ P2 a c b2 ∧ b = b1 ++ b2) := fun l hy h0 => by
 have f1 : (R1 l 0).2.2 = 0 := stk_zero (s2 _) h0
 obtain ⟨b1, e1, p1⟩ := h1 l hy f1
 simp only [f1] at h0 ⊢
 obtain ⟨b2, e2, p2⟩ := h2 _ _ p1 (R1 l 0).2.1 (byt_rest hy e1) h0
 refine ⟨b1 ++ b2, ?_, (R1 l 0).1, b1, b2, p1, p2, rfl⟩
 rw [List.append_assoc, ← e2]
 exact e1
theorem upk_one {v n : Int} {b xs : List Int} {p : Nat} (hy : Byt b) (h : upk v n b = .ok (xs, p)) : (v = 1 ∨ v = 2) ∧ isVec xs = true ∧ (xs.length : Int) = n ∧ 1 ≤ p ∧ p ≤ b.length ∧ packE v xs = 0 ∧ packR v xs = b.take p := by
 have hl := upk_len hy h
 have hv : v = 1 ∨ v = 2 := by
  unfold upk at h
  split at h
  ·assumption
  ·cases h
 have hpr : packR v xs = b.take p := by
  rw [packR_vec hv hl.2.2]
  unfold upk at h
  rw [if_pos hv] at h
  split at h
  ·rename_i hn
   unfold packL
   have hn2 : n.toNat = xs.length := by omega
   rcases hv with rfl | rfl
   ·rw [if_pos rfl] at h ⊢
    rw [← rd1_form hy h, hn2]
   ·rw [if_neg (by decide)] at h ⊢
    unfold upk2 at h
    cases hd : dec b with
    | error i => rw [hd] at h; cases h
    | ok q =>
     obtain ⟨M, p0⟩ := q
     rw [hd] at h
     simp only at h
     split at h
     ·cases h
     ·rename_i hM
      have hf := rd2_form hy (dec_len hy hd).2.2 (dec_form hy hd) h
      unfold Go.Wire1.tight
      rw [hn2] at hf hM
      rw [hf.2, Nat.mod_eq_of_lt (by omega), hf.1]
  ·cases h
 refine ⟨hv, hl.2.2, hl.1, ?_, hl.2.1, packE_vec hv hl.2.2, hpr⟩
 have h1 := packR_pos hv hl.2.2
 have h2 : (packR v xs).length ≤ p := by rw [hpr]; exact List.length_take_le _ _
 omega
theorem rgI_bd {l : List Int} (hy : Byt l) (s : St) : -9223372036854775808 ≤ (gI l s).1 ∧ (gI l s).1 ≤ 9223372036854775807 := by
 unfold gI
 split
 ·split
  ·rename_i x m hd
   exact unzig_bd _ (dec_lt (byt_drop hy _) hd)
  ·simp
 ·simp
theorem rsTail_n {v x : Int} {cl rq : Nat} {ky : ByteArray} {l : List Int} {s : St} (hy : Byt l) : -9223372036854775808 ≤ (sTail v x cl rq ky l s).1.n ∧ (sTail v x cl rq ky l s).1.n ≤ 9223372036854775807 := by
 unfold sTail
 split
 ·simp
 ·split
  ·simp
  ·split
   ·simp
   ·split
    ·exact rgI_bd hy s
    ·simp
theorem rdecC_n {v : Int} {l : List Int} (hy : Byt l) : -9223372036854775808 ≤ (decC v l).1.n ∧ (decC v l).1.n ≤ 9223372036854775807 := by
 unfold decC
 split
 ·split
  ·show -9223372036854775808 ≤ (sCmd v (l.take 131281) ⟨0, 0, 0⟩).1.n ∧ (sCmd v (l.take 131281) ⟨0, 0, 0⟩).1.n ≤ 9223372036854775807
   unfold sCmd
   split
   ·exact rsTail_n (byt_take hy _)
   ·simp
  ·simp [zeroC]
 ·simp [zeroC]
theorem num_frm : Frm iNum fun x b => b = enc x := fun l hy h => by
 unfold iNum at h ⊢
 rw [if_pos rfl] at h ⊢
 cases hd : dec l with
 | error i => rw [hd] at h; simp only at h; omega
 | ok p =>
  obtain ⟨x, m⟩ := p
  exact ⟨l.take m, (List.take_append_drop m l).symm, (dec_form hy hd).symm⟩
theorem next_frm : Frm iNext fun x b => b = [x] ∧ 0 ≤ x ∧ x < 256 := fun l hy h => by
 unfold iNext at h ⊢
 rw [if_pos rfl] at h ⊢
 cases l with
 | nil => simp at h
 | cons x r => exact ⟨[x], rfl, rfl, hy x (List.mem_cons_self ..)⟩
theorem two_frm : Frm iTwo fun p b => ∃ x y : Nat, p = (top31 x, top31 y) ∧ b = enc x ++ enc y := fun l hy h => by
 unfold iTwo at h ⊢
 have f1 : (iNum l 0).2.2 = 0 := stk_zero num_stk h
 obtain ⟨b1, e1, p1⟩ := num_frm l hy f1
 simp only [f1] at h ⊢
 obtain ⟨b2, e2, p2⟩ := num_frm (iNum l 0).2.1 (byt_rest hy e1) h
 refine ⟨b1 ++ b2, ?_, _, _, rfl, by rw [p1, p2]⟩
 rw [List.append_assoc, ← e2]; exact e1
theorem pack_frm : Frm iPack fun p b => ∃ x : Nat, p = (top31 (x / 8), ((x % 8 : Nat) : Int)) ∧ b = enc x := fun l hy h => by
 obtain ⟨b1, e1, p1⟩ := num_frm l hy h
 exact ⟨b1, e1, _, rfl, p1⟩
theorem top31_back {x : Nat} (h : top31 x < 2147483647) : (top31 x).toNat = x := by unfold top31 at h ⊢; omega
theorem top31_nn (x : Nat) : 0 ≤ top31 x := by unfold top31; omega
theorem inst_frm (v : Int) : Frm (iInst v) fun p b => 0 ≤ p.1 ∧ 0 ≤ p.2 ∧ (p.1 < 2147483647 → p.2 < 2147483647 → b = insP v p.1.toNat p.2.toNat) := fun l hy h => by
 unfold iInst at h ⊢
 unfold insP
 by_cases hv : v = 1
 ·simp only [if_pos hv] at h ⊢
  obtain ⟨b, e, x, y, p, q⟩ := two_frm l hy h
  refine ⟨b, e, ?_⟩
  rw [p]
  exact ⟨top31_nn x, top31_nn y, fun h1 h2 => by rw [top31_back h1, top31_back h2]; exact q⟩
 ·simp only [if_neg hv] at h ⊢
  obtain ⟨b, e, x, p, q⟩ := pack_frm l hy h
  refine ⟨b, e, ?_⟩
  rw [p]
  refine ⟨by show (0 : Int) ≤ ((x % 8 : Nat) : Int); omega, top31_nn _, fun h1 h2 => ?_⟩
  show b = enc (8 * (top31 (x / 8)).toNat + ((x % 8 : Nat) : Int).toNat)
  rw [top31_back h2, q, Int.toNat_natCast]
  congr 1
  omega
theorem bal_frm (v : Int) : Frm (iBal v) fun p b => 0 ≤ p.1 ∧ 0 ≤ p.2 ∧ (p.1 < 2147483647 → p.2 < 2147483647 → b = balP v p.1.toNat p.2.toNat) := fun l hy h => by
 unfold iBal at h ⊢
 unfold balP
 by_cases hv : v = 1
 ·simp only [if_pos hv] at h ⊢
  obtain ⟨b, e, x, y, p, q⟩ := two_frm l hy h
  refine ⟨b, e, ?_⟩
  rw [p]
  exact ⟨top31_nn x, top31_nn y, fun h1 h2 => by rw [top31_back h1, top31_back h2]; exact q⟩
 ·simp only [if_neg hv] at h ⊢
  obtain ⟨b, e, x, p, q⟩ := pack_frm l hy h
  refine ⟨b, e, ?_⟩
  rw [p]
  refine ⟨top31_nn _, by show (0 : Int) ≤ ((x % 8 : Nat) : Int); omega, fun h1 h2 => ?_⟩
  show b = enc (8 * (top31 (x / 8)).toNat + ((x % 8 : Nat) : Int).toNat)
  rw [top31_back h1, q, Int.toNat_natCast]
  congr 1
  omega
theorem balF_frm (v n : Int) (kd : Nat) (row : Int) (hn : n ≤ 7) : Frm (iBalF v n kd row) fun p b => ballB kd n row p.1 p.2 = true ∧ b = balP v p.1.toNat p.2.toNat := fun l hy h => by
 unfold iBalF at h ⊢
 obtain ⟨h1, h2⟩ := refF_both.1 h
 have hb := (unl_zero (by decide)).1 h1
 obtain ⟨b, e, _, _, q⟩ := bal_frm v l hy h2
 have hv := val_bal (val_ball hb).1
 exact ⟨b, e, hb, q (by omega) (by omega)⟩
theorem head_frm (v n : Int) (hn : n ≤ 7) : Frm (iHead v n) fun p b => isMK v p.1 = true ∧ instB n p.2.1 p.2.2 = true ∧ b = staP v p.1.toNat p.2.1.toNat p.2.2.toNat := fun l hy h => by
 unfold iHead at h ⊢
 obtain ⟨h1, h2⟩ := refF_both.1 h
 have hi := (unl_zero (by decide)).1 h1
 have h3 := stk_zero (inst_stk v) h2
 obtain ⟨h4, h5⟩ := refF_both.1 h3
 have hk := (unl_zero (by decide)).1 h4
 obtain ⟨b1, e1, p1, p2, p3⟩ := next_frm l hy h5
 simp only [h3] at h2 hi ⊢
 obtain ⟨b2, e2, _, _, q⟩ := inst_frm v (iNext l 0).2.1 (byt_rest hy e1) h2
 have hv := val_inst hi
 refine ⟨b1 ++ b2, ?_, hk, hi, ?_⟩
 ·rw [List.append_assoc, ← e2]; exact e1
 ·rw [q (by omega) (by omega), p1]
  unfold staP
  rw [show (((iNext l 0).1.toNat : Nat) : Int) = (iNext l 0).1 by omega]
  rfl
theorem vote_frm (v : Int) : Frm (iVote v) fun p b => 0 ≤ p.1 ∧ p.1 ≤ 2 ∧ (p.1 = 0 → p.2 = false) ∧ b = votP v p.1.toNat p.2 := fun l hy h => by
 unfold iVote at h ⊢
 unfold votP
 by_cases hv : v = 1
 ·simp only [if_pos hv] at h ⊢
  unfold vote1 at h ⊢
  by_cases h0 : (iNext l 0).1 = 0
  ·simp only [if_pos h0] at h ⊢
   obtain ⟨_, h2⟩ := refF_both.1 h
   obtain ⟨b1, e1, p1, _, _⟩ := next_frm l hy h2
   exact ⟨b1, e1, Int.le_refl _, by decide, fun _ => by trivial, by rw [p1, h0]; rfl⟩
  ·simp only [if_neg h0] at h ⊢
   obtain ⟨h1, h2⟩ := refF_both.1 h
   have hs := (unl_zero (by decide)).1 h1
   have h3 := stk_zero next_stk h2
   obtain ⟨h4, h5⟩ := refF_both.1 h3
   have hk := of_decide_eq_true ((unl_zero (by decide)).1 h4)
   obtain ⟨b1, e1, p1, p2, p3⟩ := next_frm l hy h5
   simp only [h3] at h2 hs ⊢
   obtain ⟨b2, e2, q1, q2, q3⟩ := next_frm (iNext l 0).2.1 (byt_rest hy e1) h2
   refine ⟨b1 ++ b2, ?_, p2, hk, fun h => absurd h h0, ?_⟩
   ·rw [List.append_assoc, ← e2]; exact e1
   ·rw [p1, q1]
    unfold votP1
    rw [if_neg (by omega), show (((iNext l 0).1.toNat : Nat) : Int) = (iNext l 0).1 by omega]
    simp only [Bool.or_eq_true, Bool.and_eq_true, beq_iff_eq] at hs
    rcases hs with hs | hs
    ·rw [hs]; rfl
    ·rw [hs.1]; rfl
 ·simp only [if_neg hv] at h ⊢
  unfold vote2 at h ⊢
  by_cases h0 : (iNext l 0).1 = 0 ∨ (iNext l 0).1 = 1 ∨ (iNext l 0).1 = 2
  ·simp only [if_pos h0] at h ⊢
   obtain ⟨b1, e1, p1, _, _⟩ := next_frm l hy h
   refine ⟨b1, e1, by omega, by omega, fun _ => by trivial, ?_⟩
   rw [p1]
   unfold votP2
   rw [show (((iNext l 0).1.toNat : Nat) : Int) = (iNext l 0).1 by omega]
   rfl
  ·simp only [if_neg h0] at h ⊢
   by_cases h5 : (iNext l 0).1 = 5
   ·simp only [if_pos h5] at h ⊢
    obtain ⟨b1, e1, p1, _, _⟩ := next_frm l hy h
    exact ⟨b1, e1, by decide, by decide, fun h => absurd h (by decide), by rw [p1, h5]; rfl⟩
   ·simp only [if_neg h5] at h
    exact absurd (refF_both.1 h).1 (by decide)
theorem cmd_frm (v : Int) : Frm (iCmd v) fun c b => chk v c = 0 ∧ (-9223372036854775808 ≤ c.n ∧ c.n ≤ 9223372036854775807) ∧ b = encC c := fun l hy h => by
 unfold iCmd at h ⊢
 rw [if_pos rfl] at h ⊢
 obtain ⟨_, h1, _, _, h2⟩ := decC_one hy (by simpa using h)
 exact ⟨l.take (decC v l).2.1, (List.take_append_drop _ l).symm, h1, rdecC_n hy, h2.symm⟩
theorem deps_frm (v n : Int) : Frm (iDeps v n) fun dl b => b = packR v dl := fun l hy h => by
 unfold iDeps at h ⊢
 rw [if_pos rfl] at h ⊢
 cases hu : upk v n l with
 | error e =>
  rw [hu] at h
  have hp := upk_err hu
  simp only [upE] at h
  omega
 | ok p =>
  obtain ⟨xs, q⟩ := p
  have := upk_one hy hu
  exact ⟨l.take q, (List.take_append_drop _ l).symm, this.2.2.2.2.2.2.symm⟩
theorem attr_frm (v n : Int) (noop : Bool) : Frm (iAttr v n noop) fun p b => seqB noop p.1 = true ∧ depsB n noop p.2 = true ∧ b = attP v p.1.toNat p.2 := fun l hy h => by
 unfold iAttr at h ⊢
 obtain ⟨h1, h2⟩ := refF_both.1 h
 have hd := (unl_zero (by decide)).1 h1
 have h3 := stk_zero (deps_stk v n) h2
 obtain ⟨h4, h5⟩ := refF_both.1 h3
 have hs := (unl_zero (by decide)).1 h4
 obtain ⟨b1, e1, p1⟩ := num_frm l hy h5
 simp only [h3] at h2 hd ⊢
 obtain ⟨b2, e2, q⟩ := deps_frm v n (iNum l 0).2.1 (byt_rest hy e1) h2
 have hv := val_seq hs
 refine ⟨b1 ++ b2, ?_, hs, hd, ?_⟩
 ·rw [List.append_assoc, ← e2]; exact e1
 ·unfold attP
  rw [top31_back (by omega), p1, q]
theorem load_frm (v n : Int) (may : Bool) : Frm (iLoad v n may) fun p b => loadF v n may p.1 p.2.1 p.2.2 = 0 ∧ (-9223372036854775808 ≤ p.1.n ∧ p.1.n ≤ 9223372036854775807) ∧ b = lodP v p.1 p.2.1.toNat p.2.2 := fun l hy h => by
 unfold iLoad at h ⊢
 have h3 := stk_zero (attr_stk v n _) h
 obtain ⟨h4, h5⟩ := refF_both.1 h3
 have hm := (unl_zero (by decide)).1 h4
 obtain ⟨b1, e1, p1, pn, p2⟩ := cmd_frm v l hy h5
 simp only [h3] at h ⊢
 obtain ⟨b2, e2, q1, q2, q3⟩ := attr_frm v n _ (iCmd v l 0).2.1 (byt_rest hy e1) h
 refine ⟨b1 ++ b2, ?_, ?_, pn, ?_⟩
 ·rw [List.append_assoc, ← e2]; exact e1
 ·unfold loadF
  simp only [orL_cons, orL_nil, and_true, unl_zero (show (57 : Int) ≠ 0 by decide), unl_zero (show (55 : Int) ≠ 0 by decide), unl_zero (show (56 : Int) ≠ 0 by decide)]
  exact ⟨by rw [p1]; rfl, hm, q1, q2⟩
 ·unfold lodP; rw [p2, q3]
open Go.RowKit Go.Wire1
def nB (c : Cm) : Prop := -9223372036854775808 ≤ c.n ∧ c.n ≤ 9223372036854775807
theorem nB_zero : nB zeroC := ⟨by show _ ≤ (0 : Int); omega, by show (0 : Int) ≤ _; omega⟩
theorem stop_frm (m : Ms) : Frm (stopM m) fun m' b => m' = m ∧ b = [] := fun _ _ _ => ⟨[], rfl, rfl, rfl⟩
theorem end_frm (m : Ms) (e : Int) : Frm (endM m e) fun m' b => m' = m ∧ b = [] ∧ e = 0 := fun _ _ h => ⟨[], rfl, rfl, rfl, ((refF_both (e := e) (f := 0)).1 h).1⟩
theorem lMs_frm (v n : Int) (may : Bool) (mk : Cm → Int → List Int → Ms) : Frm (lMs v n may mk) fun m b => ∃ c sq dl, loadF v n may c sq dl = 0 ∧ nB c ∧ b = lodP v c sq.toNat dl ++ [] ∧ m = mk c sq dl := fun l hy h => by
 obtain ⟨b, e, p1, p2, p3⟩ := load_frm v n may l hy h
 exact ⟨b, e, _, _, _, p1, p2, by rw [List.append_nil]; exact p3, rfl⟩
theorem aMs_frm (v n : Int) (mk : Int → List Int → Ms) : Frm (aMs v n mk) fun m b => ∃ sq dl, seqB false sq = true ∧ depsB n false dl = true ∧ b = attP v sq.toNat dl ++ [] ∧ m = mk sq dl := fun l hy h => by
 obtain ⟨b, e, p1, p2, p3⟩ := attr_frm v n false l hy h
 exact ⟨b, e, _, _, p1, p2, by rw [List.append_nil]; exact p3, rfl⟩
theorem gMs_frm (e : Int) {K : List Int → Int → Ms × List Int × Int} {P : Ms → List Int → Prop} (s : Stk K) (h : Frm K P) : Frm (gMs e K) fun m b => e = 0 ∧ P m b := fun l hy h0 => by
 have h1 := refF_both.1 (stk_zero s h0)
 have e1 : gMs e K l 0 = K l 0 := by unfold gMs; rw [h1.1]; rfl
 rw [e1] at h0 ⊢
 obtain ⟨b, q, p⟩ := h l hy h0
 exact ⟨b, q, h1.1, p⟩
theorem bMs_frm (v n : Int) (kd : Nat) (row : Int) (hn : n ≤ 7) {K : Int → Int → List Int → Int → Ms × List Int × Int} {P : Int → Int → Ms → List Int → Prop} (s : ∀ x y, Stk (K x y)) (h : ∀ x y, Frm (K x y) (P x y)) : Frm (bMs v n kd row K) fun m b => ∃ x y b2, ballB kd n row x y = true ∧ b = balP v x.toNat y.toNat ++ b2 ∧ P x y m b2 :=
 Frm.mono (Frm.bind (R1 := iBalF v n kd row) (R2 := fun t => K t.1 t.2) (P2 := fun t m b => P t.1 t.2 m b) (balF_frm v n kd row hn) (fun _ => s _ _) (fun _ _ _ => h _ _)) fun m b ⟨a, b1, b2, p1, p2, e⟩ => ⟨a.1, a.2, b2, p1.1, by rw [e, p1.2], p2⟩
theorem pMs_frm (v : Int) {K : Int → Int → List Int → Int → Ms × List Int × Int} {P : Int → Int → Ms → List Int → Prop} (s : ∀ x y, Stk (K x y)) (h : ∀ x y, Frm (K x y) (P x y)) : Frm (pMs v K) fun m b => ∃ x y b1 b2, (x < 2147483647 → y < 2147483647 → b1 = balP v x.toNat y.toNat) ∧ b = b1 ++ b2 ∧ P x y m b2 :=
 Frm.mono (Frm.bind (R1 := iBal v) (R2 := fun t => K t.1 t.2) (P2 := fun t m b => P t.1 t.2 m b) (bal_frm v) (fun _ => s _ _) (fun _ _ _ => h _ _)) fun _ _ ⟨a, b1, b2, p1, p2, e⟩ => ⟨a.1, a.2, b1, b2, p1.2.2, e, p2⟩
theorem vMs_frm (v : Int) {K : Int → Bool → List Int → Int → Ms × List Int × Int} {P : Int → Bool → Ms → List Int → Prop} (s : ∀ x y, Stk (K x y)) (h : ∀ x y, Frm (K x y) (P x y)) : Frm (vMs v K) fun m b => ∃ st sm b2, (st = 0 → sm = false) ∧ b = votP v st.toNat sm ++ b2 ∧ P st sm m b2 :=
 Frm.mono (Frm.bind (R1 := iVote v) (R2 := fun t => K t.1 t.2) (P2 := fun t m b => P t.1 t.2 m b) (vote_frm v) (fun _ => s _ _) (fun _ _ _ => h _ _)) fun m b ⟨a, b1, b2, p1, p2, e⟩ => ⟨a.1, a.2, b2, p1.2.2.1, by rw [e, p1.2.2.2], p2⟩
theorem mk_chk {v n : Int} {m : Ms} {z : Nat} (h1 : callF v n = 0) (h2 : isMK v m.kind = true) (hz : shK m = z) (ho : only m z = m) (h : shF v n m z = 0) : chkM v n m = 0 := by
 unfold chkM
 have hx : extraM m = false := by
  unfold extraM
  rw [hz, ho]
  simp
 rw [if_pos h1, if_pos h2, if_neg (by rw [hx]; decide), hz]
 exact h
def Tl (v n k row num : Int) (m : Ms) (b : List Int) : Prop := isMK v k = true → instB n row num = true → chkM v n m = 0 ∧ nB m.c ∧ staP v k.toNat row.toNat num.toNat ++ b = msB v m
theorem u52 {b : Bool} (h : b = true) : unl b 52 = 0 := (unl_zero (by decide)).2 h
theorem u53 {b : Bool} (h : b = true) : unl b 53 = 0 := (unl_zero (by decide)).2 h
theorem u55 {b : Bool} (h : b = true) : unl b 55 = 0 := (unl_zero (by decide)).2 h
theorem u56 {b : Bool} (h : b = true) : unl b 56 = 0 := (unl_zero (by decide)).2 h
theorem tail_frm (v n k row num : Int) (hc : callF v n = 0) (hk9 : k ≤ 9) (hk1 : 1 ≤ k) : Frm (rTail v n k row num) (Tl v n k row num) := by
 have hn : n ≤ 7 := (val_call hc).2.2
 have eq : ∀ {K : List Int → Int → Ms × List Int × Int} {P : Ms → List Int → Prop}, Frm K P → (∀ l f, rTail v n k row num l f = K l f) → (∀ m b, P m b → Tl v n k row num m b) → Frm (rTail v n k row num) (Tl v n k row num) := fun {K P} h e t => by
  have : rTail v n k row num = K := funext fun l => funext fun f => e l f
  rw [this]; exact h.mono t
 rcases (by omega : k = 1 ∨ k = 2 ∨ k = 3 ∨ k = 4 ∨ k = 5 ∨ k = 6 ∨ k = 7 ∨ k = 8 ∨ k = 9) with rfl | rfl | rfl | rfl | rfl | rfl | rfl | rfl | rfl
 ·refine eq (bMs_frm v n 1 row hn (K := fun x y => lMs v n false fun c sq dl => ⟨1, row, num, x, y, 0, 0, 0, false, c, sq, dl⟩) (fun _ _ => lMs_stk _ _ _ _) (fun _ _ => lMs_frm _ _ _ _)) (fun l f => rfl) ?_
  rintro m b ⟨x, y, b2, hb, rfl, c, sq, dl, hl, hnb, rfl, rfl⟩ hk hi
  exact ⟨mk_chk (z := 1) hc hk rfl rfl (orL_cons.2 ⟨u52 hi, orL_cons.2 ⟨u53 hb, orL_cons.2 ⟨hl, rfl⟩⟩⟩), hnb, rfl⟩
 ·refine eq (bMs_frm v n 2 row hn (K := fun x y => aMs v n fun sq dl => ⟨2, row, num, x, y, 0, 0, 0, false, zeroC, sq, dl⟩) (fun _ _ => aMs_stk _ _ _) (fun _ _ => aMs_frm _ _ _)) (fun l f => rfl) ?_
  rintro m b ⟨x, y, b2, hb, rfl, sq, dl, hs, hd, rfl, rfl⟩ hk hi
  exact ⟨mk_chk (z := 2) hc hk rfl rfl (orL_cons.2 ⟨u52 hi, orL_cons.2 ⟨u53 hb, orL_cons.2 ⟨u55 hs, orL_cons.2 ⟨u56 hd, rfl⟩⟩⟩⟩), nB_zero, rfl⟩
 ·refine eq (bMs_frm v n 3 row hn (K := fun x y => lMs v n true fun c sq dl => ⟨3, row, num, x, y, 0, 0, 0, false, c, sq, dl⟩) (fun _ _ => lMs_stk _ _ _ _) (fun _ _ => lMs_frm _ _ _ _)) (fun l f => rfl) ?_
  rintro m b ⟨x, y, b2, hb, rfl, c, sq, dl, hl, hnb, rfl, rfl⟩ hk hi
  exact ⟨mk_chk (z := 1) hc hk rfl rfl (orL_cons.2 ⟨u52 hi, orL_cons.2 ⟨u53 hb, orL_cons.2 ⟨hl, rfl⟩⟩⟩), hnb, rfl⟩
 ·refine eq (bMs_frm v n 4 row hn (K := fun x y => stopM ⟨4, row, num, x, y, 0, 0, 0, false, zeroC, 0, []⟩) (fun _ _ => stopM_stk _) (fun _ _ => stop_frm _)) (fun l f => rfl) ?_
  rintro m b ⟨x, y, b2, hb, rfl, rfl, rfl⟩ hk hi
  exact ⟨mk_chk (z := 3) hc hk rfl rfl (orL_cons.2 ⟨u52 hi, orL_cons.2 ⟨u53 hb, rfl⟩⟩), nB_zero, rfl⟩
 ·refine eq (lMs_frm v n true fun c sq dl => ⟨5, row, num, 0, 0, 0, 0, 0, false, c, sq, dl⟩) (fun l f => rfl) ?_
  rintro m b ⟨c, sq, dl, hl, hnb, rfl, rfl⟩ hk hi
  exact ⟨mk_chk (z := 4) hc hk rfl rfl (orL_cons.2 ⟨u52 hi, orL_cons.2 ⟨hl, rfl⟩⟩), hnb, rfl⟩
 ·refine eq (bMs_frm v n 6 row hn (K := fun x y => stopM ⟨6, row, num, x, y, 0, 0, 0, false, zeroC, 0, []⟩) (fun _ _ => stopM_stk _) (fun _ _ => stop_frm _)) (fun l f => rfl) ?_
  rintro m b ⟨x, y, b2, hb, rfl, rfl, rfl⟩ hk hi
  exact ⟨mk_chk (z := 3) hc hk rfl rfl (orL_cons.2 ⟨u52 hi, orL_cons.2 ⟨u53 hb, rfl⟩⟩), nB_zero, rfl⟩
 ·have told : ∀ x y st sm, Frm (fun l f => if st = 0 then stopM ⟨7, row, num, x, y, 0, 0, 0, false, zeroC, 0, []⟩ l f else pMs v (fun p q => gMs (unl (voteB n row x y st sm p q) 54) (lMs v n (st != 1) fun c sq dl => ⟨7, row, num, x, y, p, q, st, sm, c, sq, dl⟩)) l f) fun m b => (st = 0 ∧ m = ⟨7, row, num, x, y, 0, 0, 0, false, zeroC, 0, []⟩ ∧ b = []) ∨ (st ≠ 0 ∧ ∃ p q b1 b2, (p < 2147483647 → q < 2147483647 → b1 = balP v p.toNat q.toNat) ∧ b = b1 ++ b2 ∧ unl (voteB n row x y st sm p q) 54 = 0 ∧ ∃ c sq dl, loadF v n (st != 1) c sq dl = 0 ∧ nB c ∧ b2 = lodP v c sq.toNat dl ++ [] ∧ m = ⟨7, row, num, x, y, p, q, st, sm, c, sq, dl⟩) := fun x y st sm l hy h => by
   by_cases h0 : st = 0
   ·simp only [if_pos h0] at h ⊢
    exact ⟨[], rfl, .inl ⟨h0, rfl, rfl⟩⟩
   ·simp only [if_neg h0] at h ⊢
    obtain ⟨b, e, p, q, b1, b2, r1, r2, r3, r4⟩ := pMs_frm v (fun _ _ => gMs_stk _ (lMs_stk _ _ _ _)) (fun p q => gMs_frm _ (lMs_stk _ _ _ _) (lMs_frm v n (st != 1) fun c sq dl => ⟨7, row, num, x, y, p, q, st, sm, c, sq, dl⟩)) l hy h
    exact ⟨b, e, .inr ⟨h0, p, q, b1, b2, r1, r2, r3, r4⟩⟩
  refine eq (bMs_frm v n 7 row hn (K := fun x y => vMs v fun st sm l f => if st = 0 then stopM ⟨7, row, num, x, y, 0, 0, 0, false, zeroC, 0, []⟩ l f else pMs v (fun p q => gMs (unl (voteB n row x y st sm p q) 54) (lMs v n (st != 1) fun c sq dl => ⟨7, row, num, x, y, p, q, st, sm, c, sq, dl⟩)) l f) (fun x y => vMs_stk v fun st sm => told_stk v n row num x y st sm) (fun x y => vMs_frm v (fun st sm => told_stk v n row num x y st sm) (fun st sm => told x y st sm))) (fun l f => rfl) ?_
  rintro m b ⟨x, y, b2, hb, rfl, st, sm, b3, hsm, rfl, hh⟩ hk hi
  rcases hh with ⟨rfl, rfl, rfl⟩ | ⟨h0, p, q, b4, b5, hbp, rfl, hvt, c, sq, dl, hl, hnb, rfl, rfl⟩
  ·obtain rfl := hsm rfl
   exact ⟨mk_chk (z := 5) hc hk rfl rfl (orL_cons.2 ⟨u52 hi, orL_cons.2 ⟨u53 hb, rfl⟩⟩), nB_zero, rfl⟩
  ·have hvv := val_vote ((unl_zero (by decide)).1 hvt)
   have e4 := hbp (by omega) (by omega)
   have hz : shK ⟨7, row, num, x, y, p, q, st, sm, c, sq, dl⟩ = 6 := by unfold shK; simp [h0]
   refine ⟨mk_chk (z := 6) hc hk hz rfl (orL_cons.2 ⟨u52 hi, orL_cons.2 ⟨u53 hb, orL_cons.2 ⟨hvt, orL_cons.2 ⟨hl, rfl⟩⟩⟩⟩), hnb, ?_⟩
   unfold msB
   rw [hz, e4]
   rfl
 ·refine eq (bMs_frm v n 8 row hn (K := fun x y => pMs v fun p q => endM ⟨8, row, num, x, y, p, q, 0, false, zeroC, 0, []⟩ (unl (nackB n row x y p q) 54)) (fun x y => pMs_stk v fun _ _ => endM_stk _ _) (fun x y => pMs_frm v (fun _ _ => endM_stk _ _) (fun _ _ => end_frm _ _))) (fun l f => rfl) ?_
  rintro m b ⟨x, y, b2, hb, rfl, p, q, b4, b5, hbp, rfl, rfl, rfl, hnk⟩ hk hi
  have hvv := val_nack ((unl_zero (by decide)).1 hnk)
  have e4 := hbp (by omega) (by omega)
  exact ⟨mk_chk (z := 7) hc hk rfl rfl (orL_cons.2 ⟨u52 hi, orL_cons.2 ⟨u53 hb, orL_cons.2 ⟨hnk, rfl⟩⟩⟩), nB_zero, by rw [e4]; rfl⟩
 ·refine eq (stop_frm ⟨9, row, num, 0, 0, 0, 0, 0, false, zeroC, 0, []⟩) (fun l f => rfl) ?_
  rintro m b ⟨rfl, rfl⟩ hk hi
  exact ⟨mk_chk (z := 0) hc hk rfl rfl (u52 hi), nB_zero, rfl⟩
theorem isMK_at {v k : Int} (h : isMK v k = true) : 1 ≤ k ∧ k ≤ 9 := by
 obtain ⟨j, rfl, h1, h2⟩ := isMK_nat h
 omega
theorem decM_one {v n : Int} {l : List Int} (hy : Byt l) (h : (decM v n l).2 = 0) : chkM v n (decM v n l).1 = 0 ∧ nB (decM v n l).1.c ∧ msB v (decM v n l).1 = l := by
 unfold decM at h ⊢
 by_cases hc : callF v n = 0
 ·simp only [if_pos hc] at h ⊢
  by_cases he : endF (rdMsg v n l 0).2.1 (rdMsg v n l 0).2.2 = 0
  ·simp only [if_pos he]
   have hr : (rdMsg v n l 0).2.1 = [] ∧ (rdMsg v n l 0).2.2 = 0 := by
    unfold endF at he
    split at he
    ·exact ⟨by assumption, he⟩
    ·exact absurd (refF_both.1 he).1 (by decide)
   rw [rdMsg_tail] at hr ⊢
   have h1 : (iHead v n l 0).2.2 = 0 := stk_zero (rTail_stk _ _ _ _ _) hr.2
   obtain ⟨b1, e1, p1, p2, p3⟩ := head_frm v n (val_call hc).2.2 l hy h1
   rw [h1] at hr ⊢
   have hk := isMK_at p1
   obtain ⟨b2, e2, q⟩ := tail_frm v n _ _ _ hc hk.2 hk.1 (iHead v n l 0).2.1 (byt_rest hy e1) hr.2
   obtain ⟨q1, q2, q3⟩ := q p1 p2
   refine ⟨q1, q2, ?_⟩
   rw [← q3, ← p3]
   rw [hr.1, List.append_nil] at e2
   rw [← e2]
   exact e1.symm
  ·simp only [if_neg he] at h
   exact absurd h he
 ·simp only [if_neg hc] at h
  exact absurd h hc
theorem decM_bad {v n : Int} {l : List Int} (h : (decM v n l).2 ≠ 0) : (decM v n l).1 = zeroM := by
 unfold decM at h ⊢
 split at h
 ·split at h
  ·exact absurd rfl h
  ·rename_i h1 h2; rw [if_pos h1, if_neg h2]
 ·rename_i h1; rw [if_neg h1]
open Go.RowKit Go.Wire1
theorem empty_size {s : ByteArray} (h : s.toList.isEmpty = true) : s.size = 0 := by rw [empty_of h]; rfl
theorem key_le {k : ByteArray} (h : isKeyB k = true) : k.size ≤ 64 := by
 unfold isKeyB at h
 simp only [Bool.and_eq_true, decide_eq_true_eq] at h
 exact h.2
theorem chk_sizes {v : Int} {c : Cm} (h : chk v c = 0) : c.key.size ≤ 64 ∧ c.key2.size ≤ 64 ∧ c.val.size ≤ mostV v ∧ c.old.size ≤ mostV v := by
 have hf := (chk_zero h).2.2
 refine ⟨?_, ?_, ?_, ?_⟩
 ·cases hh : hasF c.kind 2 with
  | false => rw [empty_size (zero_of (hf 2 (by decide)) rfl hh)]; omega
  | true => exact key_le (allow_of (hf 2 (by decide)) (by decide) rfl hh)
 ·cases hh : hasF c.kind 3 with
  | false => rw [empty_size (zero_of (hf 3 (by decide)) rfl hh)]; omega
  | true =>
   have := allow_of (hf 3 (by decide)) (by decide) rfl hh
   exact key_le (Bool.and_eq_true_iff.1 this).1
 ·cases hh : hasF c.kind 4 with
  | false => rw [empty_size (zero_of (hf 4 (by decide)) rfl hh)]; omega
  | true => exact of_decide_eq_true (allow_of (hf 4 (by decide)) (by decide) rfl hh)
 ·cases hh : hasF c.kind 5 with
  | false => rw [empty_size (zero_of (hf 5 (by decide)) rfl hh)]; omega
  | true => exact of_decide_eq_true (allow_of (hf 5 (by decide)) (by decide) rfl hh)
theorem load_keys {v n : Int} {may : Bool} {c : Cm} {sq : Int} {dl : List Int} (h : loadF v n may c sq dl = 0) : c.key.size ≤ 140737488351232 ∧ c.key2.size ≤ 140737488351232 := by
 have hs := chk_sizes (val_load h).1
 omega
theorem msg_keys {v n : Int} {m : Ms} (h0 : chkM v n m = 0) : m.c.key.size ≤ 140737488351232 ∧ m.c.key2.size ≤ 140737488351232 := by
 obtain ⟨h1, h2, h3, h4⟩ := val_msg h0
 have ho := only_self h3
 have h7 := shK_le m
 generalize shK m = z at *
 have hz : ∀ c : Cm, c = zeroC → c.key.size ≤ 140737488351232 ∧ c.key2.size ≤ 140737488351232 := fun c e => by subst e; exact ⟨by show (0 : Nat) ≤ _; omega, by show (0 : Nat) ≤ _; omega⟩
 rcases (by omega : z = 0 ∨ z = 1 ∨ z = 2 ∨ z = 3 ∨ z = 4 ∨ z = 5 ∨ z = 6 ∨ z = 7) with rfl | rfl | rfl | rfl | rfl | rfl | rfl | rfl
 ·exact hz _ (congrArg Ms.c ho).symm
 ·exact load_keys (orL_cons.1 (orL_cons.1 (orL_cons.1 h4).2).2).1
 ·exact hz _ (congrArg Ms.c ho).symm
 ·exact hz _ (congrArg Ms.c ho).symm
 ·exact load_keys (orL_cons.1 (orL_cons.1 h4).2).1
 ·exact hz _ (congrArg Ms.c ho).symm
 ·exact load_keys (orL_cons.1 (orL_cons.1 (orL_cons.1 (orL_cons.1 h4).2).2).2).1
 ·exact hz _ (congrArg Ms.c ho).symm
open Go.ChangeShapes Go.WideShapes Go.ChangeAt Go.RowKit Go.Wire1
theorem src_of {H : Type} {enc : TypeId × Value → H} {W : World} {fuel : Nat} {a : Option Addr} {len cap : Nat} {x : DataW H × List MemPlace}
  (h : DataW.trod enc Tryz.prog W 0 (fun _ => true) true fuel 34 [.slice a len cap] = some x) : Src a len cap := by
 rcases open_ints Tryz.underlying34 Tryz.underlying5 cells5 h with ⟨hcs, hx⟩ | ⟨b, len', cap', zs, hcs, _, hl, hm, hz, hx, hcell, hwz⟩
 ·simp only [List.cons.injEq, Value.slice.injEq, and_true] at hcs
  exact .inl ⟨hcs.2.1, hcs.2.2⟩
 ·simp only [List.cons.injEq, Value.slice.injEq, and_true] at hcs
  obtain ⟨rfl, rfl, rfl⟩ := hcs
  simp only [if_true] at hz
  by_cases h0 : cap = 0
  ·exact .inl ⟨by omega, h0⟩
  ·obtain ⟨bb, off, spot⟩ := b
   have hc0 := hcell 0 (by omega)
   have hspot : spot = none := by simpa [Addr.add] using World.cell?_spot hc0
   subst hspot
   exact .inr ⟨⟨bb, off, rfl⟩, hl, hm⟩
end Go.Proofs.YtppocmgcfeelhaaGreatDoor
