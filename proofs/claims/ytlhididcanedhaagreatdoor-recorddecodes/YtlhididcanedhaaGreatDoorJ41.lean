/- Texts of the proof, joined. -/
import Derived.Test.YtlhididcanedhaaGreatDoorJ40
/- The document's own Decode of records and the program's give the same: the mathematics. -/
namespace Go.Proofs.YtlhididcanedhaaGreatDoor
open Go.RowKit Go.Wire1

theorem jd6_keep {b : Bool} {z e : Int} (he : e ≠ 0) : jd6 b z e = e := by
  unfold jd6
  rw [show (e == 0) = false from beq_eq_false_iff_ne.2 he, Bool.and_false]; rfl
theorem jd6_zero {b : Bool} {z : Int} (_hz : z ≠ 0) : jd6 b z 0 = if b then z else 0 := by cases b <;> rfl
theorem nu6_keep {l : List Int} {e : Int} (he : e ≠ 0) : nu6 l e = (0, l, e) := if_neg he
theorem oc6_keep {l : List Int} {e : Int} (he : e ≠ 0) : oc6 l e = (0, l, e) := if_neg he
theorem va6_keep {n : Nat} {r : Rc} {l : List Int} {e : Int} (he : e ≠ 0) : va6 n r l e = (r, l, e) := if_neg he
theorem in6_keep {n : Nat} {r : Rc} {l : List Int} {e : Int} (he : e ≠ 0) : (in6 n r l e).2.2 = e := by
  unfold in6; rw [nu6_keep he]; exact jd6_keep he
theorem ba6_keep {n : Nat} {p : Rc × List Int × Int} (he : p.2.2 ≠ 0) : (ba6 n p).2.2 = p.2.2 := by
  unfold ba6; rw [nu6_keep he]; exact jd6_keep he
theorem sa6_keep {p : Rc × List Int × Int} (he : p.2.2 ≠ 0) : (sa6 p).2.2 = p.2.2 := by
  have h : ∀ b, (jd6 b 64 p.2.2) = p.2.2 := fun b => jd6_keep he
  unfold sa6
  simp only [oc6_keep he]
  exact h _
theorem va6_keep2 {n : Nat} {p : Rc × List Int × Int} (he : p.2.2 ≠ 0) : (va6 n p.1 p.2.1 p.2.2).2.2 = p.2.2 := by rw [va6_keep he]
theorem bo6_keep {n : Nat} {r : Rc} {l : List Int} {e : Int} (he : e ≠ 0) : (bo6 n r l e).2.2 = e := by
  have h1 : (in6 n r l e).2.2 = e := in6_keep he
  have h2 : (ba6 n (in6 n r l e)).2.2 = e := (ba6_keep (by rw [h1]; exact he)).trans h1
  have h3 : (sa6 (ba6 n (in6 n r l e))).2.2 = e := (sa6_keep (by rw [h2]; exact he)).trans h2
  unfold bo6
  split
  · exact h2
  split
  · exact (va6_keep2 (by rw [h3]; exact he)).trans h3
  split
  · exact (va6_keep2 (by rw [h2]; exact he)).trans h2
  split
  · exact (va6_keep2 (by rw [h1]; exact he)).trans h1
  · exact h1
/-- A field's step: the scan's and the reader's. -/
def Stp (k x : Nat) (xs : List Nat) (r : Rc) (l : List Int) (q : Rc × List Int × Int) : Prop :=
  (q.2.2 = 0 → rdGo k (x :: xs) r l = rdGo k xs q.1 q.2.1) ∧ (q.2.2 ≠ 0 → (rdGo k (x :: xs) r l).2 = q.2.2)
theorem stp_of {k x : Nat} {xs : List Nat} {r : Rc} {l : List Int} {r' : Rc} {l' : List Int} {e z : Int} {bad : Bool} (hz : z ≠ 0)
    (he : rdE k r l x = e) (hl : rdL k r l x = l') (hbad : e = 0 → ((faultR (k : Int) (rdR k r l x) x : Nat) : Int) = if bad then z else 0) (hr : e = 0 → bad = false → rdR k r l x = r') : Stp k x xs r l (r', l', jd6 bad z e) := by
  have hG : rdGo k (x :: xs) r l = if rdE k r l x = 0 then (if faultR (k : Int) (rdR k r l x) x = 0 then rdGo k xs (rdR k r l x) (rdL k r l x) else (rdR k r l x, ((faultR (k : Int) (rdR k r l x) x : Nat) : Int))) else (rdR k r l x, rdE k r l x) := rfl
  by_cases h0 : e = 0
  · subst h0
    have hb := hbad rfl
    rw [he, if_pos rfl] at hG
    cases bad with
    | false =>
      have hf : faultR (k : Int) (rdR k r l x) x = 0 := by simpa using hb
      rw [if_pos hf, hl, hr rfl rfl] at hG
      exact ⟨fun _ => hG, fun h => absurd rfl h⟩
    | true =>
      have hf : faultR (k : Int) (rdR k r l x) x ≠ 0 := by
        intro h
        rw [h] at hb
        exact hz (by simpa using hb.symm)
      rw [if_neg hf] at hG
      refine ⟨fun h => absurd h hz, fun _ => ?_⟩
      rw [hG]
      exact hb
  · rw [if_neg (by rw [he]; exact h0)] at hG
    rw [jd6_keep h0]
    exact ⟨fun h => absurd h h0, fun _ => by rw [hG]; exact he⟩
theorem t40_of {x : Nat} (h : t40 x ≤ 1048576) : t31 x = t40 x := by unfold t40 at h; unfold t31 t40; omega
theorem rinst_t (n row : Int) (x : Nat) : rinstB n row (t31 x) = rinstB n row (t40 x) := by
  have h1 : decide (1 ≤ t31 x) = decide (1 ≤ t40 x) := by unfold t31 t40; exact decide_eq_decide.2 (by omega)
  have h2 : decide (t31 x ≤ 1048576) = decide (t40 x ≤ 1048576) := by unfold t31 t40; exact decide_eq_decide.2 (by omega)
  unfold rinstB
  rw [h1, h2]
theorem unl_not (b : Bool) (z : Nat) : ((unlR b z : Nat) : Int) = if !b then (z : Int) else 0 := by cases b <;> rfl
theorem in_stp (k : Nat) (xs : List Nat) (r : Rc) (l : List Int) : Stp k 105 xs r l (in6 k r l 0) := by
  unfold in6
  rw [show nu6 l 0 = rWh l from if_pos rfl]
  refine stp_of (by omega) rfl rfl (fun _ => ?_) (fun _ hb => ?_)
  · show ((unlR (rinstB (k : Int) (((rWh l).1 % 8 : Nat) : Int) (t31 ((rWh l).1 / 8))) 62 : Nat) : Int) = _
    rw [rinst_t]; exact unl_not _ _
  · have hb' : rinstB (k : Int) (((rWh l).1 % 8 : Nat) : Int) (t40 ((rWh l).1 / 8)) = true := by simpa using hb
    have hx : t40 ((rWh l).1 / 8) ≤ 1048576 := by
      simp only [rinstB, Bool.and_eq_true, decide_eq_true_eq] at hb'
      exact hb'.2.2.2
    show { r with num := t31 ((rWh l).1 / 8), row := (((rWh l).1 % 8 : Nat) : Int) } = _
    rw [t40_of hx]
theorem in_row (k : Nat) (r : Rc) (l : List Int) (e : Int) : (in6 k r l e).2.2 = 0 → 0 ≤ (in6 k r l e).1.row ∧ (in6 k r l e).1.row < (k : Int) := by
  unfold in6
  intro h
  have hb : rinstB (k : Int) (((nu6 l e).1 % 8 : Nat) : Int) (t40 ((nu6 l e).1 / 8)) = true := by
    cases hq : rinstB (k : Int) (((nu6 l e).1 % 8 : Nat) : Int) (t40 ((nu6 l e).1 / 8)) with
    | true => rfl
    | false =>
      exfalso
      have h' : jd6 (!rinstB (k : Int) (((nu6 l e).1 % 8 : Nat) : Int) (t40 ((nu6 l e).1 / 8))) 62 (nu6 l e).2.2 = 0 := h
      rw [hq] at h'
      by_cases h0 : (nu6 l e).2.2 = 0
      · rw [h0] at h'; exact absurd h' (by decide)
      · rw [jd6_keep h0] at h'; exact h0 h'
  simp only [rinstB, Bool.and_eq_true, decide_eq_true_eq] at hb
  exact ⟨hb.1, hb.2.1⟩
theorem bal_t (n : Int) (r : Rc) (x : Nat) (who : Int) (hw : 0 ≤ who) (_h1 : 0 ≤ r.row) (h2 : r.row < n) : balR n { r with round := t31 x, who := who } = balX n r.kind r.row (t40 x) who := by
  unfold balR balX
  by_cases h0 : x = 0
  · subst h0
    show (if (0 : Int) = 0 then (who == r.row) && (r.kind != 2) else _) = if (0 : Int) < 0 ∨ 65535 < (0 : Int) ∨ who < 0 ∨ n ≤ who then false else decide ((0 : Int) < 0) || ((who == r.row) && (r.kind != 2))
    rw [if_pos rfl]
    by_cases hn : n ≤ who
    · rw [if_pos (by omega), show (who == r.row) = false from beq_eq_false_iff_ne.2 (by omega)]; rfl
    · rw [if_neg (by omega)]; rfl
  · have a1 : t31 x ≠ 0 := by unfold t31; omega
    show (if t31 x = 0 then (who == r.row) && (r.kind != 2) else decide (1 ≤ t31 x) && (decide (t31 x ≤ 65535) && (decide (0 ≤ who) && decide (who < n)))) = _
    rw [if_neg a1]
    by_cases hb : t40 x < 0 ∨ 65535 < t40 x ∨ who < 0 ∨ n ≤ who
    · rw [if_pos hb]
      have : ¬ (t31 x ≤ 65535 ∧ who < n) := by
        rcases hb with h | h | h | h
        · unfold t40 at h; omega
        · unfold t40 at h; unfold t31; omega
        · omega
        · omega
      by_cases c1 : t31 x ≤ 65535
      · have c2 : ¬ who < n := fun h => this ⟨c1, h⟩
        simp [c2]
      · simp [c1]
    · rw [if_neg hb]
      have b1 : 1 ≤ t31 x := by unfold t31; omega
      have b2 : t31 x ≤ 65535 := by
        have : ¬ 65535 < t40 x := fun h => hb (.inr (.inl h))
        unfold t40 at this; unfold t31; omega
      have b3 : 0 < t40 x := by unfold t40; omega
      have b4 : who < n := by omega
      simp [b1, b2, b3, b4, hw]
theorem ba_stp (k : Nat) (xs : List Nat) (r : Rc) (l : List Int) (h1 : 0 ≤ r.row) (h2 : r.row < (k : Int)) : Stp k 98 xs r l (ba6 k (r, l, 0)) := by
  unfold ba6
  simp only
  rw [show nu6 l 0 = rWh l from if_pos rfl]
  refine stp_of (by omega) rfl rfl (fun _ => ?_) (fun _ hb => ?_)
  · show ((unlR (balR (k : Int) { r with round := t31 ((rWh l).1 / 8), who := (((rWh l).1 % 8 : Nat) : Int) }) 63 : Nat) : Int) = _
    rw [bal_t _ _ _ _ (by omega) h1 h2]; exact unl_not _ _
  · have hb' : balX (k : Int) r.kind r.row (t40 ((rWh l).1 / 8)) (((rWh l).1 % 8 : Nat) : Int) = true := by simpa using hb
    have hx : t40 ((rWh l).1 / 8) ≤ 1048576 := by
      unfold balX at hb'
      split at hb'
      · cases hb'
      · omega
    show { r with round := t31 ((rWh l).1 / 8), who := (((rWh l).1 % 8 : Nat) : Int) } = _
    rw [t40_of hx]
theorem sa_stp (k : Nat) (xs : List Nat) (r : Rc) (l : List Int) : Stp k 115 xs r l (sa6 (r, l, 0)) := by
  unfold sa6
  simp only
  rw [show oc6 l 0 = rOct l from if_pos rfl]
  have hG : rdGo k (115 :: xs) r l = if rdE k r l 115 = 0 then (if faultR (k : Int) (rdR k r l 115) 115 = 0 then rdGo k xs (rdR k r l 115) (rdL k r l 115) else (rdR k r l 115, ((faultR (k : Int) (rdR k r l 115) 115 : Nat) : Int))) else (rdR k r l 115, rdE k r l 115) := rfl
  have hE : rdE k r l 115 = if (rOct l).2.2 = 0 then ((unlR (decide ((rOct l).1 ≤ 1)) 64 : Nat) : Int) else (rOct l).2.2 := rfl
  have hR : rdR k r l 115 = { r with same := (rOct l).1 == 1 } := rfl
  have hF : faultR (k : Int) (rdR k r l 115) 115 = unlR (!((rOct l).1 == 1) || (r.round == 0)) 64 := rfl
  by_cases h0 : (rOct l).2.2 = 0
  · rw [if_pos h0] at hE
    rw [h0, jd6_zero (by omega)]
    by_cases hb : (rOct l).1 ≤ 1
    · have e1 : rdE k r l 115 = 0 := by rw [hE, decide_eq_true hb]; rfl
      have d1 : decide (1 < (rOct l).1) = false := decide_eq_false (by omega)
      rw [if_pos e1] at hG
      rw [d1, Bool.false_or]
      cases hs : ((rOct l).1 == 1) && (r.round != 0) with
      | true =>
        have hf : faultR (k : Int) (rdR k r l 115) 115 = 64 := by
          rw [hF]
          simp only [Bool.and_eq_true] at hs
          rw [hs.1, show (r.round == 0) = false by simpa using hs.2]; rfl
        rw [hf, if_neg (by omega)] at hG
        exact ⟨fun h => by (cases h), fun _ => by rw [hG]; rfl⟩
      | false =>
        have hf : faultR (k : Int) (rdR k r l 115) 115 = 0 := by
          rw [hF]
          have : (!((rOct l).1 == 1) || (r.round == 0)) = true := by
            cases q1 : (rOct l).1 == 1 with
            | false => rfl
            | true => rw [q1, Bool.true_and] at hs; simpa using hs
          rw [this]; rfl
        rw [if_pos hf, hR] at hG
        exact ⟨fun _ => hG, fun h => absurd rfl h⟩
    · have e1 : rdE k r l 115 = 64 := by rw [hE, decide_eq_false hb]; rfl
      have d1 : decide (1 < (rOct l).1) = true := decide_eq_true (by omega)
      rw [e1, if_neg (by omega)] at hG
      rw [d1, Bool.true_or]
      exact ⟨fun h => by (cases h), fun _ => by rw [hG]; rfl⟩
  · rw [if_neg h0] at hE
    rw [hE, if_neg h0] at hG
    rw [jd6_keep h0]
    exact ⟨fun h => absurd h h0, fun _ => by rw [hG]⟩
theorem deps6_noop (k : Nat) (r : Rc) (h : r.c.kind = 0) : depsR (k : Int) { r with deps := List.replicate k 0 } = true := by
  unfold depsR mostR noopR
  simp [h]
theorem deps6_upk {k : Nat} {l xs : List Int} {p : Nat} (hy : Byt l) (r : Rc) (hk : r.c.kind ≠ 0) (h : upk 2 (k : Int) l = .ok (xs, p)) : depsR (k : Int) { r with deps := xs } = true := by
  have h1 := upk_len hy h
  have h2 : okL xs = true := by
    have := h1.2.2
    unfold isVec at this
    simp only [Bool.and_eq_true] at this
    exact this.2
  unfold depsR mostR noopR
  rw [show (r.c.kind == 0) = false from beq_eq_false_iff_ne.2 hk]
  simp only [Bool.and_eq_true, decide_eq_true_eq]
  refine ⟨h1.1, List.all_eq_true.2 fun x hx => ?_⟩
  have := (List.all_eq_true.1 h2) x hx
  simp only [okE, decide_eq_true_eq] at this
  simp only [Bool.false_eq_true, if_false, Bool.and_eq_true, decide_eq_true_eq]
  exact this
theorem va_fin {k : Nat} {r : Rc} {l : List Int} (hy : Byt l) (hs : r.seq = 0) :
    ((va6 k r l 0).2.2 = 0 → rdGo k [99, 113, 100] r l = rdGo k [] (va6 k r l 0).1 (va6 k r l 0).2.1) ∧ ((va6 k r l 0).2.2 ≠ 0 → (rdGo k [99, 113, 100] r l).2 = (va6 k r l 0).2.2) := by
  obtain ⟨⟨c, j, f⟩, hD⟩ : ∃ p, decC 2 l = p := ⟨_, rfl⟩
  have E1 : rdE k r l 99 = f := by show (decC 2 l).2.2 = f; rw [hD]
  have L1 : rdL k r l 99 = l.drop j := by show l.drop (decC 2 l).2.1 = _; rw [hD]
  have R1 : rdR k r l 99 = { r with c := c } := by show { r with c := (decC 2 l).1 } = _; rw [hD]
  have G1 : rdGo k [99, 113, 100] r l = if rdE k r l 99 = 0 then (if faultR (k : Int) (rdR k r l 99) 99 = 0 then rdGo k [113, 100] (rdR k r l 99) (rdL k r l 99) else (rdR k r l 99, ((faultR (k : Int) (rdR k r l 99) 99 : Nat) : Int))) else (rdR k r l 99, rdE k r l 99) := rfl
  rw [E1, L1, R1] at G1
  have hyd : Byt (l.drop j) := byt_drop hy j
  by_cases hf : f = 0
  · subst hf
    have hchk : chk 2 c = 0 := by
      have := decC_one (v := 2) hy (by rw [hD])
      rw [hD] at this; exact this.2.1
    rw [if_pos rfl] at G1
    have F1 : faultR (k : Int) { r with c := c } 99 = unlR (mayR r || !(c.kind == 0)) 65 := by
      show cmdR { r with c := c } = _
      unfold cmdR
      rw [if_pos hchk]; rfl
    rw [F1] at G1
    unfold va6
    rw [if_pos rfl, hD]
    simp only
    by_cases hk : c.kind = 0
    · rw [if_pos hk]
      simp only
      rw [jd6_zero (by omega)]
      rw [show (c.kind == 0) = true by simp [hk], Bool.not_true, Bool.or_false] at G1
      have hm : mayR r = !(r.kind == 3) := rfl
      rw [hm] at G1
      cases h3 : r.kind == 3 with
      | true =>
        rw [h3] at G1
        exact ⟨fun h => by (cases h), fun _ => by rw [G1]; rfl⟩
      | false =>
        rw [h3] at G1
        refine ⟨fun _ => ?_, fun h => absurd rfl h⟩
        rw [G1]
        have hnp : noopR { r with c := c } = true := by show (c.kind == 0) = true; simp [hk]
        have G2 : rdGo k [113, 100] { r with c := c } (l.drop j) = if rdE k { r with c := c } (l.drop j) 113 = 0 then (if faultR (k : Int) (rdR k { r with c := c } (l.drop j) 113) 113 = 0 then rdGo k [100] (rdR k { r with c := c } (l.drop j) 113) (rdL k { r with c := c } (l.drop j) 113) else (rdR k { r with c := c } (l.drop j) 113, ((faultR (k : Int) (rdR k { r with c := c } (l.drop j) 113) 113 : Nat) : Int))) else (rdR k { r with c := c } (l.drop j) 113, rdE k { r with c := c } (l.drop j) 113) := rfl
        have E2 : rdE k { r with c := c } (l.drop j) 113 = 0 := by show (if noopR { r with c := c } then _ else _) = _; rw [hnp]; rfl
        have L2 : rdL k { r with c := c } (l.drop j) 113 = l.drop j := by show (if noopR { r with c := c } then _ else _) = _; rw [hnp]; rfl
        have R2 : rdR k { r with c := c } (l.drop j) 113 = { r with c := c } := by show (if noopR { r with c := c } then _ else _) = _; rw [hnp]; rfl
        have F2 : faultR (k : Int) { r with c := c } 113 = 0 := by
          show unlR (seqR { r with c := c }) 65 = 0
          unfold seqR
          rw [hnp, if_pos rfl]
          show unlR (r.seq == 0) 65 = 0
          rw [hs]; rfl
        rw [E2, R2, L2, F2, if_pos rfl, if_pos rfl] at G2
        have G3 : rdGo k [100] { r with c := c } (l.drop j) = if rdE k { r with c := c } (l.drop j) 100 = 0 then (if faultR (k : Int) (rdR k { r with c := c } (l.drop j) 100) 100 = 0 then rdGo k [] (rdR k { r with c := c } (l.drop j) 100) (rdL k { r with c := c } (l.drop j) 100) else (rdR k { r with c := c } (l.drop j) 100, ((faultR (k : Int) (rdR k { r with c := c } (l.drop j) 100) 100 : Nat) : Int))) else (rdR k { r with c := c } (l.drop j) 100, rdE k { r with c := c } (l.drop j) 100) := rfl
        have E3 : rdE k { r with c := c } (l.drop j) 100 = 0 := by show (if noopR { r with c := c } then _ else _) = _; rw [hnp]; rfl
        have L3 : rdL k { r with c := c } (l.drop j) 100 = l.drop j := by show (if noopR { r with c := c } then _ else _) = _; rw [hnp]; rfl
        have R3 : rdR k { r with c := c } (l.drop j) 100 = { r with c := c, deps := List.replicate k 0 } := by show ({ r with c := c, deps := if noopR { r with c := c } then _ else _ } : Rc) = _; rw [hnp]; rfl
        have F3 : faultR (k : Int) { r with c := c, deps := List.replicate k 0 } 100 = 0 := by
          show unlR (depsR (k : Int) { r with c := c, deps := List.replicate k 0 }) 65 = 0
          rw [deps6_noop k { r with c := c } hk]; rfl
        rw [E3, R3, L3, F3, if_pos rfl, if_pos rfl] at G3
        show rdGo k [113, 100] { r with c := c } (l.drop j) = _
        rw [G2, G3]
    · rw [if_neg hk]
      rw [show (c.kind == 0) = false from beq_eq_false_iff_ne.2 hk, Bool.not_false, Bool.or_true] at G1
      have hnp : noopR { r with c := c } = false := beq_eq_false_iff_ne.2 hk
      obtain ⟨b, hb⟩ : ∃ b, l.drop j = b := ⟨_, rfl⟩
      rw [hb] at G1 hyd ⊢
      have G2 : rdGo k [113, 100] { r with c := c } b = if rdE k { r with c := c } b 113 = 0 then (if faultR (k : Int) (rdR k { r with c := c } b 113) 113 = 0 then rdGo k [100] (rdR k { r with c := c } b 113) (rdL k { r with c := c } b 113) else (rdR k { r with c := c } b 113, ((faultR (k : Int) (rdR k { r with c := c } b 113) 113 : Nat) : Int))) else (rdR k { r with c := c } b 113, rdE k { r with c := c } b 113) := rfl
      have E2 : rdE k { r with c := c } b 113 = (rWh b).2.2 := by show (if noopR { r with c := c } then _ else _) = _; rw [hnp]; rfl
      have L2 : rdL k { r with c := c } b 113 = (rWh b).2.1 := by show (if noopR { r with c := c } then _ else _) = _; rw [hnp]; rfl
      have R2 : rdR k { r with c := c } b 113 = { r with c := c, seq := t31 (rWh b).1 } := by show (if noopR { r with c := c } then _ else _) = _; rw [hnp]; rfl
      have F2 : faultR (k : Int) { r with c := c, seq := t31 (rWh b).1 } 113 = unlR (decide (1 ≤ t31 (rWh b).1) && decide (t31 (rWh b).1 ≤ 1073741824)) 65 := by
        show unlR (seqR { r with c := c, seq := t31 (rWh b).1 }) 65 = _
        unfold seqR
        rw [show noopR { r with c := c, seq := t31 (rWh b).1 } = false from hnp]; rfl
      rw [E2, R2, L2, F2] at G2
      have hy2 : Byt (rWh b).2.1 := by
        unfold rWh
        split
        · exact byt_drop hyd _
        · exact hyd
      rw [show nu6 b 0 = rWh b from if_pos rfl]
      obtain ⟨⟨x, b2, e2⟩, hW⟩ : ∃ q, rWh b = q := ⟨_, rfl⟩
      rw [hW] at G2 hy2 ⊢
      simp only at G2 hy2 ⊢
      have G1' : rdGo k [99, 113, 100] r l = rdGo k [113, 100] { r with c := c } b := G1
      rw [G1', G2]
      by_cases he : e2 = 0
      · subst he
        rw [if_pos rfl]
        rw [jd6_zero (by omega)]
        by_cases hx : 1 ≤ x ∧ x ≤ 1073741824
        · have hx1 : (decide (x < 1) || decide (1073741824 < x)) = false := by
            rw [decide_eq_false (by omega), decide_eq_false (by omega)]; rfl
          have hx2 : t31 x = (x : Int) := by unfold t31; omega
          rw [hx2, decide_eq_true (by omega : (1 : Int) ≤ (x : Int)), decide_eq_true (by omega : (x : Int) ≤ 1073741824), if_pos (show unlR (true && true) 65 = 0 from rfl), hx1]
          simp only [Bool.false_eq_true, if_false, if_pos]
          have G3 : rdGo k [100] { r with c := c, seq := (x : Int) } b2 = if rdE k { r with c := c, seq := (x : Int) } b2 100 = 0 then (if faultR (k : Int) (rdR k { r with c := c, seq := (x : Int) } b2 100) 100 = 0 then rdGo k [] (rdR k { r with c := c, seq := (x : Int) } b2 100) (rdL k { r with c := c, seq := (x : Int) } b2 100) else (rdR k { r with c := c, seq := (x : Int) } b2 100, ((faultR (k : Int) (rdR k { r with c := c, seq := (x : Int) } b2 100) 100 : Nat) : Int))) else (rdR k { r with c := c, seq := (x : Int) } b2 100, rdE k { r with c := c, seq := (x : Int) } b2 100) := rfl
          have hnq : noopR { r with c := c, seq := (x : Int) } = false := hnp
          have E3 : rdE k { r with c := c, seq := (x : Int) } b2 100 = ((upE (upk 2 (k : Int) b2) : Nat) : Int) := by show (if noopR { r with c := c, seq := (x : Int) } then _ else _) = _; rw [hnq]; rfl
          have L3 : rdL k { r with c := c, seq := (x : Int) } b2 100 = b2.drop (upN (upk 2 (k : Int) b2)) := by show (if noopR { r with c := c, seq := (x : Int) } then _ else _) = _; rw [hnq]; rfl
          have R3 : rdR k { r with c := c, seq := (x : Int) } b2 100 = { r with c := c, seq := (x : Int), deps := upL (upk 2 (k : Int) b2) } := by show ({ r with c := c, seq := (x : Int), deps := if noopR { r with c := c, seq := (x : Int) } then _ else _ } : Rc) = _; rw [hnq]; rfl
          rw [E3, R3, L3] at G3
          show (_ → rdGo k [100] { r with c := c, seq := (x : Int) } b2 = _) ∧ (_ → (rdGo k [100] { r with c := c, seq := (x : Int) } b2).2 = _)
          rw [G3]
          cases hu : upk 2 (k : Int) b2 with
          | error i =>
            have hi := upk_err hu
            refine ⟨fun h => absurd h (by show ((i : Nat) : Int) ≠ 0; omega), fun _ => ?_⟩
            rw [if_neg (by show ((i : Nat) : Int) ≠ 0; omega)]
          | ok q =>
            obtain ⟨xs, p⟩ := q
            refine ⟨fun _ => ?_, fun h => absurd rfl h⟩
            have F3 : faultR (k : Int) { r with c := c, seq := (x : Int), deps := upL (.ok (xs, p)) } 100 = 0 := by
              show unlR (depsR (k : Int) { r with c := c, seq := (x : Int), deps := xs }) 65 = 0
              rw [deps6_upk hy2 { r with c := c, seq := (x : Int) } hk hu]; rfl
            rw [if_pos (show ((upE (.ok (xs, p)) : Nat) : Int) = 0 from rfl), if_pos F3]
        · have hx1 : (decide (x < 1) || decide (1073741824 < x)) = true := by
            by_cases q : x < 1
            · rw [decide_eq_true q]; rfl
            · rw [decide_eq_false q, decide_eq_true (by omega)]; rfl
          have hx2 : (decide (1 ≤ t31 x) && decide (t31 x ≤ 1073741824)) = false := by
            by_cases q : x < 1
            · rw [decide_eq_false (by unfold t31; omega)]; rfl
            · rw [decide_eq_false (by unfold t31; omega : ¬ t31 x ≤ 1073741824), Bool.and_false]
          rw [hx2, hx1]
          simp only [if_pos]
          rw [if_neg (by decide : ¬ (65 : Int) = 0)]
          exact ⟨fun h => absurd (show (65 : Int) = 0 from h) (by decide), fun _ => rfl⟩
      · rw [if_neg he, jd6_keep he, if_neg he]
        exact ⟨fun h => absurd h he, fun _ => rfl⟩
  · rw [if_neg hf] at G1
    have hk : c.kind = 0 := by
      have := decC_noop (l := l) (by rw [hD]; exact hf)
      rw [hD] at this; exact this
    unfold va6
    rw [if_pos rfl, hD]
    simp only
    rw [if_pos hk]
    simp only
    rw [jd6_keep hf, G1]
    exact ⟨fun h => absurd h hf, fun _ => rfl⟩
/-- Both readings behind the kind. -/
def Sam (k : Nat) (xs : List Nat) (r : Rc) (l : List Int) (q : Rc × List Int × Int) : Prop :=
  (q.2.2 = 0 → rdGo k xs r l = rdGo k [] q.1 q.2.1) ∧ (q.2.2 ≠ 0 → (rdGo k xs r l).2 = q.2.2)
theorem stp_sam {k x : Nat} {xs : List Nat} {r : Rc} {l : List Int} {p q : Rc × List Int × Int} (h : Stp k x xs r l p) (h0 : p.2.2 = 0 → Sam k xs p.1 p.2.1 q) (h1 : p.2.2 ≠ 0 → q.2.2 = p.2.2) : Sam k (x :: xs) r l q := by
  by_cases hp : p.2.2 = 0
  · have := h0 hp
    have e := h.1 hp
    exact ⟨fun hq => e.trans (this.1 hq), fun hq => by rw [e]; exact this.2 hq⟩
  · have e := h1 hp
    exact ⟨fun hq => absurd (e.symm.trans hq) hp, fun _ => (h.2 hp).trans e.symm⟩
theorem sam_end {k : Nat} {r : Rc} {l : List Int} {p : Rc × List Int × Int} (h : p = (r, l, 0)) : Sam k [] r l p := by subst h; exact ⟨fun _ => rfl, fun h => absurd rfl h⟩
theorem oc6_byt {l : List Int} {e : Int} (hy : Byt l) : Byt (oc6 l e).2.1 := by
  unfold oc6
  split
  · unfold rOct
    split
    · exact hy
    · intro x hx; exact hy x (List.mem_cons_of_mem _ hx)
  · exact hy
theorem trip {p : Rc × List Int × Int} (h : p.2.2 = 0) : p = (p.1, p.2.1, 0) := by obtain ⟨a, b, c⟩ := p; simp only at h; rw [h]
theorem bo_sam {k : Nat} {r : Rc} {l : List Int} (hy : Byt l) (hs : r.seq = 0) (hk : r.kind = 2 ∨ r.kind = 3 ∨ r.kind = 4 ∨ r.kind = 5) : Sam k (rowR r.kind) r l (bo6 k r l 0) := by
  obtain ⟨I, hI⟩ : ∃ I, in6 k r l 0 = I := ⟨_, rfl⟩
  have sI : ∀ xs, Stp k 105 xs r l I := fun xs => by rw [← hI]; exact in_stp k xs r l
  have rI : I.2.2 = 0 → 0 ≤ I.1.row ∧ I.1.row < (k : Int) := by rw [← hI]; exact in_row k r l 0
  have yI : Byt I.2.1 := by rw [← hI]; exact nu6_byt hy
  have qI : I.1.seq = 0 := by rw [← hI]; exact hs
  have sB : ∀ xs, I.2.2 = 0 → Stp k 98 xs I.1 I.2.1 (ba6 k I) := fun xs h => by
    have := ba_stp k xs I.1 I.2.1 (rI h).1 (rI h).2
    rwa [← trip h] at this
  have yB : Byt (ba6 k I).2.1 := nu6_byt yI
  have qB : (ba6 k I).1.seq = 0 := qI
  have kB : I.2.2 ≠ 0 → (ba6 k I).2.2 = I.2.2 := ba6_keep
  unfold bo6
  rw [hI]
  rcases hk with h | h | h | h
  · rw [if_pos h, h]
    refine stp_sam (sI [98]) (fun h0 => ?_) kB
    refine stp_sam (sB [] h0) (fun h1 => sam_end (trip h1)) (fun h => rfl)
  · rw [if_neg (by omega), if_pos h, h]
    have kS : (ba6 k I).2.2 ≠ 0 → (sa6 (ba6 k I)).2.2 = (ba6 k I).2.2 := sa6_keep
    refine stp_sam (sI [98, 115, 99, 113, 100]) (fun h0 => ?_) (fun h0 => ?_)
    · refine stp_sam (sB [115, 99, 113, 100] h0) (fun h1 => ?_) (fun h1 => ?_)
      · have sS := sa_stp k [99, 113, 100] (ba6 k I).1 (ba6 k I).2.1
        rw [← trip h1] at sS
        refine stp_sam sS (fun h2 => ?_) (fun h2 => ?_)
        · rw [h2]; exact va_fin (oc6_byt yB) qB
        · rw [va6_keep h2]
      · have h2 := kS h1
        rw [va6_keep (by rw [h2]; exact h1)]; exact h2
    · have h1 := kB h0
      have h2 := kS (by rw [h1]; exact h0)
      rw [va6_keep (by rw [h2, h1]; exact h0)]; exact h2.trans h1
  · rw [if_neg (by omega), if_neg (by omega), if_pos h, h]
    refine stp_sam (sI [98, 99, 113, 100]) (fun h0 => ?_) (fun h0 => ?_)
    · refine stp_sam (sB [99, 113, 100] h0) (fun h1 => ?_) (fun h1 => ?_)
      · rw [h1]; exact va_fin yB qB
      · rw [va6_keep h1]
    · have h1 := kB h0
      rw [va6_keep (by rw [h1]; exact h0)]; exact h1
  · rw [if_neg (by omega), if_neg (by omega), if_neg (by omega), if_pos h, h]
    refine stp_sam (sI [99, 113, 100]) (fun h0 => ?_) (fun h0 => ?_)
    · rw [h0]; exact va_fin yI qI
    · rw [va6_keep h0]
theorem hd_sam {k : Nat} {r : Rc} {l : List Int} : Sam k [119, 110] r l (hd6 r l 0) := by
  have G1 : rdGo k [119, 110] r l = if rdE k r l 119 = 0 then (if faultR (k : Int) (rdR k r l 119) 119 = 0 then rdGo k [110] (rdR k r l 119) (rdL k r l 119) else (rdR k r l 119, ((faultR (k : Int) (rdR k r l 119) 119 : Nat) : Int))) else (rdR k r l 119, rdE k r l 119) := rfl
  have E1 : rdE k r l 119 = (rWh l).2.2 := rfl
  have L1 : rdL k r l 119 = (rWh l).2.1 := rfl
  have R1 : rdR k r l 119 = { r with id := t31 (rWh l).1 } := rfl
  have F1 : faultR (k : Int) { r with id := t31 (rWh l).1 } 119 = 0 := rfl
  rw [E1, R1, L1, F1, if_pos rfl] at G1
  unfold hd6
  rw [show nu6 l 0 = rWh l from if_pos rfl]
  obtain ⟨⟨x, b, e1⟩, hW⟩ : ∃ q, rWh l = q := ⟨_, rfl⟩
  rw [hW] at G1 ⊢
  simp only at G1 ⊢
  by_cases h1 : e1 = 0
  · subst h1
    rw [if_pos rfl] at G1
    have G2 : rdGo k [110] { r with id := t31 x } b = if rdE k { r with id := t31 x } b 110 = 0 then (if faultR (k : Int) (rdR k { r with id := t31 x } b 110) 110 = 0 then rdGo k [] (rdR k { r with id := t31 x } b 110) (rdL k { r with id := t31 x } b 110) else (rdR k { r with id := t31 x } b 110, ((faultR (k : Int) (rdR k { r with id := t31 x } b 110) 110 : Nat) : Int))) else (rdR k { r with id := t31 x } b 110, rdE k { r with id := t31 x } b 110) := rfl
    have E2 : rdE k { r with id := t31 x } b 110 = (rWh b).2.2 := rfl
    have L2 : rdL k { r with id := t31 x } b 110 = (rWh b).2.1 := rfl
    have R2 : rdR k { r with id := t31 x } b 110 = { r with id := t31 x, n := t31 (rWh b).1 } := rfl
    have F2 : faultR (k : Int) { r with id := t31 x, n := t31 (rWh b).1 } 110 = unlR ((decide (1 ≤ t31 (rWh b).1) && decide (t31 (rWh b).1 ≤ 7)) && (decide (0 ≤ t31 x) && decide (t31 x < t31 (rWh b).1))) 66 := rfl
    rw [E2, R2, L2, F2] at G2
    rw [show nu6 b 0 = rWh b from if_pos rfl]
    obtain ⟨⟨y, b2, e2⟩, hW2⟩ : ∃ q, rWh b = q := ⟨_, rfl⟩
    rw [hW2] at G2 ⊢
    simp only at G2 ⊢
    rw [G2] at G1
    by_cases h2 : e2 = 0
    · subst h2
      rw [if_pos rfl] at G1
      rw [jd6_zero (by omega)]
      by_cases hq : 1 ≤ y ∧ y ≤ 7 ∧ x < y
      · have b1 : (decide (y < 1) || (decide (7 < y) || decide (y ≤ x))) = false := by
          rw [decide_eq_false (by omega), decide_eq_false (by omega), decide_eq_false (by omega)]; rfl
        have b2 : ((decide (1 ≤ t31 y) && decide (t31 y ≤ 7)) && (decide (0 ≤ t31 x) && decide (t31 x < t31 y))) = true := by
          rw [decide_eq_true (by unfold t31; omega), decide_eq_true (by unfold t31; omega), decide_eq_true (by unfold t31; omega), decide_eq_true (by unfold t31; omega)]; rfl
        have b3 : t31 x = (x : Int) := by unfold t31; omega
        have b4 : t31 y = (y : Int) := by unfold t31; omega
        rw [b2, if_pos (show unlR true 66 = 0 from rfl), b3, b4] at G1
        rw [b1]
        exact ⟨fun _ => G1, fun h => absurd rfl h⟩
      · have b1 : (decide (y < 1) || (decide (7 < y) || decide (y ≤ x))) = true := by
          by_cases q1 : y < 1
          · rw [decide_eq_true q1]; rfl
          · by_cases q2 : 7 < y
            · rw [decide_eq_true q2, Bool.true_or, Bool.or_true]
            · rw [decide_eq_true (by omega : y ≤ x), Bool.or_true, Bool.or_true]
        have b2 : ((decide (1 ≤ t31 y) && decide (t31 y ≤ 7)) && (decide (0 ≤ t31 x) && decide (t31 x < t31 y))) = false := by
          by_cases q1 : y < 1
          · rw [decide_eq_false (by unfold t31; omega : ¬ 1 ≤ t31 y)]; rfl
          · by_cases q2 : 7 < y
            · rw [decide_eq_false (by unfold t31; omega : ¬ t31 y ≤ 7), Bool.and_false]; rfl
            · rw [decide_eq_false (by unfold t31; omega : ¬ t31 x < t31 y), Bool.and_false, Bool.and_false]
        rw [b2, if_neg (show ¬ unlR false 66 = 0 by decide)] at G1
        rw [b1]
        exact ⟨fun h => by (cases h), fun _ => by rw [G1]; rfl⟩
    · rw [if_neg h2] at G1
      rw [jd6_keep h2]
      exact ⟨fun h => absurd h h2, fun _ => by rw [G1]⟩
  · rw [if_neg h1] at G1
    rw [nu6_keep h1, jd6_keep h1]
    exact ⟨fun h => absurd h h1, fun _ => by rw [G1]⟩

/-- What the document's own Decode makes of bytes, behind the bounds of n. -/
def ki6 (l : List Int) : Int := jd6 (decide ((oc6 l 0).1 < 1) || decide (5 < (oc6 l 0).1)) 61 (oc6 l 0).2.2
def in1 (n : Nat) (l : List Int) : Rc × List Int × Int :=
  if (oc6 l 0).1 = 1 then hd6 { zeroRc with kind := (oc6 l 0).1 } (oc6 l 0).2.1 (ki6 l) else bo6 n { zeroRc with kind := (oc6 l 0).1 } (oc6 l 0).2.1 (ki6 l)
def en6 (n : Nat) (l : List Int) : Int := jd6 (decide (0 < (in1 n l).2.1.length)) 68 (in1 n l).2.2
def rD6 (n : Int) (l : List Int) : Rc × Int := if isSizeB n then (if en6 n.toNat l = 0 then ((in1 n.toNat l).1, 0) else (zeroRc, en6 n.toNat l)) else (zeroRc, 3)
theorem rD6_decR (n : Int) (l : List Int) (hy : Byt l) : rD6 n l = decR n l := by
  unfold rD6 decR
  cases hn : isSizeB n with
  | false => rfl
  | true =>
    rw [if_pos rfl, if_pos rfl]
    obtain ⟨k, hk⟩ : ∃ k, n.toNat = k := ⟨_, rfl⟩
    rw [hk]
    have key : ((in1 k l).2.2 = 0 → rdRec k l = rdGo k [] (in1 k l).1 (in1 k l).2.1) ∧ ((in1 k l).2.2 ≠ 0 → (rdRec k l).2 = (in1 k l).2.2) := by
      cases l with
      | nil =>
        have e1 : ki6 [] = 11 := rfl
        have e2 : (in1 k []).2.2 = 11 := by
          unfold in1
          rw [e1]
          rw [if_neg (show ¬ (oc6 [] 0).1 = 1 by decide)]
          exact bo6_keep (by decide)
        exact ⟨fun h => absurd (e2.symm.trans h) (by decide), fun _ => by rw [e2]; rfl⟩
      | cons x t =>
        have e0 : oc6 (x :: t) 0 = (x, t, 0) := rfl
        unfold in1 ki6
        rw [e0]
        simp only
        rw [jd6_zero (by omega)]
        show (_ → (if isKindR x then rdGo k (rowR x) { zeroRc with kind := x } t else (zeroRc, 61)) = _) ∧ (_ → (if isKindR x then rdGo k (rowR x) { zeroRc with kind := x } t else (zeroRc, 61)).2 = _)
        have hyt : Byt t := fun y hy' => hy y (List.mem_cons_of_mem _ hy')
        by_cases hx : 1 ≤ x ∧ x ≤ 5
        · have b1 : (decide (x < 1) || decide (5 < x)) = false := by rw [decide_eq_false (by omega), decide_eq_false (by omega)]; rfl
          have b2 : isKindR x = true := by unfold isKindR; rw [decide_eq_true (by omega), decide_eq_true (by omega)]; rfl
          rw [b1, b2, if_pos rfl]
          simp only [Bool.false_eq_true, if_false]
          by_cases h1 : x = 1
          · rw [if_pos h1]
            subst h1
            exact hd_sam
          · rw [if_neg h1]
            exact bo_sam (r := { zeroRc with kind := x }) hyt rfl (by show x = 2 ∨ x = 3 ∨ x = 4 ∨ x = 5; omega)
        · have b1 : (decide (x < 1) || decide (5 < x)) = true := by
            by_cases q : x < 1
            · rw [decide_eq_true q]; rfl
            · rw [decide_eq_true (by omega : 5 < x), Bool.or_true]
          have b2 : isKindR x = false := by
            unfold isKindR
            by_cases q : x < 1
            · rw [decide_eq_false (by omega)]; rfl
            · rw [decide_eq_false (by omega : ¬ x < 6), Bool.and_false]
          rw [b1, b2, if_neg (by decide : ¬ false = true), if_pos rfl, if_neg (by omega : ¬ x = 1)]
          rw [bo6_keep (by decide)]
          exact ⟨fun h => by (cases h), fun _ => rfl⟩
    unfold en6
    by_cases h0 : (in1 k l).2.2 = 0
    · rw [key.1 h0, h0, jd6_zero (by omega)]
      show _ = if ((unlR ((in1 k l).2.1.length == 0) 68 : Nat) : Int) = 0 then ((in1 k l).1, (0 : Int)) else (zeroRc, ((unlR ((in1 k l).2.1.length == 0) 68 : Nat) : Int))
      by_cases hl : (in1 k l).2.1.length = 0
      · rw [hl]; rfl
      · rw [decide_eq_true (by omega), show ((in1 k l).2.1.length == 0) = false from beq_eq_false_iff_ne.2 hl]; rfl
    · rw [jd6_keep h0, if_neg h0, key.2 h0, if_neg h0]
end Go.Proofs.YtlhididcanedhaaGreatDoor
