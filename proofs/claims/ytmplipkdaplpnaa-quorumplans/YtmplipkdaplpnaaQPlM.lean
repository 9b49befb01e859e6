/- The document's own plan, place by place, against the program's: mathematics. -/
import Derived.Test.YtmplipkdaplpnaaQKep
import Derived.Test.YtmplipkdaplpnaaQHiM
import Derived.Test.YtmplipkdaplpnaaQPrep
namespace Go.Proofs.Ytmplipkdaplpnaa
open Go.RowKit Go.Wire1

theorem bLt_blH (u v : Vt) : bLt u v ↔ blH u.rd u.who v.rd v.who = true := by
  unfold bLt blH
  split
  · rw [decide_eq_true_eq]; omega
  · rw [decide_eq_true_eq]; omega
/-- What a board of votes that count holds. -/
structure Brd (n : Int) (m : List (Int × Vt)) : Prop where
  nd : (m.map (·.1)).Nodup
  row : ∀ p ∈ m, 0 ≤ p.1 ∧ p.1 < n
  ok : ∀ p ∈ m, p.2.st = 0 ∨ votedQ p.2.st = true
  le : n ≤ 7
theorem brd_tal {n : Int} (h7 : n ≤ 7) (vs : List Vt) : Brd n (talP n vs) := by
  have h := tk_tal (okV n) n (-1) vs
  refine ⟨h.nd, fun p hp => (h.row p hp).1, fun p hp => ?_, h7⟩
  have h2 := (tal_sub p hp).2.1
  unfold okV at h2
  cases hv : votedQ p.2.st with
  | true => exact .inr rfl
  | false => rw [hv] at h2; exact .inl (by simpa using h2)
section
variable {n : Int} {m : List (Int × Vt)}
theorem Brd.lk (h : Brd n m) {k : Int} {v : Vt} (hl : lkm m k = some v) : (0 ≤ k ∧ k < n) ∧ (v.st = 0 ∨ votedQ v.st = true) := ⟨h.row _ (lkm_some hl), h.ok _ (lkm_some hl)⟩
theorem mem_ansQ {v : Vt} : v ∈ ansQ m ↔ ∃ i : Nat, i < 7 ∧ lkm m (i : Int) = some v := by
  unfold ansQ
  rw [List.mem_filterMap]
  constructor
  · rintro ⟨i, hi, h⟩; exact ⟨i, List.mem_range.1 hi, h⟩
  · rintro ⟨i, hi, h⟩; exact ⟨i, List.mem_range.2 hi, h⟩
theorem sAt_iff (h : Brd n m) {i : Nat} : sAt m i = true ↔ ∃ v, lkm m (i : Int) = some v ∧ bvt m i = v ∧ votedQ v.st = true := by
  unfold sAt bvt
  cases hl : lkm m (i : Int) with
  | none => simp
  | some v =>
    have h2 := (h.lk hl).2
    simp only [Option.isSome_some, Bool.true_and, Option.getD_some, bne_iff_ne, Option.some.injEq, exists_eq_left', true_and]
    constructor
    · intro h3
      rcases h2 with h2 | h2
      · exact absurd h2 h3
      · exact h2
    · intro h3 h4
      rw [h4] at h3; cases h3
theorem hiB_iff (h : Brd n m) {i : Nat} (hi : i < 7) : hiB m i = true ↔ ∃ v, lkm m (i : Int) = some v ∧ bvt m i = v ∧ v ∈ highQ (ansQ m) := by
  unfold hiB
  rw [Bool.and_eq_true, sAt_iff h, List.all_eq_true]
  constructor
  · rintro ⟨⟨v, h1, h2, h3⟩, h4⟩
    refine ⟨v, h1, h2, highQ_iff.2 ⟨mem_ansQ.2 ⟨i, hi, h1⟩, h3, fun u hu hv hlt => ?_⟩⟩
    obtain ⟨k, hk, hku⟩ := mem_ansQ.1 hu
    have h5 := h4 k (List.mem_range.2 hk)
    have h6 : sAt m k = true := (sAt_iff h).2 ⟨u, hku, by unfold bvt; rw [hku]; rfl, hv⟩
    have h7 : bvt m k = u := by unfold bvt; rw [hku]; rfl
    rw [h6, h2, h7, (bLt_blH v u).1 hlt] at h5
    cases h5
  · rintro ⟨v, h1, h2, h3⟩
    have h4 := highQ_iff.1 h3
    refine ⟨⟨v, h1, h2, h4.2.1⟩, fun k hk => ?_⟩
    cases hs : sAt m k with
    | false => rfl
    | true =>
      obtain ⟨u, hu1, hu2, hu3⟩ := (sAt_iff h).1 hs
      have h5 := h4.2.2 u (mem_ansQ.2 ⟨k, List.mem_range.1 hk, hu1⟩) hu3
      rw [h2, hu2]
      cases hb : blH v.rd v.who u.rd u.who with
      | false => rfl
      | true => exact absurd ((bLt_blH v u).2 hb) h5
open Classical in
/-- The highest ones that a test takes, by their places. -/
theorem high_filter (h : Brd n m) (p : Vt → Bool) : (highQ (ansQ m)).filter p = (List.range 7).filterMap fun i => if hiB m i && p (bvt m i) then some (bvt m i) else none := by
  have hh : highQ (ansQ m) = (ansQ m).filter fun v => decide (v ∈ highQ (ansQ m)) := by
    have : ∀ A : List Vt, (∃ q : Vt → Bool, highQ A = A.filter q) := by
      intro A
      unfold highQ
      split
      · exact ⟨fun _ => false, by simp⟩
      · exact ⟨fun v => votedQ v.st && atB (mxQ (A.filter fun v => votedQ v.st)) v, by rw [List.filter_filter]; congr 1; funext v; exact Bool.and_comm _ _⟩
    obtain ⟨q, hq⟩ := this (ansQ m)
    have e : (ansQ m).filter q = (ansQ m).filter fun v => decide (v ∈ highQ (ansQ m)) := by
      apply List.filter_congr
      intro v hv
      rw [hq]
      have hmf : v ∈ (ansQ m).filter q ↔ v ∈ ansQ m ∧ q v = true := List.mem_filter
      cases hqv : q v with
      | true => exact (decide_eq_true (hmf.2 ⟨hv, hqv⟩)).symm
      | false => exact (decide_eq_false (fun h => by have := (hmf.1 h).2; rw [hqv] at this; cases this)).symm
    rw [← e]; exact hq
  have key : ∀ l : List Nat, (∀ i ∈ l, i < 7) → ((l.filterMap fun i : Nat => lkm m (i : Int)).filter fun v => decide (v ∈ highQ (ansQ m)) && p v) = l.filterMap fun i => if hiB m i && p (bvt m i) then some (bvt m i) else none := by
    intro l hl
    induction l with
    | nil => rfl
    | cons x r ih =>
      have ih2 := ih (fun i hi => hl i (List.mem_cons_of_mem _ hi))
      have hx := hl x (List.mem_cons_self ..)
      rw [List.filterMap_cons, List.filterMap_cons]
      cases hlk : lkm m (x : Int) with
      | none =>
        have hb : hiB m x = false := by
          cases hb : hiB m x with
          | false => rfl
          | true => obtain ⟨v, h1, -⟩ := (hiB_iff h hx).1 hb; rw [hlk] at h1; cases h1
        rw [hb]
        exact ih2
      | some v =>
        have hbv : bvt m x = v := by unfold bvt; rw [hlk]; rfl
        have hb : hiB m x = decide (v ∈ highQ (ansQ m)) := by
          rw [Bool.eq_iff_iff, hiB_iff h hx, decide_eq_true_eq]
          constructor
          · rintro ⟨u, h1, h2, h3⟩; rw [hbv] at h2; rw [h2]; exact h3
          · intro h3; exact ⟨v, hlk, hbv, h3⟩
        dsimp only
        rw [List.filter_cons, hb, hbv, ih2]
        cases (decide (v ∈ highQ (ansQ m)) && p v) <;> rfl
  rw [hh, List.filter_filter]
  have := key (List.range 7) (fun i hi => List.mem_range.1 hi)
  rw [← this]
  congr 1
  funext v
  exact Bool.and_comm _ _
/-- The first place that a test takes gives the first of the list. -/
theorem first_at {P : Nat → Bool} {f : Nat → Vt} {q N : Nat} (hq : q < N) (hp : P q = true) (hno : ∀ i, i < q → P i = false) : ∃ t, ((List.range N).filterMap fun i => if P i then some (f i) else none) = f q :: t := by
  have e : List.range N = List.range q ++ q :: (List.range (N - q - 1)).map (fun i => i + q + 1) := by
    apply List.ext_getElem?
    intro j
    by_cases h1 : j < q
    · rw [List.getElem?_append_left (by simpa using h1), List.getElem?_range (by omega), List.getElem?_range h1]
    · rw [List.getElem?_append_right (by simp; omega), List.length_range]
      by_cases h2 : j = q
      · subst h2; rw [List.getElem?_range hq, Nat.sub_self]; rfl
      · rw [show j - q = (j - q - 1) + 1 by omega, List.getElem?_cons_succ, List.getElem?_map]
        by_cases h3 : j < N
        · rw [List.getElem?_range h3, List.getElem?_range (by omega)]
          simp only [Option.map_some, Option.some.injEq]; omega
        · rw [List.getElem?_eq_none (by simp; omega), List.getElem?_eq_none (by simp; omega)]; rfl
  rw [e, List.filterMap_append, List.filterMap_cons, hp]
  have h0 : ((List.range q).filterMap fun i => if P i then some (f i) else none) = [] := by
    rw [List.filterMap_eq_nil_iff]
    intro i hi
    rw [hno i (List.mem_range.1 hi)]; rfl
  rw [h0]
  exact ⟨_, rfl⟩
theorem none_at {P : Nat → Bool} {f : Nat → Vt} {N : Nat} (hno : ∀ i, i < N → P i = false) : ((List.range N).filterMap fun i => if P i then some (f i) else none) = [] := by
  rw [List.filterMap_eq_nil_iff]
  intro i hi
  rw [hno i (List.mem_range.1 hi)]; rfl
theorem hi_lt (h : Brd n m) {i : Nat} (h7 : i < 7) (hi : hiB m i = true) : (i : Int) < n := by
  obtain ⟨v, h1, -⟩ := (hiB_iff h h7).1 hi
  exact (h.lk h1).1.2
theorem cnt_filterMap (P : Nat → Bool) (f : Nat → Vt) (l : List Nat) : (l.filterMap fun i => if P i then some (f i) else none).length = l.countP P := by
  induction l with
  | nil => rfl
  | cons x r ih =>
    rw [List.filterMap_cons, List.countP_cons]
    cases hp : P x with
    | true => simp [ih]
    | false => simp [ih]
end
/-- How a recovery goes on, place by place: what the program's plan is. -/
theorem plan_few {n : Int} {row : Int} {vs : List Vt} (hz : szQ n = true) (hr : repQ n row = true) (h : 2 * ((talP n vs).length : Int) < n + 1) : planQ n row vs = (0, cmZ, 0, []) := by
  have hn : n = 3 ∨ n = 5 ∨ n = 7 := by unfold szQ at hz; simpa using hz
  unfold planQ
  rw [hz, hr, if_pos (by rfl), if_pos (by omega)]
section
variable {n r : Nat} {vs : List Vt}
theorem all7 (hz : szQ (n : Int) = true) {P : Nat → Bool} (hm : ∀ i, i < n → (hiB (talP n vs) i && P i) = false) : ∀ i, i < 7 → (hiB (talP n vs) i && P i) = false := by
  intro i hi
  by_cases h : i < n
  · exact hm i h
  · cases hb : hiB (talP n vs) i with
    | false => rfl
    | true =>
      have := hi_lt (brd_tal (sz_le hz) vs) hi hb
      omega
theorem plan_accept (hz : szQ (n : Int) = true) (hr : r < n) (h : ¬ 2 * ((talP n vs).length : Int) < (n : Int) + 1) {q : Nat} (hq : q < n) (hi : hiB (talP n vs) q = true) (ha : (bvt (talP n vs) q).st = 2) (hno : ∀ i, i < q → (hiB (talP n vs) i && accQ (bvt (talP n vs) i)) = false) :
    planQ n r vs = (2, (bvt (talP n vs) q).c, (bvt (talP n vs) q).seq, (bvt (talP n vs) q).deps) := by
  have hn : n = 3 ∨ n = 5 ∨ n = 7 := by unfold szQ at hz; simp only [Bool.or_eq_true, beq_iff_eq] at hz; omega
  have hb := brd_tal (sz_le hz) vs
  have hrp : repQ (n : Int) (r : Int) = true := by unfold repQ; rw [decide_eq_true (by omega), decide_eq_true (by omega)]; rfl
  obtain ⟨t, ht⟩ := first_at (P := fun i => hiB (talP n vs) i && accQ (bvt (talP n vs) i)) (f := bvt (talP n vs)) (N := 7) (q := q) (by omega) (by show (_ && _) = true; rw [hi]; unfold accQ; rw [ha]; rfl) hno
  rw [← high_filter hb accQ] at ht
  unfold planQ
  rw [hz, hrp, if_pos (by rfl), if_neg (by omega)]
  cases hh : highQ (ansQ (talP n vs)) with
  | nil => rw [hh] at ht; cases ht
  | cons x y =>
    rw [hh] at ht
    dsimp only
    rw [ht]
theorem plan_noop (hz : szQ (n : Int) = true) (hr : r < n) (h : ¬ 2 * ((talP n vs).length : Int) < (n : Int) + 1) (hno : ∀ i, i < n → hiB (talP n vs) i = false) : planQ n r vs = (1, cmZ, 0, []) := by
  have hn : n = 3 ∨ n = 5 ∨ n = 7 := by unfold szQ at hz; simp only [Bool.or_eq_true, beq_iff_eq] at hz; omega
  have hb := brd_tal (sz_le hz) vs
  have hrp : repQ (n : Int) (r : Int) = true := by unfold repQ; rw [decide_eq_true (by omega), decide_eq_true (by omega)]; rfl
  have h7 := all7 (P := fun _ => true) hz (vs := vs) (fun i hi => by rw [hno i hi]; rfl)
  have he := high_filter hb (fun _ => true)
  rw [none_at h7, List.filter_eq_self.2 (fun _ _ => rfl)] at he
  unfold planQ
  rw [hz, hrp, if_pos (by rfl), if_neg (by omega), he]
/-- Where nothing accepted is among the highest: whether rule 4 holds. -/
theorem plan_rest (hz : szQ (n : Int) = true) (hr : r < n) (h : ¬ 2 * ((talP n vs).length : Int) < (n : Int) + 1) (hna : ∀ i, i < n → (hiB (talP n vs) i && accQ (bvt (talP n vs) i)) = false) {q : Nat} (hq : q < n) (hi : hiB (talP n vs) q = true) :
    (kepB (talP n vs) n r = true → (bvt (talP n vs) q).same = true → (∀ i, i < q → (hiB (talP n vs) i && (bvt (talP n vs) i).same) = false) → planQ n r vs = (2, (bvt (talP n vs) q).c, (bvt (talP n vs) q).seq, (bvt (talP n vs) q).deps)) ∧
    (kepB (talP n vs) n r = false → (∀ i, i < q → hiB (talP n vs) i = false) → planQ n r vs = (3, (bvt (talP n vs) q).c, 0, [])) := by
  have hn : n = 3 ∨ n = 5 ∨ n = 7 := by unfold szQ at hz; simp only [Bool.or_eq_true, beq_iff_eq] at hz; omega
  have hb := brd_tal (sz_le hz) vs
  have hrp : repQ (n : Int) (r : Int) = true := by unfold repQ; rw [decide_eq_true (by omega), decide_eq_true (by omega)]; rfl
  have ha := high_filter hb accQ
  rw [none_at (all7 (P := fun i => accQ (bvt (talP n vs) i)) hz hna)] at ha
  have hs := high_filter hb (fun v => v.same)
  have hA := high_filter hb (fun _ => true)
  rw [List.filter_eq_self.2 (fun _ _ => rfl)] at hA
  -- all the highest are at one ballot
  have hone : ∀ u ∈ highQ (ansQ (talP n vs)), ∀ v ∈ highQ (ansQ (talP n vs)), u.rd = v.rd ∧ u.who = v.who := by
    intro u hu v hv
    have h1 := highQ_iff.1 hu
    have h2 := highQ_iff.1 hv
    have h3 := h1.2.2 v h2.1 h2.2.1
    have h4 := h2.2.2 u h1.1 h1.2.1
    unfold bLt at h3 h4
    omega
  have hcnt : ∀ x ∈ highQ (ansQ (talP n vs)), (kepK (talP n vs) r n : Nat) = if x.rd = 0 ∧ x.who = (r : Int) then ((highQ (ansQ (talP n vs))).filter (·.same)).length else 0 := by
    intro x hx
    have hk : kepK (talP n vs) r n = kepK (talP n vs) r 7 := by
      unfold kepK
      have e7 : List.range 7 = List.range n ++ (List.range (7 - n)).map (fun i => i + n) := by rcases hn with rfl | rfl | rfl <;> rfl
      rw [e7, List.countP_append]
      have : ((List.range (7 - n)).map (fun i => i + n)).countP (fun i => hiB (talP n vs) i && (atH (bvt (talP n vs) i).rd (bvt (talP n vs) i).who 0 (r : Int) && (bvt (talP n vs) i).same)) = 0 := by
        rw [List.countP_eq_zero]
        intro j hj
        obtain ⟨i, hi2, rfl⟩ := List.mem_map.1 hj
        have := List.mem_range.1 hi2
        cases hbb : hiB (talP n vs) (i + n) with
        | false => simp
        | true => have := hi_lt hb (by omega) hbb; omega
      omega
    rw [hk, hs, cnt_filterMap]
    unfold kepK
    split
    · rename_i hx2
      apply List.countP_congr
      intro i hi2
      have hi7 := List.mem_range.1 hi2
      cases hbb : hiB (talP n vs) i with
      | false => simp
      | true =>
        obtain ⟨v, h1, h2, h3⟩ := (hiB_iff hb hi7).1 hbb
        have h4 := hone x hx v h3
        rw [h2, show atH v.rd v.who 0 (r : Int) = true by unfold atH; rw [← h4.1, ← h4.2, hx2.1, hx2.2]; simp]
        simp
    · rename_i hx2
      rw [List.countP_eq_zero]
      intro i hi2
      have hi7 := List.mem_range.1 hi2
      cases hbb : hiB (talP n vs) i with
      | false => simp
      | true =>
        obtain ⟨v, h1, h2, h3⟩ := (hiB_iff hb hi7).1 hbb
        have h4 := hone x hx v h3
        rw [h2, show atH v.rd v.who 0 (r : Int) = false by
          unfold atH
          rw [← h4.1, ← h4.2]
          cases h5 : (x.rd == 0 && x.who == (r : Int)) with
          | false => rfl
          | true => rw [Bool.and_eq_true, beq_iff_eq, beq_iff_eq] at h5; exact absurd h5 hx2]
        simp
  unfold planQ
  rw [hz, hrp, if_pos (by rfl), if_neg (by omega)]
  cases hh : highQ (ansQ (talP n vs)) with
  | nil =>
    obtain ⟨v, h1, h2, h3⟩ := (hiB_iff hb (by omega)).1 hi
    rw [hh] at h3; cases h3
  | cons x y =>
    have hxm : x ∈ highQ (ansQ (talP n vs)) := by rw [hh]; exact List.mem_cons_self ..
    have hc := hcnt x hxm
    rw [hh] at ha hs hA hc
    dsimp only
    rw [ha]
    dsimp only
    refine ⟨fun hk hsm hno => ?_, fun hk hno => ?_⟩
    · obtain ⟨t, ht⟩ := first_at (P := fun i => hiB (talP n vs) i && (bvt (talP n vs) i).same) (f := bvt (talP n vs)) (N := 7) (q := q) (by omega) (by show (_ && _) = true; rw [hi, hsm]; rfl) hno
      rw [← hs] at ht
      unfold kepB at hk
      rw [Bool.and_eq_true, decide_eq_true_eq, Bool.not_eq_true'] at hk
      have hfirst : x.rd = 0 ∧ x.who = (r : Int) := by
        apply Classical.byContradiction
        intro hnx
        rw [if_neg hnx] at hc
        have := hk.2
        rw [hc] at this
        omega
      rw [if_pos hfirst] at hc
      rw [if_pos ⟨hfirst.1, hfirst.2, hk.1, by have := hk.2; rw [hc] at this; omega⟩, ht]
    · obtain ⟨t, ht⟩ := first_at (P := fun i => hiB (talP n vs) i && true) (f := bvt (talP n vs)) (N := 7) (q := q) (by omega) (by show (_ && _) = true; rw [hi]; rfl) (fun i hi2 => by show (_ && _) = false; rw [hno i hi2]; rfl)
      rw [← hA] at ht
      injection ht with hxq _
      rw [if_neg (by
        rintro ⟨h1, h2, h3, h4⟩
        rw [if_pos ⟨h1, h2⟩] at hc
        unfold kepB at hk
        rw [h3, Bool.not_false, Bool.true_and, decide_eq_false_iff_not, hc] at hk
        omega), hxq]
end
end Go.Proofs.Ytmplipkdaplpnaa
