/- What Prepared's kind hangs on where no From is told twice, as mathematics. -/
import Derived.Test.YtmplipkdaplpnaaQStM
import Derived.Test.YtmplipkdaplpnaaQPrep
import Derived.Test.YtmplipkdaplpnaaQLw2
namespace Go.Proofs.Ytmplipkdaplpnaa
open Go.RowKit Go.Wire1

theorem snoc_ind {α : Type} {P : List α → Prop} (h0 : P []) (hs : ∀ r v, P r → P (r ++ [v])) (l : List α) : P l := by
  have key : ∀ l : List α, P l.reverse := by
    intro l
    induction l with
    | nil => exact h0
    | cons v r ih => rw [List.reverse_cons]; exact hs _ _ ih
  have := key l.reverse
  rwa [List.reverse_reverse] at this
theorem tal_unlike (ok : Vt → Bool) (n slf : Int) : ∀ (vs : List Vt), (vs.map (·.fr)).Nodup → tal ok n slf vs = (vs.filter fun v => ok v && (repQ n v.fr && !(v.fr == slf))).map fun v => (v.fr, v) := by
  intro vs
  refine snoc_ind (P := fun vs => (vs.map (·.fr)).Nodup → tal ok n slf vs = (vs.filter fun v => ok v && (repQ n v.fr && !(v.fr == slf))).map fun v => (v.fr, v)) ?_ ?_ vs
  · intro _; rfl
  · intro r v ih h
    rw [List.map_append, List.nodup_append] at h
    obtain ⟨h1, _, h3⟩ := h
    have hno : ∀ u ∈ r, u.fr ≠ v.fr := fun u hu => h3 u.fr (List.mem_map_of_mem hu) v.fr (by simp)
    rw [tal_snoc, ih h1, List.filter_append, List.map_append]
    cases ho : ok v with
    | false =>
      rw [if_neg (by simp), List.filter_cons_of_neg (by rw [ho]; simp)]; simp
    | true =>
      rw [if_pos rfl]
      have hl : (lkm ((r.filter fun v => ok v && (repQ n v.fr && !(v.fr == slf))).map fun v => (v.fr, v)) v.fr).isSome = false := by
        cases hc : (lkm ((r.filter fun v => ok v && (repQ n v.fr && !(v.fr == slf))).map fun v => (v.fr, v)) v.fr).isSome with
        | false => rfl
        | true =>
          have := lkm_mem.1 hc
          rw [List.map_map] at this
          obtain ⟨u, hu, e⟩ := List.mem_map.1 this
          exact absurd e (hno u (List.mem_filter.1 hu).1)
      have hk : okT n slf ((r.filter fun v => ok v && (repQ n v.fr && !(v.fr == slf))).map fun v => (v.fr, v)) v.fr = (repQ n v.fr && !(v.fr == slf)) := by
        unfold okT
        rw [hl, Bool.not_false, Bool.and_true]
        unfold repQ
        rw [← Bool.decide_and]
      unfold addM
      rw [hk]
      cases hr : repQ n v.fr && !(v.fr == slf) with
      | false => rw [if_neg (by simp), List.filter_cons_of_neg (by rw [ho, hr]; simp)]; simp
      | true => rw [if_pos rfl, List.filter_cons_of_pos (by rw [ho, hr]; rfl)]; rfl
def noneN (n : Int) (vs : List Vt) : Nat := vs.countP fun v => repQ n v.fr && (v.st == 0)
def someN (n : Int) (vs : List Vt) : Nat := vs.countP fun v => repQ n v.fr && (votedQ v.st && sndQ n v.seq v.deps)
theorem mxQ_mem {vs : List Vt} (h : vs ≠ []) : mxQ vs ∈ vs := by
  have key : ∀ (l : List Vt) (m : Vt), l.foldl mxS m = m ∨ l.foldl mxS m ∈ l := by
    intro l
    induction l with
    | nil => intro m; exact .inl rfl
    | cons v r ih =>
      intro m
      rw [List.foldl_cons]
      rcases ih (mxS m v) with h | h
      · rw [h]; unfold mxS
        split
        · exact .inr (List.mem_cons_self ..)
        · exact .inl rfl
      · exact .inr (List.mem_cons_of_mem _ h)
  match vs, h with
  | v :: r, _ =>
    show r.foldl mxS v ∈ v :: r
    rcases key r v with h | h
    · rw [h]; exact List.mem_cons_self ..
    · exact List.mem_cons_of_mem _ h
theorem highQ_nil (vs : List Vt) : highQ vs = [] ↔ vs.countP (fun v => votedQ v.st) = 0 := by
  rw [List.countP_eq_length_filter, List.length_eq_zero_iff]
  unfold highQ
  split
  · rename_i h; simp [h]
  · rename_i h
    refine ⟨fun h2 => ?_, fun h2 => absurd h2 h⟩
    have := mxQ_mem h
    have h3 : mxQ (vs.filter fun v => votedQ v.st) ∈ (vs.filter fun v => votedQ v.st).filter (atB (mxQ (vs.filter fun v => votedQ v.st))) := List.mem_filter.2 ⟨this, by simp [atB]⟩
    rw [h2] at h3
    cases h3
theorem okV_rep (n : Int) (v : Vt) : (okV n v && (repQ n v.fr && !(v.fr == -1))) = ((repQ n v.fr && (v.st == 0)) || (repQ n v.fr && (votedQ v.st && sndQ n v.seq v.deps))) ∧ ((repQ n v.fr && (v.st == 0)) && (repQ n v.fr && (votedQ v.st && sndQ n v.seq v.deps))) = false := by
  have h1 : (repQ n v.fr && !(v.fr == -1)) = repQ n v.fr := by
    unfold repQ
    by_cases h : 0 ≤ v.fr
    · rw [beq_eq_false_iff_ne.2 (show v.fr ≠ -1 by omega)]; simp
    · rw [decide_eq_false h]; rfl
  have h2 : votedQ v.st = true → (v.st == 0) = false := fun h => by
    unfold votedQ at h
    simp only [Bool.or_eq_true, beq_iff_eq] at h
    rw [beq_eq_false_iff_ne]; omega
  rw [h1]
  unfold okV
  cases hv : votedQ v.st with
  | true => rw [h2 hv]; cases repQ n v.fr <;> cases sndQ n v.seq v.deps <;> simp
  | false => cases repQ n v.fr <;> cases (v.st == 0) <;> simp
theorem talP_len {n : Int} {vs : List Vt} (h : (vs.map (·.fr)).Nodup) : (talP n vs).length = noneN n vs + someN n vs := by
  unfold talP
  rw [tal_unlike _ _ _ vs h, List.length_map, ← List.countP_eq_length_filter]
  clear h
  unfold noneN someN
  induction vs with
  | nil => rfl
  | cons v r ih =>
    rw [List.countP_cons, List.countP_cons, List.countP_cons, ih]
    obtain ⟨h1, h2⟩ := okV_rep n v
    rw [h1]
    cases hx : (repQ n v.fr && (v.st == 0)) <;> cases hy : (repQ n v.fr && (votedQ v.st && sndQ n v.seq v.deps))
    · simp
    · simp; omega
    · simp; omega
    · rw [hx, hy] at h2; cases h2
theorem talP_voted {n : Int} (h7 : n ≤ 7) {vs : List Vt} (h : (vs.map (·.fr)).Nodup) : (ansQ (talP n vs)).countP (fun v => votedQ v.st) = someN n vs := by
  have ht := tk_tal (okV n) n (-1) vs
  have hp := ansQ_perm ht.nd (fun p hp => by have := (ht.row p hp).1; omega)
  unfold talP
  rw [hp.countP_eq, List.countP_map, tal_unlike _ _ _ vs h, List.countP_map, List.countP_filter]
  unfold someN
  apply List.countP_congr
  intro v _
  obtain ⟨h1, _⟩ := okV_rep n v
  rw [show ((((fun v : Vt => votedQ v.st) ∘ fun p : Int × Vt => p.2) ∘ fun v => (v.fr, v)) v && (okV n v && (repQ n v.fr && !(v.fr == -1)))) = (votedQ v.st && (okV n v && (repQ n v.fr && !(v.fr == -1)))) from rfl, h1]
  have h2 : votedQ v.st = true → (v.st == 0) = false := fun h => by
    unfold votedQ at h
    simp only [Bool.or_eq_true, beq_iff_eq] at h
    rw [beq_eq_false_iff_ne]; omega
  cases hv : votedQ v.st with
  | true => rw [h2 hv]; cases repQ n v.fr <;> cases sndQ n v.seq v.deps <;> simp
  | false => cases repQ n v.fr <;> simp
theorem plan_kind {n row : Int} {vs : List Vt} (hs : (szQ n && repQ n row) = true) (h : (vs.map (·.fr)).Nodup) :
    (((noneN n vs + someN n vs : Nat) : Int) < (n - 1) / 2 + 1 → (planQ n row vs).1 = 0) ∧ (¬ ((noneN n vs + someN n vs : Nat) : Int) < (n - 1) / 2 + 1 → (someN n vs = 0 → (planQ n row vs).1 = 1) ∧ (someN n vs ≠ 0 → (planQ n row vs).1 = 2 ∨ (planQ n row vs).1 = 3)) := by
  have hz : szQ n = true := by cases h1 : szQ n with
    | true => rfl
    | false => rw [h1] at hs; cases hs
  have hn : n = 3 ∨ n = 5 ∨ n = 7 := by unfold szQ at hz; simpa using hz
  unfold planQ
  rw [hs, if_pos rfl, talP_len h]
  refine ⟨fun h1 => by rw [if_pos h1], fun h1 => ?_⟩
  rw [if_neg h1]
  have hh := highQ_nil (ansQ (talP n vs))
  rw [talP_voted (sz_le hz) h] at hh
  refine ⟨fun h2 => by rw [hh.2 h2], fun h2 => ?_⟩
  cases hq : highQ (ansQ (talP n vs)) with
  | nil => exact absurd (hh.1 hq) h2
  | cons x r =>
    dsimp only
    cases ha : (x :: r).filter accQ with
    | cons y t => exact .inl rfl
    | nil =>
      dsimp only
      split
      · rename_i hc
        cases hf : (x :: r).filter (·.same) with
        | cons y t => exact .inl rfl
        | nil => rw [hf] at hc; simp only [List.length_nil] at hc; omega
      · exact .inr rfl
end Go.Proofs.Ytmplipkdaplpnaa
