/- A vote that doesn't count is not seen in what is decided, as mathematics. -/
import Derived.Test.YtfgcepnjdjjlbaaQOrdM
namespace Go.Proofs.Ytfgcepnjdjjlbaa
open Go.RowKit Go.Wire1

theorem okT_false {α : Type} {n slf : Int} {m : List (Int × α)} {k : Int} : okT n slf m k = false ↔ (¬ (0 ≤ k ∧ k < n)) ∨ k = slf ∨ (lkm m k).isSome = true := by
  unfold okT
  by_cases h1 : 0 ≤ k ∧ k < n
  · by_cases h2 : k = slf
    · simp [h2]
    · have : (k == slf) = false := beq_eq_false_iff_ne.2 h2
      rw [decide_eq_true h1, this]
      cases (lkm m k).isSome <;> simp [h1, h2]
  · rw [decide_eq_false h1]; simp [h1]
theorem okT_mono {α : Type} {n slf : Int} {m : List (Int × α)} {k : Int} (h : okT n slf m k = false) (fr : Int) (v : α) : okT n slf (addM n slf m fr v) k = false := by
  rw [okT_false] at h ⊢
  rcases h with h | h | h
  · exact .inl h
  · exact .inr (.inl h)
  · refine .inr (.inr (lkm_mem.2 ?_))
    have := lkm_mem.1 h
    unfold addM
    split
    · rw [List.map_append]; exact List.mem_append_left _ this
    · exact this
theorem okT_add {α : Type} (n slf : Int) (m : List (Int × α)) (fr : Int) (v : α) : okT n slf (addM n slf m fr v) fr = false := by
  unfold addM
  cases h : okT n slf m fr with
  | false => rw [if_neg (by simp)]; exact h
  | true =>
    rw [if_pos rfl, okT_false]
    exact .inr (.inr (lkm_mem.2 (by simp)))
theorem okT_twice {ok : Vt → Bool} {n slf : Int} {vs : List Vt} {u : Vt} (hu : u ∈ vs) (ho : ok u = true) : okT n slf (tal ok n slf vs) u.fr = false := by
  revert hu
  refine snoc_ind (P := fun vs => u ∈ vs → okT n slf (tal ok n slf vs) u.fr = false) ?_ ?_ vs
  · intro h; cases h
  · intro r v ih h
    rw [tal_snoc]
    rcases List.mem_append.1 h with h | h
    · split
      · exact okT_mono (ih h) _ _
      · exact ih h
    · simp only [List.mem_singleton] at h
      subst h
      rw [if_pos ho]
      exact okT_add _ _ _ _ _
theorem tal_odd {ok : Vt → Bool} {n slf : Int} {vs : List Vt} {d : Vt} (h : (¬ (0 ≤ d.fr ∧ d.fr < n)) ∨ (∃ u ∈ vs, ok u = true ∧ u.fr = d.fr) ∨ ok d = false) : tal ok n slf (vs ++ [d]) = tal ok n slf vs := by
  rw [tal_snoc]
  cases ho : ok d with
  | false => rw [if_neg (by simp)]
  | true =>
    rw [if_pos rfl]
    have hk : okT n slf (tal ok n slf vs) d.fr = false := by
      rcases h with h | ⟨u, hu, h1, h2⟩ | h
      · exact okT_false.2 (.inl h)
      · rw [← h2]; exact okT_twice hu h1
      · rw [h] at ho; cases ho
    unfold addM
    rw [hk, if_neg (by simp)]
/-- Is the vote a second one of a replica whose first one counts? -/
def twQ (n fr : Int) (vs : List Vt) : Bool := vs.any fun v => sndB n v.seq v.deps && ((v.fr == fr) && (decide (0 ≤ v.st) && decide (v.st ≤ 2)))
theorem twQ_snoc (n fr : Int) (vs : List Vt) (v : Vt) : twQ n fr (vs ++ [v]) = (twQ n fr vs || (sndB n v.seq v.deps && ((v.fr == fr) && (decide (0 ≤ v.st) && decide (v.st ≤ 2))))) := by unfold twQ; rw [List.any_append]; simp
theorem odd_same (n slf seq : Int) (l : List Int) {vs : List Vt} {d : Vt} (h : (¬ (0 ≤ d.fr ∧ d.fr < n)) ∨ twQ n d.fr vs = true ∨ (sndB n d.seq d.deps = false ∧ d.st ≠ 0)) : fastQ n slf seq l (vs ++ [d]) = fastQ n slf seq l vs ∧ slowQ n slf seq l (vs ++ [d]) = slowQ n slf seq l vs ∧ planQ n slf (vs ++ [d]) = planQ n slf vs := by
  cases hz : szQ n with
  | false =>
    have hl : leadQ n slf seq l = false := by unfold leadQ; rw [hz]; rfl
    unfold fastQ slowQ planQ
    rw [hl, hz]
    exact ⟨rfl, rfl, rfl⟩
  | true =>
    have hS : (¬ (0 ≤ d.fr ∧ d.fr < n)) ∨ (∃ u ∈ vs, sndQ n u.seq u.deps = true ∧ u.fr = d.fr ∧ 0 ≤ u.st ∧ u.st ≤ 2) ∨ (sndQ n d.seq d.deps = false ∧ d.st ≠ 0) := by
      rcases h with h | h | h
      · exact .inl h
      · unfold twQ at h
        obtain ⟨u, hu, h1⟩ := List.any_eq_true.1 h
        simp only [Bool.and_eq_true, beq_iff_eq, decide_eq_true_eq] at h1
        rw [sndB_sz hz] at h1
        exact .inr (.inl ⟨u, hu, h1.1, h1.2.1, h1.2.2.1, h1.2.2.2⟩)
      · rw [sndB_sz hz] at h; exact .inr (.inr h)
    have hA : tal (fun v => sndQ n v.seq v.deps) n slf (vs ++ [d]) = tal (fun v => sndQ n v.seq v.deps) n slf vs := tal_odd (by
      rcases hS with h | ⟨u, hu, h1, h2, _⟩ | h
      · exact .inl h
      · exact .inr (.inl ⟨u, hu, h1, h2⟩)
      · exact .inr (.inr h.1))
    have hV : talP n (vs ++ [d]) = talP n vs := tal_odd (by
      rcases hS with h | ⟨u, hu, h1, h2, h3, h4⟩ | h
      · exact .inl h
      · refine .inr (.inl ⟨u, hu, ?_, h2⟩)
        unfold okV
        cases hv : votedQ u.st with
        | true => rw [if_pos rfl]; exact h1
        | false =>
          rw [if_neg (by simp)]
          unfold votedQ at hv
          simp only [Bool.or_eq_false_iff, beq_eq_false_iff_ne, ne_eq] at hv
          rw [beq_iff_eq]; omega
      · refine .inr (.inr ?_)
        unfold okV
        split
        · exact h.1
        · exact beq_eq_false_iff_ne.2 h.2)
    have hd : toldA n slf (vs ++ [d]) = toldA n slf vs := by unfold toldA; rw [hA]
    exact ⟨(dec_same hd).1, (dec_same hd).2, plan_same (by rw [hV]) (fun k => by rw [hV])⟩
end Go.Proofs.Ytfgcepnjdjjlbaa
