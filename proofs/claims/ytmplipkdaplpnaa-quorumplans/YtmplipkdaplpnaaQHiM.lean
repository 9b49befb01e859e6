/- The highest votes, by what they are: mathematics. -/
import Derived.Test.YtmplipkdaplpnaaQNoM
namespace Go.Proofs.Ytmplipkdaplpnaa
open Go.RowKit Go.Wire1

def bLt (u v : Vt) : Prop := u.rd < v.rd ∨ (u.rd = v.rd ∧ u.who < v.who)
theorem byB_pos (v u : Vt) : 0 < byB v u ↔ bLt u v := by
  unfold byB or2 cmpI bLt
  by_cases h1 : v.rd < u.rd
  · rw [if_pos h1, if_neg (by decide)]; omega
  · rw [if_neg h1]
    by_cases h2 : u.rd < v.rd
    · rw [if_pos h2, if_neg (by decide)]; omega
    · rw [if_neg h2, if_pos rfl]
      by_cases h3 : v.who < u.who
      · rw [if_pos h3]; omega
      · rw [if_neg h3]
        by_cases h4 : u.who < v.who
        · rw [if_pos h4]; omega
        · rw [if_neg h4]; omega
theorem bLt_trans {u v w : Vt} (h1 : bLt u v) (h2 : bLt v w) : bLt u w := by unfold bLt at *; omega
theorem bLt_irrefl (u : Vt) : ¬ bLt u u := by unfold bLt; omega
theorem mxF_max (vs : List Vt) : ∀ m : Vt, ¬ bLt (vs.foldl mxS m) m ∧ ∀ u ∈ vs, ¬ bLt (vs.foldl mxS m) u := by
  induction vs with
  | nil => exact fun m => ⟨bLt_irrefl m, fun u h => by cases h⟩
  | cons x r ih =>
    intro m
    rw [List.foldl_cons]
    obtain ⟨h1, h2⟩ := ih (mxS m x)
    have hs : ¬ bLt (mxS m x) m ∧ ¬ bLt (mxS m x) x := by
      unfold mxS
      split
      · rename_i h
        rw [byB_pos] at h
        exact ⟨fun h' => bLt_irrefl _ (bLt_trans h h'), bLt_irrefl _⟩
      · rename_i h
        rw [byB_pos] at h
        exact ⟨bLt_irrefl _, h⟩
    have tr : ∀ u, ¬ bLt (mxS m x) u → ¬ bLt (r.foldl mxS (mxS m x)) u := by
      intro u hu h
      unfold bLt at h h1 hu
      omega
    refine ⟨tr m hs.1, fun u hu => ?_⟩
    rcases List.mem_cons.1 hu with e | hu
    · subst e; exact tr u hs.2
    · exact h2 u hu
theorem mxQ_max {vs : List Vt} : ∀ u ∈ vs, ¬ bLt (mxQ vs) u := by
  intro u hu
  cases vs with
  | nil => cases hu
  | cons x r =>
    have := mxF_max r x
    unfold mxQ
    rcases List.mem_cons.1 hu with e | hu
    · subst e; exact this.1
    · exact this.2 u hu
theorem highQ_iff {vs : List Vt} {v : Vt} : v ∈ highQ vs ↔ v ∈ vs ∧ votedQ v.st = true ∧ ∀ u ∈ vs, votedQ u.st = true → ¬ bLt v u := by
  have hm : ∀ u, u ∈ vs.filter (fun v => votedQ v.st) ↔ u ∈ vs ∧ votedQ u.st = true := fun u => List.mem_filter
  unfold highQ
  split
  · rename_i h
    constructor
    · intro h'; cases h'
    · rintro ⟨h1, h2, -⟩
      have := (hm v).2 ⟨h1, h2⟩
      rw [h] at this; cases this
  · rename_i h
    have hmx := mxQ_mem h
    have hmax := mxQ_max (vs := vs.filter fun v => votedQ v.st)
    rw [List.mem_filter, hm]
    have e : ∀ u : Vt, atB (mxQ (vs.filter fun v => votedQ v.st)) u = true ↔ u.rd = (mxQ (vs.filter fun v => votedQ v.st)).rd ∧ u.who = (mxQ (vs.filter fun v => votedQ v.st)).who := fun u => by unfold atB; simp
    rw [e]
    constructor
    · rintro ⟨⟨h1, h2⟩, h3, h4⟩
      refine ⟨h1, h2, fun u hu hv hlt => hmax u ((hm u).2 ⟨hu, hv⟩) ?_⟩
      unfold bLt at hlt ⊢
      omega
    · rintro ⟨h1, h2, h3⟩
      have a1 := h3 _ ((hm _).1 hmx).1 ((hm _).1 hmx).2
      have a2 := hmax v ((hm v).2 ⟨h1, h2⟩)
      unfold bLt at a1 a2
      refine ⟨⟨h1, h2⟩, ?_⟩
      omega
/-- A highest one is there as soon as one has voted. -/
theorem highQ_some {vs : List Vt} {v : Vt} (h : v ∈ vs) (hv : votedQ v.st = true) : ∃ x ∈ highQ vs, ¬ bLt x v := by
  have hne : vs.filter (fun v => votedQ v.st) ≠ [] := List.ne_nil_of_mem (List.mem_filter.2 ⟨h, hv⟩)
  have hmx := mxQ_mem hne
  have hmax := mxQ_max (vs := vs.filter fun v => votedQ v.st)
  have h2 := List.mem_filter.1 hmx
  exact ⟨_, highQ_iff.2 ⟨h2.1, h2.2, fun u hu hw => hmax u (List.mem_filter.2 ⟨hu, hw⟩)⟩, hmax v (List.mem_filter.2 ⟨h, hv⟩)⟩
end Go.Proofs.Ytmplipkdaplpnaa
