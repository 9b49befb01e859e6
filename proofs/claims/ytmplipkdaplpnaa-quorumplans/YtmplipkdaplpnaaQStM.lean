/- Fast's answers over more and more votes, as mathematics. -/
import Derived.Test.YtmplipkdaplpnaaQSlow
namespace Go.Proofs.Ytmplipkdaplpnaa
open Go.RowKit Go.Wire1

theorem rowS_take {w : World} {K : Nat} {a : Option Addr} {n q : Nat} {vs : List Vt} (h : RowS w K a n (vs.map vcs)) (hq : q ≤ vs.length) : RowS w K a (vs.take q).length ((vs.take q).map vcs) := by
  have hl := h.len
  rw [List.length_map] at hl
  rw [List.length_take, Nat.min_eq_left hq]
  refine ⟨by rw [List.length_map, List.length_take]; omega, by have := h.max; omega, fun h0 => ?_, fun cs hc => h.fit cs ?_⟩
  · obtain ⟨b, off, e, hat⟩ := h.at_ (by omega)
    refine ⟨b, off, e, fun i cs hi => hat i cs ?_⟩
    rw [List.map_take, List.getElem?_take] at hi
    split at hi
    · exact hi
    · cases hi
  · rw [List.map_take] at hc
    exact List.mem_of_mem_take hc
theorem ansQ_perm {α : Type} {m : List (Int × α)} (hn : (m.map (·.1)).Nodup) (h7 : ∀ p ∈ m, 0 ≤ p.1 ∧ p.1 < 7) : (ansQ m).Perm (m.map (·.2)) := by
  have h1 : (idsQ m).Perm (m.map (·.1)) := (List.perm_ext_iff_of_nodup ((idsQ_lt m).imp (fun h => by omega)) hn).2 (fun k => idsQ_mem h7)
  have h2 := h1.map (lkm m)
  rw [← ans_ids] at h2
  have h3 : (m.map (·.1)).map (lkm m) = (m.map (·.2)).map some := by
    rw [List.map_map, List.map_map]
    apply List.map_congr_left
    intro p hp
    exact lkm_at hn hp
  rw [h3] at h2
  have h4 := h2.filterMap id
  simpa [List.filterMap_map, Function.comp_def] using h4
/-- What a tally's keys are. -/
structure Tk {α : Type} (n slf : Int) (m : List (Int × α)) : Prop where
  nd : (m.map (·.1)).Nodup
  row : ∀ p ∈ m, (0 ≤ p.1 ∧ p.1 < n) ∧ p.1 ≠ slf
theorem tk_add {α : Type} {n slf : Int} {m : List (Int × α)} (h : Tk n slf m) (fr : Int) (v : α) : Tk n slf (addM n slf m fr v) := by
  unfold addM
  cases ho : okT n slf m fr with
  | false => exact h
  | true =>
    unfold okT at ho
    simp only [Bool.and_eq_true, decide_eq_true_eq, Bool.not_eq_true', beq_eq_false_iff_ne, ne_eq] at ho
    obtain ⟨h1, h2, h3⟩ := ho
    have hno : fr ∉ m.map (·.1) := fun hc => by rw [lkm_mem.2 hc] at h3; cases h3
    refine ⟨?_, fun p hp => ?_⟩
    · simp only [if_true, List.map_append, List.map_cons, List.map_nil]
      rw [List.nodup_append]
      refine ⟨h.nd, by simp, fun x hx y hy => ?_⟩
      simp only [List.mem_singleton] at hy
      subst hy
      exact fun e => hno (e ▸ hx)
    · simp only [if_true] at hp
      rcases List.mem_append.1 hp with hp | hp
      · exact h.row p hp
      · simp only [List.mem_singleton] at hp
        subst hp
        exact ⟨h1, h2⟩
theorem tk_tal (ok : Vt → Bool) (n slf : Int) (vs : List Vt) : Tk n slf (tal ok n slf vs) := by
  unfold tal
  have key : ∀ (l : List Vt) (m : List (Int × Vt)), Tk n slf m → Tk n slf (l.foldl (fun m v => if ok v then addM n slf m v.fr v else m) m) := by
    intro l
    induction l with
    | nil => intro m h; exact h
    | cons v r ih =>
      intro m h
      refine ih _ ?_
      dsimp only
      split
      · exact tk_add h _ _
      · exact h
  exact key vs [] ⟨by simp, fun p hp => by cases hp⟩
theorem tk_le {α : Type} {n slf : Int} {m : List (Int × α)} (h : Tk n slf m) (h0 : 0 ≤ slf) (h1 : slf < n) (h7 : n ≤ 7) : (m.length : Int) ≤ n - 1 := by
  have hnd : (slf :: m.map (·.1)).Nodup := List.nodup_cons.2 ⟨fun hc => by obtain ⟨p, hp, e⟩ := List.mem_map.1 hc; exact (h.row p hp).2 e, h.nd⟩
  have hsub : (slf :: m.map (·.1)) ⊆ (List.range n.toNat).map (fun i : Nat => (i : Int)) := fun k hk => by
    have hb : 0 ≤ k ∧ k < n := by
      rcases List.mem_cons.1 hk with rfl | hk
      · exact ⟨h0, h1⟩
      · obtain ⟨p, hp, rfl⟩ := List.mem_map.1 hk; exact (h.row p hp).1
    exact List.mem_map.2 ⟨k.toNat, List.mem_range.2 (by omega), by omega⟩
  have := hnd.length_le_of_subset hsub
  simp only [List.length_cons, List.length_map, List.length_range] at this
  omega
theorem told_len (n slf : Int) (h7 : n ≤ 7) (vs : List Vt) : (toldA n slf vs).length = (tal (fun v => sndQ n v.seq v.deps) n slf vs).length := by
  have h := tk_tal (fun v => sndQ n v.seq v.deps) n slf vs
  have hp := ansQ_perm h.nd (fun p hp => by have := (h.row p hp).1; omega)
  unfold toldA
  rw [hp.length_eq, List.length_map]
theorem told_cnt (n slf : Int) (h7 : n ≤ 7) (seq : Int) (l : List Int) (vs : List Vt) : cntQ seq l (toldA n slf vs) = (tal (fun v => sndQ n v.seq v.deps) n slf vs).countP (fun p => eqA seq l p.2) := by
  have h := tk_tal (fun v => sndQ n v.seq v.deps) n slf vs
  have hp := ansQ_perm h.nd (fun p hp => by have := (h.row p hp).1; omega)
  unfold toldA cntQ
  rw [hp.countP_eq, List.countP_map]
  rfl
theorem fast_one (n slf seq : Int) (l : List Int) (vs : List Vt) : (fastQ n slf seq l vs).1 = 1 → (fastQ n slf seq l vs).2.1 = seq ∧ (fastQ n slf seq l vs).2.2 = l := by
  unfold fastQ
  split
  · split
    · exact fun _ => ⟨rfl, rfl⟩
    · split
      · intro h; simp at h
      · intro h; simp at h
  · intro h; simp at h
def wasN (n slf seq : Int) (l : List Int) (vs : List Vt) : Nat → Int
  | 0 => 0
  | q + 1 => (fastQ n slf seq l (vs.take q)).1
theorem fast_k (n slf seq : Int) (l : List Int) (vs : List Vt) (hl : leadQ n slf seq l = true) : (fastQ n slf seq l vs).1 = if 2 * ((n - 1) / 2) - 1 ≤ (cntQ seq l (toldA n slf vs) : Int) then 1 else if (n - 1) / 2 ≤ ((toldA n slf vs).length : Int) ∧ 2 ≤ ((toldA n slf vs).length : Int) - (cntQ seq l (toldA n slf vs) : Int) then 2 else 0 := by
  unfold fastQ
  rw [if_pos hl]
  split
  · rfl
  · split <;> rfl
theorem steady_was (n slf seq : Int) (l : List Int) (vs : List Vt) (q : Nat) : wasN n slf seq l vs q ≠ 0 → (fastQ n slf seq l (vs.take q)).1 = wasN n slf seq l vs q := by
  cases q with
  | zero => intro h; exact absurd rfl h
  | succ q =>
    show (fastQ n slf seq l (vs.take q)).1 ≠ 0 → (fastQ n slf seq l (vs.take (q + 1))).1 = (fastQ n slf seq l (vs.take q)).1
    intro h
    cases hl : leadQ n slf seq l with
    | false => unfold fastQ at h; rw [hl] at h; exact absurd rfl h
    | true =>
      obtain ⟨hsz, hrp, _⟩ := lead_sz hl
      have h7 := sz_le hsz
      have hr : 0 ≤ slf ∧ slf < n := by unfold repQ at hrp; simpa using hrp
      have hn : n = 3 ∨ n = 5 ∨ n = 7 := by unfold szQ at hsz; simpa using hsz
      rw [fast_k _ _ _ _ _ hl] at h ⊢
      rw [fast_k _ _ _ _ _ hl]
      rw [told_len n slf h7, told_cnt n slf h7] at h ⊢
      rw [told_len n slf h7, told_cnt n slf h7]
      have hle := tk_le (tk_tal (fun v => sndQ n v.seq v.deps) n slf (vs.take (q + 1))) hr.1 hr.2 h7
      cases hv : vs[q]? with
      | none =>
        have : vs.take (q + 1) = vs.take q := by rw [List.take_add_one, hv]; simp
        rw [this]
      | some v =>
        have e : vs.take (q + 1) = vs.take q ++ [v] := by rw [List.take_add_one, hv]; rfl
        rw [e, tal_snoc] at hle ⊢
        generalize tal (fun v => sndQ n v.seq v.deps) n slf (vs.take q) = m at *
        try dsimp only at hle ⊢
        split
        · rename_i hs
          rw [if_pos hs] at hle
          unfold addM at hle ⊢
          cases hok : okT n slf m v.fr with
          | false => simp only [Bool.false_eq_true, if_false]
          | true =>
            rw [hok] at hle
            simp only [if_true, List.length_append, List.length_cons, List.length_nil] at hle
            simp only [if_true, List.length_append, List.length_cons, List.length_nil, List.countP_append, List.countP_cons, List.countP_nil]
            generalize m.length = len at *
            generalize m.countP (fun p => eqA seq l p.2) = ct at *
            have hf : ∃ f : Int, (n - 1) / 2 = f ∧ n = 2 * f + 1 := ⟨(n - 1) / 2, rfl, by omega⟩
            obtain ⟨f, hf1, hf2⟩ := hf
            rw [hf1] at h ⊢
            cases eqA seq l v with
            | false =>
              simp only [Bool.false_eq_true, if_false]
              split at h <;> (try split at h) <;> (repeat' split) <;> first | omega | (exact absurd rfl h) | rfl
            | true =>
              simp only [if_true]
              split at h <;> (try split at h) <;> (repeat' split) <;> first | omega | (exact absurd rfl h) | rfl
        · rfl
end Go.Proofs.Ytmplipkdaplpnaa
