/- Many tallies side by side in memory; which of them was added to. -/
import Derived.Test.YtdpphagogjdjjaaQTli
namespace Go.Proofs.Ytdpphagogjdjjaa
open Go.RowKit Go.Wire1

theorem c1_at {W : World} {b : Nat} {z : Value} (hs : W.heap.size = b) : ∀ j u, [z][j]? = some u → (W.alloc (.cells #[z] 3)).cell? ((⟨b, 0, none⟩ : Addr).add j) = some u := fun j u hj => by
  match j, hj with
  | 0, hj =>
    rw [← hs, Addr.add_mid, World.cell?_alloc_at _ _ _ _ rfl]
    simpa using hj
def ptr (p : Nat × Nat) : Value := .pointer (some ⟨p.1, 0, none⟩)
/-- Tallies, each at its two blocks, and what they hold. -/
structure Cw (w : World) (B : Nat) (ps : List (Nat × Nat)) (ms : List (List (Int × Int))) : Prop where
  len : ms.length = ps.length
  at_ : ∀ (i : Nat) (p : Nat × Nat) (m : List (Int × Int)), ps[i]? = some p → ms[i]? = some m → Tli w p.1 p.2 7 0 m
  ne : ∀ (i j : Nat) (p p' : Nat × Nat), ps[i]? = some p → ps[j]? = some p' → i ≠ j → p'.1 ≠ p.2 ∧ p'.2 ≠ p.2
  lo : ∀ p ∈ ps, B ≤ p.1 ∧ B ≤ p.2
theorem cw_nil (w : World) (B : Nat) : Cw w B [] [] := ⟨rfl, fun i p m h => by simp at h, fun i j p p' h => by simp at h, fun p h => by cases h⟩
section
variable {w : World} {B : Nat} {ps : List (Nat × Nat)} {ms : List (List (Int × Int))}
theorem Cw.get (h : Cw w B ps ms) {i : Nat} {p : Nat × Nat} (hp : ps[i]? = some p) : ∃ m, ms[i]? = some m ∧ Tli w p.1 p.2 7 0 m := by
  have hl := (List.getElem?_eq_some_iff.1 hp).1
  exact ⟨ms[i]'(by rw [h.len]; exact hl), List.getElem?_eq_getElem _, h.at_ i p _ hp (List.getElem?_eq_getElem _)⟩
theorem Cw.on {w' : World} (h : Cw w B ps ms) (hb : Below w.heap.size w w') : Cw w' B ps ms := ⟨h.len, fun i p m hp hm => (h.at_ i p m hp hm).on hb, h.ne, h.lo⟩
theorem Cw.lt (h : Cw w B ps ms) : ∀ p ∈ ps, p.1 < w.heap.size ∧ p.2 < w.heap.size := fun p hp => by
  obtain ⟨i, hi, rfl⟩ := List.getElem_of_mem hp
  obtain ⟨m, _, ht⟩ := h.get (List.getElem?_eq_getElem hi)
  exact ⟨ht.lt, ht.im.lt⟩
/-- What turns a block that is no tally's leaves them. -/
theorem Cw.far {w' : World} {r : Nat} (h : Cw w B ps ms) (hg : w.grownBy w' (some r)) (hr : ∀ p ∈ ps, p.1 ≠ r ∧ p.2 ≠ r) : Cw w' B ps ms :=
  ⟨h.len, fun i p m hp hm => (h.at_ i p m hp hm).far hg (hr p (List.mem_of_getElem? hp)).1 (hr p (List.mem_of_getElem? hp)).2, h.ne, h.lo⟩
theorem Cw.far0 {w' : World} {row : Option Nat} (h : Cw w B ps ms) (hg : w.grownBy w' row) (hr : ∀ p ∈ ps, row ≠ some p.1 ∧ row ≠ some p.2) : Cw w' B ps ms := by
  cases row with
  | some r => exact h.far hg (fun p hp => ⟨fun e => (hr p hp).1 (by rw [e]), fun e => (hr p hp).2 (by rw [e])⟩)
  | none =>
    refine ⟨h.len, fun i p m hp hm => ?_, h.ne, h.lo⟩
    have ht := h.at_ i p m hp hm
    exact ⟨fun j v hv => by have := ht.box j v hv; rw [World.cell?_of_block (a := ⟨p.1, 0 + j, none⟩) (hg.block p.1 ht.lt (by intro e; cases e))]; exact this, ht.im.of_block (hg.block p.2 ht.im.lt (by intro e; cases e)), ht.row, ht.size⟩
/-- One more tally, all new. -/
theorem Cw.push {w' : World} {tb mb : Nat} {m : List (Int × Int)} (h : Cw w B ps ms) (ht : Tli w' tb mb 7 0 m) (hc : Cw w' B ps ms) (h1 : w.heap.size ≤ tb) (h2 : w.heap.size ≤ mb) (hB : B ≤ w.heap.size) : Cw w' B (ps ++ [(tb, mb)]) (ms ++ [m]) := by
  refine ⟨by simp [h.len], fun i p m' hp hm => ?_, fun i j p p' hp hp' hij => ?_, fun p hp => ?_⟩
  · by_cases hi : i < ps.length
    · rw [List.getElem?_append_left hi] at hp
      rw [List.getElem?_append_left (by rw [h.len]; exact hi)] at hm
      exact hc.at_ i p m' hp hm
    · have hi2 : i = ps.length := by have := (List.getElem?_eq_some_iff.1 hp).1; simp at this; omega
      subst hi2
      rw [List.getElem?_append_right (Nat.le_refl _), Nat.sub_self] at hp
      rw [List.getElem?_append_right (by rw [h.len]; exact Nat.le_refl _), h.len, Nat.sub_self] at hm
      simp only [List.getElem?_cons_zero, Option.some.injEq] at hp hm
      subst hp hm
      exact ht
  · by_cases hi : i < ps.length
    · rw [List.getElem?_append_left hi] at hp
      have hpl := h.lt p (List.mem_of_getElem? hp)
      by_cases hj : j < ps.length
      · rw [List.getElem?_append_left hj] at hp'
        exact h.ne i j p p' hp hp' hij
      · have hj2 : j = ps.length := by have := (List.getElem?_eq_some_iff.1 hp').1; simp at this; omega
        subst hj2
        rw [List.getElem?_append_right (Nat.le_refl _), Nat.sub_self] at hp'
        simp only [List.getElem?_cons_zero, Option.some.injEq] at hp'
        subst hp'
        exact ⟨by show tb ≠ _; omega, by show mb ≠ _; omega⟩
    · have hi2 : i = ps.length := by have := (List.getElem?_eq_some_iff.1 hp).1; simp at this; omega
      subst hi2
      rw [List.getElem?_append_right (Nat.le_refl _), Nat.sub_self] at hp
      simp only [List.getElem?_cons_zero, Option.some.injEq] at hp
      subst hp
      have hj : j < ps.length := by have := (List.getElem?_eq_some_iff.1 hp').1; simp at this; omega
      rw [List.getElem?_append_left hj] at hp'
      have hpl := h.lt p' (List.mem_of_getElem? hp')
      exact ⟨by show _ ≠ mb; omega, by show _ ≠ mb; omega⟩
  · rcases List.mem_append.1 hp with hp | hp
    · exact h.lo p hp
    · simp only [List.mem_singleton] at hp
      subst hp
      exact ⟨Nat.le_trans hB h1, Nat.le_trans hB h2⟩
/-- One tally is turned. -/
theorem Cw.turn {w' : World} {i : Nat} {p : Nat × Nat} {m' : List (Int × Int)} (h : Cw w B ps ms) (hp : ps[i]? = some p) (ht : Tli w' p.1 p.2 7 0 m') (hg : w.grownBy w' (some p.2)) : Cw w' B ps (ms.set i m') := by
  refine ⟨by simp [h.len], fun j p' m hp' hm => ?_, h.ne, h.lo⟩
  by_cases e : i = j
  · subst e
    rw [hp] at hp'
    obtain rfl := Option.some.inj hp'
    rw [List.getElem?_set_self (by rw [h.len]; exact (List.getElem?_eq_some_iff.1 hp).1)] at hm
    obtain rfl := Option.some.inj hm
    exact ht
  · rw [List.getElem?_set_ne e] at hm
    have hne := h.ne i j p p' hp hp' e
    exact (h.at_ j p' m hp' hm).far hg hne.1 hne.2
end
def f1Q (i : Nat) : Int := 1 + (i : Int) % 6
def f2Q (i : Nat) : Int := 1 + ((i : Int) + 1) % 6
/-- Which tally a number names. -/
def ixQ (N : Nat) (v : Int) : Nat := ((Int.tmod v N + N) % N).toNat
theorem ix_eq {N : Nat} (h : 1 ≤ N) (v : Int) : ((ixQ N v : Nat) : Int) = (Int.tmod v N + N) % N ∧ ixQ N v < N := by
  have h1 := Int.emod_nonneg (Int.tmod v N + N) (b := (N : Int)) (by omega)
  have h2 := Int.emod_lt_of_pos (Int.tmod v N + N) (b := (N : Int)) (by omega)
  unfold ixQ
  omega
theorem ix_wrap {N : Nat} (h1 : 1 ≤ N) (h40 : N ≤ 40) (v : Int) : (wrap64 (Int.tmod v (N : Int) + (N : Int))).tmod (N : Int) = (ixQ N v : Int) := by
  have a1 : Int.tmod v (N : Int) < N := Int.tmod_lt_of_pos v (by omega)
  have a2 : -(N : Int) < Int.tmod v (N : Int) := Int.lt_tmod_of_pos v (by omega)
  have e : wrap64 (Int.tmod v (N : Int) + (N : Int)) = Int.tmod v (N : Int) + (N : Int) := by
    generalize Int.tmod v (N : Int) = x at *
    unfold wrap64
    omega
  rw [e, Int.tmod_eq_emod_of_nonneg (by omega), (ix_eq h1 v).1]
def hitQ (N : Nat) (vs : List Int) (i : Nat) : Bool := vs.any fun v => ixQ N v == i
def mCw (N : Nat) (vs : List Int) (i : Nat) : List (Int × Int) := (f1Q i, (i : Int)) :: (if hitQ N vs i then [(f2Q i, 1000 + (i : Int))] else [])
def msCw (N : Nat) (vs : List Int) : List (List (Int × Int)) := (List.range N).map (mCw N vs)
theorem f_ne (i : Nat) : f1Q i ≠ f2Q i := by unfold f1Q f2Q; omega
theorem f_rng (i : Nat) : (1 ≤ f1Q i ∧ f1Q i ≤ 6) ∧ (1 ≤ f2Q i ∧ f2Q i ≤ 6) := by unfold f1Q f2Q; omega
theorem hit_snoc (N : Nat) (vs : List Int) (v : Int) (i : Nat) : hitQ N (vs ++ [v]) i = (hitQ N vs i || (ixQ N v == i)) := by unfold hitQ; rw [List.any_append]; simp
theorem lkm_f1 (N : Nat) (vs : List Int) (i : Nat) : lkm (mCw N vs i) (f1Q i) = some (i : Int) := by unfold mCw lkm; simp
theorem lkm_f2 (N : Nat) (vs : List Int) (i : Nat) : lkm (mCw N vs i) (f2Q i) = if hitQ N vs i then some (1000 + (i : Int)) else none := by
  have h := f_ne i
  unfold mCw lkm
  rw [List.find?_cons]
  have hb : (f1Q i == f2Q i) = false := beq_eq_false_iff_ne.2 h
  simp only [hb]
  cases hitQ N vs i <;> simp
/-- The next number turns just the tally that it names. -/
theorem ms_step {N : Nat} (h1 : 1 ≤ N) (vs : List Int) (v : Int) : msCw N (vs ++ [v]) = (msCw N vs).set (ixQ N v) (addM 7 0 (mCw N vs (ixQ N v)) (f2Q (ixQ N v)) (1000 + (ixQ N v : Int))) := by
  have hix := (ix_eq h1 v).2
  apply List.ext_getElem?
  intro j
  rw [List.getElem?_set]
  unfold msCw
  by_cases e : ixQ N v = j
  · subst e
    rw [if_pos rfl, if_pos (by simpa using hix), List.getElem?_map, List.getElem?_range hix]
    simp only [Option.map_some, Option.some.injEq]
    unfold addM okT
    have hr := (f_rng (ixQ N v)).2
    rw [lkm_f2, decide_eq_true (by omega), beq_eq_false_iff_ne.2 (by omega : f2Q (ixQ N v) ≠ 0)]
    unfold mCw
    rw [hit_snoc]
    cases hitQ N vs (ixQ N v) <;> simp
  · rw [if_neg e]
    by_cases hj : j < N
    · rw [List.getElem?_map, List.getElem?_map, List.getElem?_range hj]
      simp only [Option.map_some, Option.some.injEq]
      unfold mCw
      rw [hit_snoc, beq_eq_false_iff_ne.2 e, Bool.or_false]
    · rw [List.getElem?_eq_none (by simp; omega), List.getElem?_eq_none (by simp; omega)]
theorem ms_first (N q : Nat) (hq : q < N) : ((List.range N).map (mCw N [])).take (q + 1) = ((List.range N).map (mCw N [])).take q ++ [[(f1Q q, (q : Int))]] := by
  rw [List.take_add_one, List.getElem?_map, List.getElem?_range hq]; rfl
/-- The ids that a tally tells. -/
def wantQ (N : Nat) (vs : List Int) (i : Nat) : List Int := if hitQ N vs i then (if f2Q i < f1Q i then [f2Q i, f1Q i] else [f1Q i, f2Q i]) else [f1Q i]
theorem ids_want (N : Nat) (vs : List Int) (i : Nat) : idsQ (mCw N vs i) = wantQ N vs i := by
  have hr := f_rng i
  have hne := f_ne i
  have h7 : ∀ p ∈ mCw N vs i, 0 ≤ p.1 ∧ p.1 < 7 := by
    intro p hp
    unfold mCw at hp
    rcases List.mem_cons.1 hp with rfl | hp
    · show 0 ≤ f1Q i ∧ f1Q i < 7; omega
    · split at hp
      · simp only [List.mem_singleton] at hp; subst hp; show 0 ≤ f2Q i ∧ f2Q i < 7; omega
      · cases hp
  refine eq_of_sorted (idsQ_lt _) ?_ (fun k => ?_)
  · unfold wantQ
    split
    · split
      · simp; omega
      · simp; omega
    · simp
  · rw [idsQ_mem h7]
    unfold mCw wantQ
    cases hitQ N vs i with
    | false => simp
    | true =>
      simp only [if_true, List.map_cons, List.map_nil, List.mem_cons, List.not_mem_nil, or_false]
      split
      · simp only [List.mem_cons, List.not_mem_nil, or_false]; exact Or.comm
      · simp only [List.mem_cons, List.not_mem_nil, or_false]
end Go.Proofs.Ytdpphagogjdjjaa
