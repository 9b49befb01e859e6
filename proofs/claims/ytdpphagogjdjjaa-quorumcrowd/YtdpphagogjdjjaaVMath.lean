/- The plain mathematics of vectors: lists of ints in memory, what is amiss with one, and what joins them; nothing of the program is named here. -/
import Derived.Test.YtdpphagogjdjjaaMath
namespace Go.Wire1
open Go.RowKit

theorem ret_yes {p : Prop} [Decidable p] (h : p) : Ending.returned (.bool true) = .returned (.bool (decide p)) := by rw [decide_eq_true h]
theorem ret_no {p : Prop} [Decidable p] (h : ¬ p) : Ending.returned (.bool false) = .returned (.bool (decide p)) := by rw [decide_eq_false h]

/-- A list of ints in memory. -/
def SegI (w : World) (a : Option Addr) (n : Nat) (l : List Int) : Prop :=
  l.length = n ∧ n ≤ maxLen ∧ (0 < n → ∃ b off, a = some ⟨b, off, none⟩ ∧ ∀ j, j < n → w.cell? ⟨b, off + j, none⟩ = some (.int .i64 (l.getD j 0))) ∧ ∀ j, -9223372036854775808 ≤ l.getD j 0 ∧ l.getD j 0 ≤ 9223372036854775807
theorem SegI.below {w w' : World} {a : Option Addr} {n B : Nat} {l : List Int} (h : SegI w a n l) (hb : Below B w w') (hB : w.heap.size ≤ B) : SegI w' a n l := by
  obtain ⟨h1, h2, h3, h4⟩ := h
  refine ⟨h1, h2, fun hn => ?_, h4⟩
  obtain ⟨b, off, e, hc⟩ := h3 hn
  exact ⟨b, off, e, fun j hj => by
    have h := hc j hj
    rw [hb.cell (p := ⟨b, off + j, none⟩) (by have := cell_lt h; show b < B; omega)]; exact h⟩
theorem SegI.drewN {w : World} {a : Option Addr} {n : Nat} {l : List Int} (h : SegI w a n l) (q : Nat) : SegI (w.drewN q) a n l := h

/-- Is it an entry of a vector? -/
def okE (x : Int) : Bool := decide (0 ≤ x ∧ x ≤ 1048576)
def okL (l : List Int) : Bool := l.all okE
def okW (n : Nat) : Bool := decide (1 ≤ n ∧ n ≤ 7)
/-- What is amiss with a list: the error's number. -/
def fault (l : List Int) : Nat := if okW l.length = true then (if okL l = true then 0 else 32) else 31
def isVec (l : List Int) : Bool := okW l.length && okL l

theorem fault_zero (l : List Int) : (decide ((fault l : Int) = 0)) = isVec l := by
  unfold fault isVec
  cases okW l.length <;> cases okL l <;> simp
theorem fault_le (l : List Int) : fault l ≤ 32 := by unfold fault; split <;> (try split) <;> omega
theorem okL_step {l : List Int} {k : Nat} (h : k < l.length) (h1 : okL (l.take k) = true) (h2 : 0 ≤ l.getD k 0 ∧ l.getD k 0 ≤ 1048576) : okL (l.take (k + 1)) = true := by
  rw [take_next h]
  unfold okL at *
  rw [List.all_append, h1]
  simp only [List.all_cons, List.all_nil, Bool.and_true, Bool.true_and, okE, decide_eq_true_eq]
  exact h2
theorem okL_no {l : List Int} {k : Nat} (h : k < l.length) (h2 : ¬ (0 ≤ l.getD k 0 ∧ l.getD k 0 ≤ 1048576)) : okL l = false := by
  rw [Bool.eq_false_iff]
  intro e
  have := List.all_eq_true.1 e (l.getD k 0) (by rw [List.getD, List.getElem?_eq_getElem h]; exact List.getElem_mem h)
  simp only [okE, decide_eq_true_eq] at this
  exact h2 this
theorem okL_at {l : List Int} (h : okL l = true) (k : Nat) : 0 ≤ l.getD k 0 ∧ l.getD k 0 ≤ 1048576 := by
  by_cases hk : k < l.length
  · have := List.all_eq_true.1 h (l.getD k 0) (by rw [List.getD, List.getElem?_eq_getElem hk]; exact List.getElem_mem hk)
    simpa only [okE, decide_eq_true_eq] using this
  · rw [List.getD, List.getElem?_eq_none (by omega)]; simp

/-- A list in memory, as a slice has it. -/
structure LI where
  a : Option Addr
  n : Nat
  cap : Nat
  l : List Int
def liZ : LI := ⟨none, 0, 0, []⟩
def liv (s : LI) : Value := .slice s.a s.n s.cap
/-- A list of lists of ints in memory. -/
def SegL (w : World) (a : Option Addr) (n : Nat) (ls : List LI) : Prop :=
  ls.length = n ∧ n ≤ maxLen ∧ (0 < n → ∃ b off, a = some ⟨b, off, none⟩ ∧ ∀ i, i < n → w.cell? ⟨b, off + i, none⟩ = some (.slice (ls.getD i liZ).a (ls.getD i liZ).n (ls.getD i liZ).cap)) ∧ ∀ i, i < n → SegI w (ls.getD i liZ).a (ls.getD i liZ).n (ls.getD i liZ).l
theorem SegL.below {w w' : World} {a : Option Addr} {n B : Nat} {l : List LI} (h : SegL w a n l) (hb : Below B w w') (hB : w.heap.size ≤ B) : SegL w' a n l := by
  refine ⟨h.1, h.2.1, fun hn => ?_, fun i hi => (h.2.2.2 i hi).below hb hB⟩
  obtain ⟨b, off, rfl, hc⟩ := h.2.2.1 hn
  refine ⟨b, off, rfl, fun i hi => ?_⟩
  have hv := hc i hi
  rw [hb.cell (p := ⟨b, off + i, none⟩) (by have := cell_lt hv; show b < B; omega)]; exact hv
theorem SegL.drewN {w : World} {a : Option Addr} {n : Nat} {l : List LI} (h : SegL w a n l) (q : Nat) : SegL (w.drewN q) a n l := h

/-- The lists themselves. -/
def lsOf (ls : List LI) : List (List Int) := ls.map (·.l)
theorem lsOf_len (ls : List LI) : (lsOf ls).length = ls.length := by simp [lsOf]
theorem lsOf_getD (ls : List LI) (i : Nat) : (lsOf ls).getD i [] = (ls.getD i liZ).l := by
  by_cases h : i < ls.length
  · simp [lsOf, h]
  · simp [lsOf, liZ, List.getElem?_eq_none (by omega : ls.length ≤ i)]
theorem SegL.len {w : World} {a : Option Addr} {n : Nat} {ls : List LI} (h : SegL w a n ls) {i : Nat} (hi : i < n) : (ls.getD i liZ).n = ((lsOf ls).getD i []).length := by
  rw [lsOf_getD]; exact (h.2.2.2 i hi).1.symm

theorem SegL.addr {w : World} {a : Option Addr} {n : Nat} {ls : List LI} (h : SegL w a n ls) (hn : 0 < n) : ∃ b off, a = some ⟨b, off, none⟩ := by
  obtain ⟨b, off, e, _⟩ := h.2.2.1 hn
  exact ⟨b, off, e⟩
theorem SegL.at {w : World} {b off : Nat} {n : Nat} {ls : List LI} (h : SegL w (some ⟨b, off, none⟩) n ls) {i : Nat} (hi : i < n) :
    ∃ ai ni ci, w.cell? ⟨b, off + i, none⟩ = some (.slice ai ni ci) ∧ SegI w ai ni ((lsOf ls).getD i []) := by
  obtain ⟨b', off', e, hc⟩ := h.2.2.1 (by omega)
  injection e with e
  injection e with e1 e2
  subst e1 e2
  exact ⟨_, _, _, hc i hi, by rw [lsOf_getD]; exact h.2.2.2 i hi⟩

/-- Lists, all of one length that a vector may have. -/
def alikeB (L : List (List Int)) : Bool := decide (0 < L.length) && (okW (L.getD 0 []).length && L.all fun l => decide (l.length = (L.getD 0 []).length))
/-- The greatest entry at a place, of lists that have one. -/
def maxAt (L : List (List Int)) (q : Nat) : Int := L.foldl (fun k l => if q < l.length ∧ k < l.getD q 0 then l.getD q 0 else k) 0
def rowOf (n : Nat) (g : Nat → Int) : List Int := (List.range n).map g
def unionL (L : List (List Int)) : List Int := if alikeB L = true ∧ L.all okL = true then rowOf (L.getD 0 []).length (maxAt L) else []
def unionE (L : List (List Int)) : Nat := if alikeB L = true then (if L.all okL = true then 0 else 32) else 31

theorem rowOf_length (n : Nat) (g : Nat → Int) : (rowOf n g).length = n := by simp [rowOf]
theorem rowOf_getD (n : Nat) (g : Nat → Int) {q : Nat} (h : q < n) : (rowOf n g).getD q 0 = g q := by simp [rowOf, h]
theorem rowOf_congr {n : Nat} {g f : Nat → Int} (h : ∀ q, q < n → g q = f q) : rowOf n g = rowOf n f := by
  unfold rowOf
  apply List.map_congr_left
  intro q hq
  exact h q (List.mem_range.1 hq)
theorem rowOf_set (n : Nat) (g : Nat → Int) (i : Nat) (z : Int) : (rowOf n g).set i z = rowOf n (fun q => if q = i then z else g q) := by
  apply List.ext_getElem?
  intro j
  simp only [rowOf, List.getElem?_set, List.length_map, List.length_range, List.getElem?_map]
  by_cases hj : j < n
  · by_cases e : i = j
    · subst e; simp [hj]
    · have e' : ¬ j = i := fun h => e h.symm
      simp [hj, e, e']
  · by_cases e : i = j
    · subst e; simp [hj]
    · simp [hj, e]
theorem rowOf_succ (n : Nat) (g : Nat → Int) : rowOf (n + 1) g = rowOf n g ++ [g n] := by simp [rowOf, List.range_succ]
theorem list_rowOf (l : List Int) : l = rowOf l.length (fun q => l.getD q 0) := by
  apply List.ext_getElem?
  intro j
  by_cases hj : j < l.length
  · simp [rowOf, hj]
  · rw [List.getElem?_eq_none (by omega : l.length ≤ j), List.getElem?_eq_none (by rw [rowOf_length]; omega)]
theorem take_snoc {α : Type} {L : List α} {k : Nat} (d : α) (h : k < L.length) : L.take (k + 1) = L.take k ++ [L.getD k d] := by
  rw [List.take_succ_eq_append_getElem h]; simp [List.getElem?_eq_getElem h]
theorem maxAt_snoc (L : List (List Int)) (l : List Int) (q : Nat) : maxAt (L ++ [l]) q = if q < l.length ∧ maxAt L q < l.getD q 0 then l.getD q 0 else maxAt L q := by
  unfold maxAt; rw [List.foldl_append]; rfl
theorem maxAt_nonneg (L : List (List Int)) (q : Nat) : 0 ≤ maxAt L q := by
  have key : ∀ (L : List (List Int)) (k : Int), 0 ≤ k → 0 ≤ L.foldl (fun k l => if q < l.length ∧ k < l.getD q 0 then l.getD q 0 else k) k := by
    intro L
    induction L with
    | nil => intro k hk; exact hk
    | cons l r ih =>
      intro k hk
      apply ih
      show 0 ≤ if q < l.length ∧ k < l.getD q 0 then l.getD q 0 else k
      split <;> omega
  exact key L 0 (Int.le_refl 0)
theorem maxAt_le {L : List (List Int)} (h : L.all okL = true) (q : Nat) : maxAt L q ≤ 1048576 := by
  have key : ∀ (L : List (List Int)) (k : Int), L.all okL = true → k ≤ 1048576 → L.foldl (fun k l => if q < l.length ∧ k < l.getD q 0 then l.getD q 0 else k) k ≤ 1048576 := by
    intro L
    induction L with
    | nil => intro k _ hk; exact hk
    | cons l r ih =>
      intro k ha hk
      simp only [List.all_cons, Bool.and_eq_true] at ha
      apply ih _ ha.2
      have := okL_at ha.1 q
      show (if q < l.length ∧ k < l.getD q 0 then l.getD q 0 else k) ≤ 1048576
      split <;> omega
  exact key L 0 h (by omega)
theorem all_getD {L : List (List Int)} {p : List Int → Bool} (h : L.all p = true) {i : Nat} (hi : i < L.length) : p (L.getD i []) = true := by
  rw [List.getD, List.getElem?_eq_getElem hi]
  exact List.all_eq_true.1 h _ (List.getElem_mem hi)
theorem all_no {L : List (List Int)} {p : List Int → Bool} {i : Nat} (hi : i < L.length) (h : p (L.getD i []) = false) : L.all p = false := by
  rw [Bool.eq_false_iff]
  intro e
  rw [all_getD e hi] at h
  cases h
theorem all_step {L : List (List Int)} {p : List Int → Bool} {k : Nat} (hk : k < L.length) (h1 : (L.take k).all p = true) (h2 : p (L.getD k []) = true) : (L.take (k + 1)).all p = true := by
  rw [take_snoc [] hk, List.all_append, h1]
  simpa using h2
theorem alikeB_nil {L : List (List Int)} (h : L.length = 0) : alikeB L = false := by unfold alikeB; simp [h]
theorem alikeB_first {L : List (List Int)} (h : okW (L.getD 0 []).length = false) : alikeB L = false := by unfold alikeB; rw [h]; simp
theorem alikeB_no {L : List (List Int)} {i : Nat} (hi : i < L.length) (h : ¬ (L.getD i []).length = (L.getD 0 []).length) : alikeB L = false := by
  unfold alikeB
  rw [all_no (p := fun l => decide (l.length = (L.getD 0 []).length)) hi (decide_eq_false h)]
  simp
theorem alikeB_yes {L : List (List Int)} (h0 : 0 < L.length) (h1 : okW (L.getD 0 []).length = true) (h2 : (L.all fun l => decide (l.length = (L.getD 0 []).length)) = true) : alikeB L = true := by
  unfold alikeB; rw [h1, h2, decide_eq_true h0]; rfl
theorem alikeB_len {L : List (List Int)} (h : alikeB L = true) : 0 < L.length ∧ 1 ≤ (L.getD 0 []).length ∧ (L.getD 0 []).length ≤ 7 ∧ ∀ i, i < L.length → (L.getD i []).length = (L.getD 0 []).length := by
  unfold alikeB at h
  simp only [Bool.and_eq_true, decide_eq_true_eq] at h
  obtain ⟨h1, h2, h3⟩ := h
  have h2' := of_decide_eq_true h2
  exact ⟨h1, h2'.1, h2'.2, fun i hi => of_decide_eq_true (all_getD h3 hi)⟩
end Go.Wire1
