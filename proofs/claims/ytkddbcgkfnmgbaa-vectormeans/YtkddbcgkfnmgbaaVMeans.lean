/- The contract of the statements' own means: a vector is the set of what it holds. -/
import Derived.Test.YtkddbcgkfnmgbaaVNum
import Derived.Test.YtkddbcgkfnmgbaaVLeast
import Derived.Test.YtkddbcgkfnmgbaaVHolds
import Derived.Test.YtkddbcgkfnmgbaaSameI
namespace Go.Proofs.Ytkddbcgkfnmgbaa
open Go.RowKit Go.Wire1

theorem vec_ok {l : List Int} (h : isVec l = true) : okL l = true ∧ 1 ≤ l.length ∧ l.length ≤ 7 := by
  unfold isVec at h
  simp only [Bool.and_eq_true] at h
  have := of_decide_eq_true h.1
  exact ⟨h.2, this.1, this.2⟩
theorem vec_mk {l : List Int} (h : okL l = true) (h1 : 1 ≤ l.length) (h2 : l.length ≤ 7) : isVec l = true := by
  unfold isVec; rw [h, show okW l.length = true from decide_eq_true ⟨h1, h2⟩]; rfl

section
variable {xs ys : List Int} (hx : isVec xs = true) (hy : isVec ys = true) (hl : xs.length = ys.length)
include hx hy hl
theorem two_alike : alikeB [xs, ys] = true ∧ [xs, ys].all okL = true := by
  have h1 := vec_ok hx
  have h2 := vec_ok hy
  refine ⟨alikeB_yes (by simp) (decide_eq_true ⟨h1.2.1, h1.2.2⟩) ?_, ?_⟩
  · simp [hl]
  · simp [h1.1, h2.1]
theorem two_union : unionE [xs, ys] = 0 ∧ unionL [xs, ys] = rowOf xs.length (maxAt [xs, ys]) := by
  have h := two_alike hx hy hl
  exact unionE_0 h.1 h.2
theorem two_at (q : Nat) : maxAt [xs, ys] q = if xs.getD q 0 < ys.getD q 0 then ys.getD q 0 else xs.getD q 0 := by
  have h1 := okL_at (vec_ok hx).1 q
  have h2 := okL_at (vec_ok hy).1 q
  have a1 := maxAt_lub (L := [xs, ys]) (q := q) (m := if xs.getD q 0 < ys.getD q 0 then ys.getD q 0 else xs.getD q 0) (by split <;> omega) (fun l hl => by
    simp only [List.mem_cons, List.not_mem_nil, or_false] at hl
    rcases hl with rfl | rfl <;> split <;> omega)
  by_cases hq : q < xs.length
  · have a2 := maxAt_ge (L := [xs, ys]) (l := xs) (by simp) hq
    have a3 := maxAt_ge (L := [xs, ys]) (l := ys) (by simp) (by omega : q < ys.length)
    split at a1 <;> split <;> omega
  · have e1 : xs.getD q 0 = 0 := by rw [List.getD, List.getElem?_eq_none (by omega)]; rfl
    have e2 : ys.getD q 0 = 0 := by rw [List.getD, List.getElem?_eq_none (by omega)]; rfl
    have a4 := maxAt_nonneg [xs, ys] q
    rw [e1, e2] at a1 ⊢
    simp only [Int.lt_irrefl, if_false] at a1 ⊢
    omega
theorem two_vec : isVec (unionL [xs, ys]) = true ∧ (unionL [xs, ys]).length = xs.length := by
  have h := two_alike hx hy hl
  have e := (two_union hx hy hl).2
  exact ⟨by rw [e]; exact isVec_row h.1 h.2, by rw [e, rowOf_length]⟩
theorem two_get {q : Nat} (hq : q < xs.length) : (unionL [xs, ys]).getD q 0 = if xs.getD q 0 < ys.getD q 0 then ys.getD q 0 else xs.getD q 0 := by
  rw [(two_union hx hy hl).2, rowOf_getD _ _ hq, two_at hx hy hl]
theorem holds_union (r x : Int) : holdsB (unionL [xs, ys]) r x = (holdsB xs r x || holdsB ys r x) := by
  have hv := two_vec hx hy hl
  unfold holdsB
  rw [hv.1, hx, hy, hv.2, ← hl]
  cases hp : isPl xs.length r with
  | false => rfl
  | true =>
    have hp' := of_decide_eq_true hp
    rw [two_get hx hy hl (show r.toNat < xs.length by omega)]
    simp only [Bool.true_and]
    rw [Bool.eq_iff_iff]
    simp only [Bool.or_eq_true, Bool.and_eq_true, decide_eq_true_eq]
    split <;> omega
theorem covers_holds (r x : Int) (hc : coversB xs ys = true) (hh : holdsB ys r x = true) : holdsB xs r x = true := by
  unfold coversB at hc
  rw [hx, hy, decide_eq_true hl, Bool.true_and, Bool.true_and, Bool.true_and, overK_iff] at hc
  unfold holdsB at hh ⊢
  rw [hx]
  rw [hy, ← hl] at hh
  simp only [Bool.true_and, Bool.and_eq_true, decide_eq_true_eq] at hh ⊢
  have hp' := of_decide_eq_true hh.1
  have := hc r.toNat (by omega)
  exact ⟨hh.1, hh.2.1, by omega⟩
theorem covers_same : coversB xs ys = sameB (unionL [xs, ys]) xs := by
  rw [Bool.eq_iff_iff]
  unfold coversB sameB
  rw [hx, hy, decide_eq_true hl, Bool.true_and, Bool.true_and, Bool.true_and, overK_iff, decide_eq_true_eq]
  constructor
  · intro h
    rw [(two_union hx hy hl).2]
    conv => rhs; rw [list_rowOf xs]
    apply rowOf_congr
    intro q hq
    rw [two_at hx hy hl]
    have := h q hq
    split <;> omega
  · intro h q hq
    have := two_get hx hy hl hq
    rw [h] at this
    split at this <;> omega
end

theorem raise_get {l : List Int} (hv : isVec l = true) {k : Nat} {x : Int} (hk : k < l.length) (h1 : 1 ≤ x) (h2 : x ≤ 1048576) : raiseL l (k : Int) x = l.set k (if l.getD k 0 < x then x else l.getD k 0) := by
  unfold raiseL
  rw [if_pos ⟨hv, decide_eq_true ⟨by omega, by omega⟩, h1, h2⟩]; rfl
theorem set_getD {l : List Int} {k q : Nat} {z : Int} (hk : k < l.length) : (l.set k z).getD q 0 = if q = k then z else l.getD q 0 := by
  rw [List.getD, List.getD, List.getElem?_set]
  by_cases e : k = q
  · subst e; simp [hk]
  · have e' : ¬ q = k := fun h => e h.symm
    simp [e, e']
section
variable {l : List Int} (hv : isVec l = true) {k : Nat} {x : Int} (hk : k < l.length) (h1 : 1 ≤ x) (h2 : x ≤ 1048576)
include hv hk h1 h2
theorem raise_vec : isVec (raiseL l (k : Int) x) = true ∧ (raiseL l (k : Int) x).length = l.length := by
  have h := vec_ok hv
  rw [raise_get hv hk h1 h2]
  have hle : (l.set k (if l.getD k 0 < x then x else l.getD k 0)).length = l.length := List.length_set
  refine ⟨vec_mk (List.all_eq_true.2 fun y hy => ?_) (by rw [hle]; exact h.2.1) (by rw [hle]; exact h.2.2), hle⟩
  rcases List.mem_or_eq_of_mem_set hy with h3 | h3
  · exact List.all_eq_true.1 h.1 y h3
  · subst h3
    have := okL_at h.1 k
    apply decide_eq_true
    split <;> omega
theorem holds_raise (r y : Int) : holdsB (raiseL l (k : Int) x) r y = (holdsB l r y || (decide (r = (k : Int)) && (decide (1 ≤ y) && decide (y ≤ x)))) := by
  have hr := raise_vec hv hk h1 h2
  unfold holdsB
  rw [hr.1, hr.2, hv, Bool.true_and, Bool.true_and]
  cases hp : isPl l.length r with
  | false =>
    have hp' := of_decide_eq_false hp
    rw [Bool.false_and, Bool.false_and, Bool.false_or, decide_eq_false (show ¬ r = (k : Int) by omega)]; rfl
  | true =>
    have hp' := of_decide_eq_true hp
    rw [raise_get hv hk h1 h2, set_getD hk, Bool.true_and, Bool.true_and, Bool.eq_iff_iff]
    simp only [Bool.or_eq_true, Bool.and_eq_true, decide_eq_true_eq]
    by_cases e : r.toNat = k
    · rw [if_pos e, e]
      split <;> omega
    · rw [if_neg e]
      omega
theorem holds_still : holdsB l (k : Int) x = sameB (raiseL l (k : Int) x) l := by
  rw [raise_get hv hk h1 h2, Bool.eq_iff_iff]
  unfold holdsB sameB
  rw [hv, show isPl l.length (k : Int) = true from decide_eq_true ⟨by omega, by omega⟩]
  simp only [Bool.true_and, Bool.and_eq_true, decide_eq_true_eq, Int.toNat_natCast]
  constructor
  · intro h
    apply List.ext_getElem?
    intro j
    rw [List.getElem?_set]
    by_cases e : k = j
    · subst e
      rw [if_pos rfl, if_pos hk, if_neg (by omega), List.getD, List.getElem?_eq_getElem hk]; rfl
    · rw [if_neg e]
  · intro h
    have e := set_getD (l := l) (k := k) (q := k) (z := if l.getD k 0 < x then x else l.getD k 0) hk
    rw [h, if_pos rfl] at e
    refine ⟨h1, ?_⟩
    split at e <;> omega
end

/-- An instance in a block of its own. -/
def Box (w : World) (g : Nat) (r x : Int) : Prop := w.cell? ⟨g, 0, none⟩ = some (.int .i64 r) ∧ w.cell? ⟨g, 1, none⟩ = some (.int .i64 x)
theorem Box.below {w w' : World} {g B : Nat} {r x : Int} (h : Box w g r x) (hb : Below B w w') (hB : w.heap.size ≤ B) : Box w' g r x :=
  ⟨by rw [hb.cell (p := ⟨g, 0, none⟩) (by have := cell_lt h.1; show g < B; omega)]; exact h.1, by rw [hb.cell (p := ⟨g, 1, none⟩) (by have := cell_lt h.2; show g < B; omega)]; exact h.2⟩
theorem box_new (w : World) (r x : Int) (t : TypeId) : Box (w.alloc (.cells #[.int .i64 r, .int .i64 x] t)) w.heap.size r x := ⟨cell_new w [.int .i64 r, .int .i64 x] t 0, cell_new w [.int .i64 r, .int .i64 x] t 1⟩
end Go.Proofs.Ytkddbcgkfnmgbaa
