/- Lists that are laid anew, and rows of our own, as lists in memory. -/
import Derived.Test.YtdpphagogjdjjaaMineI
namespace Go.Proofs.Ytdpphagogjdjjaa
open Go.RowKit Go.Wire1

/-- Every number of a list is one of 64 bits. -/
def Fit (l : List Int) : Prop := ∀ j, -9223372036854775808 ≤ l.getD j 0 ∧ l.getD j 0 ≤ 9223372036854775807
theorem fit_of {l : List Int} (h : ∀ x ∈ l, -9223372036854775808 ≤ x ∧ x ≤ 9223372036854775807) : Fit l := fun j => by
  by_cases hj : j < l.length
  · rw [List.getD, List.getElem?_eq_getElem hj]; exact h _ (List.getElem_mem hj)
  · rw [List.getD, List.getElem?_eq_none (by omega)]; simp
theorem fit_ok {l : List Int} (h : okL l = true) : Fit l := fun j => by have := okL_at h j; omega

theorem cell_new (w : World) (cs : List Value) (t : TypeId) (j : Nat) : (w.alloc (.cells cs.toArray t)).cell? ⟨w.heap.size, j, none⟩ = cs[j]? := by
  have h : (w.alloc (.cells cs.toArray t)).heap[w.heap.size]? = some (.cells cs.toArray t (0, 0)) := heap_alloc_new w _
  rw [cell_of_row _ _ _ _ _ _ h]
  simp
theorem segI_new (w : World) (l : List Int) (hf : Fit l) (hl : l.length ≤ maxLen) : SegI (w.alloc (.cells ((l.map (Value.int .i64)).toArray) 3)) (some ⟨w.heap.size, 0, none⟩) l.length l := by
  refine ⟨rfl, hl, fun _ => ⟨_, 0, rfl, fun j hj => ?_⟩, hf⟩
  rw [Nat.zero_add, cell_new]
  simp [hj]
theorem segL_new (w : World) (ls : List LI) (t : TypeId) (hl : ls.length ≤ maxLen) (h : ∀ i, i < ls.length → SegI w (ls.getD i liZ).a (ls.getD i liZ).n (ls.getD i liZ).l) : SegL (w.alloc (.cells ((ls.map liv).toArray) t)) (some ⟨w.heap.size, 0, none⟩) ls.length ls := by
  refine ⟨rfl, hl, fun _ => ⟨_, 0, rfl, fun i hi => ?_⟩, fun i hi => (h i hi).below ((Below.refl w.heap.size w).alloc (Nat.le_refl _) _) (Nat.le_refl _)⟩
  rw [Nat.zero_add, cell_new]
  simp [hi, liv]
theorem own_segI {w : World} {B : Nat} {v : Value} {l : List Int} (h : w.ownsRow B 3 1 v l.length (l.map (Value.int .i64))) (hf : Fit l) : ∃ a cap, v = .slice a l.length cap ∧ l.length ≤ cap ∧ SegI w a l.length l := by
  by_cases h0 : 0 < l.length
  · obtain ⟨g, cap, rfl, hm⟩ := mineI_of h h0
    exact ⟨_, _, rfl, hm.2.2.1, hm.seg hf⟩
  · have hl : l = [] := List.eq_nil_of_length_eq_zero (by omega)
    subst hl
    rcases h.2 with ⟨rfl, _⟩ | ⟨g, cap, cur, rfl, hB, hh, h3, h4, h5, h6⟩
    · exact ⟨none, 0, rfl, Nat.le_refl _, rfl, by unfold maxLen; omega, fun h => by omega, hf⟩
    · exact ⟨_, cap, rfl, h3, rfl, by unfold maxLen; omega, fun h => by omega, hf⟩
theorem fit_union (L : List (List Int)) : Fit (unionL L) := by
  unfold unionL
  split
  · rename_i h
    refine fit_of (fun x hx => ?_)
    unfold rowOf at hx
    obtain ⟨q, _, rfl⟩ := List.mem_map.1 hx
    have h1 := maxAt_nonneg L q
    have h2 := maxAt_le h.2 q
    omega
  · exact fit_of (fun x hx => by cases hx)
theorem _root_.Go.RowKit.Below.drewN' {B : Nat} {w w' : World} (h : Below B w w') (q : Nat) : Below B w (w'.drewN q) := ⟨h.os, h.tape, h.output, h.size, h.block⟩
theorem _root_.Go.RowKit.Below.more {B : Nat} {x w : World} (h : Below B x w) (hB : B ≤ x.heap.size) (o : Obj) : Below B x (w.alloc o) := h.alloc (Nat.le_trans hB h.size) o
theorem _root_.Go.RowKit.Below.on {B : Nat} {x y z : World} (h : Below B x y) (k : Below y.heap.size y z) (hB : B ≤ x.heap.size) : Below B x z := h.trans (k.mono (Nat.le_trans hB h.size))
theorem segI_lit {w : World} (l : List Int) (hf : Fit l) (hl : l.length ≤ maxLen) {cs : Array Value} (hcs : cs = (l.map (Value.int .i64)).toArray) {b n : Nat} (hb : b = w.heap.size) (hn : n = l.length) : SegI (w.alloc (.cells cs 3)) (some ⟨b, 0, none⟩) n l := by
  subst hcs hb hn; exact segI_new w l hf hl
theorem segL_lit {w : World} (ls : List LI) {t : TypeId} (hl : ls.length ≤ maxLen) (h : ∀ s ∈ ls, SegI w s.a s.n s.l) {cs : Array Value} (hcs : cs = (ls.map liv).toArray) {b n : Nat} (hb : b = w.heap.size) (hn : n = ls.length) : SegL (w.alloc (.cells cs t)) (some ⟨b, 0, none⟩) n ls := by
  subst hcs hb hn
  refine segL_new w ls t hl (fun i hi => ?_)
  rw [List.getD, List.getElem?_eq_getElem hi]
  exact h _ (List.getElem_mem hi)
theorem _root_.Go.Wire1.SegI.on {w : World} {a : Option Addr} {n : Nat} {l : List Int} (h : SegI w a n l) (o : Obj) : SegI (w.alloc o) a n l := h.below ((Below.refl w.heap.size w).alloc (Nat.le_refl _) o) (Nat.le_refl _)
theorem own_base {w : World} {B B' : Nat} {e : TypeId} {s : Nat} {v : Value} {n : Nat} {xs : List Value} (h : w.ownsRow B e s v n xs) (hB : B' ≤ B) : w.ownsRow B' e s v n xs :=
  ⟨h.1, h.2.imp id fun ⟨g, cap, cur, h1, h2, h3⟩ => ⟨g, cap, cur, h1, Nat.le_trans hB h2, h3⟩⟩
theorem seg_lit {w : World} (l : List Int) (hl : l.length ≤ maxLen) {cs : Array Value} {t : TypeId} (hcs : cs = (l.map (Value.int .u8)).toArray) {b n : Nat} (hb : b = w.heap.size) (hn : n = l.length) : Seg (w.alloc (.cells cs t)) (some ⟨b, 0, none⟩) n l := by
  subst hcs hb hn
  refine ⟨rfl, hl, fun _ => ⟨_, 0, rfl, fun j hj => ?_⟩⟩
  rw [Nat.zero_add, cell_new]
  simp [hj]
end Go.Proofs.Ytdpphagogjdjjaa
