/- A row of ints of our own, at its block; the contract of copyOf. -/
import Derived.Test.YtdpphagogjdjjaaVInts
import Derived.Test.YtdpphagogjdjjaaMine
import Derived.Laws.CopyOwn
namespace Go.Proofs.Ytdpphagogjdjjaa
open Go.RowKit Go.Wire1

/-- A row of ints of our own, at its block. -/
def MineI (w : World) (B g N cap : Nat) (L : List Int) : Prop := w.ownsRow B 3 1 (.slice (some ⟨g, 0, none⟩) N cap) N (L.map (Value.int .i64)) ∧ L.length = N ∧ N ≤ cap ∧ cap ≤ maxLen ∧ B ≤ g

theorem mineI_of {w : World} {B : Nat} {v : Value} {L : List Int} (h : w.ownsRow B 3 1 v L.length (L.map (Value.int .i64))) (hl : 0 < L.length) : ∃ g cap, v = .slice (some ⟨g, 0, none⟩) L.length cap ∧ MineI w B g L.length cap L := by
  rcases h.2 with ⟨_, h2⟩ | ⟨g, cap, cur, rfl, hB, hh, h3, h4, h5, h6⟩
  · omega
  · exact ⟨g, cap, rfl, h, rfl, h3, h4, hB⟩
theorem MineI.below {w w' : World} {B g N cap C : Nat} {L : List Int} (h : MineI w B g N cap L) (hb : Below C w w') (hC : w.heap.size ≤ C) : MineI w' B g N cap L := ⟨own_below h.1 hb hC, h.2⟩
theorem MineI.drewN {w : World} {B g N cap : Nat} {L : List Int} (h : MineI w B g N cap L) (q : Nat) : MineI (w.drewN q) B g N cap L := h
theorem MineI.lt {w : World} {B g N cap : Nat} {L : List Int} (h : MineI w B g N cap L) : g < w.heap.size := (h.1.lt g rfl).2
theorem MineI.cell {w : World} {B g N cap : Nat} {L : List Int} (h : MineI w B g N cap L) {j : Nat} (hj : j < N) : w.cell? ⟨g, j, none⟩ = some (.int .i64 (L.getD j 0)) := by
  obtain ⟨h1, rfl, h3, h4, _⟩ := h
  rw [h1.cellAt j (by omega)]
  simp [List.getElem?_eq_getElem hj]
theorem MineI.frozen {w : World} {B g N cap : Nat} {L : List Int} (h : MineI w B g N cap L) (j : Nat) : w.frozen? ⟨g, j, none⟩ = false := h.1.frozenAt j
theorem MineI.seg {w : World} {B g N cap : Nat} {L : List Int} (h : MineI w B g N cap L) (hf : ∀ j, -9223372036854775808 ≤ L.getD j 0 ∧ L.getD j 0 ≤ 9223372036854775807) : SegI w (some ⟨g, 0, none⟩) N L :=
  ⟨h.2.1, by have := h.2.2; omega, fun _ => ⟨g, 0, rfl, fun j hj => by rw [Nat.zero_add]; exact h.cell hj⟩, hf⟩
theorem MineI.store {w : World} {B g N cap : Nat} {L : List Int} (h : MineI w B g N cap L) (k : Nat) (z : Int) : MineI (w.setCell ⟨g, k, none⟩ (.int .i64 z)) B g N cap (L.set k z) := by
  obtain ⟨h1, h2, h3⟩ := h
  exact ⟨by rw [List.map_set]; exact (h1.stored k _).1, by rw [List.length_set]; exact h2, h3⟩
theorem below_store {B g k : Nat} {w w' : World} (hb : Below B w w') (hg : B ≤ g) (v : Value) : Below B w (w'.setCell ⟨g, k, none⟩ v) := hb.setCell (p := ⟨g, k, none⟩) hg v

theorem Try.info3 : (Try.prog.info? 3).map (fun i => (i.zero, i.size, i.bytes)) = some (some (.int .i64 0), 1, 8) := by kernel_rfl
theorem Try.size3 : (Try.prog.info? 3).map (·.size) = some 1 := by kernel_rfl

theorem made_row {w : World} {B g n : Nat} {xs : List Value} (h : w.ownsRow B 3 1 (.slice (some ⟨g, 0, none⟩) n n) n xs) : ∃ cur : List Value, cur.length = n ∧ w.heap[g]? = some (.cells cur.toArray 3 (0, 0)) := by
  rcases h.2 with ⟨h1, _⟩ | ⟨g', cap, cur, h1, hB, hh, h3, h4, h5, h6⟩
  · cases h1
  · injection h1 with h7 h8 h9
    injection h7 with h7
    injection h7 with h7
    subst h7 h9
    exact ⟨cur.toList, by rw [Array.length_toList, h5, Nat.mul_one], by rw [Array.toArray_toList]; exact hh⟩
theorem splice_whole {α : Type} {L cs : List α} (h : cs.length = L.length) : splice L 0 cs = cs := by
  simp [splice, h]
theorem own_of_row {w : World} {B g n : Nat} {cs : List Value} (h : w.heap[g]? = some (.cells cs.toArray 3 (0, 0))) (hB : B ≤ g) (hl : cs.length = n) (hm : n ≤ maxLen) : w.ownsRow B 3 1 (.slice (some ⟨g, 0, none⟩) n n) n cs :=
  ⟨by omega, .inr ⟨g, n, cs.toArray, rfl, hB, h, Nat.le_refl _, hm, by simp [hl], by simp [← hl]⟩⟩

theorem copied {w w1 : World} {B g n cap : Nat} {cur : List Value} {a : Option Addr} {l : List Int} (h : SegI w1 a n l) (hn : 0 < n) (hcl : cur.length = n) (hrow : w1.heap[g]? = some (.cells cur.toArray 3 (0, 0))) (hb : Below B w w1) (hB : B ≤ g) :
    ∃ w2, (Builtin.copy_ #[22, 22] 3 #[.slice (some ⟨g, 0, none⟩) n n, .slice a n cap]).run Try.prog w1 = .ok (.int .i64 (n : Int)) w2 ∧ MineI w2 B g n n l ∧ Below B w w2 ∧ w1.grownBy w2 (some g) := by
  obtain ⟨b, off, rfl, hc⟩ := h.2.2.1 hn
  have hl := h.1
  have hm := h.2.1
  have hrun := run_copy_row (P := Try.prog) w1 22 22 3 3 g 0 n n ⟨b, off, none⟩ n cap cur.toArray 3 (l.map (Value.int .i64)) Try.underlying22 Try.size3 hrow
    (by rw [List.length_map, hl]; exact (Nat.min_self n).symm)
    (fun j v hv => by
      rw [List.getElem?_map] at hv
      have hj : j < l.length := by
        rcases Nat.lt_or_ge j l.length with h | h
        · exact h
        · rw [List.getElem?_eq_none h] at hv; cases hv
      rw [List.getElem?_eq_getElem hj] at hv
      simp only [Option.map_some, Option.some.injEq] at hv
      subst hv
      rw [add_at, hc j (by omega), List.getD, List.getElem?_eq_getElem hj]
      rfl)
    (by rw [List.length_map, List.size_toArray]; omega)
    (fun v hv => by obtain ⟨x, _, rfl⟩ := List.mem_map.1 hv; rfl)
  have e : (cur.toArray.toList.take 0 ++ l.map (Value.int .i64) ++ cur.toArray.toList.drop (0 + (l.map (Value.int .i64)).length)) = l.map (Value.int .i64) := by
    simp [hl, ← hcl]
  rw [e, List.length_map, hl] at hrun
  refine ⟨_, hrun, ?_, below_setRow hb hB _, ?_⟩
  · have h2 := setRow_heap w1 g cur.toArray (l.map (Value.int .i64)).toArray 3 (0, 0) hrow
    exact ⟨own_of_row h2 hB (by rw [List.length_map]; exact hl) hm, hl, Nat.le_refl _, hm, hB⟩
  · exact ⟨rfl, rfl, rfl, by simp [World.setRow], fun k _ hne => setRow_other w1 g k _ (fun e => hne (by rw [e]))⟩

end Go.Proofs.Ytdpphagogjdjjaa
