/- Blocks of values, whatever they are: a block that is laid, read, written, loaded and stored whole. -/
import Derived.Test.YtdpphagogjdjjaaMath
import Derived.WalkKit
import Derived.Deep.MidRow
namespace Go.Proofs.Ytdpphagogjdjjaa
open Go.RowKit Go.Wire1

/-- A block that holds these values, and may be written. -/
structure Blk (w : World) (q : Nat) (cs : List Value) : Prop where
  cell : ∀ j v, cs[j]? = some v → w.cell? ⟨q, j, none⟩ = some v
  thaw : ∀ o, w.frozen? ⟨q, o, none⟩ = false
  lt : q < w.heap.size
theorem blk_new (w : World) (T : TypeId) (cs : List Value) : Blk (w.alloc (.cells cs.toArray T)) w.heap.size cs :=
  ⟨fun j v hj => by rw [World.cell?_alloc_at _ _ _ _ rfl]; simpa using hj, fun _ => World.frozen?_alloc_at _ _ _ _ rfl, by simp⟩
theorem Blk.of_block {w w' : World} {q : Nat} {cs : List Value} (h : Blk w q cs) (e : w'.heap[q]? = w.heap[q]?) : Blk w' q cs :=
  ⟨fun j v hj => (World.cell?_of_block (a := ⟨q, j, none⟩) e).trans (h.cell j v hj), fun o => (World.frozen?_of_block (a := ⟨q, o, none⟩) e).trans (h.thaw o), by
    have := h.lt
    apply Classical.byContradiction
    intro hn
    rw [Array.getElem?_eq_none (by omega), Array.getElem?_eq_getElem this] at e
    cases e⟩
theorem Blk.below {w w' : World} {q B : Nat} {cs : List Value} (h : Blk w q cs) (hb : Below B w w') (hB : q < B) : Blk w' q cs := h.of_block (hb.block q hB)
theorem Blk.on {w w' : World} {q : Nat} {cs : List Value} (h : Blk w q cs) (hb : Below w.heap.size w w') : Blk w' q cs := h.below hb h.lt
theorem Blk.setAt {w : World} {q : Nat} {cs : List Value} (h : Blk w q cs) (k : Nat) (x : Value) : Blk (w.setCell ⟨q, k, none⟩ x) q (cs.set k x) := by
  refine ⟨fun j u hj => ?_, fun o => by rw [World.frozen?_setCell]; exact h.thaw o, by have := h.lt; simpa [World.setCell] using this⟩
  rw [List.getElem?_set] at hj
  by_cases e : k = j
  · subst e
    rw [if_pos rfl] at hj
    split at hj
    · rename_i hlt
      simp only [Option.some.injEq] at hj
      subst hj
      exact World.cell?_setCell_same w ⟨q, k, none⟩ _ (h.cell k _ (List.getElem?_eq_getElem hlt))
    · cases hj
  · rw [if_neg e] at hj
    rw [World.cell?_setCell_other _ _ _ _ (by intro r; injection r with _ r2 _; omega)]
    exact h.cell j u hj
theorem results_cell_mid {P : Program} {fn : Func} {p : Tmp} {ty : TypeId} (h : fn.results = #[.cell p ty]) (tmps : Array Value) (w : World) (b : Nat) (cs : List Value) (d : TypeDesc) (ht : tmps[p]?.getD undef = .pointer (some ⟨b, 0, none⟩))
    (hc : w.rangeAt b 0 cs) (hu : P.underlying ty = some d) (hd : d.isRow = true) (hi : (P.info? ty).map (·.size) = some cs.length) : (results fn tmps).run P w = .ok (.agg cs.toArray) w := by
  have hl := run_loadVar_mid (P := P) w b 0 ty cs d hc hu hd hi
  simp [results, h, ht, asAddr, hl]
theorem Blk.there {w : World} {q : Nat} {cs : List Value} (h : Blk w q cs) : w.there q 0 cs.length := fun j hj => by
  rw [Nat.zero_add]
  exact ⟨by rw [h.cell j cs[j] (List.getElem?_eq_getElem hj)]; rfl, h.thaw j⟩
theorem below_cells {B b : Nat} {x : World} (hb : B ≤ b) : ∀ (vs : List Value) (o : Nat) (W : World), Below B x W → Below B x (W.setCells b o vs)
  | [], _, _, h => h
  | v :: vs, o, _, h => below_cells hb vs (o + 1) _ (h.setCell (p := ⟨b, o, none⟩) hb v)
theorem Blk.range {w : World} {q : Nat} {cs : List Value} (h : Blk w q cs) : w.rangeAt q 0 cs := fun j v hj => by rw [Nat.zero_add]; exact h.cell j v hj
theorem blk_cells {w : World} {q : Nat} {cs vs : List Value} (h : Blk w q cs) (hl : vs.length = cs.length) : Blk (w.setCells q 0 vs) q vs := by
  have hr : (w.setCells q 0 vs).rangeAt q 0 vs := World.rangeAt_setCells_same _ _ _ _ (by rw [hl]; exact h.there)
  refine ⟨fun j v hj => by have := hr j v hj; rwa [Nat.zero_add] at this, fun o => by rw [World.frozen?_setCells]; exact h.thaw o, ?_⟩
  have hs := (below_cells (B := 0) (x := w) (b := q) (Nat.zero_le _) vs 0 w ⟨rfl, rfl, rfl, Nat.le_refl _, fun _ _ => rfl⟩).size
  have := h.lt
  omega
/-- A guarded load of many cells, whose guard says yes. -/
theorem wpList_load_want {P : Program} {ops : Array Oper} {rest : List Oper} {op : Oper} {a : Act} {w : World} {Q : Exit → Act → World → Prop} (hw : Region.wanted op (yielded ops a.tmps) = true) (ty : TypeId) (x : Operand) (ho : op.op = .load ty x)
    (b o : Nat) (hx : a.eval x = .pointer (some ⟨b, o, none⟩)) (cs : List Value) (d : TypeDesc) (hc : w.rangeAt b o cs)
    (hu : P.underlying ty = some d) (hd : d.isRow = true) (hi : (P.info? ty).map (·.size) = some cs.length)
    (h : wpList P ops Q rest (a.put op.dst (.agg cs.toArray)) w) : wpList P ops Q (op :: rest) a w :=
  BigFrame.wpList_want hw fun _ hK => wp_load_mid ty x ho b o hx cs d hc hu hd hi (hK _ _ h)
theorem Blk.drewN {w : World} {q : Nat} {cs : List Value} (h : Blk w q cs) (n : Nat) : Blk (w.drewN n) q cs := ⟨h.cell, h.thaw, h.lt⟩
theorem zX (w : World) (T : TypeId) (cs : List Value) : ∃ X, X = w.alloc (.cells cs.toArray T) ∧ Hid (Blk X w.heap.size cs) := ⟨_, rfl, blk_new w T cs⟩
theorem zY (w : World) (T : TypeId) (cs : List Value) (U : TypeId) (ds : List Value) : ∃ X, X = (w.alloc (.cells cs.toArray T)).alloc (.cells ds.toArray U) ∧ Hid (Blk X w.heap.size cs) ∧ Hid (Blk X (w.heap.size + 1) ds) ∧ Hid (Below w.heap.size w X) := by
  refine ⟨_, rfl, (blk_new w T cs).on ((Below.refl _ _).alloc (Nat.le_refl _) _), ?_, ((Below.refl _ w).alloc (Nat.le_refl _) _).alloc (by simp) _⟩
  have h := blk_new (w.alloc (.cells cs.toArray T)) U ds
  rw [World.size_alloc] at h
  exact h
end Go.Proofs.Ytdpphagogjdjjaa
