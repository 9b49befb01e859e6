/- Texts of the proof, joined. -/
import Derived.Test.YtnjihfbghaefoaaGreatDoorJ01
import Derived.Deep.RegionHeld3
import Derived.Deep.MidRow
import Derived.WalkKit
/- A drawn region's steps, each in one row: one that only yields (tk; tq: by a given reason), one that its guard leaves out (tu), the one that is ready (r1). -/
namespace Go
open Go.RowKit

theorem tk {P : Program} {md : Region.Mode} {ops : Array Oper} {Q : Exit → Act → World → Prop} {S : World → Prop} (i : Nat) {oi : Oper} {v : Value} {fuel : Nat} {listed : Array Bool} {a a' : Act} {w : World}
    (h : wpAnyH P md ops Q S fuel (listed.setIfInBounds i true) a' w) (hi : ops[i]? = some oi := by rfl)
    (hs : Region.noSelect ops = true := by kernel_rfl) (hf : Region.free md ops listed i = true := by kernel_rfl) (hr : (Region.ready md ops listed).contains i = true := by kernel_rfl)
    (hw : Region.wanted oi (yielded ops a.tmps) = true := by rfl) (hS : S w := by assumption)
    (hy : ∀ w, S w → (execOp a.eval oi).run P w = .ok (.value v) w := by intro w hSw; try dsimp only at hSw
                                                                         go_simp
                                                                         try with_reducible rfl)
    (hQ : ∀ c a w, Q (.panic c) (a.put oi.dst v) w → Q (.panic c) a w := by exact fun _ _ _ h => h)
    (ha : a.put oi.dst v = a' := by (try simp only [Act.put, List.getElem_toArray, List.getElem_cons_succ, List.getElem_cons_zero, List.setIfInBounds_toArray, List.set_cons_zero, List.set_cons_succ]); rfl) : wpAnyH P md ops Q S (fuel + 1) listed a w := by
  subst ha
  exact wpAnyH_take hi hs hf hr hQ (.inl ⟨hw, hy⟩) hS h
theorem tq {P : Program} {md : Region.Mode} {ops : Array Oper} {Q : Exit → Act → World → Prop} {S : World → Prop} (i : Nat) {oi : Oper} {v : Value} {fuel : Nat} {listed : Array Bool} {a a' : Act} {w : World}
    (hi : ops[i]? = some oi) (hy : YieldsIf P ops S oi v a) (h : wpAnyH P md ops Q S fuel (listed.setIfInBounds i true) a' w)
    (hs : Region.noSelect ops = true := by kernel_rfl) (hf : Region.free md ops listed i = true := by kernel_rfl) (hr : (Region.ready md ops listed).contains i = true := by kernel_rfl)
    (hS : S w := by assumption)
    (hQ : ∀ c a w, Q (.panic c) (a.put oi.dst v) w → Q (.panic c) a w := by exact fun _ _ _ h => h)
    (ha : a.put oi.dst v = a' := by (try simp only [Act.put, List.getElem_toArray, List.getElem_cons_succ, List.getElem_cons_zero, List.setIfInBounds_toArray, List.set_cons_zero, List.set_cons_succ]); rfl) : wpAnyH P md ops Q S (fuel + 1) listed a w := by
  subst ha
  exact wpAnyH_take hi hs hf hr hQ hy hS h
end Go
/- Blocks of values, whatever they are: a block that is laid, read, written, loaded and stored whole. -/
namespace Go.Proofs.YtnjihfbghaefoaaGreatDoor
open Go.RowKit Go.Wire1

/-- A block that holds these values, and may be written. -/
structure Blk (w : World) (q : Nat) (cs : List Value) : Prop where
  cell : ∀ j v, cs[j]? = some v → w.cell? ⟨q, j, none⟩ = some v
  thaw : ∀ o, w.frozen? ⟨q, o, none⟩ = false
  lt : q < w.heap.size
theorem blk_new (w : World) (T : TypeId) (cs : List Value) : Blk (w.alloc (.cells cs.toArray T)) w.heap.size cs :=
  ⟨fun j v hj => by rw [World.cell?_alloc_at _ _ _ _ rfl]; simpa using hj, fun _ => World.frozen?_alloc_at _ _ _ _ rfl, by simp⟩
theorem Blk.of_block {w w' : World} {q : Nat} {cs : List Value} (h : Blk w q cs) (e : w'.heap[q]? = w.heap[q]?) : Blk w' q cs :=
  ⟨fun j v hj => (World.cell?_of_block (a := ⟨q, j, none⟩) e).trans (h.cell j v hj), fun o => (World.frozen?_of_block (a := ⟨q, o, none⟩) e).trans (h.thaw o), by
    have := h.lt
    apply Classical.byContradiction
    intro hn
    rw [Array.getElem?_eq_none (by omega), Array.getElem?_eq_getElem this] at e
    cases e⟩
theorem Blk.below {w w' : World} {q B : Nat} {cs : List Value} (h : Blk w q cs) (hb : Below B w w') (hB : q < B) : Blk w' q cs := h.of_block (hb.block q hB)
theorem Blk.on {w w' : World} {q : Nat} {cs : List Value} (h : Blk w q cs) (hb : Below w.heap.size w w') : Blk w' q cs := h.below hb h.lt
theorem Blk.setAt {w : World} {q : Nat} {cs : List Value} (h : Blk w q cs) (k : Nat) (x : Value) : Blk (w.setCell ⟨q, k, none⟩ x) q (cs.set k x) := by
  refine ⟨fun j u hj => ?_, fun o => by rw [World.frozen?_setCell]; exact h.thaw o, by have := h.lt; simpa [World.setCell] using this⟩
  rw [List.getElem?_set] at hj
  by_cases e : k = j
  · subst e
    rw [if_pos rfl] at hj
    split at hj
    · rename_i hlt
      simp only [Option.some.injEq] at hj
      subst hj
      exact World.cell?_setCell_same w ⟨q, k, none⟩ _ (h.cell k _ (List.getElem?_eq_getElem hlt))
    · cases hj
  · rw [if_neg e] at hj
    rw [World.cell?_setCell_other _ _ _ _ (by intro r; injection r with _ r2 _; omega)]
    exact h.cell j u hj
theorem results_cell_mid {P : Program} {fn : Func} {p : Tmp} {ty : TypeId} (h : fn.results = #[.cell p ty]) (tmps : Array Value) (w : World) (b : Nat) (cs : List Value) (d : TypeDesc) (ht : tmps[p]?.getD undef = .pointer (some ⟨b, 0, none⟩))
    (hc : w.rangeAt b 0 cs) (hu : P.underlying ty = some d) (hd : d.isRow = true) (hi : (P.info? ty).map (·.size) = some cs.length) : (results fn tmps).run P w = .ok (.agg cs.toArray) w := by
  have hl := run_loadVar_mid (P := P) w b 0 ty cs d hc hu hd hi
  simp [results, h, ht, asAddr, hl]
theorem Blk.there {w : World} {q : Nat} {cs : List Value} (h : Blk w q cs) : w.there q 0 cs.length := fun j hj => by
  rw [Nat.zero_add]
  exact ⟨by rw [h.cell j cs[j] (List.getElem?_eq_getElem hj)]; rfl, h.thaw j⟩
theorem below_cells {B b : Nat} {x : World} (hb : B ≤ b) : ∀ (vs : List Value) (o : Nat) (W : World), Below B x W → Below B x (W.setCells b o vs)
  | [], _, _, h => h
  | v :: vs, o, _, h => below_cells hb vs (o + 1) _ (h.setCell (p := ⟨b, o, none⟩) hb v)
theorem Blk.range {w : World} {q : Nat} {cs : List Value} (h : Blk w q cs) : w.rangeAt q 0 cs := fun j v hj => by rw [Nat.zero_add]; exact h.cell j v hj
theorem blk_cells {w : World} {q : Nat} {cs vs : List Value} (h : Blk w q cs) (hl : vs.length = cs.length) : Blk (w.setCells q 0 vs) q vs := by
  have hr : (w.setCells q 0 vs).rangeAt q 0 vs := World.rangeAt_setCells_same _ _ _ _ (by rw [hl]; exact h.there)
  refine ⟨fun j v hj => by have := hr j v hj; rwa [Nat.zero_add] at this, fun o => by rw [World.frozen?_setCells]; exact h.thaw o, ?_⟩
  have hs := (below_cells (B := 0) (x := w) (b := q) (Nat.zero_le _) vs 0 w ⟨rfl, rfl, rfl, Nat.le_refl _, fun _ _ => rfl⟩).size
  have := h.lt
  omega
/-- A guarded load of many cells, whose guard says yes. -/
theorem wpList_load_want {P : Program} {ops : Array Oper} {rest : List Oper} {op : Oper} {a : Act} {w : World} {Q : Exit → Act → World → Prop} (hw : Region.wanted op (yielded ops a.tmps) = true) (ty : TypeId) (x : Operand) (ho : op.op = .load ty x)
    (b o : Nat) (hx : a.eval x = .pointer (some ⟨b, o, none⟩)) (cs : List Value) (d : TypeDesc) (hc : w.rangeAt b o cs)
    (hu : P.underlying ty = some d) (hd : d.isRow = true) (hi : (P.info? ty).map (·.size) = some cs.length)
    (h : wpList P ops Q rest (a.put op.dst (.agg cs.toArray)) w) : wpList P ops Q (op :: rest) a w :=
  BigFrame.wpList_want hw fun _ hK => wp_load_mid ty x ho b o hx cs d hc hu hd hi (hK _ _ h)
theorem Blk.drewN {w : World} {q : Nat} {cs : List Value} (h : Blk w q cs) (n : Nat) : Blk (w.drewN n) q cs := ⟨h.cell, h.thaw, h.lt⟩
end Go.Proofs.YtnjihfbghaefoaaGreatDoor
/- A row of bytes of our own, at its block. -/
namespace Go.Proofs.YtnjihfbghaefoaaGreatDoor
open Go.RowKit Go.Wire1

theorem own_below {w w' : World} {B : Nat} {e : TypeId} {s : Nat} {v : Value} {n : Nat} {xs : List Value} {C : Nat} (h : w.ownsRow B e s v n xs) (hb : Below C w w') (hC : w.heap.size ≤ C) : w'.ownsRow B e s v n xs := by
  refine ⟨h.1, ?_⟩
  rcases h.2 with h2 | ⟨g, cap, cur, rfl, hB, hh, r⟩
  · exact .inl h2
  · exact .inr ⟨g, cap, cur, rfl, hB, by rw [hb.block g (by have := (Array.getElem?_eq_some_iff.1 hh).1; omega)]; exact hh, r⟩

/-- A row of bytes of our own, at its block. -/
def Mine (w : World) (B g N cap : Nat) (L : List Int) : Prop := w.ownsRow B 5 1 (.slice (some ⟨g, 0, none⟩) N cap) N (L.map (Value.int .u8)) ∧ L.length = N ∧ N ≤ cap ∧ cap ≤ maxLen ∧ B ≤ g

theorem mine_of {w : World} {B : Nat} {v : Value} {L : List Int} (h : w.ownsRow B 5 1 v L.length (L.map (Value.int .u8))) (hl : 0 < L.length) : ∃ g cap, v = .slice (some ⟨g, 0, none⟩) L.length cap ∧ Mine w B g L.length cap L := by
  rcases h.2 with ⟨_, h2⟩ | ⟨g, cap, cur, rfl, hB, hh, h3, h4, h5, h6⟩
  · omega
  · exact ⟨g, cap, rfl, h, rfl, h3, h4, hB⟩
theorem Mine.below {w w' : World} {B g N cap C : Nat} {L : List Int} (h : Mine w B g N cap L) (hb : Below C w w') (hC : w.heap.size ≤ C) : Mine w' B g N cap L := ⟨own_below h.1 hb hC, h.2⟩
theorem Mine.drewN {w : World} {B g N cap : Nat} {L : List Int} (h : Mine w B g N cap L) (q : Nat) : Mine (w.drewN q) B g N cap L := h
theorem Mine.seg {w : World} {B g N cap : Nat} {L : List Int} (h : Mine w B g N cap L) : Seg w (some ⟨g, 0, none⟩) N L := by
  obtain ⟨h1, rfl, h3, h4, _⟩ := h
  refine ⟨rfl, by omega, fun _ => ⟨g, 0, rfl, fun j hj => ?_⟩⟩
  rw [Nat.zero_add, h1.cellAt j (by omega)]
  simp [List.getElem?_eq_getElem hj]
end Go.Proofs.YtnjihfbghaefoaaGreatDoor
/- What a call may turn: one block and one row of our own; a row of our own whose block stays. -/
namespace Go.Proofs.YtnjihfbghaefoaaGreatDoor
open Go.RowKit Go.Wire1

/-- Nothing but block b and the row r has turned. -/
structure Tch (b : Nat) (r : Option Nat) (w w' : World) : Prop where
  os : w'.os = w.os
  tape : w'.tape = w.tape
  output : w'.output = w.output
  size : w.heap.size ≤ w'.heap.size
  block : ∀ k, k < w.heap.size → k ≠ b → some k ≠ r → w'.heap[k]? = w.heap[k]?
def Lat (r r' : Option Nat) (w : World) : Prop := r' = r ∨ ∀ k, r' = some k → w.heap.size ≤ k
theorem Lat.refl (r : Option Nat) (w : World) : Lat r r w := .inl rfl
theorem Lat.trans {r r' r'' : Option Nat} {w w1 : World} (h : Lat r r' w) (k : Lat r' r'' w1) (hs : w.heap.size ≤ w1.heap.size) : Lat r r'' w := by
  rcases k with rfl | k
  · exact h
  · exact .inr fun i hi => Nat.le_trans hs (k i hi)
theorem Tch.refl (b : Nat) (r : Option Nat) (w : World) : Tch b r w w := ⟨rfl, rfl, rfl, Nat.le_refl _, fun _ _ _ _ => rfl⟩
theorem Tch.trans {b : Nat} {r r' : Option Nat} {x y z : World} (h : Tch b r x y) (k : Tch b r' y z) (l : Lat r r' x) : Tch b r x z :=
  ⟨k.os.trans h.os, k.tape.trans h.tape, k.output.trans h.output, Nat.le_trans h.size k.size, fun i hi hb hr => (k.block i (Nat.lt_of_lt_of_le hi h.size) hb (by
    rcases l with rfl | l
    · exact hr
    · intro e; have := l i e.symm; omega)).trans (h.block i hi hb hr)⟩
theorem Tch.drewN {b : Nat} {r : Option Nat} {x y : World} (h : Tch b r x y) (q : Nat) : Tch b r x (y.drewN q) := ⟨h.os, h.tape, h.output, h.size, h.block⟩
theorem Tch.setB {b o : Nat} {r : Option Nat} {x y : World} (h : Tch b r x y) (v : Value) : Tch b r x (y.setCell ⟨b, o, none⟩ v) :=
  ⟨h.os, h.tape, h.output, by simpa [World.setCell] using h.size, fun i hi hb hr => (Below.heap_setCell _ _ _ _ hb).trans (h.block i hi hb hr)⟩
theorem Tch.cells {b : Nat} {r : Option Nat} {x : World} : ∀ (vs : List Value) (o : Nat) (y : World), Tch b r x y → Tch b r x (y.setCells b o vs)
  | [], _, _, h => h
  | v :: vs, o, _, h => Tch.cells vs (o + 1) _ (h.setB v)
theorem Tch.ofBelow {b : Nat} {r : Option Nat} {x y : World} (h : Below x.heap.size x y) : Tch b r x y := ⟨h.os, h.tape, h.output, h.size, fun i hi _ _ => h.block i hi⟩
theorem Tch.seg {b : Nat} {r : Option Nat} {w w' : World} (h : Tch b r w w') {a : Option Addr} {n : Nat} {l : List Int} (hs : Seg w a n l) (hsep : ∀ x, a = some x → 0 < n → x.block ≠ b ∧ some x.block ≠ r) : Seg w' a n l := by
  refine ⟨hs.1, hs.2.1, fun hn => ?_⟩
  obtain ⟨c, off, rfl, hc⟩ := hs.2.2 hn
  exact ⟨c, off, rfl, fun j hj => by rw [World.cell?_of_block (w := w) (h.block c (cell_lt (hc j hj)) (hsep _ rfl hn).1 (hsep _ rfl hn).2)]; exact hc j hj⟩
theorem Tch.below {b : Nat} {r : Option Nat} {E0 : Nat} {x y : World} (h : Tch b r x y) (hb : E0 ≤ b) (hr : ∀ k, r = some k → E0 ≤ k) (hE : E0 ≤ x.heap.size) : Below E0 x y :=
  ⟨h.os, h.tape, h.output, h.size, fun i hi => h.block i (by omega) (by omega) (fun e => by have := hr i e.symm; omega)⟩
theorem own_other {w w' : World} {B : Nat} {e : TypeId} {n z : Nat} {v : Value} {xs : List Value} (h : w.ownsRow B e z v n xs) (hk : ∀ k, v.ownBlock = some k → w'.heap[k]? = w.heap[k]?) : w'.ownsRow B e z v n xs := by
  refine ⟨h.1, ?_⟩
  rcases h.2 with h2 | ⟨g, cap, cur, rfl, hB, hh, r⟩
  · exact .inl h2
  · exact .inr ⟨g, cap, cur, rfl, hB, by rw [hk g rfl]; exact hh, r⟩

end Go.Proofs.YtnjihfbghaefoaaGreatDoor
