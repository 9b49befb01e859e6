/- Texts of the proof, joined. -/
import Derived.Test.YtdokagebfeejbaaGreatDoorJ03
import Derived.Laws.CopyOwn
import Derived.Defers
import Derived.Recover
import Derived.RegionTactic
import Derived.ChangeAlike
import Derived.Test.YtdokagebfeejbaaGreatDoorJ02
import Derived.Laws.BytesArg
/- A row of ints of our own, at its block; the contract of copyOf. -/
namespace Go.Proofs.YtdokagebfeejbaaGreatDoor
open Go.RowKit Go.Wire1

/-- A row of ints of our own, at its block. -/
def MineI (w : World) (B g N cap : Nat) (L : List Int) : Prop := w.ownsRow B 3 1 (.slice (some ⟨g, 0, none⟩) N cap) N (L.map (Value.int .i64)) ∧ L.length = N ∧ N ≤ cap ∧ cap ≤ maxLen ∧ B ≤ g

theorem mineI_of {w : World} {B : Nat} {v : Value} {L : List Int} (h : w.ownsRow B 3 1 v L.length (L.map (Value.int .i64))) (hl : 0 < L.length) : ∃ g cap, v = .slice (some ⟨g, 0, none⟩) L.length cap ∧ MineI w B g L.length cap L := by
  rcases h.2 with ⟨_, h2⟩ | ⟨g, cap, cur, rfl, hB, hh, h3, h4, h5, h6⟩
  · omega
  · exact ⟨g, cap, rfl, h, rfl, h3, h4, hB⟩
theorem MineI.below {w w' : World} {B g N cap C : Nat} {L : List Int} (h : MineI w B g N cap L) (hb : Below C w w') (hC : w.heap.size ≤ C) : MineI w' B g N cap L := ⟨own_below h.1 hb hC, h.2⟩
theorem MineI.drewN {w : World} {B g N cap : Nat} {L : List Int} (h : MineI w B g N cap L) (q : Nat) : MineI (w.drewN q) B g N cap L := h
theorem MineI.lt {w : World} {B g N cap : Nat} {L : List Int} (h : MineI w B g N cap L) : g < w.heap.size := (h.1.lt g rfl).2
theorem MineI.cell {w : World} {B g N cap : Nat} {L : List Int} (h : MineI w B g N cap L) {j : Nat} (hj : j < N) : w.cell? ⟨g, j, none⟩ = some (.int .i64 (L.getD j 0)) := by
  obtain ⟨h1, rfl, h3, h4, _⟩ := h
  rw [h1.cellAt j (by omega)]
  simp [List.getElem?_eq_getElem hj]
theorem MineI.frozen {w : World} {B g N cap : Nat} {L : List Int} (h : MineI w B g N cap L) (j : Nat) : w.frozen? ⟨g, j, none⟩ = false := h.1.frozenAt j
theorem MineI.seg {w : World} {B g N cap : Nat} {L : List Int} (h : MineI w B g N cap L) (hf : ∀ j, -9223372036854775808 ≤ L.getD j 0 ∧ L.getD j 0 ≤ 9223372036854775807) : SegI w (some ⟨g, 0, none⟩) N L :=
  ⟨h.2.1, by have := h.2.2; omega, fun _ => ⟨g, 0, rfl, fun j hj => by rw [Nat.zero_add]; exact h.cell hj⟩, hf⟩
theorem MineI.store {w : World} {B g N cap : Nat} {L : List Int} (h : MineI w B g N cap L) (k : Nat) (z : Int) : MineI (w.setCell ⟨g, k, none⟩ (.int .i64 z)) B g N cap (L.set k z) := by
  obtain ⟨h1, h2, h3⟩ := h
  exact ⟨by rw [List.map_set]; exact (h1.stored k _).1, by rw [List.length_set]; exact h2, h3⟩
theorem below_store {B g k : Nat} {w w' : World} (hb : Below B w w') (hg : B ≤ g) (v : Value) : Below B w (w'.setCell ⟨g, k, none⟩ v) := hb.setCell (p := ⟨g, k, none⟩) hg v

theorem Tryz.info3 : (Tryz.prog.info? 3).map (fun i => (i.zero, i.size, i.bytes)) = some (some (.int .i64 0), 1, 8) := by kernel_rfl
theorem Tryz.size3 : (Tryz.prog.info? 3).map (·.size) = some 1 := by kernel_rfl

end Go.Proofs.YtdokagebfeejbaaGreatDoor
/- Lists that are laid anew, and rows of our own, as lists in memory. -/
namespace Go.Proofs.YtdokagebfeejbaaGreatDoor
open Go.RowKit Go.Wire1

/-- Every number of a list is one of 64 bits. -/
def Fit (l : List Int) : Prop := ∀ j, -9223372036854775808 ≤ l.getD j 0 ∧ l.getD j 0 ≤ 9223372036854775807
theorem fit_of {l : List Int} (h : ∀ x ∈ l, -9223372036854775808 ≤ x ∧ x ≤ 9223372036854775807) : Fit l := fun j => by
  by_cases hj : j < l.length
  · rw [List.getD, List.getElem?_eq_getElem hj]; exact h _ (List.getElem_mem hj)
  · rw [List.getD, List.getElem?_eq_none (by omega)]; simp
theorem cell_new (w : World) (cs : List Value) (t : TypeId) (j : Nat) : (w.alloc (.cells cs.toArray t)).cell? ⟨w.heap.size, j, none⟩ = cs[j]? := by
  have h : (w.alloc (.cells cs.toArray t)).heap[w.heap.size]? = some (.cells cs.toArray t (0, 0)) := heap_alloc_new w _
  rw [cell_of_row _ _ _ _ _ _ h]
  simp
theorem _root_.Go.RowKit.Below.drewN' {B : Nat} {w w' : World} (h : Below B w w') (q : Nat) : Below B w (w'.drewN q) := ⟨h.os, h.tape, h.output, h.size, h.block⟩
theorem _root_.Go.RowKit.Below.more {B : Nat} {x w : World} (h : Below B x w) (hB : B ≤ x.heap.size) (o : Obj) : Below B x (w.alloc o) := h.alloc (Nat.le_trans hB h.size) o
theorem _root_.Go.RowKit.Below.on {B : Nat} {x y z : World} (h : Below B x y) (k : Below y.heap.size y z) (hB : B ≤ x.heap.size) : Below B x z := h.trans (k.mono (Nat.le_trans hB h.size))
theorem _root_.Go.Wire1.SegI.on {w : World} {a : Option Addr} {n : Nat} {l : List Int} (h : SegI w a n l) (o : Obj) : SegI (w.alloc o) a n l := h.below ((Below.refl w.heap.size w).alloc (Nat.le_refl _) o) (Nat.le_refl _)
theorem own_base {w : World} {B B' : Nat} {e : TypeId} {s : Nat} {v : Value} {n : Nat} {xs : List Value} (h : w.ownsRow B e s v n xs) (hB : B' ≤ B) : w.ownsRow B' e s v n xs :=
  ⟨h.1, h.2.imp id fun ⟨g, cap, cur, h1, h2, h3⟩ => ⟨g, cap, cur, h1, Nat.le_trans hB h2, h3⟩⟩
theorem seg_lit {w : World} (l : List Int) (hl : l.length ≤ maxLen) {cs : Array Value} {t : TypeId} (hcs : cs = (l.map (Value.int .u8)).toArray) {b n : Nat} (hb : b = w.heap.size) (hn : n = l.length) : Seg (w.alloc (.cells cs t)) (some ⟨b, 0, none⟩) n l := by
  subst hcs hb hn
  refine ⟨rfl, hl, fun _ => ⟨_, 0, rfl, fun j hj => ?_⟩⟩
  rw [Nat.zero_add, cell_new]
  simp [hj]
end Go.Proofs.YtdokagebfeejbaaGreatDoor
/- The contract of entriesOf: an array of seven entries as a value. -/
namespace Go.Proofs.YtdokagebfeejbaaGreatDoor
open Go.RowKit Go.Wire1

/-- The seven entries, 0 where the list has none. -/
def arrL (l : List Int) : List Value := [.int .i64 (l.getD 0 0), .int .i64 (l.getD 1 0), .int .i64 (l.getD 2 0), .int .i64 (l.getD 3 0), .int .i64 (l.getD 4 0), .int .i64 (l.getD 5 0), .int .i64 (l.getD 6 0)]
def zer7 : List Value := [.int .i64 0, .int .i64 0, .int .i64 0, .int .i64 0, .int .i64 0, .int .i64 0, .int .i64 0]
theorem arr_eq {l : List Int} {n : Nat} (hl : l.length = n) (hn : n ≤ 7) : l.map (Value.int .i64) ++ zer7.drop n = arrL l := by
  subst hl
  match l, hn with
  | [], _ => rfl
  | [_], _ => rfl
  | [_, _], _ => rfl
  | [_, _, _], _ => rfl
  | [_, _, _, _], _ => rfl
  | [_, _, _, _, _], _ => rfl
  | [_, _, _, _, _, _], _ => rfl
  | [_, _, _, _, _, _, _], _ => rfl
  | _ :: _ :: _ :: _ :: _ :: _ :: _ :: _ :: r, h => simp at h

theorem copied7 {w1 : World} {g n cap : Nat} {a : Option Addr} {l : List Int} {t : TypeId} (h : SegI w1 a n l) (hn : 0 < n) (hs : n ≤ 7) (hrow : w1.heap[g]? = some (.cells zer7.toArray t (0, 0))) :
    ∃ w2, (Builtin.copy_ #[28, 28] 3 #[.slice (some ⟨g, 0, none⟩) 7 7, .slice a n cap]).run Tryz.prog w1 = .ok (.int .i64 (n : Int)) w2 ∧ w2.heap[g]? = some (.cells (arrL l).toArray t (0, 0)) ∧ w1.grownBy w2 (some g) ∧ w2.heap.size = w1.heap.size := by
  obtain ⟨b, off, rfl, hc⟩ := h.2.2.1 hn
  have hl := h.1
  have hrun := run_copy_row (P := Tryz.prog) w1 28 28 3 3 g 0 7 7 ⟨b, off, none⟩ n cap zer7.toArray t (l.map (Value.int .i64)) Tryz.underlying28 Tryz.size3 hrow
    (by rw [List.length_map, hl]; exact (Nat.min_eq_left hs).symm)
    (fun j v hv => by
      rw [List.getElem?_map] at hv
      have hj : j < l.length := by
        rcases Nat.lt_or_ge j l.length with h | h
        · exact h
        · rw [List.getElem?_eq_none h] at hv; cases hv
      rw [List.getElem?_eq_getElem hj] at hv
      simp only [Option.map_some, Option.some.injEq] at hv
      subst hv
      rw [add_at, hc j (by omega), List.getD, List.getElem?_eq_getElem hj]
      rfl)
    (by rw [List.length_map, List.size_toArray]; show 0 + l.length ≤ 7; omega)
    (fun v hv => by obtain ⟨x, _, rfl⟩ := List.mem_map.1 hv; rfl)
  have e : (zer7.toArray.toList.take 0 ++ l.map (Value.int .i64) ++ zer7.toArray.toList.drop (0 + (l.map (Value.int .i64)).length)) = arrL l := by
    rw [List.length_map, hl, Nat.zero_add, List.take_zero, List.nil_append]
    exact arr_eq hl hs
  rw [e, List.length_map, hl] at hrun
  exact ⟨_, hrun, setRow_heap w1 g _ _ t (0, 0) hrow, ⟨rfl, rfl, rfl, by simp [World.setRow], fun k _ hne => setRow_other w1 g k _ (fun e => hne (by rw [e]))⟩, by simp [World.setRow]⟩

theorem cell_arr {w : World} {g : Nat} {cs : List Value} {t : TypeId} (h : w.heap[g]? = some (.cells cs.toArray t (0, 0))) (j : Nat) : w.cell? ⟨g, j, none⟩ = cs[j]? := by
  rw [cell_of_row _ _ _ _ _ _ h]; simp
theorem frz_arr {w : World} {g : Nat} {cs : Array Value} {t : TypeId} (h : w.heap[g]? = some (.cells cs t (0, 0))) (j : Nat) : w.frozen? ⟨g, j, none⟩ = false := by
  simp [World.frozen?, h]

set_option maxHeartbeats 400000 in
set_option maxRecDepth 100000 in
theorem entriesOf_any (a : Option Addr) (n cap : Nat) (l : List Int) (w : World) (h : SegI w a n l) (hn : 0 < n) (hs : n ≤ 7) :
    Calls Tryz.prog 180 #[.slice a n cap] w fun e w' => e = .returned (.agg (arrL l).toArray) ∧ Below w.heap.size w w' := by
  have h2 : SegI ((w.alloc (.cells zer7.toArray 158)).alloc (.cells zer7.toArray 158)) a n l := (h.on _).on _
  have hr0 : ((w.alloc (.cells zer7.toArray 158)).alloc (.cells zer7.toArray 158)).heap[w.heap.size + 1]? = some (.cells zer7.toArray 158 (0, 0)) := by
    have := heap_alloc_new (w.alloc (.cells zer7.toArray 158)) (.cells zer7.toArray 158)
    rwa [World.size_alloc] at this
  have hr1 : ((w.alloc (.cells zer7.toArray 158)).alloc (.cells zer7.toArray 158)).heap[w.heap.size]? = some (.cells zer7.toArray 158 (0, 0)) := by
    rw [Below.heap_alloc _ _ _ (by rw [World.size_alloc]; omega)]
    exact heap_alloc_new w _
  obtain ⟨w3, hrun, hrow, hg, hsz⟩ := copied7 (cap := cap) h2 hn hs hr0
  have hrow0 : w3.heap[w.heap.size]? = some (.cells zer7.toArray 158 (0, 0)) := by
    rw [hg.block _ (by simp; omega) (by simp)]; exact hr1
  have B3 : Hid (Below w.heap.size w w3) := ((((Below.refl _ w).more (Nat.le_refl _) _).more (Nat.le_refl _) _)).grown hg (by simp; omega) (fun j hj => by simp at hj; omega)
  have c0 := cell_arr hrow 0
  have c1 := cell_arr hrow 1
  have c2 := cell_arr hrow 2
  have c3 := cell_arr hrow 3
  have c4 := cell_arr hrow 4
  have c5 := cell_arr hrow 5
  have c6 := cell_arr hrow 6
  simp only [arrL, List.getElem?_cons_zero, List.getElem?_cons_succ] at c0 c1 c2 c3 c4 c5 c6
  have d0 := cell_arr hrow0 0
  have d1 := cell_arr hrow0 1
  have d2 := cell_arr hrow0 2
  have d3 := cell_arr hrow0 3
  have d4 := cell_arr hrow0 4
  have d5 := cell_arr hrow0 5
  have d6 := cell_arr hrow0 6
  simp only [zer7, List.getElem?_cons_zero, List.getElem?_cons_succ] at d0 d1 d2 d3 d4 d5 d6
  have e0 := frz_arr hrow0 0
  have e1 := frz_arr hrow0 1
  have e2 := frz_arr hrow0 2
  have e3 := frz_arr hrow0 3
  have e4 := frz_arr hrow0 4
  have e5 := frz_arr hrow0 5
  have e6 := frz_arr hrow0 6
  simp only [zer7] at hrun
  clear h h2 hr0 hr1 hg hrow hrow0
  unfold arrL
  generalize l.getD 0 0 = x0 at *
  generalize l.getD 1 0 = x1 at *
  generalize l.getD 2 0 = x2 at *
  generalize l.getD 3 0 = x3 at *
  generalize l.getD 4 0 = x4 at *
  generalize l.getD 5 0 = x5 at *
  generalize l.getD 6 0 = x6 at *
  go_enter Tryz.func180, Tryz.ntmps180
  go_wp2
  refine bodyPost_ret (v := .agg #[.int .i64 x0, .int .i64 x1, .int .i64 x2, .int .i64 x3, .int .i64 x4, .int .i64 x5, .int .i64 x6]) (by simp [results, Tryz.results180, go_sem, d0, d1, d2, d3, d4, d5, d6]) rfl ⟨rfl, ?_⟩
  exact below_store (below_store (below_store (below_store (below_store (below_store (below_store B3.out (Nat.le_refl _) _) (Nat.le_refl _) _) (Nat.le_refl _) _) (Nat.le_refl _) _) (Nat.le_refl _) _) (Nat.le_refl _) _) (Nat.le_refl _) _
end Go.Proofs.YtdokagebfeejbaaGreatDoor
/- The contract of GetInt: the number, its bytes, the fault's number; it writes nothing that was there. -/
namespace Go.Proofs.YtdokagebfeejbaaGreatDoor
open Go.RowKit Go.Wire1

/-- What GetInt answers. -/
def GotI (r : Except Nat (Nat × Nat)) (e : Ending) : Prop :=
  match r with
  | .ok (x, m) => e = .returned (.tuple #[.int .i64 (unzig x), .int .i64 (m : Int), .int .i64 0])
  | .error i => e = .returned (.tuple #[.int .i64 0, .int .i64 0, .int .i64 (11 + (i : Int))])

end Go.Proofs.YtdokagebfeejbaaGreatDoor
/- The contracts of unpackPlain and entryFrom. -/
namespace Go.Proofs.YtdokagebfeejbaaGreatDoor
open Go.RowKit Go.Wire1

/-- Seven entries in a block of our own. -/
def Arr (w : World) (B g : Nat) (xs : List Int) : Prop := w.ownsRow B 158 1 (.slice (some ⟨g, 0, none⟩) 7 7) 7 (arrL xs)
theorem Arr.below {w w' : World} {B C g : Nat} {xs : List Int} (h : Arr w B g xs) (hb : Below C w w') (hC : w.heap.size ≤ C) : Arr w' B g xs := by
  refine ⟨h.1, ?_⟩
  rcases h.2 with ⟨h1, _⟩ | ⟨g', cap, cur, e, hB, hh, r⟩
  · cases h1
  · injection e with e1 e2 e3
    injection e1 with e1
    injection e1 with e1
    subst e1
    exact .inr ⟨g, cap, cur, by rw [e3], hB, by rw [hb.block g (by have := (Array.getElem?_eq_some_iff.1 hh).1; omega)]; exact hh, r⟩
theorem Arr.cell {w : World} {B g : Nat} {xs : List Int} (h : Arr w B g xs) (j : Nat) (hj : j < 7) : w.cell? ⟨g, j, none⟩ = (arrL xs)[j]? := by
  have := World.ownsRow.cellAt h j (by show j < 7 * 1; omega)
  exact this
theorem Arr.frozen {w : World} {B g : Nat} {xs : List Int} (h : Arr w B g xs) (j : Nat) : w.frozen? ⟨g, j, none⟩ = false := World.ownsRow.frozenAt h j
theorem arr_set {xs : List Int} {k : Nat} {y : Int} (hl : xs.length = k) (hk : k < 7) : (arrL xs).set k (.int .i64 y) = arrL (xs ++ [y]) := by
  subst hl
  match xs, hk with
  | [], _ => rfl
  | [_], _ => rfl
  | [_, _], _ => rfl
  | [_, _, _], _ => rfl
  | [_, _, _, _], _ => rfl
  | [_, _, _, _, _], _ => rfl
  | [_, _, _, _, _, _], _ => rfl
  | _ :: _ :: _ :: _ :: _ :: _ :: _ :: r, h => simp only [List.length_cons] at h; omega
theorem Arr.store {w : World} {B g : Nat} {xs : List Int} (h : Arr w B g xs) {k : Nat} (hl : xs.length = k) (hk : k < 7) (y : Int) : Arr (w.setCell ⟨g, k, none⟩ (.int .i64 y)) B g (xs ++ [y]) := by
  unfold Arr
  rw [← arr_set hl hk]
  exact (World.ownsRow.stored h k _).1
/-- A store into another block. -/
theorem Arr.beside {w : World} {B g g' k : Nat} {xs : List Int} (h : Arr w B g xs) (hne : g ≠ g') (v : Value) : Arr (w.setCell ⟨g', k, none⟩ v) B g xs := by
  refine ⟨h.1, ?_⟩
  rcases h.2 with ⟨h1, _⟩ | ⟨g2, cap, cur, e, hB, hh, r⟩
  · cases h1
  · injection e with e1 e2 e3
    injection e1 with e1
    injection e1 with e1
    subst e1
    exact .inr ⟨g, cap, cur, by rw [e3], hB, by rw [Below.heap_setCell _ _ _ _ hne]; exact hh, r⟩
theorem Arr.lt {w : World} {B g : Nat} {xs : List Int} (h : Arr w B g xs) : g < w.heap.size := (World.ownsRow.lt h g rfl).2
theorem Arr.on {w : World} {B g : Nat} {xs : List Int} (h : Arr w B g xs) (o : Obj) : Arr (w.alloc o) B g xs := h.below ((Below.refl w.heap.size w).alloc (Nat.le_refl _) o) (Nat.le_refl _)

/-- The bytes from a place on, as a slice has them. -/
def cutA (sa : Option Addr) (cap p : Nat) : Option Addr := if p = cap then sa else sa.map fun x => ⟨x.block, x.off + p, none⟩
/-- What is known of the bytes that came in. -/
def Src (sa : Option Addr) (n cap : Nat) : Prop := (n = 0 ∧ cap = 0) ∨ ((∃ b off, sa = some ⟨b, off, none⟩) ∧ n ≤ cap ∧ cap ≤ maxLen)

theorem seven {P : List Int → Prop} (xs : List Int) (h : ∀ x0 x1 x2 x3 x4 x5 x6 : Int, arrL xs = [.int .i64 x0, .int .i64 x1, .int .i64 x2, .int .i64 x3, .int .i64 x4, .int .i64 x5, .int .i64 x6] → P xs) : P xs := h _ _ _ _ _ _ _ rfl

end Go.Proofs.YtdokagebfeejbaaGreatDoor
/- The contracts of the cursor's numberTo, byteTo and text, and of lengthAllowed. -/
namespace Go.Proofs.YtdokagebfeejbaaGreatDoor
open Go.RowKit Go.Wire1

/-- What an inner reading comes to: a value and the place behind it; or a panic with a sentinel. -/
def OutV (a : Nat → Addr) (r : Except Nat (Value × Nat)) (e : Ending) (k k' : Nat) : Prop :=
  match r with
  | .ok (v, m) => e = .returned v ∧ k' = k + m
  | .error i => e = .panicked [{ v := errV (a i), recovered := false }]

def rU (most : Nat) (l : List Int) (k : Nat) : Except Nat (Value × Nat) :=
  match dec (l.drop k) with
  | .ok (x, m) => if most < x then .error 3 else .ok (.int .u64 (x : Int), m)
  | .error i => .error i
def rI (l : List Int) (k : Nat) : Except Nat (Value × Nat) :=
  match dec (l.drop k) with
  | .ok (x, m) => .ok (.int .i64 (unzig x), m)
  | .error i => .error i
def rB (most : Int) (l : List Int) (k : Nat) : Except Nat (Value × Nat) :=
  if l.length ≤ k then .error 0 else if most < l.getD k 0 then .error 3 else .ok (.int .i64 (l.getD k 0), 1)
def rT (least most : Int) (l : List Int) (k : Nat) : Except Nat (Value × Nat) :=
  match dec (l.drop k) with
  | .ok (x, m) => if least ≤ (x : Int) ∧ (x : Int) ≤ most then (if k + m + x ≤ l.length then .ok (.string (strOfNums ((l.drop (k + m)).take x)), m + x) else .error 0) else .error 4
  | .error i => .error i

/-- What all inner readings ask. -/
structure Ready (w : World) (b o : Nat) (sa : Option Addr) (n cap k : Nat) (l : List Int) (a : Nat → Addr) : Prop where
  cur : Cur w b o sa n cap k
  seg : Seg w sa n l
  sep : ∀ x, sa = some x → 0 < n → x.block ≠ b
  byt : Byt l
  le : k ≤ n
  errs : Errs w a
  five : 7 ≤ b
  apart : ∀ i, i < 5 → (a i).block ≠ b

theorem Ready.only {w w' : World} {b o : Nat} {sa : Option Addr} {n cap k k' : Nat} {l : List Int} {a : Nat → Addr} (h : Ready w b o sa n cap k l a) (ho : Only b (o + 1) w w') (hc : Cur w' b o sa n cap k') (hk : k' ≤ n) : Ready w' b o sa n cap k' l a :=
  ⟨hc, ho.seg h.seg h.sep, h.sep, h.byt, hk, h.errs.only ho h.five h.apart, h.five, h.apart⟩

set_option maxHeartbeats 1000000 in
set_option maxRecDepth 100000 in
theorem numberTo_any (most : Nat) (b o n cap : Nat) (sa : Option Addr) (l : List Int) (k : Nat) (a : Nat → Addr) (w : World) (h : Ready w b o sa n cap k l a) :
    Calls Tryz.prog 137 #[.pointer (some ⟨b, o, none⟩), .int .u64 (most : Int)] w fun e w' => Only b (o + 1) w w' ∧ ∃ k', Cur w' b o sa n cap k' ∧ k' ≤ n ∧ OutV a (rU most l k) e k k' := by
  go_enter Tryz.func137, Tryz.ntmps137
  go_wp2_with fail
  refine (number_any b o n cap sa l k a _ h.cur h.seg h.sep h.byt h.le h.errs h.five h.apart).mono ?_
  rintro e w1 ⟨ho, k', hc1, hk', hout⟩
  have e3 := (h.errs.only ho h.five h.apart).s3
  cases hd : dec (l.drop k) with
  | error i =>
    have HQ : Hid (rU most l k = .error i) := by show _ = _; unfold rU; rw [hd]
    rw [hd] at hout
    obtain rfl : e = _ := hout
    clear hd
    go_wp2
    refine ⟨rfl, ho, k', hc1, hk', ?_⟩
    rw [HQ.out]; rfl
  | ok p =>
    obtain ⟨x, m⟩ := p
    rw [hd] at hout
    obtain ⟨rfl, HK0⟩ := hout
    have HK : Hid (k' = k + m) := HK0
    clear HK0
    by_cases hx : most < x
    · have HQ : Hid (rU most l k = .error 3) := by show _ = _; unfold rU; rw [hd]; exact if_pos hx
      clear hd
      go_wp2
      refine ⟨rfl, ho, k', hc1, hk', ?_⟩
      rw [HQ.out]; rfl
    · have HQ : Hid (rU most l k = .ok (.int .u64 (x : Int), m)) := by show _ = _; unfold rU; rw [hd]; exact if_neg hx
      clear hd
      go_wp2
      go_ret
      refine ⟨ho, k', hc1, hk', ?_⟩
      rw [HQ.out]; exact ⟨rfl, HK.out⟩

set_option maxHeartbeats 1000000 in
set_option maxRecDepth 100000 in
theorem byteTo_any (most : Int) (b o n cap : Nat) (sa : Option Addr) (l : List Int) (k : Nat) (a : Nat → Addr) (w : World) (h : Ready w b o sa n cap k l a) :
    Calls Tryz.prog 135 #[.pointer (some ⟨b, o, none⟩), .int .i64 most] w fun e w' => Only b (o + 1) w w' ∧ ∃ k', Cur w' b o sa n cap k' ∧ k' ≤ n ∧ OutV a (rB most l k) e k k' := by
  have hn := h.seg.2.1
  have hl := h.seg.1
  by_cases hkn : k = n
  · subst hkn
    have HQ : Hid (rB most l k = .error 0) := by show _ = _; unfold rB; exact if_pos (by omega)
    clear hl
    go_enter Tryz.func135, Tryz.ntmps135
    go_wp2_with fail
    refine (next_end b o k cap _ a _ h.cur hn h.errs).mono ?_
    rintro e w1 ⟨rfl, ho, hc1⟩
    refine ⟨rfl, ho, k, hc1, Nat.le_refl _, ?_⟩
    rw [HQ.out]; rfl
  · have hlt : k < n := by have := h.le; omega
    have hz := byt_at h.byt k
    by_cases hx : most < l.getD k 0
    · have HQ : Hid (rB most l k = .error 3) := by show _ = _; unfold rB; rw [if_neg (by omega), if_pos hx]
      clear hl
      go_enter Tryz.func135, Tryz.ntmps135
      go_wp2_with fail
      refine (next_ok b o n cap _ l k _ h.cur h.seg hlt).mono ?_
      rintro e w1 ⟨rfl, ho, hc1⟩
      have e3 := (h.errs.only ho h.five h.apart).s3
      generalize l.getD k 0 = z at *
      go_wp2
      refine ⟨rfl, ho, k + 1, hc1, by omega, ?_⟩
      rw [HQ.out]; rfl
    · have HQ : Hid (rB most l k = .ok (.int .i64 (l.getD k 0), 1)) := by show _ = _; unfold rB; rw [if_neg (by omega), if_neg hx]
      clear hl
      go_enter Tryz.func135, Tryz.ntmps135
      go_wp2_with fail
      refine (next_ok b o n cap _ l k _ h.cur h.seg hlt).mono ?_
      rintro e w1 ⟨rfl, ho, hc1⟩
      generalize l.getD k 0 = z at *
      go_wp2
      go_ret
      refine ⟨ho, k + 1, hc1, by omega, ?_⟩
      rw [HQ.out]; exact ⟨rfl, rfl⟩

def allowB (x : Nat) (least most : Int) : Bool := decide (least ≤ (x : Int) ∧ (x : Int) ≤ most)

set_option maxHeartbeats 1000000 in
set_option maxRecDepth 100000 in
theorem allowed_any (x : Nat) (least most : Int) (w : World) (hx : x < 18446744073709551616) (h1 : -9223372036854775808 ≤ least) (h2 : least ≤ 9223372036854775807) (h3 : -9223372036854775808 ≤ most) (h4 : most ≤ 9223372036854775807) :
    Calls Tryz.prog 143 #[.int .u64 (x : Int), .int .i64 least, .int .i64 most] w fun e w' => e = .returned (.bool (allowB x least most)) ∧ w' = w := by
  by_cases hm : most < 0
  · have HQ : Hid (allowB x least most = false) := by show _ = _; simp only [allowB, decide_eq_false_iff_not]; omega
    go_enter Tryz.func143, Tryz.ntmps143
    go_wp2
    go_ret
    exact ⟨by rw [HQ.out]; rfl, rfl⟩
  · by_cases hxm : most < (x : Int)
    · have HQ : Hid (allowB x least most = false) := by show _ = _; simp only [allowB, decide_eq_false_iff_not]; omega
      have hd : decide (most < 0) = false := by simpa using hm
      go_enter Tryz.func143, Tryz.ntmps143
      go_wp2
      go_ret
      exact ⟨by rw [HQ.out]; rfl, rfl⟩
    · have hd : decide (most < 0) = false := by simpa using hm
      by_cases hl : least ≤ 0
      · have HQ : Hid (allowB x least most = true) := by show _ = _; simp only [allowB, decide_eq_true_iff]; omega
        go_enter Tryz.func143, Tryz.ntmps143
        go_wp2
        go_ret
        exact ⟨by rw [HQ.out]; first | rfl | simp [hl], rfl⟩
      · have hd2 : decide (least ≤ 0) = false := by simpa using hl
        have HQ : Hid (allowB x least most = decide (least ≤ (x : Int))) := by show _ = _; simp only [allowB, decide_eq_decide]; omega
        go_enter Tryz.func143, Tryz.ntmps143
        go_wp2
        go_ret
        exact ⟨by rw [HQ.out]; rfl, rfl⟩

theorem conv_zero (ad : Option Addr) (c : Nat) (w : World) : (convert 42 9 (.slice ad 0 c)).run Tryz.prog w = .ok (.string (strOfNums [])) w := by
  rw [run_convert_bytes_string w 42 9 5 ad 0 c Tryz.underlying42 Tryz.underlying5 Tryz.underlying9]
  cases ad with
  | none => rfl
  | some x =>
    exact run_bytesToString (P := Tryz.prog) w x 0 c [] rfl

theorem cur_put {w : World} {b o : Nat} {sa : Option Addr} {n cap k : Nat} (h : Cur w b o sa n cap k) (q x : Nat) (z : Int) (hz : z = (k : Int) + (x : Int)) : Cur ((w.drewN q).setCell ⟨b, o + 1, none⟩ (.int .i64 z)) b o sa n cap (k + x) := by
  subst hz
  obtain ⟨c0, c1, f1⟩ := h
  refine ⟨?_, ?_, ?_⟩
  · rw [World.cell?_setCell_other _ _ _ _ (by simp)]; exact c0
  · rw [World.cell?_setCell_same (w.drewN q) ⟨b, o + 1, none⟩ _ c1]; simp
  · rw [World.frozen?_setCell]; exact f1

set_option maxHeartbeats 2000000 in
set_option maxRecDepth 100000 in
theorem text_any (least most : Int) (b o n cap : Nat) (sa : Option Addr) (l : List Int) (k : Nat) (a : Nat → Addr) (w : World) (h : Ready w b o sa n cap k l a) (hcap : n ≤ cap) (hcm : cap ≤ maxLen)
    (h1 : -9223372036854775808 ≤ least) (h2 : least ≤ 9223372036854775807) (h3 : -9223372036854775808 ≤ most) (h4 : most ≤ 9223372036854775807) :
    Calls Tryz.prog 139 #[.pointer (some ⟨b, o, none⟩), .int .i64 least, .int .i64 most] w fun e w' => Only b (o + 1) w w' ∧ ∃ k', Cur w' b o sa n cap k' ∧ k' ≤ n ∧ OutV a (rT least most l k) e k k' := by
  have hn := h.seg.2.1
  have hl := hide h.seg.1
  unfold maxLen at hcm
  go_enter Tryz.func139, Tryz.ntmps139
  go_wp2_with fail
  refine (number_any b o n cap sa l k a _ h.cur h.seg h.sep h.byt h.le h.errs h.five h.apart).mono ?_
  rintro e w1 ⟨ho, k', hc1, hk', hout⟩
  have hR := h.only ho hc1 hk'
  cases hd : dec (l.drop k) with
  | error i =>
    have HQ : Hid (rT least most l k = .error i) := by show _ = _; unfold rT; rw [hd]
    rw [hd] at hout
    obtain rfl : e = _ := hout
    clear hd
    go_wp2
    refine ⟨rfl, ho, k', hc1, hk', ?_⟩
    rw [HQ.out]; rfl
  | ok p =>
    obtain ⟨x, m⟩ := p
    have hx := dec_lt (byt_drop h.byt k) hd
    have hm := dec_len (byt_drop h.byt k) hd
    rw [hd] at hout
    obtain ⟨rfl, HK0⟩ := hout
    have HK : Hid (k' = k + m) := HK0
    have hpos : 0 < n := by have := hm.2.2; rw [List.length_drop, hl.out] at this; omega
    by_cases hal : least ≤ (x : Int) ∧ (x : Int) ≤ most
    · have HA : Hid (allowB x least most = true) := by show _ = _; simp only [allowB, decide_eq_true_iff]; exact hal
      have hleft : ((n : Int) - (k' : Int)) ≤ 9223372036854775807 := by unfold maxLen at hn; omega
      by_cases hfit : k' + x ≤ n
      · have HQ : Hid (rT least most l k = .ok (.string (strOfNums ((l.drop k').take x)), m + x)) := by
          show _ = _; unfold rT; rw [hd, HK0]; show (if _ then _ else _) = _; rw [if_pos hal, if_pos (by have := hl.out; omega)]
        clear hd HK0 hal
        go_wp2_with fail
        refine (allowed_any x least most _ hx h1 h2 h3 h4).mono ?_
        rintro e w2 ⟨rfl, rfl⟩
        rw [HA.out]
        go_wp2_with fail
        refine (left_any b o n cap _ k' _ hc1 hk' hn).mono ?_
        rintro e w3 ⟨rfl, q, rfl⟩
        have c0 := hc1.1
        have c1 := hc1.2.1
        have f1 := hc1.2.2
        obtain ⟨sb, so, rfl, hcell⟩ := hR.seg.2.2 hpos
        have hcW := cur_put hc1 q x ((k' : Int) + (x : Int)) rfl
        have HO : Hid (Only b (o + 1) w ((w2.drewN q).setCell ⟨b, o + 1, none⟩ (.int .i64 ((k' : Int) + (x : Int))))) := (ho.drewN q).setCell _
        have hsW := (((Only.refl b (o + 1) w2).drewN q).setCell (.int .i64 ((k' : Int) + (x : Int)))).seg hR.seg hR.sep
        go_wp2_with fail
        generalize (w2.drewN q).setCell ⟨b, o + 1, none⟩ (.int .i64 ((k' : Int) + (x : Int))) = W at *
        have d0 := hcW.1
        have d1 : W.cell? ⟨b, o + 1, none⟩ = some (.int .i64 ((k' : Int) + (x : Int))) := by rw [hcW.2.1]; simp
        by_cases hx0 : x = 0
        · subst hx0
          have hcz : ∀ (ad : Option Addr) (c : Nat) (w : World), (convert 42 9 (.slice ad 0 c)).run Tryz.prog w = .ok (.string (strOfNums [])) w := conv_zero
          have hd1 : W.cell? ⟨b, o + 1, none⟩ = some (.int .i64 (k' : Int)) := by rw [d1]; simp
          clear d1 c0 c1 f1 hcell
          have hcc : (cap : Int) - (k' : Int) = 0 ∨ 0 < (cap : Int) - (k' : Int) := by omega
          rcases hcc with hcc | hcc
          · obtain rfl : cap = k' := by omega
            go_quiet (fail)
            go_wp2
            go_ret
            refine ⟨HO.out.drewN _, cap + 0, hcW.drewN _, hfit, ?_⟩
            rw [HQ.out]
            exact ⟨rfl, by have := HK.out; omega⟩
          · have hne : ¬ cap = k' := by omega
            go_quiet (fail)
            go_wp2
            go_ret
            refine ⟨HO.out.drewN _, k' + 0, hcW.drewN _, hfit, ?_⟩
            rw [HQ.out]
            exact ⟨rfl, by have := HK.out; omega⟩
        · have hcv : ∀ nq, (convert 42 9 (.slice (some ⟨sb, so + k', none⟩) x (cap - k'))).run Tryz.prog (W.drewN nq) = .ok (.string (strOfNums ((l.drop k').take x))) (W.drewN nq) := fun nq => by
            have sm := (hsW.drewN nq).mid (k := k') (m := x) hfit
            obtain ⟨b', o', e', hc'⟩ := sm.2.2 (by omega)
            cases e'
            exact run_convert_bytes_arg (P := Tryz.prog) (W.drewN nq) 42 5 Tryz.underlying42 Tryz.underlying5 sb (so + k') x (cap - k') _ sm.1 hc' 9 Tryz.underlying9
          generalize strOfNums ((l.drop k').take x) = S at *
          clear c0 c1 f1 hcell
          have hne : ¬ cap = k' := by omega
          have hcc : 0 < (cap : Int) - (k' : Int) := by omega
          go_quiet (fail)
          go_wp2
          go_ret
          refine ⟨HO.out.drewN _, k' + x, hcW.drewN _, hfit, ?_⟩
          rw [HQ.out]
          exact ⟨rfl, by have := HK.out; omega⟩
      · have HQ : Hid (rT least most l k = .error 0) := by
          show _ = _; unfold rT; rw [hd]; show (if _ then _ else _) = _; rw [if_pos hal, if_neg (by have := hl.out; have := HK.out; omega)]
        clear hd HK0 hal
        go_wp2_with fail
        refine (allowed_any x least most _ hx h1 h2 h3 h4).mono ?_
        rintro e w2 ⟨rfl, rfl⟩
        rw [HA.out]
        go_wp2_with fail
        refine (left_any b o n cap _ k' _ hc1 hk' hn).mono ?_
        rintro e w3 ⟨rfl, q, rfl⟩
        have e0 := hR.errs.s0
        go_wp2
        refine ⟨rfl, ho.drewN _, k', hc1.drewN _, hk', ?_⟩
        rw [HQ.out]; rfl
    · have HA : Hid (allowB x least most = false) := by show _ = _; simp only [allowB, decide_eq_false_iff_not]; exact hal
      have HQ : Hid (rT least most l k = .error 4) := by show _ = _; unfold rT; rw [hd]; exact if_neg hal
      have e4 := hR.errs.s4
      clear hd HK0 hal
      go_wp2_with fail
      refine (allowed_any x least most _ hx h1 h2 h3 h4).mono ?_
      rintro e w2 ⟨rfl, rfl⟩
      rw [HA.out]
      go_wp2
      refine ⟨rfl, ho, k', hc1, hk', ?_⟩
      rw [HQ.out]; rfl
end Go.Proofs.YtdokagebfeejbaaGreatDoor
