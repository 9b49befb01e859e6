/- A stream in memory: its block, its payload's row of our own, what may turn; the contracts of breakWith, keep, takeMagic, takeVersion, takeSum, State, isVersion. -/
import Derived.Test.YtiajkdjljilndaaDoorFrSt
import Derived.Test.YtiajkdjljilndaaDoorCrc
import Derived.Test.YtiajkdjljilndaaDoorGet
import Derived.Test.YtiajkdjljilndaaDoorBlk
import Derived.Test.YtiajkdjljilndaaDoorMine
import Derived.Deep.RegionHeld3
namespace Go.Proofs.YtiajkdjljilndaaDoor
open Go.RowKit Go.Wire1 Go.Crc2 Go.Frm

def cellsS (s : Sm) (pv : Value) : List Value := [.int .i64 (s.v : Int), .int .i64 (s.fault : Int), .int .i64 (s.place : Int), .int .i64 (s.held : Int), .int .i64 (s.part : Int), .int .i64 (s.left : Int)] ++ (s.head.map (Value.int .u8) ++ [pv, nr s.sum])

/-- A stream in memory. -/
structure Str (w : World) (b : Nat) (s : Sm) (pv : Value) (E0 : Nat) : Prop where
  box : Blk w b (cellsS s pv)
  own : w.ownsRow E0 5 1 pv s.pay.length (s.pay.map (Value.int .u8))
  far : pv.ownBlock ≠ some b
  six : s.head.length = 6
  low : E0 ≤ b
  nil_ : s.pay = [] → pv = .slice none 0 0
/-- Nothing but block b and the row r has turned. -/
structure Tch (b : Nat) (r : Option Nat) (w w' : World) : Prop where
  os : w'.os = w.os
  tape : w'.tape = w.tape
  output : w'.output = w.output
  size : w.heap.size ≤ w'.heap.size
  block : ∀ k, k < w.heap.size → k ≠ b → some k ≠ r → w'.heap[k]? = w.heap[k]?
def Lat (r r' : Option Nat) (w : World) : Prop := r' = r ∨ ∀ k, r' = some k → w.heap.size ≤ k
/-- What lies in memory from the start on. -/
structure Env (w : World) (a : Nat → Addr) (E0 : Nat) : Prop where
  hal : Hal w
  errs : Errs w a
  low : ∀ i, i < 5 → (a i).block < E0
  five : 6 ≤ E0
/-- What a step leaves. -/
structure Stp (w w' : World) (b : Nat) (s' : Sm) (pv pv' : Value) (E0 : Nat) : Prop where
  str : Str w' b s' pv' E0
  tch : Tch b pv.ownBlock w w'
  lat : Lat pv.ownBlock pv'.ownBlock w

theorem Lat.refl (r : Option Nat) (w : World) : Lat r r w := .inl rfl
theorem Lat.trans {r r' r'' : Option Nat} {w w1 : World} (h : Lat r r' w) (k : Lat r' r'' w1) (hs : w.heap.size ≤ w1.heap.size) : Lat r r'' w := by
  rcases k with rfl | k
  · exact h
  · exact .inr fun i hi => Nat.le_trans hs (k i hi)
theorem Tch.refl (b : Nat) (r : Option Nat) (w : World) : Tch b r w w := ⟨rfl, rfl, rfl, Nat.le_refl _, fun _ _ _ _ => rfl⟩
theorem Tch.trans {b : Nat} {r r' : Option Nat} {x y z : World} (h : Tch b r x y) (k : Tch b r' y z) (l : Lat r r' x) : Tch b r x z :=
  ⟨k.os.trans h.os, k.tape.trans h.tape, k.output.trans h.output, Nat.le_trans h.size k.size, fun i hi hb hr => (k.block i (Nat.lt_of_lt_of_le hi h.size) hb (by
    rcases l with rfl | l
    · exact hr
    · intro e; have := l i e.symm; omega)).trans (h.block i hi hb hr)⟩
theorem Stp.trans {w w1 w2 : World} {b : Nat} {s1 s2 : Sm} {pv pv1 pv2 : Value} {E0 : Nat} (h : Stp w w1 b s1 pv pv1 E0) (k : Stp w1 w2 b s2 pv1 pv2 E0) : Stp w w2 b s2 pv pv2 E0 :=
  ⟨k.str, h.tch.trans k.tch h.lat, h.lat.trans k.lat h.tch.size⟩
theorem Tch.drewN {b : Nat} {r : Option Nat} {x y : World} (h : Tch b r x y) (q : Nat) : Tch b r x (y.drewN q) := ⟨h.os, h.tape, h.output, h.size, h.block⟩
theorem Tch.setB {b o : Nat} {r : Option Nat} {x y : World} (h : Tch b r x y) (v : Value) : Tch b r x (y.setCell ⟨b, o, none⟩ v) :=
  ⟨h.os, h.tape, h.output, by simpa [World.setCell] using h.size, fun i hi hb hr => (Below.heap_setCell _ _ _ _ hb).trans (h.block i hi hb hr)⟩
theorem Tch.cells {b : Nat} {r : Option Nat} {x : World} : ∀ (vs : List Value) (o : Nat) (y : World), Tch b r x y → Tch b r x (y.setCells b o vs)
  | [], _, _, h => h
  | v :: vs, o, _, h => Tch.cells vs (o + 1) _ (h.setB v)
theorem Tch.ofBelow {b : Nat} {r : Option Nat} {x y : World} (h : Below x.heap.size x y) : Tch b r x y := ⟨h.os, h.tape, h.output, h.size, fun i hi _ _ => h.block i hi⟩
theorem Tch.seg {b : Nat} {r : Option Nat} {w w' : World} (h : Tch b r w w') {a : Option Addr} {n : Nat} {l : List Int} (hs : Seg w a n l) (hsep : ∀ x, a = some x → 0 < n → x.block ≠ b ∧ some x.block ≠ r) : Seg w' a n l := by
  refine ⟨hs.1, hs.2.1, fun hn => ?_⟩
  obtain ⟨c, off, rfl, hc⟩ := hs.2.2 hn
  exact ⟨c, off, rfl, fun j hj => by rw [World.cell?_of_block (w := w) (h.block c (cell_lt (hc j hj)) (hsep _ rfl hn).1 (hsep _ rfl hn).2)]; exact hc j hj⟩
theorem Tch.below {b : Nat} {r : Option Nat} {E0 : Nat} {x y : World} (h : Tch b r x y) (hb : E0 ≤ b) (hr : ∀ k, r = some k → E0 ≤ k) (hE : E0 ≤ x.heap.size) : Below E0 x y :=
  ⟨h.os, h.tape, h.output, h.size, fun i hi => h.block i (by omega) (by omega) (fun e => by have := hr i e.symm; omega)⟩
theorem Env.below {w w' : World} {a : Nat → Addr} {E0 : Nat} (h : Env w a E0) (hb : Below E0 w w') : Env w' a E0 := by
  have h5 := h.five
  have key : ∀ g o, g < 6 → w'.cell? ⟨g, o, none⟩ = w.cell? ⟨g, o, none⟩ := fun g o hg => hb.cell (p := ⟨g, o, none⟩) (by show g < E0; omega)
  refine ⟨fun i hi => (key _ _ (by decide)).trans (h.hal i hi), ?_, h.low, h.five⟩
  refine ⟨(key _ _ (by decide)).trans h.errs.s0, (key _ _ (by decide)).trans h.errs.s1, (key _ _ (by decide)).trans h.errs.s2, (key _ _ (by decide)).trans h.errs.s3, (key _ _ (by decide)).trans h.errs.s4, fun i hi => ?_, h.errs.ne, Nat.le_trans h.errs.room hb.size⟩
  obtain ⟨c, t, e⟩ := h.errs.blk i hi
  exact ⟨c, t, (hb.block _ (h.low i hi)).trans e⟩
theorem Env.drewN {w : World} {a : Nat → Addr} {E0 : Nat} (h : Env w a E0) (q : Nat) : Env (w.drewN q) a E0 := ⟨h.hal.drewN q, h.errs.drewN q, h.low, h.five⟩
theorem Str.ownLow {w : World} {b : Nat} {s : Sm} {pv : Value} {E0 : Nat} (h : Str w b s pv E0) : ∀ k, pv.ownBlock = some k → E0 ≤ k := fun k hk => (h.own.lt k hk).1
theorem Stp.below {w w' : World} {b : Nat} {s s' : Sm} {pv pv' : Value} {E0 : Nat} (h : Stp w w' b s' pv pv' E0) (k : Str w b s pv E0) : Below E0 w w' :=
  h.tch.below k.low k.ownLow (Nat.le_trans k.low (Nat.le_of_lt k.box.lt))
theorem Str.drewN {w : World} {b : Nat} {s : Sm} {pv : Value} {E0 : Nat} (h : Str w b s pv E0) (q : Nat) : Str (w.drewN q) b s pv E0 := ⟨⟨h.box.cell, h.box.thaw, h.box.lt⟩, h.own, h.far, h.six, h.low, h.nil_⟩
theorem Stp.drewN {w w' : World} {b : Nat} {s : Sm} {pv pv' : Value} {E0 : Nat} (h : Stp w w' b s pv pv' E0) (q : Nat) : Stp w (w'.drewN q) b s pv pv' E0 := ⟨h.str.drewN q, h.tch.drewN q, h.lat⟩

theorem own_other {w w' : World} {B : Nat} {e : TypeId} {n z : Nat} {v : Value} {xs : List Value} (h : w.ownsRow B e z v n xs) (hk : ∀ k, v.ownBlock = some k → w'.heap[k]? = w.heap[k]?) : w'.ownsRow B e z v n xs := by
  refine ⟨h.1, ?_⟩
  rcases h.2 with h2 | ⟨g, cap, cur, rfl, hB, hh, r⟩
  · exact .inl h2
  · exact .inr ⟨g, cap, cur, rfl, hB, by rw [hk g rfl]; exact hh, r⟩

section
variable {w : World} {b : Nat} {s : Sm} {pv : Value} {E0 : Nat}
theorem Str.at_ (h : Str w b s pv E0) (j : Nat) (u : Value) (hu : (cellsS s pv)[j]? = some u) : w.cell? ⟨b, j, none⟩ = some u := h.box.cell j u hu
theorem Str.c12 (h : Str w b s pv E0) : w.cell? ⟨b, 12, none⟩ = some pv := h.box.cell 12 _ (by simp [cellsS, h.six])
theorem Str.c13 (h : Str w b s pv E0) : w.cell? ⟨b, 13, none⟩ = some (nr s.sum) := h.box.cell 13 _ (by simp [cellsS, h.six])
theorem Str.chead (h : Str w b s pv E0) (k : Nat) (hk : k < 6) : w.cell? ⟨b, 6 + k, none⟩ = some (.int .u8 (s.head.getD k 0)) := h.box.cell (6 + k) _ (by
  have h6 := h.six
  rw [cellsS, List.getElem?_append_right (by simp), List.getElem?_append_left (by simp; omega)]
  simp [List.getElem?_eq_getElem (show k < s.head.length by omega)])
/-- A cell of the box is written. -/
theorem Str.put (h : Str w b s pv E0) (j : Nat) (v : Value) (s' : Sm) (hr : (cellsS s pv).set j v = cellsS s' pv) (hp : s'.pay = s.pay) (h6 : s'.head.length = 6) : Stp w (w.setCell ⟨b, j, none⟩ v) b s' pv pv E0 := by
  refine ⟨⟨by rw [← hr]; exact h.box.setAt j v, ?_, h.far, h6, h.low, by rw [hp]; exact h.nil_⟩, (Tch.refl _ _ _).setB v, Lat.refl _ _⟩
  rw [hp]
  exact own_other h.own fun k hk => Below.heap_setCell _ _ _ _ (fun e => h.far (by rw [hk, e]))
theorem set_head (s : Sm) (pv : Value) (k : Nat) (x : Int) (h6 : s.head.length = 6) (hk : k < 6) : (cellsS s pv).set (6 + k) (.int .u8 x) = cellsS { s with head := s.head.set k x } pv := by
  simp only [cellsS]
  rw [List.set_append_right _ _ (by simp), List.set_append_left _ _ (by simp; omega)]
  simp [List.map_set]
end

theorem cellsS_len {s : Sm} (pv : Value) (h : s.head.length = 6) : (cellsS s pv).length = 14 := by simp [cellsS, h]
/-- The whole box is written; no payload is left. -/
theorem Str.putAll {w : World} {b : Nat} {s : Sm} {pv : Value} {E0 : Nat} (h : Str w b s pv E0) (s' : Sm) (hp : s'.pay = []) (h6 : s'.head.length = 6) : Stp w (w.setCells b 0 (cellsS s' (.slice none 0 0))) b s' pv (.slice none 0 0) E0 := by
  refine ⟨⟨blk_cells h.box (by rw [cellsS_len _ h6, cellsS_len _ h.six]), by rw [hp]; exact World.ownsRow_nil _ _ _ _, (by intro e; cases e), h6, h.low, fun _ => rfl⟩, Tch.cells _ _ _ (Tch.refl _ _ _), .inr (by intro k e; cases e)⟩

set_option maxHeartbeats 1000000 in
set_option maxRecDepth 100000 in
theorem break_any (w : World) (b : Nat) (s : Sm) (pv : Value) (E0 : Nat) (e : Nat) (h : Str w b s pv E0) :
    Calls Tryd.prog 43 #[.pointer (some ⟨b, 0, none⟩), .int .i64 (e : Int)] w fun r w' => r = .returned (.tuple #[]) ∧ Stp w w' b (brk s.place e) pv (.slice none 0 0) E0 := by
  have c2 := h.at_ 2 _ rfl
  have TH : Hid (w.there b 0 14) := by have := h.box.there; rwa [cellsS_len _ h.six] at this
  obtain ⟨Y, hY⟩ : ∃ Y, Y = w.setCells b 0 (cellsS (brk s.place e) (.slice none 0 0)) := ⟨_, rfl⟩
  have R := hide (h.putAll (brk s.place e) rfl rfl)
  rw [← hY] at R
  have HY := hide hY
  clear hY h
  go_enter Tryd.func43, Tryd.ntmps43
  go_wp2_with (first | (refine wpList_store_mid rfl 64 _ _ rfl b 0 #[.int .i64 0, .int .i64 e, .int .i64 s.place, .int .i64 0, .int .i64 6, .int .i64 0, .int .u8 0, .int .u8 0, .int .u8 0, .int .u8 0, .int .u8 0, .int .u8 0, .slice none 0 0, .int .u32 0] rfl rfl TH.out (by kernel_rfl) (by kernel_rfl) ?_))
  rw [show w.setCells b 0 (#[.int .i64 0, .int .i64 e, .int .i64 s.place, .int .i64 0, .int .i64 6, .int .i64 0, .int .u8 0, .int .u8 0, .int .u8 0, .int .u8 0, .int .u8 0, .int .u8 0, .slice none 0 0, .int .u32 0] : Array Value).toList = Y from HY.out.symm]
  go_wp2
  go_end0
  exact ⟨rfl, R.out⟩

set_option maxHeartbeats 1000000 in
set_option maxRecDepth 100000 in
theorem keep_any (w : World) (b : Nat) (s : Sm) (pv : Value) (E0 : Nat) (x : Int) (h : Str w b s pv E0) (hk : s.held < 6) :
    Calls Tryd.prog 44 #[.pointer (some ⟨b, 0, none⟩), .int .u8 x] w fun r w' => r = .returned (.tuple #[]) ∧ Stp w w' b (s.keep x) pv pv E0 := by
  have c3 := h.at_ 3 _ rfl
  have ck := h.chead s.held hk
  have t3 := h.box.thaw 3
  have tk := h.box.thaw (6 + s.held)
  have h1 := h.put (6 + s.held) (.int .u8 x) { s with head := s.head.set s.held x } (set_head s pv s.held x h.six hk) rfl (by simp [h.six])
  have h2 := h1.str.put 3 (.int .i64 ((s.held : Int) + 1)) (s.keep x) rfl rfl (by simp [Sm.keep, h.six])
  have R := hide (h1.trans h2)
  clear h1 h2 h
  generalize s.head.getD s.held 0 = z at *
  go_enter Tryd.func44, Tryd.ntmps44
  go_wp2_with fail
  go_region
  all_goals go_wp2
  all_goals go_end0
  all_goals exact ⟨rfl, R.out.drewN 1⟩
end Go.Proofs.YtiajkdjljilndaaDoor
