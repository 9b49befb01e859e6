/- What a call may turn: one block and one row of our own; a row of our own whose block stays. -/
import Derived.Test.YtahpnfbjpdnapaaBlk
import Derived.Test.YtahpnfbjpdnapaaMine
namespace Go.Proofs.Ytahpnfbjpdnapaa
open Go.RowKit Go.Wire1

/-- Nothing but block b and the row r has turned. -/
structure Tch (b : Nat) (r : Option Nat) (w w' : World) : Prop where
  os : w'.os = w.os
  tape : w'.tape = w.tape
  output : w'.output = w.output
  size : w.heap.size ≤ w'.heap.size
  block : ∀ k, k < w.heap.size → k ≠ b → some k ≠ r → w'.heap[k]? = w.heap[k]?
def Lat (r r' : Option Nat) (w : World) : Prop := r' = r ∨ ∀ k, r' = some k → w.heap.size ≤ k
theorem Lat.refl (r : Option Nat) (w : World) : Lat r r w := .inl rfl
theorem Lat.trans {r r' r'' : Option Nat} {w w1 : World} (h : Lat r r' w) (k : Lat r' r'' w1) (hs : w.heap.size ≤ w1.heap.size) : Lat r r'' w := by
  rcases k with rfl | k
  · exact h
  · exact .inr fun i hi => Nat.le_trans hs (k i hi)
theorem Tch.refl (b : Nat) (r : Option Nat) (w : World) : Tch b r w w := ⟨rfl, rfl, rfl, Nat.le_refl _, fun _ _ _ _ => rfl⟩
theorem Tch.trans {b : Nat} {r r' : Option Nat} {x y z : World} (h : Tch b r x y) (k : Tch b r' y z) (l : Lat r r' x) : Tch b r x z :=
  ⟨k.os.trans h.os, k.tape.trans h.tape, k.output.trans h.output, Nat.le_trans h.size k.size, fun i hi hb hr => (k.block i (Nat.lt_of_lt_of_le hi h.size) hb (by
    rcases l with rfl | l
    · exact hr
    · intro e; have := l i e.symm; omega)).trans (h.block i hi hb hr)⟩
theorem Tch.drewN {b : Nat} {r : Option Nat} {x y : World} (h : Tch b r x y) (q : Nat) : Tch b r x (y.drewN q) := ⟨h.os, h.tape, h.output, h.size, h.block⟩
theorem Tch.setB {b o : Nat} {r : Option Nat} {x y : World} (h : Tch b r x y) (v : Value) : Tch b r x (y.setCell ⟨b, o, none⟩ v) :=
  ⟨h.os, h.tape, h.output, by simpa [World.setCell] using h.size, fun i hi hb hr => (Below.heap_setCell _ _ _ _ hb).trans (h.block i hi hb hr)⟩
theorem Tch.cells {b : Nat} {r : Option Nat} {x : World} : ∀ (vs : List Value) (o : Nat) (y : World), Tch b r x y → Tch b r x (y.setCells b o vs)
  | [], _, _, h => h
  | v :: vs, o, _, h => Tch.cells vs (o + 1) _ (h.setB v)
theorem Tch.ofBelow {b : Nat} {r : Option Nat} {x y : World} (h : Below x.heap.size x y) : Tch b r x y := ⟨h.os, h.tape, h.output, h.size, fun i hi _ _ => h.block i hi⟩
theorem Tch.seg {b : Nat} {r : Option Nat} {w w' : World} (h : Tch b r w w') {a : Option Addr} {n : Nat} {l : List Int} (hs : Seg w a n l) (hsep : ∀ x, a = some x → 0 < n → x.block ≠ b ∧ some x.block ≠ r) : Seg w' a n l := by
  refine ⟨hs.1, hs.2.1, fun hn => ?_⟩
  obtain ⟨c, off, rfl, hc⟩ := hs.2.2 hn
  exact ⟨c, off, rfl, fun j hj => by rw [World.cell?_of_block (w := w) (h.block c (cell_lt (hc j hj)) (hsep _ rfl hn).1 (hsep _ rfl hn).2)]; exact hc j hj⟩
theorem Tch.below {b : Nat} {r : Option Nat} {E0 : Nat} {x y : World} (h : Tch b r x y) (hb : E0 ≤ b) (hr : ∀ k, r = some k → E0 ≤ k) (hE : E0 ≤ x.heap.size) : Below E0 x y :=
  ⟨h.os, h.tape, h.output, h.size, fun i hi => h.block i (by omega) (by omega) (fun e => by have := hr i e.symm; omega)⟩
theorem own_other {w w' : World} {B : Nat} {e : TypeId} {n z : Nat} {v : Value} {xs : List Value} (h : w.ownsRow B e z v n xs) (hk : ∀ k, v.ownBlock = some k → w'.heap[k]? = w.heap[k]?) : w'.ownsRow B e z v n xs := by
  refine ⟨h.1, ?_⟩
  rcases h.2 with h2 | ⟨g, cap, cur, rfl, hB, hh, r⟩
  · exact .inl h2
  · exact .inr ⟨g, cap, cur, rfl, hB, by rw [hk g rfl]; exact hh, r⟩

end Go.Proofs.Ytahpnfbjpdnapaa
