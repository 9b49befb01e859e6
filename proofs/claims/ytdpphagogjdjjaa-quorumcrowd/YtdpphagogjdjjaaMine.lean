/- A row of bytes of our own, at its block. -/
import Derived.Test.YtdpphagogjdjjaaMath
import Derived.WalkKit
namespace Go.Proofs.Ytdpphagogjdjjaa
open Go.RowKit Go.Wire1

theorem own_below {w w' : World} {B : Nat} {e : TypeId} {s : Nat} {v : Value} {n : Nat} {xs : List Value} {C : Nat} (h : w.ownsRow B e s v n xs) (hb : Below C w w') (hC : w.heap.size ≤ C) : w'.ownsRow B e s v n xs := by
  refine ⟨h.1, ?_⟩
  rcases h.2 with h2 | ⟨g, cap, cur, rfl, hB, hh, r⟩
  · exact .inl h2
  · exact .inr ⟨g, cap, cur, rfl, hB, by rw [hb.block g (by have := (Array.getElem?_eq_some_iff.1 hh).1; omega)]; exact hh, r⟩

/-- A row of bytes of our own, at its block. -/
def Mine (w : World) (B g N cap : Nat) (L : List Int) : Prop := w.ownsRow B 5 1 (.slice (some ⟨g, 0, none⟩) N cap) N (L.map (Value.int .u8)) ∧ L.length = N ∧ N ≤ cap ∧ cap ≤ maxLen ∧ B ≤ g

theorem mine_of {w : World} {B : Nat} {v : Value} {L : List Int} (h : w.ownsRow B 5 1 v L.length (L.map (Value.int .u8))) (hl : 0 < L.length) : ∃ g cap, v = .slice (some ⟨g, 0, none⟩) L.length cap ∧ Mine w B g L.length cap L := by
  rcases h.2 with ⟨_, h2⟩ | ⟨g, cap, cur, rfl, hB, hh, h3, h4, h5, h6⟩
  · omega
  · exact ⟨g, cap, rfl, h, rfl, h3, h4, hB⟩
theorem Mine.below {w w' : World} {B g N cap C : Nat} {L : List Int} (h : Mine w B g N cap L) (hb : Below C w w') (hC : w.heap.size ≤ C) : Mine w' B g N cap L := ⟨own_below h.1 hb hC, h.2⟩
theorem Mine.drewN {w : World} {B g N cap : Nat} {L : List Int} (h : Mine w B g N cap L) (q : Nat) : Mine (w.drewN q) B g N cap L := h
theorem Mine.seg {w : World} {B g N cap : Nat} {L : List Int} (h : Mine w B g N cap L) : Seg w (some ⟨g, 0, none⟩) N L := by
  obtain ⟨h1, rfl, h3, h4, _⟩ := h
  refine ⟨rfl, by omega, fun _ => ⟨g, 0, rfl, fun j hj => ?_⟩⟩
  rw [Nat.zero_add, h1.cellAt j (by omega)]
  simp [List.getElem?_eq_getElem hj]
theorem Mine.store {w : World} {B g N cap : Nat} {L : List Int} (h : Mine w B g N cap L) (k : Nat) (z : Int) : Mine (w.setCell ⟨g, k, none⟩ (.int .u8 z)) B g N cap (L.set k z) := by
  obtain ⟨h1, h2, h3⟩ := h
  exact ⟨by rw [List.map_set]; exact (h1.stored k _).1, by rw [List.length_set]; exact h2, h3⟩
theorem byt_set {L : List Int} (h : Byt L) (k : Nat) {z : Int} (hz : 0 ≤ z ∧ z < 256) : Byt (L.set k z) := fun y hy => (List.mem_or_eq_of_mem_set hy).elim (h y) (fun e => by rw [e]; exact hz)
end Go.Proofs.Ytdpphagogjdjjaa
