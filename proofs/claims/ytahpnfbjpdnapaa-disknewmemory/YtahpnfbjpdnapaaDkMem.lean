/- A disk in memory: its lock, its row of bytes of our own, its mark; what a step of a method leaves. -/
import Derived.Test.YtahpnfbjpdnapaaTch
namespace Go.Proofs.Ytahpnfbjpdnapaa
open Go.RowKit Go.Wire1

/-- A disk in memory; s: its lock's state. -/
structure Dsk (s : Int) (w : World) (b : Nat) (pv : Value) (l : List Int) (m E0 : Nat) : Prop where
  box : Blk w b [.int .i32 s, .int .u32 0, pv, .int .i64 (m : Int)]
  own : w.ownsRow E0 5 1 pv l.length (l.map (Value.int .u8))
  far : pv.ownBlock ≠ some b
  le : m ≤ l.length
  top : l.length ≤ 4194304
  low : E0 ≤ b
  byt : Byt l
/-- What a step leaves. -/
structure Dst (s : Int) (w w' : World) (b : Nat) (pv pv' : Value) (l' : List Int) (m' E0 : Nat) : Prop where
  dsk : Dsk s w' b pv' l' m' E0
  tch : Tch b pv.ownBlock w w'
  lat : Lat pv.ownBlock pv'.ownBlock w

section
variable {s : Int} {w : World} {b : Nat} {pv : Value} {l : List Int} {m E0 : Nat}
theorem Dst.trans {s1 s2 : Int} {w1 w2 : World} {pv1 pv2 : Value} {l1 l2 : List Int} {m1 m2 : Nat} (h : Dst s1 w w1 b pv pv1 l1 m1 E0) (k : Dst s2 w1 w2 b pv1 pv2 l2 m2 E0) : Dst s2 w w2 b pv pv2 l2 m2 E0 :=
  ⟨k.dsk, h.tch.trans k.tch h.lat, h.lat.trans k.lat h.tch.size⟩
theorem Dsk.drewN (h : Dsk s w b pv l m E0) (q : Nat) : Dsk s (w.drewN q) b pv l m E0 := ⟨h.box.drewN q, h.own, h.far, h.le, h.top, h.low, h.byt⟩
theorem Dst.drewN {w1 : World} {pv1 : Value} (h : Dst s w w1 b pv pv1 l m E0) (q : Nat) : Dst s w (w1.drewN q) b pv pv1 l m E0 := ⟨h.dsk.drewN q, h.tch.drewN q, h.lat⟩
theorem Dsk.idle (h : Dsk s w b pv l m E0) (q : Nat) : Dst s w (w.drewN q) b pv pv l m E0 := ⟨h.drewN q, (Tch.refl _ _ _).drewN q, Lat.refl _ _⟩
theorem Dsk.ownLow (h : Dsk s w b pv l m E0) : ∀ k, pv.ownBlock = some k → E0 ≤ k := fun k hk => (h.own.lt k hk).1
theorem Dst.below {s0 : Int} {w' : World} {pv' : Value} {l' : List Int} {m' : Nat} (h : Dst s w w' b pv pv' l' m' E0) (k : Dsk s0 w b pv l m E0) : Below E0 w w' :=
  h.tch.below k.low k.ownLow (Nat.le_trans k.low (Nat.le_of_lt k.box.lt))
theorem own_box {v : Value} {n : Nat} {xs : List Value} {o : Nat} {u : Value} (h : w.ownsRow E0 5 1 v n xs) (far : v.ownBlock ≠ some b) : (w.setCell ⟨b, o, none⟩ u).ownsRow E0 5 1 v n xs :=
  own_other h fun k hk => Below.heap_setCell _ _ _ _ (fun e => far (by rw [hk, e]))
theorem Dsk.lock (h : Dsk s w b pv l m E0) (t : Int) : Dst t w (w.setCell ⟨b, 0, none⟩ (.int .i32 t)) b pv pv l m E0 :=
  ⟨⟨h.box.setAt 0 _, own_box h.own h.far, h.far, h.le, h.top, h.low, h.byt⟩, (Tch.refl _ _ _).setB _, Lat.refl _ _⟩
theorem Dsk.mark (h : Dsk s w b pv l m E0) {t : Nat} (ht : t ≤ l.length) : Dst s w (w.setCell ⟨b, 3, none⟩ (.int .i64 (t : Int))) b pv pv l t E0 :=
  ⟨⟨h.box.setAt 3 _, own_box h.own h.far, h.far, ht, h.top, h.low, h.byt⟩, (Tch.refl _ _ _).setB _, Lat.refl _ _⟩
theorem own_take {v : Option Addr} {n cap : Nat} {L : List Int} (h : w.ownsRow E0 5 1 (.slice v n cap) n (L.map (Value.int .u8))) (k : Nat) (hk : k ≤ n) : w.ownsRow E0 5 1 (.slice v k cap) k ((L.take k).map (Value.int .u8)) := by
  have hl : L.length = n := by have := h.1; simpa using this
  refine ⟨by simp; omega, ?_⟩
  rcases h.2 with ⟨e, h0⟩ | ⟨g, cap', cur, e, hB, hh, h3, h4, h5, h6⟩
  · obtain rfl : k = 0 := by omega
    cases e
    exact .inl ⟨rfl, rfl⟩
  · cases e
    refine .inr ⟨g, cap, cur, rfl, hB, hh, by omega, h4, h5, ?_⟩
    rw [Nat.mul_one] at h6 ⊢
    rw [List.map_take, ← h6, List.take_take, Nat.min_eq_left hk]
theorem Dsk.len {sa : Option Addr} {n cap : Nat} (h : Dsk s w b (.slice sa n cap) l m E0) : l.length = n := by
  rcases h.own.2 with ⟨e, h0⟩ | ⟨g, c, cur, e, _⟩
  · cases e; exact h0
  · cases e; rfl
theorem Dsk.cut {sa : Option Addr} {n cap : Nat} (h : Dsk s w b (.slice sa n cap) l m E0) {k : Nat} (hk : k ≤ l.length) (hm : m ≤ k) : Dst s w (w.setCell ⟨b, 2, none⟩ (.slice sa k cap)) b (.slice sa n cap) (.slice sa k cap) (l.take k) m E0 := by
  have hn := h.len
  have ho := h.own
  rw [hn] at ho
  have hf : (Value.slice sa k cap).ownBlock ≠ some b := by have := h.far; cases sa <;> exact this
  refine ⟨⟨h.box.setAt 2 _, own_box (by have := own_take ho k (by omega); rw [List.length_take, Nat.min_eq_left hk]; exact this) hf, hf, by rw [List.length_take]; omega, by rw [List.length_take]; have := h.top; omega, h.low, byt_take h.byt k⟩, (Tch.refl _ _ _).setB _, ?_⟩
  cases sa <;> exact Lat.refl _ _
theorem tch_row {g o : Nat} {u : Value} : Tch b (some g) w (w.setCell ⟨g, o, none⟩ u) :=
  ⟨rfl, rfl, rfl, by simp [World.setCell], fun i _ _ hr => Below.heap_setCell _ _ _ _ (fun e => hr (by rw [e]))⟩
theorem Dsk.rot {g n cap : Nat} (h : Dsk s w b (.slice (some ⟨g, 0, none⟩) n cap) l m E0) (k : Nat) (z : Int) (hz : 0 ≤ z ∧ z < 256) : Dst s w (w.setCell ⟨g, k, none⟩ (.int .u8 z)) b (.slice (some ⟨g, 0, none⟩) n cap) (.slice (some ⟨g, 0, none⟩) n cap) (l.set k z) m E0 := by
  refine ⟨⟨h.box.of_block (Below.heap_setCell _ _ _ _ (fun e => h.far (by rw [e]; rfl))), ?_, h.far, by rw [List.length_set]; exact h.le, by rw [List.length_set]; exact h.top, h.low, byt_set h.byt k hz⟩, tch_row, Lat.refl _ _⟩
  have ho := h.own
  rw [h.len] at ho
  rw [List.length_set, List.map_set, h.len]
  exact (ho.stored k _).1
theorem Dsk.grow {w2 : World} {pv' : Value} {l' : List Int} (h : Dsk s w b pv l m E0) (ho : w2.ownsRow E0 5 1 pv' l'.length (l'.map (Value.int .u8))) (hg : w.grownBy w2 pv.ownBlock) (hw : pv'.ownBlock = pv.ownBlock ∨ pv'.ownBlock = some w.heap.size) (hm : m ≤ l'.length) (ht : l'.length ≤ 4194304) (hy : Byt l') :
    Dst s w (w2.setCell ⟨b, 2, none⟩ pv') b pv pv' l' m E0 := by
  have hf : pv'.ownBlock ≠ some b := by
    rcases hw with e | e <;> rw [e]
    · exact h.far
    · intro e2; have := h.box.lt; injection e2 with e2; omega
  have hb : Blk w2 b _ := h.box.of_block (hg.block b h.box.lt (fun e => h.far e.symm))
  refine ⟨⟨hb.setAt 2 _, own_box ho hf, hf, hm, ht, h.low, hy⟩, Tch.setB ⟨hg.os, hg.tape, hg.output, hg.size, fun i hi _ hr => hg.block i hi hr⟩ _, ?_⟩
  rcases hw with e | e
  · exact .inl e
  · exact .inr fun k hk => by rw [e] at hk; injection hk with hk; omega
/-- A row and a block that lie elsewhere stay. -/
theorem Dsk.on {w' : World} (h : Dsk s w b pv l m E0) (hb : w'.heap[b]? = w.heap[b]?) (hr : ∀ k, pv.ownBlock = some k → w'.heap[k]? = w.heap[k]?) : Dsk s w' b pv l m E0 :=
  ⟨h.box.of_block hb, own_other h.own hr, h.far, h.le, h.top, h.low, h.byt⟩
theorem Dsk.later {w' : World} (h : Dsk s w b pv l m E0) (hb : Below w.heap.size w w') : Dsk s w' b pv l m E0 :=
  h.on (hb.block b h.box.lt) (fun k hk => hb.block k (h.own.lt k hk).2)
theorem heap_back {w2 : World} {v0 u : Value} (h0 : w.cell? ⟨b, 0, none⟩ = some v0) (h2 : w2.heap[b]? = (w.setCell ⟨b, 0, none⟩ u).heap[b]?) : (w2.setCell ⟨b, 0, none⟩ v0).heap[b]? = w.heap[b]? := by
  simp only [World.setCell, Array.getElem?_modify] at h2 ⊢
  rw [if_pos trivial] at h2 ⊢
  rw [h2]
  unfold World.cell? at h0
  cases hw : w.heap[b]? with
  | none => rfl
  | some o =>
    rw [hw] at h0
    cases o with
    | cells c e f =>
      simp only [Option.isSome_none, Bool.false_eq_true, if_false] at h0
      simp only [Option.map_some, Option.isSome_none, Bool.false_eq_true, if_false, Option.some.injEq, Obj.cells.injEq, and_true]
      apply Array.ext_getElem?
      intro i
      rw [Array.getElem?_setIfInBounds, Array.size_setIfInBounds]
      by_cases hi : 0 = i
      · subst hi
        rw [if_pos rfl, h0, if_pos (by exact (Array.getElem?_eq_some_iff.1 h0).1)]
      · rw [if_neg hi, Array.getElem?_setIfInBounds, if_neg hi]
    | _ => simp at h0
/-- The lock taken and given back: nothing has turned. -/
theorem Dsk.relock {w2 : World} (h : Dsk 0 w b pv l m E0) (hb : Below w.heap.size (w.setCell ⟨b, 0, none⟩ (.int .i32 1)) w2) : Below w.heap.size w (w2.setCell ⟨b, 0, none⟩ (.int .i32 0)) := by
  refine ⟨hb.os, hb.tape, hb.output, by have := hb.size; simpa [World.setCell] using this, fun k hk => ?_⟩
  by_cases e : k = b
  · subst e
    exact heap_back (h.box.cell 0 _ rfl) (hb.block k hk)
  · rw [Below.heap_setCell _ _ _ _ (by exact e), hb.block k hk, Below.heap_setCell _ _ _ _ (by exact e)]
theorem Dsk.still (h : Dsk 0 w b pv l m E0) : Below w.heap.size w ((w.setCell ⟨b, 0, none⟩ (.int .i32 1)).setCell ⟨b, 0, none⟩ (.int .i32 0)) := h.relock (Below.refl _ _)
theorem Dsk.stay {w' : World} (h : Dsk 0 w b pv l m E0) (hb : Below w.heap.size w w') : Dst 0 w w' b pv pv l m E0 := ⟨h.later hb, Tch.ofBelow hb, Lat.refl _ _⟩
end
end Go.Proofs.Ytahpnfbjpdnapaa
