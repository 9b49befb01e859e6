/- Texts of the proof, joined. -/
import Derived.Test.YtlhididcanedhaaGreatDoorJ01
import Derived.Test.YtlhididcanedhaaGreatDoorJ07
import Derived.Test.YtlhididcanedhaaGreatDoorJ26
import Derived.Test.YtlhididcanedhaaGreatDoorJ27
import Derived.Lib.OthersKept
/- Package record's writer in memory, and the contracts of its methods. -/
namespace Go.Proofs.YtlhididcanedhaaGreatDoor
open Go.RowKit Go.Wire1

/-- The bytes of a field. -/
def wrF (r : Rc) (x : Nat) : List Int :=
  match x with
  | 119 => enc r.id.toNat
  | 110 => enc r.n.toNat
  | 105 => enc (8 * r.num + r.row).toNat
  | 98 => enc (8 * r.round + r.who).toNat
  | 115 => [if r.same then 1 else 0]
  | 99 => encC r.c
  | 113 => if noopR r then [] else enc r.seq.toNat
  | _ => if noopR r then [] else packL 2 r.deps
/-- The bytes of a record. -/
def recB (r : Rc) : List Int := r.kind :: (rowR r.kind).flatMap (wrF r)
/-- What its fields' bytes want of a field. -/
def fitF (r : Rc) (x : Nat) : Prop :=
  match x with
  | 119 => 0 ≤ r.id ∧ r.id ≤ 1073741824
  | 110 => 0 ≤ r.n ∧ r.n ≤ 1073741824
  | 105 => 0 ≤ r.row ∧ r.row ≤ 7 ∧ 0 ≤ r.num ∧ r.num ≤ 1048576
  | 98 => 0 ≤ r.who ∧ r.who ≤ 7 ∧ 0 ≤ r.round ∧ r.round ≤ 65535
  | 115 => True
  | 99 => chk 2 r.c = 0
  | 113 => 0 ≤ r.seq ∧ r.seq ≤ 1073741824
  | _ => isVec r.deps = true

/-- A writer: the record, and the row of our own that is being written. -/
structure Wr (w0 w : World) (q : Nat) (r : Rc) (v : Value) (out : List Int) : Prop where
  box : Blk w q (rcs r ++ [v])
  tag : ∃ cs, w.heap[q]? = some (.cells cs 51 (0, 0))
  own : w.ownsRow w0.heap.size 5 1 v out.length (out.map (Value.int .u8))
  low : Below w0.heap.size w0 w
  hq : w0.heap.size ≤ q
def Wx (w0 w : World) (q : Nat) (r : Rc) (out : List Int) : Prop := ∃ v, Wr w0 w q r v out
section
variable {w0 w w' : World} {q : Nat} {r : Rc} {v : Value} {out : List Int}
theorem Wr.apart (h : Wr w0 w q r v out) : some q ≠ v.ownBlock := by
  intro e
  obtain ⟨cs, h1⟩ := h.tag
  rcases h.own.2 with ⟨rfl, _⟩ | ⟨g', cap, cur, rfl, _, hh, _⟩
  · simp [Value.ownBlock] at e
  · simp only [Value.ownBlock, Option.some.injEq] at e
    subst e
    rw [h1] at hh
    injection hh with hh
    injection hh with _ h3
    exact absurd h3 (by decide)
theorem Wr.on (h : Wr w0 w q r v out) (hb : Below w.heap.size w w') : Wr w0 w' q r v out := by
  obtain ⟨cs, h1⟩ := h.tag
  exact ⟨h.box.on hb, ⟨cs, (hb.block q h.box.lt).trans h1⟩, own_below h.own hb (Nat.le_refl _), h.low.trans (hb.mono h.low.size), h.hq⟩
theorem Wx.on (h : Wx w0 w q r out) (hb : Below w.heap.size w w') : Wx w0 w' q r out := by obtain ⟨v, h⟩ := h; exact ⟨v, h.on hb⟩
theorem Wr.drewN (h : Wr w0 w q r v out) (n : Nat) : Wr w0 (w.drewN n) q r v out := ⟨h.box.drewN n, h.tag, h.own, h.low.drewN' n, h.hq⟩
theorem Wx.drew (h : Wx w0 w q r out) : Wx w0 w.drew q r out := by obtain ⟨v, h⟩ := h; exact ⟨v, h.drewN 1⟩
theorem Wr.lt (h : Wr w0 w q r v out) : q < w.heap.size := h.box.lt
theorem rcs_app (r : Rc) (v : Value) {j : Nat} (hj : j < 18) : (rcs r ++ [v])[j]? = (rcs r)[j]? := List.getElem?_append_left (by rw [rcs_len]; exact hj)
theorem Wr.cell (h : Wr w0 w q r v out) {j : Nat} {u : Value} (hu : (rcs r)[j]? = some u) : w.cell? ⟨q, j, none⟩ = some u := h.box.cell j u (by rw [rcs_app r v (by have := (List.getElem?_eq_some_iff.1 hu).1; rwa [rcs_len] at this)]; exact hu)
theorem Wr.range (h : Wr w0 w q r v out) : w.rangeAt q 0 (rcs r) := fun j u hu => by rw [Nat.zero_add]; exact h.cell hu
/-- The row has grown, and stands in the box again. -/
theorem Wr.put (h : Wr w0 w q r v out) {v' : Value} {M : List Int} (ho : w'.ownsRow w0.heap.size 5 1 v' M.length (M.map (Value.int .u8))) (hg : w.grownBy w' v.ownBlock) :
    Blk w' q (rcs r ++ [v]) ∧ Wr w0 (w'.setCell ⟨q, 18, none⟩ v') q r v' M := by
  obtain ⟨cs, h1⟩ := h.tag
  have eb : w'.heap[q]? = w.heap[q]? := hg.block q h.lt h.apart
  have hb' : Blk w' q (rcs r ++ [v]) := h.box.of_block eb
  have hl' : Below w0.heap.size w0 w' := h.low.grown hg h.low.size (fun k hk => (h.own.lt k hk).1)
  have t' : w'.heap[q]? = some (.cells cs 51 (0, 0)) := eb.trans h1
  refine ⟨hb', ⟨hb'.setAt 18 v', ⟨_, heap_setCell_same w' q 18 cs 51 v' t'⟩, ?_, hl'.setCell (p := ⟨q, 18, none⟩) h.hq _, h.hq⟩⟩
  refine ⟨ho.1, ?_⟩
  rcases ho.2 with h2 | ⟨g, cap, cur, rfl, hB, hh, rest⟩
  · exact .inl h2
  · refine .inr ⟨g, cap, cur, rfl, hB, ?_, rest⟩
    rw [Below.heap_setCell _ _ _ _ (by
      show g ≠ q
      intro e
      subst e
      rw [t'] at hh
      injection hh with hh
      injection hh with _ h3
      exact absurd h3 (by decide))]
    exact hh
end

section
variable (w0 : World) (q : Nat) (r : Rc)
end
end Go.Proofs.YtlhididcanedhaaGreatDoor
