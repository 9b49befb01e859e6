/- A row of our own of lists of bytes, each in a block of its own: what it is in memory. -/
import Derived.Test.YtiajkdjljilndaaDoorRows
import Derived.Test.YtiajkdjljilndaaDoorMine
import Derived.Test.YtiajkdjljilndaaDoorOwn2
namespace Go.Proofs.YtiajkdjljilndaaDoor
open Go.RowKit Go.Wire1

/-- A list of bytes in a block of its own. -/
structure PL where
  g : Nat
  n : Nat
  cap : Nat
  L : List Int
def plZ : PL := ⟨0, 0, 0, []⟩
def plv (p : PL) : Value := .slice (some ⟨p.g, 0, none⟩) p.n p.cap
abbrev MineP (w : World) (B : Nat) (p : PL) : Prop := Mine w B p.g p.n p.cap p.L
def LRows (w : World) (B : Nat) (v : Value) (ps : List PL) : Prop := w.ownsRow B 22 1 v ps.length (ps.map plv) ∧ ∀ p ∈ ps, MineP w B p

theorem infoL : (Tryd.prog.info? 22).map (fun i => (i.zero, i.size, i.bytes)) = some (some (.slice none 0 0), 1, 24) := by kernel_rfl

theorem tag_of {w : World} {B : Nat} {e : TypeId} {s : Nat} {v : Value} {n : Nat} {xs : List Value} (h : w.ownsRow B e s v n xs) {g : Nat} (hg : v.ownBlock = some g) : ∃ cur, w.heap[g]? = some (.cells cur e (0, 0)) := by
  rcases h.2 with ⟨rfl, _⟩ | ⟨g', cap, cur, rfl, _, hh, _⟩
  · simp [Value.ownBlock] at hg
  · simp only [Value.ownBlock, Option.some.injEq] at hg
    subst hg
    exact ⟨cur, hh⟩
theorem tags_apart {w : World} {g g' : Nat} {cur cur' : Array Value} {e e' : TypeId} (h : w.heap[g]? = some (.cells cur e (0, 0))) (h' : w.heap[g']? = some (.cells cur' e' (0, 0))) (he : e ≠ e') : g ≠ g' := by
  intro x
  subst x
  rw [h] at h'
  injection h' with h2
  injection h2 with _ h3
  exact he h3
theorem MineP.lt {w : World} {B : Nat} {p : PL} (h : MineP w B p) : p.g < w.heap.size := (h.1.lt p.g rfl).2
theorem Mine.of_block {w w' : World} {B g n cap : Nat} {L : List Int} (h : Mine w B g n cap L) (e : w'.heap[g]? = w.heap[g]?) : Mine w' B g n cap L := by
  obtain ⟨h1, h2⟩ := h
  refine ⟨⟨h1.1, ?_⟩, h2⟩
  rcases h1.2 with ⟨h3, _⟩ | ⟨g', cap', cur, h3, h4, h5, h6⟩
  · cases h3
  · injection h3 with h7 h8 h9
    injection h7 with h7
    injection h7 with h7
    subst h7 h9
    exact .inr ⟨g, cap, cur, rfl, h4, by rw [e]; exact h5, h6⟩
theorem LRows.nil (w : World) (B : Nat) : LRows w B (.slice none 0 0) [] := ⟨World.ownsRow_nil _ _ _ _, fun k hk => by cases hk⟩
theorem LRows.below {w w' : World} {B C : Nat} {v : Value} {ps : List PL} (h : LRows w B v ps) (hb : Below C w w') (hC : w.heap.size ≤ C) : LRows w' B v ps := ⟨own_below h.1 hb hC, fun k hk => (h.2 k hk).below hb hC⟩
theorem LRows.drewN {w : World} {B : Nat} {v : Value} {ps : List PL} (h : LRows w B v ps) (q : Nat) : LRows (w.drewN q) B v ps := h
/-- Where another row of our own grows, that lies elsewhere: a row of lists, or of bytes that are not in this one. -/
theorem LRows.kept {w w' : World} {B : Nat} {v : Value} {ps : List PL} {row : Option Nat} (h : LRows w B v ps) (hg : w.grownBy w' row) (h1 : ∀ g, v.ownBlock = some g → some g ≠ row) (h2 : ∀ p ∈ ps, some p.g ≠ row) : LRows w' B v ps := by
  refine ⟨h.1.kept hg ?_, fun p hp => (h.2 p hp).of_block (hg.block _ (MineP.lt (h.2 p hp)) (h2 p hp))⟩
  rcases hv : v.ownBlock with _ | g
  · exact .inl rfl
  · exact .inr (h1 g hv)
/-- The lists' blocks are not a row of lists' block. -/
theorem mine_apart {w : World} {B C : Nat} {p : PL} {v : Value} {n s : Nat} {xs : List Value} (hp : MineP w B p) (hv : w.ownsRow C 22 s v n xs) : some p.g ≠ v.ownBlock := by
  intro e
  obtain ⟨c1, t1⟩ := tag_of hp.1 (g := p.g) rfl
  obtain ⟨c2, t2⟩ := tag_of hv e.symm
  exact tags_apart t1 t2 (by decide) rfl
/-- One more list. -/
theorem LRows.more {w w' : World} {B : Nat} {v v' : Value} {ps : List PL} {p : PL} (h : LRows w B v ps) (hp : MineP w B p) (ho : w'.ownsRow B 22 1 v' (ps.length + 1) (ps.map plv ++ [plv p])) (hg : w.grownBy w' v.ownBlock) : LRows w' B v' (ps ++ [p]) := by
  have key : ∀ p, MineP w B p → MineP w' B p := fun p hp => hp.of_block (hg.block _ hp.lt (mine_apart hp h.1))
  refine ⟨by rw [List.map_append, List.length_append]; exact ho, fun q hq => ?_⟩
  rcases List.mem_append.1 hq with h1 | h1
  · exact key q (h.2 q h1)
  · simp only [List.mem_singleton] at h1; subst h1; exact key _ hp
theorem LRows.shape {w : World} {B : Nat} {v : Value} {ps : List PL} (h : LRows w B v ps) : ∃ a cap, v = .slice a ps.length cap := own_shape h.1
theorem LRows.len {w : World} {B : Nat} {v : Value} {ps : List PL} (h : LRows w B v ps) : ps.length ≤ maxLen := by
  rcases h.1.2 with ⟨_, h0⟩ | ⟨b, cap', cur, e, _, _, h1, h2, _⟩ <;> omega
theorem LRows.at {w : World} {B : Nat} {a : Option Addr} {n cap : Nat} {ps : List PL} (h : LRows w B (.slice a n cap) ps) {i : Nat} (hi : i < ps.length) :
    ∃ b, a = some ⟨b, 0, none⟩ ∧ w.cell? ⟨b, i, none⟩ = some (plv (ps.getD i plZ)) ∧ MineP w B (ps.getD i plZ) := by
  rcases h.1.2 with ⟨_, h0⟩ | ⟨b, cap', cur, e, hr⟩
  · omega
  · simp only [Value.slice.injEq] at e
    obtain ⟨rfl, rfl, rfl⟩ := e
    refine ⟨b, rfl, ?_, ?_⟩
    · rw [h.1.cellAt _ (by omega), List.getElem?_map, List.getD, List.getElem?_eq_getElem hi]; rfl
    · rw [List.getD, List.getElem?_eq_getElem hi]; exact h.2 _ (List.getElem_mem hi)
/-- Two rows lie apart. -/
def Sep (v u : Value) : Prop := ∀ g, v.ownBlock = some g → u.ownBlock ≠ some g
theorem Sep.symm {v u : Value} (h : Sep v u) : Sep u v := fun g hu hv => h g hv hu
/-- Of two rows that lie apart one grows. -/
theorem rows_push {w w' : World} {B : Nat} {v u v' : Value} {gs ws : List PL} {p : PL} {o : Obj} (hG : LRows w B v gs) (hU : LRows w B u ws) (hS : Sep v u) (hp : MineP w B p)
    (ho : w'.ownsRow B 22 1 v' (gs.length + 1) (gs.map plv ++ [plv p])) (hg : (w.alloc o).grownBy w' v.ownBlock) (hat : v'.ownBlock = v.ownBlock ∨ v'.ownBlock = some (w.heap.size + 1)) :
    LRows w' B v' (gs ++ [p]) ∧ LRows w' B u ws ∧ Sep v' u ∧ w.grownBy w' v.ownBlock := by
  have hgr : w.grownBy w' v.ownBlock := ⟨hg.os, hg.tape, hg.output, by have := hg.size; rw [World.size_alloc] at this; omega, fun x hx hne => by rw [hg.block x (by rw [World.size_alloc]; omega) hne]; exact Below.heap_alloc w _ x hx⟩
  refine ⟨hG.more hp ho hgr, hU.kept hgr (fun x hx e => hS x e.symm hx) (fun q hq => mine_apart (hU.2 q hq) hG.1), fun x hx e => ?_, hgr⟩
  rcases hat with h | h
  · rw [h] at hx; exact hS x hx e
  · rw [h] at hx
    injection hx with hx
    have := (hU.1.lt x e).2
    omega
/-- The lists lie in blocks of their own. -/
def Apart (ps : List PL) : Prop := ∀ i j, i < j → j < ps.length → (ps.getD i plZ).g ≠ (ps.getD j plZ).g
/-- A list of the row written anew, in place. -/
theorem LRows.set {w w' : World} {B : Nat} {v : Value} {ps : List PL} {i : Nat} (h : LRows w B v ps) (hi : i < ps.length) (hnd : Apart ps) (L' : List Int) (hg : w.grownBy w' (some (ps.getD i plZ).g))
    (hm : Mine w' B (ps.getD i plZ).g (ps.getD i plZ).n (ps.getD i plZ).cap L') : LRows w' B v (ps.set i { ps.getD i plZ with L := L' }) := by
  have hp0 : MineP w B (ps.getD i plZ) := by rw [List.getD, List.getElem?_eq_getElem hi]; exact h.2 _ (List.getElem_mem hi)
  have hrow : w'.ownsRow B 22 1 v ps.length (ps.map plv) := by
    refine h.1.kept hg ?_
    by_cases e : v.ownBlock = some (ps.getD i plZ).g
    · exact absurd e.symm (mine_apart hp0 h.1)
    · exact .inr e
  refine ⟨?_, fun q hq => ?_⟩
  · rw [List.length_set, List.map_set]
    have e : (ps.map plv).set i (plv { ps.getD i plZ with L := L' }) = ps.map plv := by
      apply List.ext_getElem?
      intro j
      rw [List.getElem?_set]
      by_cases e : i = j
      · subst e
        rw [if_pos rfl, if_pos (by simpa using hi), List.getElem?_map, List.getElem?_eq_getElem hi, List.getD, List.getElem?_eq_getElem hi]
        rfl
      · rw [if_neg e]
    rw [e]; exact hrow
  · obtain ⟨j, hj, rfl⟩ := List.getElem_of_mem hq
    rw [List.length_set] at hj
    rw [List.getElem_set]
    by_cases e : i = j
    · rw [if_pos e]; exact hm
    · rw [if_neg e]
      have hpj := h.2 _ (List.getElem_mem hj)
      refine hpj.of_block (hg.block _ (MineP.lt hpj) ?_)
      intro x
      injection x with x
      have ej : ps.getD j plZ = ps[j] := by rw [List.getD, List.getElem?_eq_getElem hj]; rfl
      rw [← ej] at x
      rcases Nat.lt_or_gt_of_ne e with h1 | h1
      · exact hnd i j h1 hj x.symm
      · exact hnd j i h1 hi x
theorem Apart.set {ps : List PL} (h : Apart ps) (i : Nat) (L' : List Int) : Apart (ps.set i { ps.getD i plZ with L := L' }) := by
  have e : ∀ j, ((ps.set i { ps.getD i plZ with L := L' }).getD j plZ).g = (ps.getD j plZ).g := fun j => by
    rw [List.getD, List.getElem?_set]
    by_cases e : i = j
    · subst e
      rw [if_pos rfl]
      by_cases hi : i < ps.length
      · rw [if_pos hi]; rfl
      · rw [if_neg hi, List.getD, List.getElem?_eq_none (by omega)]
    · rw [if_neg e]; rfl
  intro j k hjk hk
  rw [e, e]
  rw [List.length_set] at hk
  exact h j k hjk hk
theorem Apart.more {ps : List PL} (h : Apart ps) (q : PL) (hq : ∀ p ∈ ps, p.g ≠ q.g) : Apart (ps ++ [q]) := by
  intro j k hjk hk
  rw [List.length_append, List.length_singleton] at hk
  rw [List.getD, List.getElem?_append_left (by omega)]
  by_cases hk2 : k < ps.length
  · rw [List.getD, List.getElem?_append_left hk2]; exact h j k hjk hk2
  · have ek : k = ps.length := by omega
    subst ek
    rw [List.getD, List.getElem?_append_right (Nat.le_refl _), Nat.sub_self, List.getElem?_eq_getElem (by omega)]
    exact hq _ (List.getElem_mem _)
end Go.Proofs.YtiajkdjljilndaaDoor
