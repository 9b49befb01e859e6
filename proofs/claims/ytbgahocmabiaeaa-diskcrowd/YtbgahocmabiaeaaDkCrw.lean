/- A row of our own of disks. -/
import Derived.Test.YtbgahocmabiaeaaDkTwo
import Derived.Test.YtbgahocmabiaeaaDkImage
import Derived.Test.YtbgahocmabiaeaaDkApp
import Derived.Test.YtbgahocmabiaeaaDkShow
namespace Go.Proofs.Ytbgahocmabiaeaa
open Go.RowKit Go.Wire1 Go.MuLone

structure Dk where
  b : Nat
  pv : Value
  l : List Int
  m : Nat
def dkZ : Dk := ⟨0, .slice none 0 0, [], 0⟩
def ptrs (D : List Dk) : List Value := D.map (fun e => Value.pointer (some ⟨e.b, 0, none⟩))
/-- A row of our own of disks that share nothing with the row. -/
structure Crd (w : World) (B : Nat) (v : Value) (D : List Dk) : Prop where
  row : w.ownsRow B 25 1 v D.length (ptrs D)
  dsk : ∀ e ∈ D, ∃ E, Dsk 0 w e.b e.pv e.l e.m E
  sep : ∀ e ∈ D, v.ownBlock ≠ some e.b ∧ ∀ k, e.pv.ownBlock = some k → v.ownBlock ≠ some k
theorem Crd.later {w w' : World} {B : Nat} {v : Value} {D : List Dk} (h : Crd w B v D) (hb : Below w.heap.size w w') : Crd w' B v D :=
  ⟨own_below h.row hb (Nat.le_refl _), fun e he => by obtain ⟨E, d⟩ := h.dsk e he; exact ⟨E, d.later hb⟩, h.sep⟩
theorem Crd.push {w w2 : World} {B : Nat} {v v' : Value} {D : List Dk} {e : Dk} {E : Nat} (h : Crd w B v D) (hd : Dsk 0 w e.b e.pv e.l e.m E) (h1 : v.ownBlock ≠ some e.b) (h2 : ∀ k, e.pv.ownBlock = some k → v.ownBlock ≠ some k)
    (ho : w2.ownsRow B 25 1 v' (D.length + 1) (ptrs D ++ [Value.pointer (some ⟨e.b, 0, none⟩)])) (hg : w.grownBy w2 v.ownBlock) (ha : v'.ownBlock = v.ownBlock ∨ v'.ownBlock = some w.heap.size) : Crd w2 B v' (D ++ [e]) := by
  have all : ∀ d ∈ D ++ [e], (∃ E, Dsk 0 w d.b d.pv d.l d.m E) ∧ v.ownBlock ≠ some d.b ∧ ∀ k, d.pv.ownBlock = some k → v.ownBlock ≠ some k := fun d hd' => by
    rcases List.mem_append.1 hd' with hd' | hd'
    · exact ⟨h.dsk d hd', h.sep d hd'⟩
    · rw [List.mem_singleton] at hd'; subst hd'; exact ⟨⟨E, hd⟩, h1, h2⟩
  refine ⟨by rw [List.length_append]; simpa [ptrs] using ho, fun d hd' => ?_, fun d hd' => ?_⟩
  · obtain ⟨⟨E', dd⟩, s1, s2⟩ := all d hd'
    exact ⟨E', dd.on (hg.block d.b dd.box.lt (fun x => s1 x.symm)) (fun k hk => hg.block k (dd.own.lt k hk).2 (fun x => s2 k hk x.symm))⟩
  · obtain ⟨⟨E', dd⟩, s1, s2⟩ := all d hd'
    rcases ha with x | x
    · rw [x]; exact ⟨s1, s2⟩
    · rw [x]
      exact ⟨fun y => by injection y with y; have := dd.box.lt; omega, fun k hk y => by injection y with y; have := (dd.own.lt k hk).2; omega⟩
theorem Crd.at_ {w : World} {B : Nat} {v : Value} {D : List Dk} (h : Crd w B v D) (i : Nat) (hi : i < D.length) : ∃ g c, v = .slice (some ⟨g, 0, none⟩) D.length c ∧ D.length ≤ c ∧ w.cell? ⟨g, i, none⟩ = some (.pointer (some ⟨(D.getD i dkZ).b, 0, none⟩)) ∧ ∃ E, Dsk 0 w (D.getD i dkZ).b (D.getD i dkZ).pv (D.getD i dkZ).l (D.getD i dkZ).m E := by
  have hge : D.getD i dkZ = D[i] := by simp [hi]
  rw [hge]
  rcases h.row.2 with ⟨_, h0⟩ | ⟨g, c, cur, rfl, hB, hh, h3, h4, h5, h6⟩
  · omega
  · refine ⟨g, c, rfl, h3, ?_, h.dsk _ (List.getElem_mem hi)⟩
    rw [h.row.cellAt i (by omega)]
    simp [ptrs, List.getElem?_eq_getElem hi]
theorem Crd.cell {w : World} {B g n c : Nat} {D : List Dk} (h : Crd w B (.slice (some ⟨g, 0, none⟩) n c) D) (i : Nat) (hi : i < D.length) : w.cell? ⟨g, i, none⟩ = some (.pointer (some ⟨(D.getD i dkZ).b, 0, none⟩)) ∧ ∃ E, Dsk 0 w (D.getD i dkZ).b (D.getD i dkZ).pv (D.getD i dkZ).l (D.getD i dkZ).m E := by
  obtain ⟨g', c', e, _, h2, h3⟩ := h.at_ i hi
  injection e with e1 _ _
  injection e1 with e1
  injection e1 with e1 _ _
  subst e1
  exact ⟨h2, h3⟩
theorem crd_info : (Try.prog.info? 25).map (fun i => (i.zero, i.size, i.bytes)) = some (some (.pointer none), 1, 8) := by kernel_rfl

/-- What is laid on the i-th disk. -/
def crdB (img mk : List Int) (i : Nat) : List Int := if i < mk.length ∧ 0 < mk.getD i 0 then img else []
def crdL (img mk : List Int) (i : Nat) : List Int := crdB img mk i ++ [(i : Int) + 1, 7, (i : Int) + 1]
def crdM (img mk : List Int) (i : Nat) : Nat := if i % 3 = 0 then (crdL img mk i).length else 0
def CrdS (img mk : List Int) (D : List Dk) : Prop := ∀ j, j < D.length → (D.getD j dkZ).l = crdL img mk j ∧ (D.getD j dkZ).m = crdM img mk j
theorem CrdS.push {img mk : List Int} {D : List Dk} {e : Dk} (h : CrdS img mk D) (hl : e.l = crdL img mk D.length) (hm : e.m = crdM img mk D.length) : CrdS img mk (D ++ [e]) := fun j hj => by
  rw [List.length_append, List.length_singleton] at hj
  by_cases hlt : j < D.length
  · have e1 : (D ++ [e]).getD j dkZ = D.getD j dkZ := by simp [List.getElem?_append_left hlt]
    rw [e1]; exact h j hlt
  · obtain rfl : j = D.length := by omega
    have e1 : (D ++ [e]).getD D.length dkZ = e := by simp
    rw [e1]; exact ⟨hl, hm⟩
theorem seg_three' (w : World) (x y z : Int) : Seg (w.alloc (.cells #[.int .u8 x, .int .u8 y, .int .u8 z] 5)) (some ⟨w.heap.size, 0, none⟩) 3 [x, y, z] := by
  refine ⟨rfl, by unfold maxLen; omega, fun _ => ⟨_, _, rfl, fun j hj => ?_⟩⟩
  rw [World.cell?_alloc_at _ _ _ _ rfl]
  match j, hj with
  | 0, _ => rfl
  | 1, _ => rfl
  | 2, _ => rfl
end Go.Proofs.Ytbgahocmabiaeaa
