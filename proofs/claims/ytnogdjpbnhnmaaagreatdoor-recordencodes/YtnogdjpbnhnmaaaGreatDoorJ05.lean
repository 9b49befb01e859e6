/- Texts of the proof, joined. -/
import Derived.Test.YtnogdjpbnhnmaaaGreatDoorRows
import Derived.Test.YtnogdjpbnhnmaaaGreatDoorJ02
import Derived.WalkKit
import Derived.Deep.QuietTactic
import Derived.BigQuiet
import Derived.Test.YtnogdjpbnhnmaaaGreatDoorJ01
import Derived.Laws.CopyOwn
/- The contracts of what only reads a list of ints: isWidth, faultOf. -/
namespace Go.Proofs.YtnogdjpbnhnmaaaGreatDoor
open Go.RowKit Go.Wire1

def okI (n : Int) : Bool := decide (1 ≤ n ∧ n ≤ 7)
theorem okI_yes {n : Int} (h : 1 ≤ n ∧ n ≤ 7) : okI n = true := decide_eq_true h
theorem okI_no {n : Int} (h : ¬ (1 ≤ n ∧ n ≤ 7)) : okI n = false := decide_eq_false h
theorem okI_nat (n : Nat) : okI (n : Int) = okW n := by unfold okI okW; congr 1; apply propext; omega

set_option maxRecDepth 100000 in
theorem isWidth_any (n : Int) (w : World) :
    Calls Tryz.prog 134 #[.int .i64 n] w fun e w' => e = .returned (.bool (okI n)) ∧ w = w' := by
  by_cases h1 : 1 ≤ n
  · by_cases h2 : n ≤ 7
    · have HQ : Hid (okI n = true) := okI_yes (by omega)
      go_enter Tryz.func134, Tryz.ntmps134
      go_wp2
      go_ret
      exact ⟨by rw [HQ.out]; rfl, rfl⟩
    · have HQ : Hid (okI n = false) := okI_no (by omega)
      go_enter Tryz.func134, Tryz.ntmps134
      go_wp2
      go_ret
      exact ⟨by rw [HQ.out]; rfl, rfl⟩
  · have HQ : Hid (okI n = false) := okI_no (by omega)
    go_enter Tryz.func134, Tryz.ntmps134
    go_wp2
    go_ret
    exact ⟨by rw [HQ.out]; rfl, rfl⟩

set_option maxHeartbeats 400000 in
set_option maxRecDepth 100000 in
theorem vfaultOf_any (a : Option Addr) (n cap : Nat) (l : List Int) (w : World) (h : SegI w a n l) :
    Calls Tryz.prog 130 #[.slice a n cap] w fun e w' => e = .returned (.int .i64 (fault l : Int)) ∧ w = w' := by
  obtain ⟨hn, hn', ha, -⟩ := h
  have HN : Hid (l.length = n) := hn
  unfold maxLen at hn'
  have HF : Hid (fault l = if okW n = true then (if okL l = true then 0 else 32) else 31) := by show _ = _; rw [← hn]; rfl
  clear hn
  go_enter Tryz.func130, Tryz.ntmps130
  go_wp2_with fail
  refine (isWidth_any (n : Int) _).mono ?_
  rintro e w' ⟨rfl, rfl⟩
  rw [okI_nat]
  cases hw : okW n with
  | false =>
    have HQ : Hid (fault l = 31) := by show _ = _; rw [HF.out, hw]; rfl
    clear HF hw
    go_wp2
    go_ret
    exact ⟨by rw [HQ.out]; rfl, rfl⟩
  | true =>
    have HQ : Hid (fault l = if okL l = true then 0 else 32) := by show _ = _; rw [HF.out, hw]; rfl
    clear HF hw
    go_wp2
    go_loop [11] (fun i => ∃ k : Nat, i = .int .i64 (k : Int) ∧ k ≤ n ∧ Hid (okL (l.take k) = true)) (fun i => n - (intOf i).toNat)
    case atStart => exact ⟨0, rfl, Nat.zero_le _, rfl⟩
    case round =>
      obtain ⟨k, rfl, hk, HT⟩ := hrel
      by_cases hlt : k < n
      · obtain ⟨ba, oa, rfl, hca⟩ := ha (by omega)
        have ca := hca k hlt
        clear ha hca
        by_cases h0 : l.getD k 0 < 0
        · have HS : Hid (fault l = 32) := by show _ = _; rw [HQ.out, okL_no (k := k) (by have := HN.out; omega) (by omega)]; rfl
          clear HQ
          generalize l.getD k 0 = c at *
          go_wp2
          go_ret
          exact ⟨by rw [HS.out]; rfl, rfl⟩
        · by_cases h1 : 1048576 < l.getD k 0
          · have HS : Hid (fault l = 32) := by show _ = _; rw [HQ.out, okL_no (k := k) (by have := HN.out; omega) (by omega)]; rfl
            clear HQ
            generalize l.getD k 0 = c at *
            go_wp2
            go_ret
            exact ⟨by rw [HS.out]; rfl, rfl⟩
          · have HT' : Hid (okL (l.take (k + 1)) = true) := okL_step (by have := HN.out; omega) HT.out (by omega)
            generalize l.getD k 0 = c at *
            go_wp2
            go_round
            case rel => exact ⟨k + 1, by go_num, by omega, HT'⟩
            case measure => simp [intOf]; omega
      · have HS : Hid (fault l = 0) := by show _ = _; have := HT.out; rw [List.take_of_length_le (by have := HN.out; omega)] at this; rw [HQ.out, this]; rfl
        go_wp2
        go_ret
        exact ⟨by rw [HS.out]; rfl, rfl⟩

end Go.Proofs.YtnogdjpbnhnmaaaGreatDoor
/- A row of bytes of our own, at its block. -/
namespace Go.Proofs.YtnogdjpbnhnmaaaGreatDoor
open Go.RowKit Go.Wire1

theorem own_below {w w' : World} {B : Nat} {e : TypeId} {s : Nat} {v : Value} {n : Nat} {xs : List Value} {C : Nat} (h : w.ownsRow B e s v n xs) (hb : Below C w w') (hC : w.heap.size ≤ C) : w'.ownsRow B e s v n xs := by
  refine ⟨h.1, ?_⟩
  rcases h.2 with h2 | ⟨g, cap, cur, rfl, hB, hh, r⟩
  · exact .inl h2
  · exact .inr ⟨g, cap, cur, rfl, hB, by rw [hb.block g (by have := (Array.getElem?_eq_some_iff.1 hh).1; omega)]; exact hh, r⟩

/-- A row of bytes of our own, at its block. -/
def Mine (w : World) (B g N cap : Nat) (L : List Int) : Prop := w.ownsRow B 5 1 (.slice (some ⟨g, 0, none⟩) N cap) N (L.map (Value.int .u8)) ∧ L.length = N ∧ N ≤ cap ∧ cap ≤ maxLen ∧ B ≤ g

theorem mine_of {w : World} {B : Nat} {v : Value} {L : List Int} (h : w.ownsRow B 5 1 v L.length (L.map (Value.int .u8))) (hl : 0 < L.length) : ∃ g cap, v = .slice (some ⟨g, 0, none⟩) L.length cap ∧ Mine w B g L.length cap L := by
  rcases h.2 with ⟨_, h2⟩ | ⟨g, cap, cur, rfl, hB, hh, h3, h4, h5, h6⟩
  · omega
  · exact ⟨g, cap, rfl, h, rfl, h3, h4, hB⟩
theorem Mine.below {w w' : World} {B g N cap C : Nat} {L : List Int} (h : Mine w B g N cap L) (hb : Below C w w') (hC : w.heap.size ≤ C) : Mine w' B g N cap L := ⟨own_below h.1 hb hC, h.2⟩
theorem Mine.drewN {w : World} {B g N cap : Nat} {L : List Int} (h : Mine w B g N cap L) (q : Nat) : Mine (w.drewN q) B g N cap L := h
theorem Mine.seg {w : World} {B g N cap : Nat} {L : List Int} (h : Mine w B g N cap L) : Seg w (some ⟨g, 0, none⟩) N L := by
  obtain ⟨h1, rfl, h3, h4, _⟩ := h
  refine ⟨rfl, by omega, fun _ => ⟨g, 0, rfl, fun j hj => ?_⟩⟩
  rw [Nat.zero_add, h1.cellAt j (by omega)]
  simp [List.getElem?_eq_getElem hj]
end Go.Proofs.YtnogdjpbnhnmaaaGreatDoor
/- A row of ints of our own, at its block; the contract of copyOf. -/
namespace Go.Proofs.YtnogdjpbnhnmaaaGreatDoor
open Go.RowKit Go.Wire1

/-- A row of ints of our own, at its block. -/
def MineI (w : World) (B g N cap : Nat) (L : List Int) : Prop := w.ownsRow B 3 1 (.slice (some ⟨g, 0, none⟩) N cap) N (L.map (Value.int .i64)) ∧ L.length = N ∧ N ≤ cap ∧ cap ≤ maxLen ∧ B ≤ g

theorem MineI.below {w w' : World} {B g N cap C : Nat} {L : List Int} (h : MineI w B g N cap L) (hb : Below C w w') (hC : w.heap.size ≤ C) : MineI w' B g N cap L := ⟨own_below h.1 hb hC, h.2⟩
theorem MineI.drewN {w : World} {B g N cap : Nat} {L : List Int} (h : MineI w B g N cap L) (q : Nat) : MineI (w.drewN q) B g N cap L := h
theorem MineI.lt {w : World} {B g N cap : Nat} {L : List Int} (h : MineI w B g N cap L) : g < w.heap.size := (h.1.lt g rfl).2
theorem MineI.cell {w : World} {B g N cap : Nat} {L : List Int} (h : MineI w B g N cap L) {j : Nat} (hj : j < N) : w.cell? ⟨g, j, none⟩ = some (.int .i64 (L.getD j 0)) := by
  obtain ⟨h1, rfl, h3, h4, _⟩ := h
  rw [h1.cellAt j (by omega)]
  simp [List.getElem?_eq_getElem hj]
theorem MineI.frozen {w : World} {B g N cap : Nat} {L : List Int} (h : MineI w B g N cap L) (j : Nat) : w.frozen? ⟨g, j, none⟩ = false := h.1.frozenAt j
theorem MineI.seg {w : World} {B g N cap : Nat} {L : List Int} (h : MineI w B g N cap L) (hf : ∀ j, -9223372036854775808 ≤ L.getD j 0 ∧ L.getD j 0 ≤ 9223372036854775807) : SegI w (some ⟨g, 0, none⟩) N L :=
  ⟨h.2.1, by have := h.2.2; omega, fun _ => ⟨g, 0, rfl, fun j hj => by rw [Nat.zero_add]; exact h.cell hj⟩, hf⟩
theorem below_store {B g k : Nat} {w w' : World} (hb : Below B w w') (hg : B ≤ g) (v : Value) : Below B w (w'.setCell ⟨g, k, none⟩ v) := hb.setCell (p := ⟨g, k, none⟩) hg v

theorem Tryz.info3 : (Tryz.prog.info? 3).map (fun i => (i.zero, i.size, i.bytes)) = some (some (.int .i64 0), 1, 8) := by kernel_rfl
theorem Tryz.size3 : (Tryz.prog.info? 3).map (·.size) = some 1 := by kernel_rfl

theorem made_row {w : World} {B g n : Nat} {xs : List Value} (h : w.ownsRow B 3 1 (.slice (some ⟨g, 0, none⟩) n n) n xs) : ∃ cur : List Value, cur.length = n ∧ w.heap[g]? = some (.cells cur.toArray 3 (0, 0)) := by
  rcases h.2 with ⟨h1, _⟩ | ⟨g', cap, cur, h1, hB, hh, h3, h4, h5, h6⟩
  · cases h1
  · injection h1 with h7 h8 h9
    injection h7 with h7
    injection h7 with h7
    subst h7 h9
    exact ⟨cur.toList, by rw [Array.length_toList, h5, Nat.mul_one], by rw [Array.toArray_toList]; exact hh⟩
end Go.Proofs.YtnogdjpbnhnmaaaGreatDoor
/- Lists that are laid anew, and rows of our own, as lists in memory. -/
namespace Go.Proofs.YtnogdjpbnhnmaaaGreatDoor
open Go.RowKit Go.Wire1

/-- Every number of a list is one of 64 bits. -/
def Fit (l : List Int) : Prop := ∀ j, -9223372036854775808 ≤ l.getD j 0 ∧ l.getD j 0 ≤ 9223372036854775807
theorem fit_of {l : List Int} (h : ∀ x ∈ l, -9223372036854775808 ≤ x ∧ x ≤ 9223372036854775807) : Fit l := fun j => by
  by_cases hj : j < l.length
  · rw [List.getD, List.getElem?_eq_getElem hj]; exact h _ (List.getElem_mem hj)
  · rw [List.getD, List.getElem?_eq_none (by omega)]; simp
theorem cell_new (w : World) (cs : List Value) (t : TypeId) (j : Nat) : (w.alloc (.cells cs.toArray t)).cell? ⟨w.heap.size, j, none⟩ = cs[j]? := by
  have h : (w.alloc (.cells cs.toArray t)).heap[w.heap.size]? = some (.cells cs.toArray t (0, 0)) := heap_alloc_new w _
  rw [cell_of_row _ _ _ _ _ _ h]
  simp
theorem segI_new (w : World) (l : List Int) (hf : Fit l) (hl : l.length ≤ maxLen) : SegI (w.alloc (.cells ((l.map (Value.int .i64)).toArray) 3)) (some ⟨w.heap.size, 0, none⟩) l.length l := by
  refine ⟨rfl, hl, fun _ => ⟨_, 0, rfl, fun j hj => ?_⟩, hf⟩
  rw [Nat.zero_add, cell_new]
  simp [hj]
theorem _root_.Go.RowKit.Below.drewN' {B : Nat} {w w' : World} (h : Below B w w') (q : Nat) : Below B w (w'.drewN q) := ⟨h.os, h.tape, h.output, h.size, h.block⟩
theorem _root_.Go.RowKit.Below.more {B : Nat} {x w : World} (h : Below B x w) (hB : B ≤ x.heap.size) (o : Obj) : Below B x (w.alloc o) := h.alloc (Nat.le_trans hB h.size) o
theorem _root_.Go.RowKit.Below.on {B : Nat} {x y z : World} (h : Below B x y) (k : Below y.heap.size y z) (hB : B ≤ x.heap.size) : Below B x z := h.trans (k.mono (Nat.le_trans hB h.size))
theorem segI_lit {w : World} (l : List Int) (hf : Fit l) (hl : l.length ≤ maxLen) {cs : Array Value} (hcs : cs = (l.map (Value.int .i64)).toArray) {b n : Nat} (hb : b = w.heap.size) (hn : n = l.length) : SegI (w.alloc (.cells cs 3)) (some ⟨b, 0, none⟩) n l := by
  subst hcs hb hn; exact segI_new w l hf hl
theorem _root_.Go.Wire1.SegI.on {w : World} {a : Option Addr} {n : Nat} {l : List Int} (h : SegI w a n l) (o : Obj) : SegI (w.alloc o) a n l := h.below ((Below.refl w.heap.size w).alloc (Nat.le_refl _) o) (Nat.le_refl _)
theorem own_base {w : World} {B B' : Nat} {e : TypeId} {s : Nat} {v : Value} {n : Nat} {xs : List Value} (h : w.ownsRow B e s v n xs) (hB : B' ≤ B) : w.ownsRow B' e s v n xs :=
  ⟨h.1, h.2.imp id fun ⟨g, cap, cur, h1, h2, h3⟩ => ⟨g, cap, cur, h1, Nat.le_trans hB h2, h3⟩⟩
theorem seg_lit {w : World} (l : List Int) (hl : l.length ≤ maxLen) {cs : Array Value} {t : TypeId} (hcs : cs = (l.map (Value.int .u8)).toArray) {b n : Nat} (hb : b = w.heap.size) (hn : n = l.length) : Seg (w.alloc (.cells cs t)) (some ⟨b, 0, none⟩) n l := by
  subst hcs hb hn
  refine ⟨rfl, hl, fun _ => ⟨_, 0, rfl, fun j hj => ?_⟩⟩
  rw [Nat.zero_add, cell_new]
  simp [hj]
end Go.Proofs.YtnogdjpbnhnmaaaGreatDoor
