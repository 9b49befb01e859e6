/- Texts of the proof, joined. -/
import Derived.Test.YtbdkelffncmkhaaGreatDoorJ03
import Derived.Test.YtbdkelffncmkhaaGreatDoorRows
import Derived.WalkKit
import Derived.Deep.QuietTactic
import Derived.BigQuiet
import Derived.Test.YtbdkelffncmkhaaGreatDoorJ01
import Derived.Laws.CopyOwn
import Derived.Defers
import Derived.Recover
import Derived.RegionTactic
import Derived.ChangeAlike
/- The plain mathematics of reading a vector's two layouts; nothing of the program is named here. -/
namespace Go.Wire1
open Go.RowKit

/-- What reading answers: the entries and their bytes, or the error's number. -/
abbrev Rd := Except Nat (List Int × Nat)
/-- Version 1: k numbers. -/
def rd1 (l : List Int) : Nat → Rd
  | 0 => .ok ([], 0)
  | k + 1 => match rd1 l k with
    | .error e => .error e
    | .ok (xs, p) => match dec (l.drop p) with
      | .error i => .error (11 + i)
      | .ok (x, m) => if 1048576 < x then .error 32 else .ok (xs ++ [(x : Int)], p + m)
def last0 (xs : List Int) : Int := xs.getLastD 0
/-- A difference and the entry that it makes. -/
def entry (q : Int) (l : List Int) : Except Nat (Int × Nat) := match dec l with
  | .error i => .error (11 + i)
  | .ok (u, m) => if unzig u = 0 then .error 34 else if unzig u < -q ∨ 1048576 - q < unzig u then .error 32 else .ok (q + unzig u, m)
/-- Version 2, behind the mask: k entries. -/
def rd2 (l : List Int) (mask p0 : Nat) : Nat → Rd
  | 0 => .ok ([], p0)
  | k + 1 => match rd2 l mask p0 k with
    | .error e => .error e
    | .ok (xs, p) => if mask / 2 ^ k % 2 = 1 then
        (match entry (last0 xs) (l.drop p) with
          | .error e => .error e
          | .ok (y, m) => .ok (xs ++ [y], p + m))
      else .ok (xs ++ [last0 xs], p)
def upk2 (l : List Int) (n : Nat) : Rd := match dec l with
  | .error i => .error (11 + i)
  | .ok (mask, m) => if 2 ^ n ≤ mask then .error 33 else rd2 l mask m n
def upk (v n : Int) (l : List Int) : Rd := if v = 1 ∨ v = 2 then (if 1 ≤ n ∧ n ≤ 7 then (if v = 1 then rd1 l n.toNat else upk2 l n.toNat) else .error 3) else .error 2
def upL : Rd → List Int
  | .ok (xs, _) => xs
  | .error _ => []
def upN : Rd → Nat
  | .ok (_, p) => p
  | .error _ => 0
def upE : Rd → Nat
  | .ok _ => 0
  | .error e => e

theorem rd1_err {l : List Int} {k e : Nat} (h : rd1 l k = .error e) : ∀ j, rd1 l (k + j) = .error e
  | 0 => h
  | j + 1 => by show rd1 l (k + j + 1) = _; simp only [rd1, rd1_err h j]
theorem rd1_err' {l : List Int} {k n e : Nat} (h : rd1 l k = .error e) (hk : k ≤ n) : rd1 l n = .error e := by
  have := rd1_err h (n - k)
  rwa [show k + (n - k) = n by omega] at this
theorem rd2_err {l : List Int} {mask p0 k e : Nat} (h : rd2 l mask p0 k = .error e) : ∀ j, rd2 l mask p0 (k + j) = .error e
  | 0 => h
  | j + 1 => by show rd2 l mask p0 (k + j + 1) = _; simp only [rd2, rd2_err h j]
theorem rd2_err' {l : List Int} {mask p0 k n e : Nat} (h : rd2 l mask p0 k = .error e) (hk : k ≤ n) : rd2 l mask p0 n = .error e := by
  have := rd2_err h (n - k)
  rwa [show k + (n - k) = n by omega] at this
theorem rd1_step {l : List Int} {k p x m : Nat} {xs : List Int} (h : rd1 l k = .ok (xs, p)) (hd : dec (l.drop p) = .ok (x, m)) (hx : x ≤ 1048576) : rd1 l (k + 1) = .ok (xs ++ [(x : Int)], p + m) := by
  simp only [rd1, h, hd]; rw [if_neg (by omega)]
theorem rd1_bad {l : List Int} {k p i : Nat} {xs : List Int} (h : rd1 l k = .ok (xs, p)) (hd : dec (l.drop p) = .error i) : rd1 l (k + 1) = .error (11 + i) := by
  simp only [rd1, h, hd]
theorem rd1_big {l : List Int} {k p x m : Nat} {xs : List Int} (h : rd1 l k = .ok (xs, p)) (hd : dec (l.drop p) = .ok (x, m)) (hx : 1048576 < x) : rd1 l (k + 1) = .error 32 := by
  simp only [rd1, h, hd]; rw [if_pos hx]
theorem rd1_len {l : List Int} (hy : Byt l) : ∀ {k p : Nat} {xs : List Int}, rd1 l k = .ok (xs, p) → xs.length = k ∧ p ≤ l.length ∧ okL xs = true
  | 0, p, xs, h => by simp only [rd1, Except.ok.injEq, Prod.mk.injEq] at h; obtain ⟨rfl, rfl⟩ := h; exact ⟨rfl, Nat.zero_le _, rfl⟩
  | k + 1, p, xs, h => by
    cases hr : rd1 l k with
    | error e => simp only [rd1, hr] at h; cases h
    | ok q =>
      obtain ⟨ys, p'⟩ := q
      have ih := rd1_len hy hr
      cases hd : dec (l.drop p') with
      | error i => rw [rd1_bad hr hd] at h; cases h
      | ok q2 =>
        obtain ⟨x, m⟩ := q2
        have hm := dec_len (byt_drop hy p') hd
        rw [List.length_drop] at hm
        by_cases hx : 1048576 < x
        · rw [rd1_big hr hd hx] at h; cases h
        · rw [rd1_step hr hd (by omega)] at h
          simp only [Except.ok.injEq, Prod.mk.injEq] at h
          obtain ⟨rfl, rfl⟩ := h
          refine ⟨by rw [List.length_append, ih.1]; rfl, by omega, ?_⟩
          unfold okL at *
          rw [List.all_append, ih.2.2]
          simp only [List.all_cons, List.all_nil, Bool.and_true, Bool.true_and, okE, decide_eq_true_eq]
          omega
theorem last_snoc (xs : List Int) (y : Int) : last0 (xs ++ [y]) = y := by simp [last0]
theorem entry_len {q : Int} {l : List Int} (hy : Byt l) {y : Int} {m : Nat} (h : entry q l = .ok (y, m)) : 0 ≤ y ∧ y ≤ 1048576 ∧ 1 ≤ m ∧ m ≤ l.length := by
  unfold entry at h
  cases hd : dec l with
  | error i => rw [hd] at h; cases h
  | ok p =>
    obtain ⟨u, k⟩ := p
    rw [hd] at h
    simp only at h
    have hm := dec_len hy hd
    split at h
    · cases h
    · split at h
      · cases h
      · simp only [Except.ok.injEq, Prod.mk.injEq] at h
        omega
theorem rd2_set {l : List Int} {mask p0 k p m : Nat} {xs : List Int} {y : Int} (h : rd2 l mask p0 k = .ok (xs, p)) (hb : mask / 2 ^ k % 2 = 1) (he : entry (last0 xs) (l.drop p) = .ok (y, m)) : rd2 l mask p0 (k + 1) = .ok (xs ++ [y], p + m) := by
  simp only [rd2, h]; rw [if_pos hb, he]
theorem rd2_bad {l : List Int} {mask p0 k p e : Nat} {xs : List Int} (h : rd2 l mask p0 k = .ok (xs, p)) (hb : mask / 2 ^ k % 2 = 1) (he : entry (last0 xs) (l.drop p) = .error e) : rd2 l mask p0 (k + 1) = .error e := by
  simp only [rd2, h]; rw [if_pos hb, he]
theorem rd2_keep {l : List Int} {mask p0 k p : Nat} {xs : List Int} (h : rd2 l mask p0 k = .ok (xs, p)) (hb : ¬ mask / 2 ^ k % 2 = 1) : rd2 l mask p0 (k + 1) = .ok (xs ++ [last0 xs], p) := by
  simp only [rd2, h]; rw [if_neg hb]
theorem okL_snoc {xs : List Int} {y : Int} (h : okL xs = true) (hy : 0 ≤ y ∧ y ≤ 1048576) : okL (xs ++ [y]) = true := by
  unfold okL at *
  rw [List.all_append, h]
  simp only [List.all_cons, List.all_nil, Bool.and_true, Bool.true_and, okE, decide_eq_true_eq]
  exact hy
theorem last_ok {xs : List Int} (h : okL xs = true) : 0 ≤ last0 xs ∧ last0 xs ≤ 1048576 := by
  unfold last0
  rcases List.eq_nil_or_concat xs with rfl | ⟨ys, y, rfl⟩
  · simp
  · have := List.all_eq_true.1 h y (by simp)
    simp only [okE, decide_eq_true_eq] at this
    simpa using this
theorem rd2_len {l : List Int} (hy : Byt l) {mask p0 : Nat} (h0 : p0 ≤ l.length) : ∀ {k p : Nat} {xs : List Int}, rd2 l mask p0 k = .ok (xs, p) → xs.length = k ∧ p ≤ l.length ∧ okL xs = true
  | 0, p, xs, h => by simp only [rd2, Except.ok.injEq, Prod.mk.injEq] at h; obtain ⟨rfl, rfl⟩ := h; exact ⟨rfl, h0, rfl⟩
  | k + 1, p, xs, h => by
    cases hr : rd2 l mask p0 k with
    | error e => simp only [rd2, hr] at h; cases h
    | ok q =>
      obtain ⟨ys, p'⟩ := q
      have ih := rd2_len hy h0 hr
      by_cases hb : mask / 2 ^ k % 2 = 1
      · cases he : entry (last0 ys) (l.drop p') with
        | error e => rw [rd2_bad hr hb he] at h; cases h
        | ok q2 =>
          obtain ⟨y, m⟩ := q2
          rw [rd2_set hr hb he] at h
          simp only [Except.ok.injEq, Prod.mk.injEq] at h
          obtain ⟨rfl, rfl⟩ := h
          have hm := entry_len (byt_drop hy p') he
          rw [List.length_drop] at hm
          exact ⟨by rw [List.length_append, ih.1]; rfl, by omega, okL_snoc ih.2.2 ⟨hm.1, hm.2.1⟩⟩
      · rw [rd2_keep hr hb] at h
        simp only [Except.ok.injEq, Prod.mk.injEq] at h
        obtain ⟨rfl, rfl⟩ := h
        exact ⟨by rw [List.length_append, ih.1]; rfl, ih.2.1, okL_snoc ih.2.2 (last_ok ih.2.2)⟩
theorem entry_err {q : Int} {l : List Int} {e : Nat} (h : entry q l = .error e) : 11 ≤ e ∧ e ≤ 34 := by
  unfold entry at h
  cases hd : dec l with
  | error i => rw [hd] at h; simp only [Except.error.injEq] at h; have := dec_err hd; omega
  | ok p =>
    obtain ⟨u, k⟩ := p
    rw [hd] at h
    simp only at h
    split at h
    · simp only [Except.error.injEq] at h; omega
    · split at h
      · simp only [Except.error.injEq] at h; omega
      · cases h
end Go.Wire1
/- The contracts of what only reads a list of ints: isWidth, faultOf. -/
namespace Go.Proofs.YtbdkelffncmkhaaGreatDoor
open Go.RowKit Go.Wire1

def okI (n : Int) : Bool := decide (1 ≤ n ∧ n ≤ 7)
theorem okI_yes {n : Int} (h : 1 ≤ n ∧ n ≤ 7) : okI n = true := decide_eq_true h
theorem okI_no {n : Int} (h : ¬ (1 ≤ n ∧ n ≤ 7)) : okI n = false := decide_eq_false h
set_option maxRecDepth 100000 in
theorem isWidth_any (n : Int) (w : World) :
    Calls Tryz.prog 76 #[.int .i64 n] w fun e w' => e = .returned (.bool (okI n)) ∧ w = w' := by
  by_cases h1 : 1 ≤ n
  · by_cases h2 : n ≤ 7
    · have HQ : Hid (okI n = true) := okI_yes (by omega)
      go_enter Tryz.func76, Tryz.ntmps76
      go_wp2
      go_ret
      exact ⟨by rw [HQ.out]; rfl, rfl⟩
    · have HQ : Hid (okI n = false) := okI_no (by omega)
      go_enter Tryz.func76, Tryz.ntmps76
      go_wp2
      go_ret
      exact ⟨by rw [HQ.out]; rfl, rfl⟩
  · have HQ : Hid (okI n = false) := okI_no (by omega)
    go_enter Tryz.func76, Tryz.ntmps76
    go_wp2
    go_ret
    exact ⟨by rw [HQ.out]; rfl, rfl⟩

end Go.Proofs.YtbdkelffncmkhaaGreatDoor
/- A row of bytes of our own, at its block. -/
namespace Go.Proofs.YtbdkelffncmkhaaGreatDoor
open Go.RowKit Go.Wire1

theorem own_below {w w' : World} {B : Nat} {e : TypeId} {s : Nat} {v : Value} {n : Nat} {xs : List Value} {C : Nat} (h : w.ownsRow B e s v n xs) (hb : Below C w w') (hC : w.heap.size ≤ C) : w'.ownsRow B e s v n xs := by
  refine ⟨h.1, ?_⟩
  rcases h.2 with h2 | ⟨g, cap, cur, rfl, hB, hh, r⟩
  · exact .inl h2
  · exact .inr ⟨g, cap, cur, rfl, hB, by rw [hb.block g (by have := (Array.getElem?_eq_some_iff.1 hh).1; omega)]; exact hh, r⟩

/-- A row of bytes of our own, at its block. -/
def Mine (w : World) (B g N cap : Nat) (L : List Int) : Prop := w.ownsRow B 5 1 (.slice (some ⟨g, 0, none⟩) N cap) N (L.map (Value.int .u8)) ∧ L.length = N ∧ N ≤ cap ∧ cap ≤ maxLen ∧ B ≤ g

theorem mine_of {w : World} {B : Nat} {v : Value} {L : List Int} (h : w.ownsRow B 5 1 v L.length (L.map (Value.int .u8))) (hl : 0 < L.length) : ∃ g cap, v = .slice (some ⟨g, 0, none⟩) L.length cap ∧ Mine w B g L.length cap L := by
  rcases h.2 with ⟨_, h2⟩ | ⟨g, cap, cur, rfl, hB, hh, h3, h4, h5, h6⟩
  · omega
  · exact ⟨g, cap, rfl, h, rfl, h3, h4, hB⟩
theorem Mine.below {w w' : World} {B g N cap C : Nat} {L : List Int} (h : Mine w B g N cap L) (hb : Below C w w') (hC : w.heap.size ≤ C) : Mine w' B g N cap L := ⟨own_below h.1 hb hC, h.2⟩
theorem Mine.drewN {w : World} {B g N cap : Nat} {L : List Int} (h : Mine w B g N cap L) (q : Nat) : Mine (w.drewN q) B g N cap L := h
theorem Mine.seg {w : World} {B g N cap : Nat} {L : List Int} (h : Mine w B g N cap L) : Seg w (some ⟨g, 0, none⟩) N L := by
  obtain ⟨h1, rfl, h3, h4, _⟩ := h
  refine ⟨rfl, by omega, fun _ => ⟨g, 0, rfl, fun j hj => ?_⟩⟩
  rw [Nat.zero_add, h1.cellAt j (by omega)]
  simp [List.getElem?_eq_getElem hj]
theorem Mine.store {w : World} {B g N cap : Nat} {L : List Int} (h : Mine w B g N cap L) (k : Nat) (z : Int) : Mine (w.setCell ⟨g, k, none⟩ (.int .u8 z)) B g N cap (L.set k z) := by
  obtain ⟨h1, h2, h3⟩ := h
  exact ⟨by rw [List.map_set]; exact (h1.stored k _).1, by rw [List.length_set]; exact h2, h3⟩
end Go.Proofs.YtbdkelffncmkhaaGreatDoor
/- A row of ints of our own, at its block; the contract of copyOf. -/
namespace Go.Proofs.YtbdkelffncmkhaaGreatDoor
open Go.RowKit Go.Wire1

/-- A row of ints of our own, at its block. -/
def MineI (w : World) (B g N cap : Nat) (L : List Int) : Prop := w.ownsRow B 3 1 (.slice (some ⟨g, 0, none⟩) N cap) N (L.map (Value.int .i64)) ∧ L.length = N ∧ N ≤ cap ∧ cap ≤ maxLen ∧ B ≤ g

theorem mineI_of {w : World} {B : Nat} {v : Value} {L : List Int} (h : w.ownsRow B 3 1 v L.length (L.map (Value.int .i64))) (hl : 0 < L.length) : ∃ g cap, v = .slice (some ⟨g, 0, none⟩) L.length cap ∧ MineI w B g L.length cap L := by
  rcases h.2 with ⟨_, h2⟩ | ⟨g, cap, cur, rfl, hB, hh, h3, h4, h5, h6⟩
  · omega
  · exact ⟨g, cap, rfl, h, rfl, h3, h4, hB⟩
theorem MineI.below {w w' : World} {B g N cap C : Nat} {L : List Int} (h : MineI w B g N cap L) (hb : Below C w w') (hC : w.heap.size ≤ C) : MineI w' B g N cap L := ⟨own_below h.1 hb hC, h.2⟩
theorem MineI.drewN {w : World} {B g N cap : Nat} {L : List Int} (h : MineI w B g N cap L) (q : Nat) : MineI (w.drewN q) B g N cap L := h
theorem MineI.lt {w : World} {B g N cap : Nat} {L : List Int} (h : MineI w B g N cap L) : g < w.heap.size := (h.1.lt g rfl).2
theorem MineI.cell {w : World} {B g N cap : Nat} {L : List Int} (h : MineI w B g N cap L) {j : Nat} (hj : j < N) : w.cell? ⟨g, j, none⟩ = some (.int .i64 (L.getD j 0)) := by
  obtain ⟨h1, rfl, h3, h4, _⟩ := h
  rw [h1.cellAt j (by omega)]
  simp [List.getElem?_eq_getElem hj]
theorem MineI.frozen {w : World} {B g N cap : Nat} {L : List Int} (h : MineI w B g N cap L) (j : Nat) : w.frozen? ⟨g, j, none⟩ = false := h.1.frozenAt j
theorem MineI.seg {w : World} {B g N cap : Nat} {L : List Int} (h : MineI w B g N cap L) (hf : ∀ j, -9223372036854775808 ≤ L.getD j 0 ∧ L.getD j 0 ≤ 9223372036854775807) : SegI w (some ⟨g, 0, none⟩) N L :=
  ⟨h.2.1, by have := h.2.2; omega, fun _ => ⟨g, 0, rfl, fun j hj => by rw [Nat.zero_add]; exact h.cell hj⟩, hf⟩
theorem MineI.store {w : World} {B g N cap : Nat} {L : List Int} (h : MineI w B g N cap L) (k : Nat) (z : Int) : MineI (w.setCell ⟨g, k, none⟩ (.int .i64 z)) B g N cap (L.set k z) := by
  obtain ⟨h1, h2, h3⟩ := h
  exact ⟨by rw [List.map_set]; exact (h1.stored k _).1, by rw [List.length_set]; exact h2, h3⟩
theorem below_store {B g k : Nat} {w w' : World} (hb : Below B w w') (hg : B ≤ g) (v : Value) : Below B w (w'.setCell ⟨g, k, none⟩ v) := hb.setCell (p := ⟨g, k, none⟩) hg v

theorem Tryz.info3 : (Tryz.prog.info? 3).map (fun i => (i.zero, i.size, i.bytes)) = some (some (.int .i64 0), 1, 8) := by kernel_rfl
theorem Tryz.size3 : (Tryz.prog.info? 3).map (·.size) = some 1 := by kernel_rfl

theorem made_row {w : World} {B g n : Nat} {xs : List Value} (h : w.ownsRow B 3 1 (.slice (some ⟨g, 0, none⟩) n n) n xs) : ∃ cur : List Value, cur.length = n ∧ w.heap[g]? = some (.cells cur.toArray 3 (0, 0)) := by
  rcases h.2 with ⟨h1, _⟩ | ⟨g', cap, cur, h1, hB, hh, h3, h4, h5, h6⟩
  · cases h1
  · injection h1 with h7 h8 h9
    injection h7 with h7
    injection h7 with h7
    subst h7 h9
    exact ⟨cur.toList, by rw [Array.length_toList, h5, Nat.mul_one], by rw [Array.toArray_toList]; exact hh⟩
theorem own_of_row {w : World} {B g n : Nat} {cs : List Value} (h : w.heap[g]? = some (.cells cs.toArray 3 (0, 0))) (hB : B ≤ g) (hl : cs.length = n) (hm : n ≤ maxLen) : w.ownsRow B 3 1 (.slice (some ⟨g, 0, none⟩) n n) n cs :=
  ⟨by omega, .inr ⟨g, n, cs.toArray, rfl, hB, h, Nat.le_refl _, hm, by simp [hl], by simp [← hl]⟩⟩

end Go.Proofs.YtbdkelffncmkhaaGreatDoor
/- Lists that are laid anew, and rows of our own, as lists in memory. -/
namespace Go.Proofs.YtbdkelffncmkhaaGreatDoor
open Go.RowKit Go.Wire1

/-- Every number of a list is one of 64 bits. -/
def Fit (l : List Int) : Prop := ∀ j, -9223372036854775808 ≤ l.getD j 0 ∧ l.getD j 0 ≤ 9223372036854775807
theorem fit_of {l : List Int} (h : ∀ x ∈ l, -9223372036854775808 ≤ x ∧ x ≤ 9223372036854775807) : Fit l := fun j => by
  by_cases hj : j < l.length
  · rw [List.getD, List.getElem?_eq_getElem hj]; exact h _ (List.getElem_mem hj)
  · rw [List.getD, List.getElem?_eq_none (by omega)]; simp
theorem fit_ok {l : List Int} (h : okL l = true) : Fit l := fun j => by have := okL_at h j; omega

theorem cell_new (w : World) (cs : List Value) (t : TypeId) (j : Nat) : (w.alloc (.cells cs.toArray t)).cell? ⟨w.heap.size, j, none⟩ = cs[j]? := by
  have h : (w.alloc (.cells cs.toArray t)).heap[w.heap.size]? = some (.cells cs.toArray t (0, 0)) := heap_alloc_new w _
  rw [cell_of_row _ _ _ _ _ _ h]
  simp
theorem own_segI {w : World} {B : Nat} {v : Value} {l : List Int} (h : w.ownsRow B 3 1 v l.length (l.map (Value.int .i64))) (hf : Fit l) : ∃ a cap, v = .slice a l.length cap ∧ l.length ≤ cap ∧ SegI w a l.length l := by
  by_cases h0 : 0 < l.length
  · obtain ⟨g, cap, rfl, hm⟩ := mineI_of h h0
    exact ⟨_, _, rfl, hm.2.2.1, hm.seg hf⟩
  · have hl : l = [] := List.eq_nil_of_length_eq_zero (by omega)
    subst hl
    rcases h.2 with ⟨rfl, _⟩ | ⟨g, cap, cur, rfl, hB, hh, h3, h4, h5, h6⟩
    · exact ⟨none, 0, rfl, Nat.le_refl _, rfl, by unfold maxLen; omega, fun h => by omega, hf⟩
    · exact ⟨_, cap, rfl, h3, rfl, by unfold maxLen; omega, fun h => by omega, hf⟩
theorem _root_.Go.RowKit.Below.more {B : Nat} {x w : World} (h : Below B x w) (hB : B ≤ x.heap.size) (o : Obj) : Below B x (w.alloc o) := h.alloc (Nat.le_trans hB h.size) o
theorem _root_.Go.RowKit.Below.on {B : Nat} {x y z : World} (h : Below B x y) (k : Below y.heap.size y z) (hB : B ≤ x.heap.size) : Below B x z := h.trans (k.mono (Nat.le_trans hB h.size))
theorem _root_.Go.Wire1.SegI.on {w : World} {a : Option Addr} {n : Nat} {l : List Int} (h : SegI w a n l) (o : Obj) : SegI (w.alloc o) a n l := h.below ((Below.refl w.heap.size w).alloc (Nat.le_refl _) o) (Nat.le_refl _)
theorem own_base {w : World} {B B' : Nat} {e : TypeId} {s : Nat} {v : Value} {n : Nat} {xs : List Value} (h : w.ownsRow B e s v n xs) (hB : B' ≤ B) : w.ownsRow B' e s v n xs :=
  ⟨h.1, h.2.imp id fun ⟨g, cap, cur, h1, h2, h3⟩ => ⟨g, cap, cur, h1, Nat.le_trans hB h2, h3⟩⟩
theorem seg_lit {w : World} (l : List Int) (hl : l.length ≤ maxLen) {cs : Array Value} {t : TypeId} (hcs : cs = (l.map (Value.int .u8)).toArray) {b n : Nat} (hb : b = w.heap.size) (hn : n = l.length) : Seg (w.alloc (.cells cs t)) (some ⟨b, 0, none⟩) n l := by
  subst hcs hb hn
  refine ⟨rfl, hl, fun _ => ⟨_, 0, rfl, fun j hj => ?_⟩⟩
  rw [Nat.zero_add, cell_new]
  simp [hj]
end Go.Proofs.YtbdkelffncmkhaaGreatDoor
/- The contract of entriesOf: an array of seven entries as a value. -/
namespace Go.Proofs.YtbdkelffncmkhaaGreatDoor
open Go.RowKit Go.Wire1

/-- The seven entries, 0 where the list has none. -/
def arrL (l : List Int) : List Value := [.int .i64 (l.getD 0 0), .int .i64 (l.getD 1 0), .int .i64 (l.getD 2 0), .int .i64 (l.getD 3 0), .int .i64 (l.getD 4 0), .int .i64 (l.getD 5 0), .int .i64 (l.getD 6 0)]
def zer7 : List Value := [.int .i64 0, .int .i64 0, .int .i64 0, .int .i64 0, .int .i64 0, .int .i64 0, .int .i64 0]
end Go.Proofs.YtbdkelffncmkhaaGreatDoor
/- The contract of GetInt: the number, its bytes, the fault's number; it writes nothing that was there. -/
namespace Go.Proofs.YtbdkelffncmkhaaGreatDoor
open Go.RowKit Go.Wire1

set_option maxHeartbeats 1000000 in
set_option maxRecDepth 100000 in
/-- The deferred closure of GetInt in a frame that panics with a sentinel. -/
theorem catchI (b b1 b2 : Nat) (n1 : ¬ b = b1) (n2 : ¬ b = b2) (n3 : ¬ b1 = b2) (i : Nat) (hi : i < 5) (a : Nat → Addr) (w : World) (he : Errs w a) (x k e : Int)
    (hx : w.cell? ⟨b, 0, none⟩ = some (.int .i64 x)) (hk : w.cell? ⟨b1, 0, none⟩ = some (.int .i64 k)) (hee : w.cell? ⟨b2, 0, none⟩ = some (.int .i64 e))
    (fx : w.frozen? ⟨b, 0, none⟩ = false) (fk : w.frozen? ⟨b1, 0, none⟩ = false) (fe : w.frozen? ⟨b2, 0, none⟩ = false) :
    CallsD Tryz.prog 116 #[.pointer (some ⟨b, 0, none⟩), .pointer (some ⟨b1, 0, none⟩), .pointer (some ⟨b2, 0, none⟩)] (.panicking [{ v := errV (a i), recovered := false }]) w fun e u' w' =>
      e = .returned (.tuple #[]) ∧ u' = .panicking [{ v := errV (a i), recovered := true }] ∧ w' = ((w.setCell ⟨b, 0, none⟩ (.int .i64 0)).setCell ⟨b1, 0, none⟩ (.int .i64 0)).setCell ⟨b2, 0, none⟩ (.int .i64 (11 + (i : Int))) := by
  refine callsD_of_wpS Tryz.func116 rfl fun c₀ cs hu => ?_
  apply wpS_seq
  apply wpS_region
  simp [wpOpsS, go_sem, recoverD, hu, Tryz.ntmps116, Exit.thenS]
  refine wpS_of_wp ?_
  go_wp2_with fail
  refine (errno_any i hi a _ he).mono ?_
  rintro e w1 ⟨rfl, rfl⟩
  go_wp2
  simp [bodyPostS, results, Tryz.results116]

set_option maxHeartbeats 1000000 in
set_option maxRecDepth 100000 in
theorem catchI_idle (b b1 b2 : Nat) (w : World) :
    CallsD Tryz.prog 116 #[.pointer (some ⟨b, 0, none⟩), .pointer (some ⟨b1, 0, none⟩), .pointer (some ⟨b2, 0, none⟩)] .returning w fun e u' w' => e = .returned (.tuple #[]) ∧ u' = .returning ∧ w' = w := by
  refine callsD_of_wpS Tryz.func116 rfl fun c₀ cs hu => ?_
  apply wpS_seq
  apply wpS_region
  simp [wpOpsS, go_sem, recoverD, hu, Tryz.ntmps116, Exit.thenS]
  refine wpS_of_wp ?_
  go_wp2
  cases c₀
  simp_all [bodyPostS, results, Tryz.results116]

/-- What GetInt answers. -/
def GotI (r : Except Nat (Nat × Nat)) (e : Ending) : Prop :=
  match r with
  | .ok (x, m) => e = .returned (.tuple #[.int .i64 (unzig x), .int .i64 (m : Int), .int .i64 0])
  | .error i => e = .returned (.tuple #[.int .i64 0, .int .i64 0, .int .i64 (11 + (i : Int))])

set_option maxHeartbeats 1000000 in
set_option maxRecDepth 100000 in
theorem getInt_any (n cap : Nat) (sa : Option Addr) (l : List Int) (a : Nat → Addr) (w : World) (hs : Seg w sa n l) (hy : Byt l) (he : Errs w a) :
    Calls Tryz.prog 113 #[.slice sa n cap] w fun e w' => Below w.heap.size w w' ∧ GotI (dec l) e := by
  have hmf : ∀ (fn : Fn) (first cap : Array Value) (w : World), (Instr.makeFunc fn first cap).run Tryz.prog w = .ok (.func fn first cap) w := fun _ _ _ _ => rfl
  have hW := new4 w (.int .i64 0) (.int .i64 0) (.int .i64 0) 2 3 33 138 sa n cap
  obtain ⟨hcur, hbel, hx0, hk0, he0, fx0, fk0, fe0⟩ := hW
  have hs3 := hs.below hbel (Nat.le_refl _)
  have he3 := he.below hbel (Nat.le_refl _)
  have h5 : 7 ≤ w.heap.size := he.five
  have hsep : ∀ x, sa = some x → 0 < n → x.block ≠ w.heap.size + 1 + 1 + 1 := fun x hx hn => by
    have := hs.lt hn hx; omega
  have hab : ∀ i, i < 5 → (a i).block ≠ w.heap.size + 1 + 1 + 1 := fun i hi => by have := he.lt i hi; omega
  have HC := hide (signed_any (w.heap.size + 1 + 1 + 1) 0 n cap sa l 0 a _ hcur hs3 hsep hy (Nat.zero_le _) he3 (by omega) hab)
  clear hs3 he3 hsep hcur
  go_enter_defers Tryz.func113, Tryz.ntmps113
  go_wp2_with fail
  refine (unhide HC).mono ?_
  rintro e w1 ⟨ho, k', hc1, hk', hout⟩
  have hx1 := (World.cell?_of_block (a := ⟨w.heap.size, 0, none⟩) (ho.block w.heap.size (by omega))).trans hx0
  have hk1 := (World.cell?_of_block (a := ⟨w.heap.size + 1, 0, none⟩) (ho.block (w.heap.size + 1) (by omega))).trans hk0
  have he1 := (World.cell?_of_block (a := ⟨w.heap.size + 1 + 1, 0, none⟩) (ho.block (w.heap.size + 1 + 1) (by omega))).trans he0
  have fx1 := (World.frozen?_of_block (a := ⟨w.heap.size, 0, none⟩) (ho.block w.heap.size (by omega))).trans fx0
  have fk1 := (World.frozen?_of_block (a := ⟨w.heap.size + 1, 0, none⟩) (ho.block (w.heap.size + 1) (by omega))).trans fk0
  have fe1 := (World.frozen?_of_block (a := ⟨w.heap.size + 1 + 1, 0, none⟩) (ho.block (w.heap.size + 1 + 1) (by omega))).trans fe0
  have HB : Hid (Below w.heap.size w w1) := hbel.trans (ho.below (by omega))
  have HE : Hid (Errs w1 a) := (he.below hbel (Nat.le_refl _)).only ho (by omega) hab
  have hat : w1.cell? ⟨w.heap.size + 1 + 1 + 1, 1, none⟩ = some (.int .i64 (k' : Int)) := hc1.2.1
  clear hx0 hk0 he0 fx0 fk0 fe0 ho hc1 hbel HC hs he h5 hab
  rw [List.drop_zero] at hout
  generalize hB1 : w.heap.size + 1 = B1 at *
  generalize hB2 : B1 + 1 = B2 at *
  generalize hB3 : B2 + 1 = B3 at *
  generalize hB0 : w.heap.size = B0 at *
  have n1 : ¬ B0 = B1 := by omega
  have n2 : ¬ B0 = B2 := by omega
  have n3 : ¬ B1 = B2 := by omega
  have n4 : ¬ B3 = B0 := by omega
  have n5 : ¬ B3 = B1 := by omega
  have n6 : ¬ B3 = B2 := by omega
  have m1 : ¬ B1 = B0 := by omega
  have m2 : ¬ B2 = B0 := by omega
  have m3 : ¬ B2 = B1 := by omega
  have HL : Hid (B0 ≤ B1 ∧ B0 ≤ B2) := ⟨by omega, by omega⟩
  have HZ : Hid (w.heap.size = B0) := hB0
  clear hB1 hB2 hB3 hB0
  cases hd : dec l with
  | error i =>
    rw [hd] at hout
    obtain rfl : e = _ := hout
    have hi := dec_err hd
    have HD : Hid (dec l = .error i) := hd
    clear hd
    go_wp2
    refine leaves_cons (f := 116) (args := #[.pointer (some ⟨B0, 0, none⟩), .pointer (some ⟨B1, 0, none⟩), .pointer (some ⟨B2, 0, none⟩)]) (by simp) (by simp [go_sem]) ?_
    refine (catchI B0 B1 B2 n1 n2 n3 i (by omega) a w1 HE.out 0 0 0 hx1 hk1 he1 fx1 fk1 fe1).mono ?_
    rintro e u' w'' ⟨rfl, rfl, rfl⟩
    simp [Leaves, settle, results, Tryz.results113, go_sem, hx1, hk1, he1]
    rw [HZ.out, HD.out]
    exact ⟨((HB.out.setCell (p := ⟨B0, 0, none⟩) (Nat.le_refl _) _).setCell (p := ⟨B1, 0, none⟩) HL.out.1 _).setCell (p := ⟨B2, 0, none⟩) HL.out.2 _, rfl⟩
  | ok p =>
    obtain ⟨x, m⟩ := p
    rw [hd] at hout
    obtain ⟨rfl, hkk⟩ := hout
    obtain rfl : k' = m := by omega
    have HD : Hid (dec l = .ok (x, k')) := hd
    clear hd hkk
    go_wp2
    go_region
    all_goals (try go_wp2)
    all_goals refine leaves_cons (f := 116) (args := #[.pointer (some ⟨B0, 0, none⟩), .pointer (some ⟨B1, 0, none⟩), .pointer (some ⟨B2, 0, none⟩)]) (by simp) (by simp [go_sem]) ?_
    all_goals refine (catchI_idle B0 B1 B2 _).mono ?_
    all_goals rintro e u' w'' ⟨rfl, rfl, rfl⟩
    all_goals simp [Leaves, settle, results, Tryz.results113, go_sem, hx1, hk1, he1]
    all_goals rw [HZ.out, HD.out]
    all_goals exact ⟨((((HB.out.setCell (p := ⟨B0, 0, none⟩) (Nat.le_refl _) _).setCell (p := ⟨B0, 0, none⟩) (Nat.le_refl _) _).setCell (p := ⟨B1, 0, none⟩) HL.out.1 _).setCell (p := ⟨B2, 0, none⟩) HL.out.2 _).drew, rfl⟩
end Go.Proofs.YtbdkelffncmkhaaGreatDoor
