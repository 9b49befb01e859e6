/- Texts of the proof, joined. -/
import Derived.Test.YtdokagebfeejbaaGreatDoorJ05
import Derived.Test.YtdokagebfeejbaaGreatDoorJ06
import Derived.Test.YtdokagebfeejbaaGreatDoorJ07
import Derived.Test.YtdokagebfeejbaaGreatDoorJ03
import Derived.Test.YtdokagebfeejbaaGreatDoorJ04
/- A command's scan in memory, and the contracts of its refuse, note, number, text, signed and kind. -/
namespace Go.Proofs.YtdokagebfeejbaaGreatDoor
open Go.RowKit Go.Wire1

/-- A scan: its reader, its fault. -/
structure Scn (w : World) (g b : Nat) (sa : Option Addr) (n cap k : Nat) (f ft : Int) (l : List Int) (a : Nat → Addr) : Prop where
  ptr : w.cell? ⟨g, 0, none⟩ = some (.pointer (some ⟨b, 0, none⟩))
  fault : w.cell? ⟨g, 1, none⟩ = some (.int .i64 ft)
  thaw : w.frozen? ⟨g, 1, none⟩ = false
  rdr : Rdr w b sa n cap k f l a
  ne : g ≠ b
  sep : ∀ x, sa = some x → 0 < n → x.block ≠ g
  apart : ∀ i, i < 5 → (a i).block ≠ g
  six : 7 ≤ g

/-- Of what was there nothing but the blocks g and b has turned. -/
structure Turn (g b : Nat) (w w' : World) : Prop where
  os : w'.os = w.os
  tape : w'.tape = w.tape
  output : w'.output = w.output
  size : w.heap.size ≤ w'.heap.size
  block : ∀ k, k < w.heap.size → k ≠ g → k ≠ b → w'.heap[k]? = w.heap[k]?
theorem Turn.refl (g b : Nat) (w : World) : Turn g b w w := ⟨rfl, rfl, rfl, Nat.le_refl _, fun _ _ _ _ => rfl⟩
theorem Turn.trans {g b : Nat} {x y z : World} (h : Turn g b x y) (k : Turn g b y z) : Turn g b x z :=
  ⟨k.os.trans h.os, k.tape.trans h.tape, k.output.trans h.output, Nat.le_trans h.size k.size, fun i hi h1 h2 => (k.block i (Nat.lt_of_lt_of_le hi h.size) h1 h2).trans (h.block i hi h1 h2)⟩
theorem Turn.cell {g b : Nat} {x y : World} (h : Turn g b x y) {p : Addr} {v : Value} (hp : x.cell? p = some v) (h1 : p.block ≠ g) (h2 : p.block ≠ b) (hs : p.spot = none) : y.cell? p = some v := by
  obtain ⟨pb, po, ps⟩ := p
  obtain rfl : ps = none := hs
  rw [World.cell?_of_block (w := x) (h.block pb (cell_lt hp) h1 h2)]; exact hp
theorem Turn.below {g b B : Nat} {w0 x y : World} (h : Turn g b x y) (h0 : Below B w0 x) (hg : B ≤ g) (hb : B ≤ b) (hB : B ≤ x.heap.size) : Below B w0 y :=
  ⟨h.os.trans h0.os, h.tape.trans h0.tape, h.output.trans h0.output, Nat.le_trans h0.size h.size, fun i hi => (h.block i (by omega) (by omega) (by omega)).trans (h0.block i hi)⟩
section
variable {w w' : World} {g b : Nat} {sa : Option Addr} {n cap k : Nat} {f ft : Int} {l : List Int} {a : Nat → Addr}
theorem Scn.lt (h : Scn w g b sa n cap k f ft l a) : g < w.heap.size := cell_lt h.fault
/-- Behind a reading. -/
theorem Scn.read {k' : Nat} {f' : Int} (h : Scn w g b sa n cap k f ft l a) (ht : Touch b w w') (hr : Rdr w' b sa n cap k' f' l a) : Scn w' g b sa n cap k' f' ft l a := by
  have e : w'.heap[g]? = w.heap[g]? := ht.block g h.lt h.ne
  exact ⟨(World.cell?_of_block (a := ⟨g, 0, none⟩) e).trans h.ptr, (World.cell?_of_block (a := ⟨g, 1, none⟩) e).trans h.fault, (World.frozen?_of_block (a := ⟨g, 1, none⟩) e).trans h.thaw, hr, h.ne, h.sep, h.apart, h.six⟩
theorem Scn.drewN (h : Scn w g b sa n cap k f ft l a) (q : Nat) : Scn (w.drewN q) g b sa n cap k f ft l a := ⟨h.ptr, h.fault, h.thaw, h.rdr.drewN q, h.ne, h.sep, h.apart, h.six⟩
theorem Scn.drew (h : Scn w g b sa n cap k f ft l a) : Scn w.drew g b sa n cap k f ft l a := h.drewN 1
theorem Scn.below {C : Nat} (h : Scn w g b sa n cap k f ft l a) (hb : Below C w w') (hC : w.heap.size ≤ C) : Scn w' g b sa n cap k f ft l a := by
  have hl := h.lt
  have e : w'.heap[g]? = w.heap[g]? := hb.block g (by omega)
  exact ⟨(World.cell?_of_block (a := ⟨g, 0, none⟩) e).trans h.ptr, (World.cell?_of_block (a := ⟨g, 1, none⟩) e).trans h.fault, (World.frozen?_of_block (a := ⟨g, 1, none⟩) e).trans h.thaw, h.rdr.below hb hC, h.ne, h.sep, h.apart, h.six⟩
theorem Scn.set (h : Scn w g b sa n cap k f ft l a) (e : Int) : Scn (w.setCell ⟨g, 1, none⟩ (.int .i64 e)) g b sa n cap k f e l a ∧ Touch g w (w.setCell ⟨g, 1, none⟩ (.int .i64 e)) := by
  have ht : Touch g w (w.setCell ⟨g, 1, none⟩ (.int .i64 e)) := (Touch.refl g w).setB _
  refine ⟨⟨?_, World.cell?_setCell_same w ⟨g, 1, none⟩ _ h.fault, ?_, h.rdr.beside ht (fun e => h.ne e.symm) h.sep h.six h.apart, h.ne, h.sep, h.apart, h.six⟩, ht⟩
  · rw [World.cell?_setCell_other _ _ _ _ (by simp)]; exact h.ptr
  · rw [World.frozen?_setCell]; exact h.thaw
end

def refF (e ft : Int) : Int := if ft = 0 then e else ft
/-- What note makes of the scan's fault. -/
def noteF (own f ft : Int) : Int := if f = 0 then ft else if f = 14 ∨ f = 15 then refF own ft else refF f ft

section
variable (g b n cap k : Nat) (f ft : Int) (sa : Option Addr) (l : List Int) (a : Nat → Addr)
end
end Go.Proofs.YtdokagebfeejbaaGreatDoor
/- A message's scan in memory (what is left of the bytes, the fault; what stands behind them stays), and the contracts of items' refuse, pass, next, number, two and packed. -/
namespace Go.Proofs.YtdokagebfeejbaaGreatDoor
open Go.RowKit Go.Wire1

/-- A scan: its rest, its fault; V: what stands in the cells behind them. All that came in lies in the world w0. -/
structure Sc (w0 w : World) (g : Nat) (V : Nat → Option Value) (sa : Option Addr) (n cap : Nat) (l : List Int) (f : Int) : Prop where
  rest : w.cell? ⟨g, 0, none⟩ = some (.slice sa n cap)
  flt : w.cell? ⟨g, 1, none⟩ = some (.int .i64 f)
  more : ∀ j, 2 ≤ j → w.cell? ⟨g, j, none⟩ = V j
  thaw : ∀ j, w.frozen? ⟨g, j, none⟩ = false
  low : Below w0.heap.size w0 w
  hg : w0.heap.size ≤ g
  seg : Seg w0 sa n l
  src : Src sa n cap
  byt : Byt l

section
variable {w0 w w' : World} {g : Nat} {V : Nat → Option Value} {sa : Option Addr} {n cap : Nat} {l : List Int} {f : Int}
theorem Sc.lt (h : Sc w0 w g V sa n cap l f) : g < w.heap.size := cell_lt h.flt
theorem Sc.drewN (h : Sc w0 w g V sa n cap l f) (q : Nat) : Sc w0 (w.drewN q) g V sa n cap l f :=
  ⟨h.rest, h.flt, h.more, h.thaw, ⟨h.low.os, h.low.tape, h.low.output, h.low.size, h.low.block⟩, h.hg, h.seg, h.src, h.byt⟩
theorem Sc.drew (h : Sc w0 w g V sa n cap l f) : Sc w0 w.drew g V sa n cap l f := h.drewN 1
theorem Sc.below (h : Sc w0 w g V sa n cap l f) (hb : Below w.heap.size w w') : Sc w0 w' g V sa n cap l f := by
  have e : w'.heap[g]? = w.heap[g]? := hb.block g h.lt
  have c : ∀ j, w'.cell? ⟨g, j, none⟩ = w.cell? ⟨g, j, none⟩ := fun j => World.cell?_of_block (a := ⟨g, j, none⟩) e
  exact ⟨(c 0).trans h.rest, (c 1).trans h.flt, fun j hj => (c j).trans (h.more j hj), fun j => (World.frozen?_of_block (a := ⟨g, j, none⟩) e).trans (h.thaw j), (Touch.ofBelow hb).below h.hg h.low, h.hg, h.seg, h.src, h.byt⟩
theorem Sc.other {c o : Nat} (h : Sc w0 w g V sa n cap l f) (u : Value) (hc : c ≠ g) (h0 : w0.heap.size ≤ c) : Sc w0 (w.setCell ⟨c, o, none⟩ u) g V sa n cap l f := by
  have e : (w.setCell ⟨c, o, none⟩ u).heap[g]? = w.heap[g]? := Below.heap_setCell _ _ _ _ (by show g ≠ c; omega)
  have k : ∀ j, (w.setCell ⟨c, o, none⟩ u).cell? ⟨g, j, none⟩ = w.cell? ⟨g, j, none⟩ := fun j => World.cell?_of_block (a := ⟨g, j, none⟩) e
  exact ⟨(k 0).trans h.rest, (k 1).trans h.flt, fun j hj => (k j).trans (h.more j hj), fun j => (World.frozen?_of_block (a := ⟨g, j, none⟩) e).trans (h.thaw j), h.low.setCell (by show w0.heap.size ≤ c; omega) _, h.hg, h.seg, h.src, h.byt⟩
theorem Sc.setF (h : Sc w0 w g V sa n cap l f) (e : Int) : Sc w0 (w.setCell ⟨g, 1, none⟩ (.int .i64 e)) g V sa n cap l e ∧ Touch g w (w.setCell ⟨g, 1, none⟩ (.int .i64 e)) := by
  have ht : Touch g w (w.setCell ⟨g, 1, none⟩ (.int .i64 e)) := (Touch.refl g w).setB _
  refine ⟨⟨?_, World.cell?_setCell_same w ⟨g, 1, none⟩ _ h.flt, fun j hj => ?_, fun j => ?_, ht.below h.hg h.low, h.hg, h.seg, h.src, h.byt⟩, ht⟩
  · rw [World.cell?_setCell_other _ _ _ _ (by simp)]; exact h.rest
  · rw [World.cell?_setCell_other _ _ _ _ (by intro q; injection q with _ q2 _; omega)]; exact h.more j hj
  · rw [World.frozen?_setCell]; exact h.thaw j
theorem Sc.setR (h : Sc w0 w g V sa n cap l f) {sa' : Option Addr} {n' cap' : Nat} {l' : List Int} (hs : Seg w0 sa' n' l') (hc : Src sa' n' cap') (hy : Byt l') : Sc w0 (w.setCell ⟨g, 0, none⟩ (.slice sa' n' cap')) g V sa' n' cap' l' f ∧ Touch g w (w.setCell ⟨g, 0, none⟩ (.slice sa' n' cap')) := by
  have ht : Touch g w (w.setCell ⟨g, 0, none⟩ (.slice sa' n' cap')) := (Touch.refl g w).setB _
  refine ⟨⟨World.cell?_setCell_same w ⟨g, 0, none⟩ _ h.rest, ?_, fun j hj => ?_, fun j => ?_, ht.below h.hg h.low, h.hg, hs, hc, hy⟩, ht⟩
  · rw [World.cell?_setCell_other _ _ _ _ (by simp)]; exact h.flt
  · rw [World.cell?_setCell_other _ _ _ _ (by intro q; injection q with _ q2 _; omega)]; exact h.more j hj
  · rw [World.frozen?_setCell]; exact h.thaw j
end

section
variable (w0 : World) (g : Nat) (V : Nat → Option Value) (sa : Option Addr) (n cap : Nat) (l : List Int)
set_option maxHeartbeats 400000 in
set_option maxRecDepth 100000 in
theorem irefuse_any (f e : Int) (w : World) (h : Sc w0 w g V sa n cap l f) :
    Calls Tryz.prog 40 #[.pointer (some ⟨g, 0, none⟩), .int .i64 e] w fun r w' => r = .returned (.tuple #[]) ∧ Touch g w w' ∧ Sc w0 w' g V sa n cap l (refF e f) := by
  have c1 := h.flt
  have t1 := h.thaw 1
  have HS := hide h
  clear h
  by_cases h0 : f = 0
  · have R : Hid (Sc w0 (w.setCell ⟨g, 1, none⟩ (.int .i64 e)) g V sa n cap l (refF e f) ∧ Touch g w (w.setCell ⟨g, 1, none⟩ (.int .i64 e))) := by
      have : refF e f = e := by unfold refF; rw [if_pos h0]
      rw [this]; exact HS.out.setF e
    subst h0
    go_enter Tryz.func40, Tryz.ntmps40
    go_wp2
    go_end0
    exact ⟨rfl, R.out.2, R.out.1⟩
  · have R : Hid (Sc w0 w g V sa n cap l (refF e f)) := by
      have : refF e f = f := by unfold refF; rw [if_neg h0]
      rw [this]; exact HS.out
    go_enter Tryz.func40, Tryz.ntmps40
    have g0 : (f == 0) = false := by simpa using h0
    clear h0
    go_wp2
    go_end0
    exact ⟨rfl, Touch.refl _ _, R.out⟩
end

/-- A scan wherever its rest lies. -/
def Scx (w0 w : World) (g : Nat) (V : Nat → Option Value) (l : List Int) (f : Int) : Prop := ∃ sa n cap, Sc w0 w g V sa n cap l f

section
variable (w0 : World) (g : Nat) (V : Nat → Option Value) (l : List Int)
set_option maxHeartbeats 1000000 in
set_option maxRecDepth 100000 in
theorem ipass_any (k : Nat) (f e : Int) (w : World) (hk : k ≤ l.length) (h : Scx w0 w g V l f) :
    Calls Tryz.prog 93 #[.pointer (some ⟨g, 0, none⟩), .int .i64 (k : Int), .int .i64 e] w fun r w' => r = .returned (.tuple #[]) ∧ Touch g w w' ∧ Scx w0 w' g V (l.drop k) (refF e f) := by
  obtain ⟨sa, n, cap, h⟩ := h
  have hl : l.length = n := h.seg.1
  have c0 := h.rest
  have t0 := h.thaw 0
  have HS := hide h
  have hsrc := h.src
  have hseg := h.seg
  have hbyt := h.byt
  clear h
  rcases hsrc with ⟨hn, hc⟩ | ⟨⟨b, off, rfl⟩, hc1, hc2⟩
  · subst hn hc
    obtain rfl : k = 0 := by omega
    obtain rfl : l = [] := List.length_eq_zero_iff.1 hl
    have R := hide (HS.out.setR (sa' := sa) (n' := 0) (cap' := 0) (l' := []) hseg (.inl ⟨rfl, rfl⟩) hbyt)
    clear hseg hbyt
    cases sa with
    | none =>
      go_enter Tryz.func93, Tryz.ntmps93
      go_wp2_with fail
      refine (irefuse_any w0 g V none 0 0 [] f e _ R.out.1).mono ?_
      rintro r w1 ⟨rfl, T1, S1⟩
      have F := hide (And.intro (R.out.2.trans T1) S1)
      clear T1 S1
      go_wp2
      go_end0
      exact ⟨rfl, F.out.1, _, _, _, F.out.2⟩
    | some ad =>
      go_enter Tryz.func93, Tryz.ntmps93
      go_wp2_with fail
      refine (irefuse_any w0 g V (some ad) 0 0 [] f e _ R.out.1).mono ?_
      rintro r w1 ⟨rfl, T1, S1⟩
      have F := hide (And.intro (R.out.2.trans T1) S1)
      clear T1 S1
      go_wp2
      go_end0
      exact ⟨rfl, F.out.1, _, _, _, F.out.2⟩
  · unfold maxLen at hc2
    have hkn : k ≤ n := by omega
    have Y : Hid (Byt (l.drop k)) := byt_drop hbyt k
    by_cases hck : cap = k
    · obtain rfl : n = k := by omega
      subst hck
      have e0 : Hid (l.drop cap = []) := List.drop_eq_nil_of_le (by omega)
      rw [e0.out] at Y ⊢
      have R := hide (HS.out.setR (sa' := some ⟨b, off, none⟩) (n' := cap - cap) (cap' := 0) (l' := []) (by rw [Nat.sub_self]; exact seg_empty _ _) (.inl ⟨Nat.sub_self _, rfl⟩) Y.out)
      clear hseg hbyt e0
      go_enter Tryz.func93, Tryz.ntmps93
      go_wp2_with fail
      refine (irefuse_any w0 g V _ _ _ [] f e _ (by first | exact R.out.1 | (have q := R.out.1; simp only [Nat.sub_self] at q; exact q))).mono ?_
      rintro r w1 ⟨rfl, T1, S1⟩
      have F := hide (And.intro (Touch.trans (by first | exact R.out.2 | (have q := R.out.2; simp only [Nat.sub_self] at q; exact q)) T1) S1)
      clear T1 S1
      go_wp2
      go_end0
      exact ⟨rfl, F.out.1, _, _, _, F.out.2⟩
    · have R := hide (HS.out.setR (sa' := some ⟨b, off + k, none⟩) (n' := n - k) (cap' := cap - k) (l' := l.drop k) (hseg.from hkn) (.inr ⟨⟨b, off + k, rfl⟩, by omega, by unfold maxLen; omega⟩) Y.out)
      have hlt : k < cap := by omega
      clear hseg hbyt
      go_enter Tryz.func93, Tryz.ntmps93
      go_wp2_with fail
      refine (irefuse_any w0 g V _ _ _ (l.drop k) f e _ R.out.1).mono ?_
      rintro r w1 ⟨rfl, T1, S1⟩
      have F := hide (And.intro (R.out.2.trans T1) S1)
      clear T1 S1
      go_wp2
      go_end0
      exact ⟨rfl, F.out.1, _, _, _, F.out.2⟩

def iNext (l : List Int) (f : Int) : Int × List Int × Int := if f = 0 then (match l with | [] => (0, [], 11) | x :: r => (x, r, 0)) else (0, l, f)
def iNum (l : List Int) (f : Int) : Nat × List Int × Int := if f = 0 then (match dec l with | .ok (x, m) => (x, l.drop m, 0) | .error i => (0, l, 11 + (i : Int))) else (0, l, f)

set_option maxHeartbeats 1000000 in
set_option maxRecDepth 100000 in
theorem inext_any (f : Int) (w : World) (h : Scx w0 w g V l f) :
    Calls Tryz.prog 74 #[.pointer (some ⟨g, 0, none⟩)] w fun r w' => r = .returned (.int .i64 (iNext l f).1) ∧ Touch g w w' ∧ Scx w0 w' g V (iNext l f).2.1 (iNext l f).2.2 := by
  by_cases h0 : f = 0
  · subst h0
    cases l with
    | nil =>
      have e : Hid (iNext [] 0 = (0, [], 11)) := rfl
      rw [e.out]
      obtain ⟨sa, n, cap, h⟩ := h
      obtain rfl : 0 = n := h.seg.1
      have c0 := h.rest
      have HS := hide h
      clear h
      go_enter Tryz.func74, Tryz.ntmps74
      go_wp2_with fail
      refine (irefuse_any w0 g V sa 0 cap [] 0 11 _ HS.out).mono ?_
      rintro r w1 ⟨rfl, T1, S1⟩
      have c1 : w1.cell? ⟨g, 1, none⟩ = some (.int .i64 11) := S1.flt
      have F : Hid (Touch g w w1 ∧ Sc w0 w1 g V sa 0 cap [] 11) := ⟨T1, S1⟩
      clear T1 S1
      go_wp2
      go_ret
      exact ⟨rfl, F.out.1, _, _, _, F.out.2⟩
    | cons x r =>
      have e : Hid (iNext (x :: r) 0 = (x, r, 0)) := rfl
      rw [e.out]
      have HX := hide h
      obtain ⟨sa, n, cap, h⟩ := h
      have hn : r.length + 1 = n := h.seg.1
      have c0 := h.rest
      have c1 := h.flt
      obtain ⟨b, off, rfl, hc⟩ := (h.seg.below h.low (Nat.le_refl _)).2.2 (by omega)
      have d0 : w.cell? ⟨b, off, none⟩ = some (.int .u8 x) := by have := hc 0 (by omega); simpa using this
      have hx := h.byt x (by simp)
      clear h hc
      have hn0 : ((n : Int) == 0) = false := by rw [beq_eq_false_iff_ne]; omega
      have hnp : 0 < n := by omega
      go_enter Tryz.func74, Tryz.ntmps74
      go_wp2_with fail
      refine (ipass_any w0 g V (x :: r) 1 0 0 _ (by simp) HX.out).mono ?_
      rintro q w1 ⟨rfl, T1, S1⟩
      have F : Hid (Touch g w w1 ∧ Scx w0 w1 g V r 0) := ⟨T1, S1⟩
      clear T1 S1
      go_wp2
      go_ret
      exact ⟨rfl, F.out⟩
  · have e : Hid (iNext l f = (0, l, f)) := by show _ = _; unfold iNext; rw [if_neg h0]
    rw [e.out]
    have HX := hide h
    obtain ⟨sa, n, cap, h⟩ := h
    have c0 := h.rest
    have c1 := h.flt
    have HS := hide h
    clear h
    have g0 : (f == 0) = false := by simpa using h0
    have g1 : (f != 0) = true := by simpa using h0
    by_cases hn : n = 0
    · subst hn
      go_enter Tryz.func74, Tryz.ntmps74
      go_wp2_with fail
      refine (irefuse_any w0 g V sa 0 cap l f 11 _ HS.out).mono ?_
      rintro r w1 ⟨rfl, T1, S1⟩
      have ef : Hid (refF 11 f = f) := by simp [Hid, refF, h0]
      rw [ef.out] at S1
      have c2 : w1.cell? ⟨g, 1, none⟩ = some (.int .i64 f) := S1.flt
      have F : Hid (Touch g w w1 ∧ Sc w0 w1 g V sa 0 cap l f) := ⟨T1, S1⟩
      clear T1 S1 h0 c0 c1
      go_wp2
      go_ret
      exact ⟨rfl, F.out.1, _, _, _, F.out.2⟩
    · have hn0 : ((n : Int) == 0) = false := by rw [beq_eq_false_iff_ne]; omega
      clear h0
      go_enter Tryz.func74, Tryz.ntmps74
      go_wp2
      go_ret
      exact ⟨rfl, Touch.refl _ _, HX.out⟩

set_option maxHeartbeats 1000000 in
set_option maxRecDepth 100000 in
theorem inumber_any (a : Nat → Addr) (f : Int) (w : World) (he : Errs w0 a) (h : Scx w0 w g V l f) :
    Calls Tryz.prog 84 #[.pointer (some ⟨g, 0, none⟩)] w fun r w' => r = .returned (.int .u64 ((iNum l f).1 : Nat)) ∧ Touch g w w' ∧ Scx w0 w' g V (iNum l f).2.1 (iNum l f).2.2 := by
  have HX := hide h
  obtain ⟨sa, n, cap, h⟩ := h
  have c0 := h.rest
  have c1 := h.flt
  have HS := hide h
  have HE := hide he
  clear h he
  by_cases h0 : f = 0
  · subst h0
    cases hd : dec l with
    | ok p =>
      obtain ⟨x, m⟩ := p
      have e : Hid (iNum l 0 = (x, l.drop m, 0)) := by show _ = _; unfold iNum; rw [if_pos rfl, hd]
      rw [e.out]
      have hm := dec_len HS.out.byt hd
      have HD := hide hd
      clear e hd
      go_enter Tryz.func84, Tryz.ntmps84
      go_wp2_with fail
      refine (getUint_any n cap sa l a _ (HS.out.seg.below HS.out.low (Nat.le_refl _)) HS.out.byt (HE.out.below HS.out.low (Nat.le_refl _))).mono ?_
      rintro r w1 ⟨hb1, h2⟩
      rw [HD.out] at h2
      obtain rfl := h2
      have H1 : Hid (Scx w0 w1 g V l 0) := by obtain ⟨sa, n, cap, q⟩ := HX.out; exact ⟨sa, n, cap, q.below hb1⟩
      have T0 := hide (Touch.ofBelow (b := g) hb1)
      clear hb1
      go_wp2_with fail
      refine (ipass_any w0 g V l m 0 0 _ hm.2.2 H1.out).mono ?_
      rintro q w2 ⟨rfl, T1, S1⟩
      have F : Hid (Touch g w w2 ∧ Scx w0 w2 g V (l.drop m) 0) := ⟨T0.out.trans T1, S1⟩
      clear T1 S1
      go_wp2
      go_ret
      exact ⟨rfl, F.out⟩
    | error i =>
      have e : Hid (iNum l 0 = (0, l, 11 + (i : Int))) := by show _ = _; unfold iNum; rw [if_pos rfl, hd]
      rw [e.out]
      have HD := hide hd
      clear e hd
      go_enter Tryz.func84, Tryz.ntmps84
      go_wp2_with fail
      refine (getUint_any n cap sa l a _ (HS.out.seg.below HS.out.low (Nat.le_refl _)) HS.out.byt (HE.out.below HS.out.low (Nat.le_refl _))).mono ?_
      rintro r w1 ⟨hb1, h2⟩
      rw [HD.out] at h2
      obtain rfl := h2
      have H1 : Hid (Scx w0 w1 g V l 0) := by obtain ⟨sa, n, cap, q⟩ := HX.out; exact ⟨sa, n, cap, q.below hb1⟩
      have T0 := hide (Touch.ofBelow (b := g) hb1)
      clear hb1
      go_wp2_with fail
      refine (ipass_any w0 g V l 0 0 (11 + (i : Int)) _ (Nat.zero_le _) H1.out).mono ?_
      rintro q w2 ⟨rfl, T1, S1⟩
      have F : Hid (Touch g w w2 ∧ Scx w0 w2 g V l (11 + (i : Int))) := ⟨T0.out.trans T1, S1⟩
      clear T1 S1
      go_wp2
      go_ret
      exact ⟨rfl, F.out⟩
  · have e : Hid (iNum l f = (0, l, f)) := by show _ = _; unfold iNum; rw [if_neg h0]
    rw [e.out]
    have g1 : (f != 0) = true := by simpa using h0
    clear h0
    go_enter Tryz.func84, Tryz.ntmps84
    go_wp2
    go_ret
    exact ⟨rfl, Touch.refl _ _, HX.out⟩
end
end Go.Proofs.YtdokagebfeejbaaGreatDoor
/- What a message's scan reads of two numbers, of an instance, a ballot and a vote, in both versions: as functions of the bytes, and the contracts. -/
namespace Go.Proofs.YtdokagebfeejbaaGreatDoor
open Go.RowKit Go.Wire1

def top31 (x : Nat) : Int := ((min x 2147483647 : Nat) : Int)
/-- Two numbers; one number that is two. -/
def iTwo (l : List Int) (f : Int) : (Int × Int) × List Int × Int := ((top31 (iNum l f).1, top31 (iNum (iNum l f).2.1 (iNum l f).2.2).1), (iNum (iNum l f).2.1 (iNum l f).2.2).2)
def iPack (l : List Int) (f : Int) : (Int × Int) × List Int × Int := ((top31 ((iNum l f).1 / 8), (((iNum l f).1 % 8 : Nat) : Int)), (iNum l f).2)
def unl (b : Bool) (e : Int) : Int := if b then 0 else e

theorem iNum_lt {l : List Int} {f : Int} (hy : Byt l) : (iNum l f).1 < 18446744073709551616 := by
  unfold iNum
  split
  · split
    · rename_i x m hd
      exact dec_lt hy hd
    · simp
  · simp
theorem Scx.byt {w0 w : World} {g : Nat} {V : Nat → Option Value} {l : List Int} {f : Int} (h : Scx w0 w g V l f) : Byt l := by
  obtain ⟨_, _, _, h⟩ := h; exact h.byt
theorem Scx.lt {w0 w : World} {g : Nat} {V : Nat → Option Value} {l : List Int} {f : Int} (h : Scx w0 w g V l f) : g < w.heap.size := by
  obtain ⟨_, _, _, h⟩ := h; exact h.lt
theorem Scx.hg {w0 w : World} {g : Nat} {V : Nat → Option Value} {l : List Int} {f : Int} (h : Scx w0 w g V l f) : w0.heap.size ≤ g := by
  obtain ⟨_, _, _, h⟩ := h; exact h.hg
theorem Scx.low {w0 w : World} {g : Nat} {V : Nat → Option Value} {l : List Int} {f : Int} (h : Scx w0 w g V l f) : Below w0.heap.size w0 w := by
  obtain ⟨_, _, _, h⟩ := h; exact h.low
theorem Scx.more {w0 w : World} {g : Nat} {V : Nat → Option Value} {l : List Int} {f : Int} (h : Scx w0 w g V l f) {j : Nat} (hj : 2 ≤ j) : w.cell? ⟨g, j, none⟩ = V j := by
  obtain ⟨_, _, _, h⟩ := h; exact h.more j hj
theorem Scx.flt {w0 w : World} {g : Nat} {V : Nat → Option Value} {l : List Int} {f : Int} (h : Scx w0 w g V l f) : w.cell? ⟨g, 1, none⟩ = some (.int .i64 f) := by
  obtain ⟨_, _, _, h⟩ := h; exact h.flt
theorem Scx.below {w0 w w' : World} {g : Nat} {V : Nat → Option Value} {l : List Int} {f : Int} (h : Scx w0 w g V l f) (hb : Below w.heap.size w w') : Scx w0 w' g V l f := by
  obtain ⟨a, b, c, h⟩ := h; exact ⟨a, b, c, h.below hb⟩
theorem Scx.alloc {w0 w : World} {g : Nat} {V : Nat → Option Value} {l : List Int} {f : Int} (h : Scx w0 w g V l f) (o : Obj) : Scx w0 (w.alloc o) g V l f := h.below ((Below.refl _ _).alloc (Nat.le_refl _) _)
theorem Scx.drewN {w0 w : World} {g : Nat} {V : Nat → Option Value} {l : List Int} {f : Int} (h : Scx w0 w g V l f) (q : Nat) : Scx w0 (w.drewN q) g V l f := by
  obtain ⟨a, b, c, h⟩ := h; exact ⟨a, b, c, h.drewN q⟩
theorem Scx.drew {w0 w : World} {g : Nat} {V : Nat → Option Value} {l : List Int} {f : Int} (h : Scx w0 w g V l f) : Scx w0 w.drew g V l f := h.drewN 1
theorem Scx.other {w0 w : World} {g : Nat} {V : Nat → Option Value} {l : List Int} {f : Int} {c o : Nat} (h : Scx w0 w g V l f) (u : Value) (hc : c ≠ g) (h0 : w0.heap.size ≤ c) : Scx w0 (w.setCell ⟨c, o, none⟩ u) g V l f := by
  obtain ⟨a, b, c', h⟩ := h; exact ⟨a, b, c', h.other u hc h0⟩

set_option maxHeartbeats 400000 in
theorem unless_any (b : Bool) (e : Int) (w : World) : Calls Tryz.prog 75 #[.bool b, .int .i64 e] w fun r w' => r = .returned (.int .i64 (unl b e)) ∧ w = w' := by
  cases b
  all_goals
    go_enter Tryz.func75, Tryz.ntmps75
    go_wp2
    go_ret
    exact ⟨rfl, rfl⟩
set_option maxHeartbeats 400000 in
theorem intOf_any (x : Nat) (w : World) : Calls Tryz.prog 83 #[.int .u64 (x : Int)] w fun r w' => r = .returned (.int .i64 (top31 x)) ∧ w = w' := by
  have e : (min (x : Int) 2147483647) = top31 x := by unfold top31; omega
  have b1 : 0 ≤ top31 x := by unfold top31; omega
  have b2 : top31 x ≤ 2147483647 := by unfold top31; omega
  generalize top31 x = y at *
  go_enter Tryz.func83, Tryz.ntmps83
  go_wp2
  go_ret
  exact ⟨rfl, rfl⟩

section
variable (w0 : World) (g : Nat) (V : Nat → Option Value) (l : List Int)
theorem irefuse_x (f e : Int) (w : World) (h : Scx w0 w g V l f) :
    Calls Tryz.prog 40 #[.pointer (some ⟨g, 0, none⟩), .int .i64 e] w fun r w' => r = .returned (.tuple #[]) ∧ Touch g w w' ∧ Scx w0 w' g V l (refF e f) := by
  obtain ⟨sa, n, cap, h⟩ := h
  exact (irefuse_any w0 g V sa n cap l f e w h).mono fun r w' ⟨h1, h2, h3⟩ => ⟨h1, h2, _, _, _, h3⟩

set_option maxHeartbeats 1000000 in
set_option maxRecDepth 100000 in
theorem itwo_any (a : Nat → Addr) (f : Int) (w : World) (he : Errs w0 a) (h : Scx w0 w g V l f) :
    Calls Tryz.prog 73 #[.pointer (some ⟨g, 0, none⟩)] w fun r w' => r = .returned (.tuple #[.int .i64 (iTwo l f).1.1, .int .i64 (iTwo l f).1.2]) ∧ Touch g w w' ∧ Scx w0 w' g V (iTwo l f).2.1 (iTwo l f).2.2 := by
  have HX := hide h
  have HE := hide he
  clear h he
  unfold iTwo
  simp only
  obtain ⟨x, l1, f1, e1⟩ : ∃ x l1 f1, Hid (iNum l f = (x, l1, f1)) := ⟨_, _, _, rfl⟩
  rw [e1.out]
  simp only
  obtain ⟨y, l2, f2, e2⟩ : ∃ x l2 f2, Hid (iNum l1 f1 = (x, l2, f2)) := ⟨_, _, _, rfl⟩
  rw [e2.out]
  simp only
  go_enter Tryz.func73, Tryz.ntmps73
  go_wp2_with fail
  refine (inumber_any w0 g V l a f _ HE.out HX.out).mono ?_
  rintro r w1 ⟨rfl, T1, S1⟩
  rw [e1.out] at S1 ⊢
  simp only at S1 ⊢
  have HT1 := hide T1
  have HS1 := hide S1
  clear T1 S1 HX
  go_wp2_with fail
  refine (intOf_any x _).mono ?_
  rintro r w1' ⟨rfl, rfl⟩
  go_wp2_with fail
  refine (inumber_any w0 g V l1 a f1 _ HE.out HS1.out).mono ?_
  rintro r w2 ⟨rfl, T2, S2⟩
  rw [e2.out] at S2 ⊢
  simp only at S2 ⊢
  have HT2 := hide (HT1.out.trans T2)
  have HS2 := hide S2
  clear T2 S2 HS1 HT1
  go_wp2_with fail
  refine (intOf_any y _).mono ?_
  rintro r w2' ⟨rfl, rfl⟩
  go_wp2
  go_ret2
  exact ⟨rfl, HT2.out, HS2.out⟩

set_option maxHeartbeats 1000000 in
set_option maxRecDepth 100000 in
theorem ipacked_any (a : Nat → Addr) (f : Int) (w : World) (he : Errs w0 a) (h : Scx w0 w g V l f) :
    Calls Tryz.prog 77 #[.pointer (some ⟨g, 0, none⟩)] w fun r w' => r = .returned (.tuple #[.int .i64 (iPack l f).1.1, .int .i64 (iPack l f).1.2]) ∧ Touch g w w' ∧ Scx w0 w' g V (iPack l f).2.1 (iPack l f).2.2 := by
  have HX := hide h
  have HE := hide he
  have hlt := iNum_lt (f := f) h.byt
  clear h he
  unfold iPack
  simp only
  obtain ⟨x, l1, f1, e1⟩ : ∃ x l1 f1, Hid (iNum l f = (x, l1, f1)) := ⟨_, _, _, rfl⟩
  rw [e1.out] at hlt ⊢
  simp only at hlt ⊢
  obtain ⟨q, hq⟩ : ∃ q, x / 8 = q := ⟨_, rfl⟩
  obtain ⟨m, hm⟩ : ∃ m, x % 8 = m := ⟨_, rfl⟩
  rw [hq, hm]
  have q1 : (x : Int) / 8 = (q : Int) := by omega
  have q2 : (x : Int) % 8 = (m : Int) := by omega
  have q3 : Int.tdiv (x : Int) 8 = (q : Int) := by rw [Int.tdiv_eq_ediv_of_nonneg (by omega)]; exact q1
  have q4 : Int.tmod (x : Int) 8 = (m : Int) := by rw [Int.tmod_eq_emod_of_nonneg (by omega)]; exact q2
  have q5 : m < 8 := by omega
  go_enter Tryz.func77, Tryz.ntmps77
  go_wp2_with fail
  refine (inumber_any w0 g V l a f _ HE.out HX.out).mono ?_
  rintro r w1 ⟨rfl, T1, S1⟩
  rw [e1.out] at S1 ⊢
  simp only at S1 ⊢
  have HT1 := hide T1
  have HS1 := hide S1
  clear T1 S1 HX
  go_wp2_with fail
  refine (intOf_any q _).mono ?_
  rintro r w1' ⟨rfl, rfl⟩
  go_wp2
  go_ret2
  exact ⟨rfl, HT1.out, HS1.out⟩
end
end Go.Proofs.YtdokagebfeejbaaGreatDoor
