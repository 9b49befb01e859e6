/- A message's scan in memory (what is left of the bytes, the fault; what stands behind them stays), and the contracts of items' refuse, pass, next, number, two and packed. -/
import Derived.Test.YtooejihnifphkaaGreatDoorGet
import Derived.Test.YtooejihnifphkaaGreatDoorVUnp
import Derived.Test.YtooejihnifphkaaGreatDoorRdr
import Derived.Test.YtooejihnifphkaaGreatDoorDScan
namespace Go.Proofs.YtooejihnifphkaaGreatDoor
open Go.RowKit Go.Wire1

/-- A scan: its rest, its fault; V: what stands in the cells behind them. All that came in lies in the world w0. -/
structure Sc (w0 w : World) (g : Nat) (V : Nat → Option Value) (sa : Option Addr) (n cap : Nat) (l : List Int) (f : Int) : Prop where
  rest : w.cell? ⟨g, 0, none⟩ = some (.slice sa n cap)
  flt : w.cell? ⟨g, 1, none⟩ = some (.int .i64 f)
  more : ∀ j, 2 ≤ j → w.cell? ⟨g, j, none⟩ = V j
  thaw : ∀ j, w.frozen? ⟨g, j, none⟩ = false
  low : Below w0.heap.size w0 w
  hg : w0.heap.size ≤ g
  seg : Seg w0 sa n l
  src : Src sa n cap
  byt : Byt l

section
variable {w0 w w' : World} {g : Nat} {V : Nat → Option Value} {sa : Option Addr} {n cap : Nat} {l : List Int} {f : Int}
theorem Sc.lt (h : Sc w0 w g V sa n cap l f) : g < w.heap.size := cell_lt h.flt
theorem Sc.drewN (h : Sc w0 w g V sa n cap l f) (q : Nat) : Sc w0 (w.drewN q) g V sa n cap l f :=
  ⟨h.rest, h.flt, h.more, h.thaw, ⟨h.low.os, h.low.tape, h.low.output, h.low.size, h.low.block⟩, h.hg, h.seg, h.src, h.byt⟩
theorem Sc.drew (h : Sc w0 w g V sa n cap l f) : Sc w0 w.drew g V sa n cap l f := h.drewN 1
theorem Sc.below (h : Sc w0 w g V sa n cap l f) (hb : Below w.heap.size w w') : Sc w0 w' g V sa n cap l f := by
  have e : w'.heap[g]? = w.heap[g]? := hb.block g h.lt
  have c : ∀ j, w'.cell? ⟨g, j, none⟩ = w.cell? ⟨g, j, none⟩ := fun j => World.cell?_of_block (a := ⟨g, j, none⟩) e
  exact ⟨(c 0).trans h.rest, (c 1).trans h.flt, fun j hj => (c j).trans (h.more j hj), fun j => (World.frozen?_of_block (a := ⟨g, j, none⟩) e).trans (h.thaw j), (Touch.ofBelow hb).below h.hg h.low, h.hg, h.seg, h.src, h.byt⟩
theorem Sc.other {c o : Nat} (h : Sc w0 w g V sa n cap l f) (u : Value) (hc : c ≠ g) (h0 : w0.heap.size ≤ c) : Sc w0 (w.setCell ⟨c, o, none⟩ u) g V sa n cap l f := by
  have e : (w.setCell ⟨c, o, none⟩ u).heap[g]? = w.heap[g]? := Below.heap_setCell _ _ _ _ (by show g ≠ c; omega)
  have k : ∀ j, (w.setCell ⟨c, o, none⟩ u).cell? ⟨g, j, none⟩ = w.cell? ⟨g, j, none⟩ := fun j => World.cell?_of_block (a := ⟨g, j, none⟩) e
  exact ⟨(k 0).trans h.rest, (k 1).trans h.flt, fun j hj => (k j).trans (h.more j hj), fun j => (World.frozen?_of_block (a := ⟨g, j, none⟩) e).trans (h.thaw j), h.low.setCell (by show w0.heap.size ≤ c; omega) _, h.hg, h.seg, h.src, h.byt⟩
theorem Sc.setF (h : Sc w0 w g V sa n cap l f) (e : Int) : Sc w0 (w.setCell ⟨g, 1, none⟩ (.int .i64 e)) g V sa n cap l e ∧ Touch g w (w.setCell ⟨g, 1, none⟩ (.int .i64 e)) := by
  have ht : Touch g w (w.setCell ⟨g, 1, none⟩ (.int .i64 e)) := (Touch.refl g w).setB _
  refine ⟨⟨?_, World.cell?_setCell_same w ⟨g, 1, none⟩ _ h.flt, fun j hj => ?_, fun j => ?_, ht.below h.hg h.low, h.hg, h.seg, h.src, h.byt⟩, ht⟩
  · rw [World.cell?_setCell_other _ _ _ _ (by simp)]; exact h.rest
  · rw [World.cell?_setCell_other _ _ _ _ (by intro q; injection q with _ q2 _; omega)]; exact h.more j hj
  · rw [World.frozen?_setCell]; exact h.thaw j
theorem Sc.setR (h : Sc w0 w g V sa n cap l f) {sa' : Option Addr} {n' cap' : Nat} {l' : List Int} (hs : Seg w0 sa' n' l') (hc : Src sa' n' cap') (hy : Byt l') : Sc w0 (w.setCell ⟨g, 0, none⟩ (.slice sa' n' cap')) g V sa' n' cap' l' f ∧ Touch g w (w.setCell ⟨g, 0, none⟩ (.slice sa' n' cap')) := by
  have ht : Touch g w (w.setCell ⟨g, 0, none⟩ (.slice sa' n' cap')) := (Touch.refl g w).setB _
  refine ⟨⟨World.cell?_setCell_same w ⟨g, 0, none⟩ _ h.rest, ?_, fun j hj => ?_, fun j => ?_, ht.below h.hg h.low, h.hg, hs, hc, hy⟩, ht⟩
  · rw [World.cell?_setCell_other _ _ _ _ (by simp)]; exact h.flt
  · rw [World.cell?_setCell_other _ _ _ _ (by intro q; injection q with _ q2 _; omega)]; exact h.more j hj
  · rw [World.frozen?_setCell]; exact h.thaw j
end

section
variable (w0 : World) (g : Nat) (V : Nat → Option Value) (sa : Option Addr) (n cap : Nat) (l : List Int)
set_option maxHeartbeats 400000 in
set_option maxRecDepth 100000 in
theorem irefuse_any (f e : Int) (w : World) (h : Sc w0 w g V sa n cap l f) :
    Calls Tryz.prog 26 #[.pointer (some ⟨g, 0, none⟩), .int .i64 e] w fun r w' => r = .returned (.tuple #[]) ∧ Touch g w w' ∧ Sc w0 w' g V sa n cap l (refF e f) := by
  have c1 := h.flt
  have t1 := h.thaw 1
  have HS := hide h
  clear h
  by_cases h0 : f = 0
  · have R : Hid (Sc w0 (w.setCell ⟨g, 1, none⟩ (.int .i64 e)) g V sa n cap l (refF e f) ∧ Touch g w (w.setCell ⟨g, 1, none⟩ (.int .i64 e))) := by
      have : refF e f = e := by unfold refF; rw [if_pos h0]
      rw [this]; exact HS.out.setF e
    subst h0
    go_enter Tryz.func26, Tryz.ntmps26
    go_wp2
    go_end0
    exact ⟨rfl, R.out.2, R.out.1⟩
  · have R : Hid (Sc w0 w g V sa n cap l (refF e f)) := by
      have : refF e f = f := by unfold refF; rw [if_neg h0]
      rw [this]; exact HS.out
    go_enter Tryz.func26, Tryz.ntmps26
    have g0 : (f == 0) = false := by simpa using h0
    clear h0
    go_wp2
    go_end0
    exact ⟨rfl, Touch.refl _ _, R.out⟩
end

/-- A scan wherever its rest lies. -/
def Scx (w0 w : World) (g : Nat) (V : Nat → Option Value) (l : List Int) (f : Int) : Prop := ∃ sa n cap, Sc w0 w g V sa n cap l f

theorem src_cut {b off n cap k : Nat} (h : Src (some ⟨b, off, none⟩) n cap) (hk : k ≤ n) (hn : 0 < n) : Src (some ⟨b, off + k, none⟩) (n - k) (cap - k) := by
  rcases h with ⟨h, _⟩ | ⟨_, h1, h2⟩
  · omega
  · exact .inr ⟨⟨b, off + k, rfl⟩, by omega, by omega⟩

section
variable (w0 : World) (g : Nat) (V : Nat → Option Value) (l : List Int)
set_option maxHeartbeats 1000000 in
set_option maxRecDepth 100000 in
theorem ipass_any (k : Nat) (f e : Int) (w : World) (hk : k ≤ l.length) (h : Scx w0 w g V l f) :
    Calls Tryz.prog 72 #[.pointer (some ⟨g, 0, none⟩), .int .i64 (k : Int), .int .i64 e] w fun r w' => r = .returned (.tuple #[]) ∧ Touch g w w' ∧ Scx w0 w' g V (l.drop k) (refF e f) := by
  obtain ⟨sa, n, cap, h⟩ := h
  have hl : l.length = n := h.seg.1
  have c0 := h.rest
  have t0 := h.thaw 0
  have HS := hide h
  have hsrc := h.src
  have hseg := h.seg
  have hbyt := h.byt
  clear h
  rcases hsrc with ⟨hn, hc⟩ | ⟨⟨b, off, rfl⟩, hc1, hc2⟩
  · subst hn hc
    obtain rfl : k = 0 := by omega
    obtain rfl : l = [] := List.length_eq_zero_iff.1 hl
    have R := hide (HS.out.setR (sa' := sa) (n' := 0) (cap' := 0) (l' := []) hseg (.inl ⟨rfl, rfl⟩) hbyt)
    clear hseg hbyt
    cases sa with
    | none =>
      go_enter Tryz.func72, Tryz.ntmps72
      go_wp2_with fail
      refine (irefuse_any w0 g V none 0 0 [] f e _ R.out.1).mono ?_
      rintro r w1 ⟨rfl, T1, S1⟩
      have F := hide (And.intro (R.out.2.trans T1) S1)
      clear T1 S1
      go_wp2
      go_end0
      exact ⟨rfl, F.out.1, _, _, _, F.out.2⟩
    | some ad =>
      go_enter Tryz.func72, Tryz.ntmps72
      go_wp2_with fail
      refine (irefuse_any w0 g V (some ad) 0 0 [] f e _ R.out.1).mono ?_
      rintro r w1 ⟨rfl, T1, S1⟩
      have F := hide (And.intro (R.out.2.trans T1) S1)
      clear T1 S1
      go_wp2
      go_end0
      exact ⟨rfl, F.out.1, _, _, _, F.out.2⟩
  · unfold maxLen at hc2
    have hkn : k ≤ n := by omega
    have Y : Hid (Byt (l.drop k)) := byt_drop hbyt k
    by_cases hck : cap = k
    · obtain rfl : n = k := by omega
      subst hck
      have e0 : Hid (l.drop cap = []) := List.drop_eq_nil_of_le (by omega)
      rw [e0.out] at Y ⊢
      have R := hide (HS.out.setR (sa' := some ⟨b, off, none⟩) (n' := cap - cap) (cap' := 0) (l' := []) (by rw [Nat.sub_self]; exact seg_empty _ _) (.inl ⟨Nat.sub_self _, rfl⟩) Y.out)
      clear hseg hbyt e0
      go_enter Tryz.func72, Tryz.ntmps72
      go_wp2_with fail
      refine (irefuse_any w0 g V _ _ _ [] f e _ (by first | exact R.out.1 | (have q := R.out.1; simp only [Nat.sub_self] at q; exact q))).mono ?_
      rintro r w1 ⟨rfl, T1, S1⟩
      have F := hide (And.intro (Touch.trans (by first | exact R.out.2 | (have q := R.out.2; simp only [Nat.sub_self] at q; exact q)) T1) S1)
      clear T1 S1
      go_wp2
      go_end0
      exact ⟨rfl, F.out.1, _, _, _, F.out.2⟩
    · have R := hide (HS.out.setR (sa' := some ⟨b, off + k, none⟩) (n' := n - k) (cap' := cap - k) (l' := l.drop k) (hseg.from hkn) (.inr ⟨⟨b, off + k, rfl⟩, by omega, by unfold maxLen; omega⟩) Y.out)
      have hlt : k < cap := by omega
      clear hseg hbyt
      go_enter Tryz.func72, Tryz.ntmps72
      go_wp2_with fail
      refine (irefuse_any w0 g V _ _ _ (l.drop k) f e _ R.out.1).mono ?_
      rintro r w1 ⟨rfl, T1, S1⟩
      have F := hide (And.intro (R.out.2.trans T1) S1)
      clear T1 S1
      go_wp2
      go_end0
      exact ⟨rfl, F.out.1, _, _, _, F.out.2⟩

def iNext (l : List Int) (f : Int) : Int × List Int × Int := if f = 0 then (match l with | [] => (0, [], 11) | x :: r => (x, r, 0)) else (0, l, f)
def iNum (l : List Int) (f : Int) : Nat × List Int × Int := if f = 0 then (match dec l with | .ok (x, m) => (x, l.drop m, 0) | .error i => (0, l, 11 + (i : Int))) else (0, l, f)

set_option maxHeartbeats 1000000 in
set_option maxRecDepth 100000 in
theorem inext_any (f : Int) (w : World) (h : Scx w0 w g V l f) :
    Calls Tryz.prog 53 #[.pointer (some ⟨g, 0, none⟩)] w fun r w' => r = .returned (.int .i64 (iNext l f).1) ∧ Touch g w w' ∧ Scx w0 w' g V (iNext l f).2.1 (iNext l f).2.2 := by
  by_cases h0 : f = 0
  · subst h0
    cases l with
    | nil =>
      have e : Hid (iNext [] 0 = (0, [], 11)) := rfl
      rw [e.out]
      obtain ⟨sa, n, cap, h⟩ := h
      obtain rfl : 0 = n := h.seg.1
      have c0 := h.rest
      have HS := hide h
      clear h
      go_enter Tryz.func53, Tryz.ntmps53
      go_wp2_with fail
      refine (irefuse_any w0 g V sa 0 cap [] 0 11 _ HS.out).mono ?_
      rintro r w1 ⟨rfl, T1, S1⟩
      have c1 : w1.cell? ⟨g, 1, none⟩ = some (.int .i64 11) := S1.flt
      have F : Hid (Touch g w w1 ∧ Sc w0 w1 g V sa 0 cap [] 11) := ⟨T1, S1⟩
      clear T1 S1
      go_wp2
      go_ret
      exact ⟨rfl, F.out.1, _, _, _, F.out.2⟩
    | cons x r =>
      have e : Hid (iNext (x :: r) 0 = (x, r, 0)) := rfl
      rw [e.out]
      have HX := hide h
      obtain ⟨sa, n, cap, h⟩ := h
      have hn : r.length + 1 = n := h.seg.1
      have c0 := h.rest
      have c1 := h.flt
      obtain ⟨b, off, rfl, hc⟩ := (h.seg.below h.low (Nat.le_refl _)).2.2 (by omega)
      have d0 : w.cell? ⟨b, off, none⟩ = some (.int .u8 x) := by have := hc 0 (by omega); simpa using this
      have hx := h.byt x (by simp)
      clear h hc
      have hn0 : ((n : Int) == 0) = false := by rw [beq_eq_false_iff_ne]; omega
      have hnp : 0 < n := by omega
      go_enter Tryz.func53, Tryz.ntmps53
      go_wp2_with fail
      refine (ipass_any w0 g V (x :: r) 1 0 0 _ (by simp) HX.out).mono ?_
      rintro q w1 ⟨rfl, T1, S1⟩
      have F : Hid (Touch g w w1 ∧ Scx w0 w1 g V r 0) := ⟨T1, S1⟩
      clear T1 S1
      go_wp2
      go_ret
      exact ⟨rfl, F.out⟩
  · have e : Hid (iNext l f = (0, l, f)) := by show _ = _; unfold iNext; rw [if_neg h0]
    rw [e.out]
    have HX := hide h
    obtain ⟨sa, n, cap, h⟩ := h
    have c0 := h.rest
    have c1 := h.flt
    have HS := hide h
    clear h
    have g0 : (f == 0) = false := by simpa using h0
    have g1 : (f != 0) = true := by simpa using h0
    by_cases hn : n = 0
    · subst hn
      go_enter Tryz.func53, Tryz.ntmps53
      go_wp2_with fail
      refine (irefuse_any w0 g V sa 0 cap l f 11 _ HS.out).mono ?_
      rintro r w1 ⟨rfl, T1, S1⟩
      have ef : Hid (refF 11 f = f) := by simp [Hid, refF, h0]
      rw [ef.out] at S1
      have c2 : w1.cell? ⟨g, 1, none⟩ = some (.int .i64 f) := S1.flt
      have F : Hid (Touch g w w1 ∧ Sc w0 w1 g V sa 0 cap l f) := ⟨T1, S1⟩
      clear T1 S1 h0 c0 c1
      go_wp2
      go_ret
      exact ⟨rfl, F.out.1, _, _, _, F.out.2⟩
    · have hn0 : ((n : Int) == 0) = false := by rw [beq_eq_false_iff_ne]; omega
      clear h0
      go_enter Tryz.func53, Tryz.ntmps53
      go_wp2
      go_ret
      exact ⟨rfl, Touch.refl _ _, HX.out⟩

set_option maxHeartbeats 1000000 in
set_option maxRecDepth 100000 in
theorem inumber_any (a : Nat → Addr) (f : Int) (w : World) (he : Errs w0 a) (h : Scx w0 w g V l f) :
    Calls Tryz.prog 63 #[.pointer (some ⟨g, 0, none⟩)] w fun r w' => r = .returned (.int .u64 ((iNum l f).1 : Nat)) ∧ Touch g w w' ∧ Scx w0 w' g V (iNum l f).2.1 (iNum l f).2.2 := by
  have HX := hide h
  obtain ⟨sa, n, cap, h⟩ := h
  have c0 := h.rest
  have c1 := h.flt
  have HS := hide h
  have HE := hide he
  clear h he
  by_cases h0 : f = 0
  · subst h0
    cases hd : dec l with
    | ok p =>
      obtain ⟨x, m⟩ := p
      have e : Hid (iNum l 0 = (x, l.drop m, 0)) := by show _ = _; unfold iNum; rw [if_pos rfl, hd]
      rw [e.out]
      have hm := dec_len HS.out.byt hd
      have HD := hide hd
      clear e hd
      go_enter Tryz.func63, Tryz.ntmps63
      go_wp2_with fail
      refine (getUint_any n cap sa l a _ (HS.out.seg.below HS.out.low (Nat.le_refl _)) HS.out.byt (HE.out.below HS.out.low (Nat.le_refl _))).mono ?_
      rintro r w1 ⟨hb1, h2⟩
      rw [HD.out] at h2
      obtain rfl := h2
      have H1 : Hid (Scx w0 w1 g V l 0) := by obtain ⟨sa, n, cap, q⟩ := HX.out; exact ⟨sa, n, cap, q.below hb1⟩
      have T0 := hide (Touch.ofBelow (b := g) hb1)
      clear hb1
      go_wp2_with fail
      refine (ipass_any w0 g V l m 0 0 _ hm.2.2 H1.out).mono ?_
      rintro q w2 ⟨rfl, T1, S1⟩
      have F : Hid (Touch g w w2 ∧ Scx w0 w2 g V (l.drop m) 0) := ⟨T0.out.trans T1, S1⟩
      clear T1 S1
      go_wp2
      go_ret
      exact ⟨rfl, F.out⟩
    | error i =>
      have e : Hid (iNum l 0 = (0, l, 11 + (i : Int))) := by show _ = _; unfold iNum; rw [if_pos rfl, hd]
      rw [e.out]
      have HD := hide hd
      clear e hd
      go_enter Tryz.func63, Tryz.ntmps63
      go_wp2_with fail
      refine (getUint_any n cap sa l a _ (HS.out.seg.below HS.out.low (Nat.le_refl _)) HS.out.byt (HE.out.below HS.out.low (Nat.le_refl _))).mono ?_
      rintro r w1 ⟨hb1, h2⟩
      rw [HD.out] at h2
      obtain rfl := h2
      have H1 : Hid (Scx w0 w1 g V l 0) := by obtain ⟨sa, n, cap, q⟩ := HX.out; exact ⟨sa, n, cap, q.below hb1⟩
      have T0 := hide (Touch.ofBelow (b := g) hb1)
      clear hb1
      go_wp2_with fail
      refine (ipass_any w0 g V l 0 0 (11 + (i : Int)) _ (Nat.zero_le _) H1.out).mono ?_
      rintro q w2 ⟨rfl, T1, S1⟩
      have F : Hid (Touch g w w2 ∧ Scx w0 w2 g V l (11 + (i : Int))) := ⟨T0.out.trans T1, S1⟩
      clear T1 S1
      go_wp2
      go_ret
      exact ⟨rfl, F.out⟩
  · have e : Hid (iNum l f = (0, l, f)) := by show _ = _; unfold iNum; rw [if_neg h0]
    rw [e.out]
    have g1 : (f != 0) = true := by simpa using h0
    clear h0
    go_enter Tryz.func63, Tryz.ntmps63
    go_wp2
    go_ret
    exact ⟨rfl, Touch.refl _ _, HX.out⟩
end
end Go.Proofs.YtooejihnifphkaaGreatDoor
