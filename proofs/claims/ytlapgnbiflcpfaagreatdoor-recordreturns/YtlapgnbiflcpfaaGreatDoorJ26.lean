/- Texts of the proof, joined. -/
import Derived.Test.YtlapgnbiflcpfaaGreatDoorJ08
import Derived.Test.YtlapgnbiflcpfaaGreatDoorJ19
import Derived.Test.YtlapgnbiflcpfaaGreatDoorJ20
import Derived.Test.YtlapgnbiflcpfaaGreatDoorJ25
import Derived.Test.YtlapgnbiflcpfaaGreatDoorJ11
import Derived.Test.YtlapgnbiflcpfaaGreatDoorJ22
/- What package record's reader reads, as mathematics; the reader in memory, and the contracts of its small methods. -/
namespace Go.Proofs.YtlapgnbiflcpfaaGreatDoor
open Go.RowKit Go.Wire1

def rWh (l : List Int) : Nat × List Int × Int := match dec l with | .ok (x, m) => (x, l.drop m, 0) | .error i => (0, l, 11 + (i : Int))
def rOct (l : List Int) : Int × List Int × Int := match l with | [] => (0, [], 11) | x :: t => (x, t, 0)
def t31 (x : Nat) : Int := ((min x 2147483647 : Nat) : Int)
/-- The error of a field's reading. -/
def rdE (k : Nat) (r : Rc) (l : List Int) (x : Nat) : Int :=
  match x with
  | 119 => (rWh l).2.2
  | 110 => (rWh l).2.2
  | 105 => (rWh l).2.2
  | 98 => (rWh l).2.2
  | 115 => if (rOct l).2.2 = 0 then ((unlR (decide ((rOct l).1 ≤ 1)) 64 : Nat) : Int) else (rOct l).2.2
  | 99 => (decC 2 l).2.2
  | 113 => if noopR r then 0 else (rWh l).2.2
  | _ => if noopR r then 0 else ((upE (upk 2 (k : Int) l) : Nat) : Int)
/-- What is left behind it. -/
def rdL (k : Nat) (r : Rc) (l : List Int) (x : Nat) : List Int :=
  match x with
  | 119 => (rWh l).2.1
  | 110 => (rWh l).2.1
  | 105 => (rWh l).2.1
  | 98 => (rWh l).2.1
  | 115 => (rOct l).2.1
  | 99 => l.drop (decC 2 l).2.1
  | 113 => if noopR r then l else (rWh l).2.1
  | _ => if noopR r then l else l.drop (upN (upk 2 (k : Int) l))
/-- The record with the field that was read. -/
def rdR (k : Nat) (r : Rc) (l : List Int) (x : Nat) : Rc :=
  match x with
  | 119 => { r with id := t31 (rWh l).1 }
  | 110 => { r with n := t31 (rWh l).1 }
  | 105 => { r with num := t31 ((rWh l).1 / 8), row := (((rWh l).1 % 8 : Nat) : Int) }
  | 98 => { r with round := t31 ((rWh l).1 / 8), who := (((rWh l).1 % 8 : Nat) : Int) }
  | 115 => { r with same := (rOct l).1 == 1 }
  | 99 => { r with c := (decC 2 l).1 }
  | 113 => if noopR r then r else { r with seq := t31 (rWh l).1 }
  | _ => { r with deps := if noopR r then List.replicate k 0 else upL (upk 2 (k : Int) l) }
/-- Where a record's Deps lie is of no weight. -/
def _root_.Go.Wire1.Rc.lay (r : Rc) (a : Option Addr) (d c : Nat) : Rc := { r with da := a, dn := d, dc := c }

theorem rdecC_le {v : Int} {l : List Int} (hy : Byt l) : (decC v l).2.1 ≤ l.length := by
  by_cases h : (decC v l).2.2 = 0
  · exact (decC_one hy h).2.2.2.1
  · unfold decC at h ⊢
    split
    · split
      · rename_i h1 h2
        rw [if_pos h1, if_pos h2] at h
        exact absurd rfl h
      · exact Nat.zero_le _
    · exact Nat.zero_le _
/-- A reader in memory. -/
structure RdS (w0 w : World) (g k : Nat) (sa : Option Addr) (m cap : Nat) (l : List Int) (r : Rc) : Prop where
  box : Blk w g ([.int .i64 (k : Int), .slice sa m cap] ++ rcs r)
  low : Below w0.heap.size w0 w
  hg : w0.heap.size ≤ g
  seg : Seg w0 sa m l
  src : Src sa m cap
  byt : Byt l
  dep : SegI w r.da r.dn r.deps
  far : ∀ x, r.da = some x → 0 < r.dn → g < x.block
def Rsx (w0 w : World) (g k : Nat) (l : List Int) (r : Rc) : Prop := ∃ sa m cap, RdS w0 w g k sa m cap l r
theorem touch_segI {w w' : World} {g : Nat} {a : Option Addr} {n : Nat} {l : List Int} (T : Touch g w w') (h : SegI w a n l) (hf : ∀ x, a = some x → 0 < n → g < x.block) : SegI w' a n l := by
  obtain ⟨h1, h2, h3, h4⟩ := h
  refine ⟨h1, h2, fun hn => ?_, h4⟩
  obtain ⟨b, off, rfl, hc⟩ := h3 hn
  exact ⟨b, off, rfl, fun j hj => by rw [World.cell?_of_block (w := w) (T.block b (cell_lt (hc j hj)) (Nat.ne_of_gt (hf _ rfl hn)))]; exact hc j hj⟩
section
variable {w0 w w' : World} {g k : Nat} {sa : Option Addr} {m cap : Nat} {l : List Int} {r : Rc}
theorem RdS.lt (h : RdS w0 w g k sa m cap l r) : g < w.heap.size := h.box.lt
theorem RdS.on (h : RdS w0 w g k sa m cap l r) (hb : Below w.heap.size w w') : RdS w0 w' g k sa m cap l r :=
  ⟨h.box.on hb, h.low.trans (hb.mono h.low.size), h.hg, h.seg, h.src, h.byt, h.dep.below hb (Nat.le_refl _), h.far⟩
theorem Rsx.on (h : Rsx w0 w g k l r) (hb : Below w.heap.size w w') : Rsx w0 w' g k l r := by obtain ⟨a, b, c, h⟩ := h; exact ⟨a, b, c, h.on hb⟩
theorem RdS.drewN (h : RdS w0 w g k sa m cap l r) (n : Nat) : RdS w0 (w.drewN n) g k sa m cap l r := ⟨h.box.drewN n, h.low.drewN' n, h.hg, h.seg, h.src, h.byt, h.dep.drewN n, h.far⟩
theorem Rsx.drew (h : Rsx w0 w g k l r) : Rsx w0 w.drew g k l r := by obtain ⟨a, b, c, h⟩ := h; exact ⟨a, b, c, h.drewN 1⟩
theorem Rsx.lt (h : Rsx w0 w g k l r) : g < w.heap.size := by obtain ⟨a, b, c, h⟩ := h; exact h.lt
theorem Rsx.low (h : Rsx w0 w g k l r) : Below w0.heap.size w0 w := by obtain ⟨a, b, c, h⟩ := h; exact h.low
theorem Rsx.byt (h : Rsx w0 w g k l r) : Byt l := by obtain ⟨a, b, c, h⟩ := h; exact h.byt
theorem RdS.cell (h : RdS w0 w g k sa m cap l r) {j : Nat} {u : Value} (hu : (rcs r)[j]? = some u) : w.cell? ⟨g, j + 2, none⟩ = some u := h.box.cell (j + 2) u hu
theorem RdS.range (h : RdS w0 w g k sa m cap l r) : w.rangeAt g 2 (rcs r) := fun j u hu => by rw [Nat.add_comm]; exact h.cell hu
theorem RdS.c0 (h : RdS w0 w g k sa m cap l r) : w.cell? ⟨g, 0, none⟩ = some (.int .i64 (k : Int)) := h.box.cell 0 _ rfl
theorem RdS.c1 (h : RdS w0 w g k sa m cap l r) : w.cell? ⟨g, 1, none⟩ = some (.slice sa m cap) := h.box.cell 1 _ rfl
/-- A field is written. -/
theorem RdS.put (h : RdS w0 w g k sa m cap l r) (j : Nat) (v : Value) (r' : Rc) (hr : (rcs r).set j v = rcs r') (ha : r'.da = r.da) (hn : r'.dn = r.dn) (hd : r'.deps = r.deps) :
    RdS w0 (w.setCell ⟨g, j + 2, none⟩ v) g k sa m cap l r' ∧ Touch g w (w.setCell ⟨g, j + 2, none⟩ v) := by
  have T : Touch g w (w.setCell ⟨g, j + 2, none⟩ v) := (Touch.refl g w).setB _
  have hb := h.box.setAt (j + 2) v
  refine ⟨⟨?_, T.below h.hg h.low, h.hg, h.seg, h.src, h.byt, ?_, ?_⟩, T⟩
  · rw [← hr]; exact hb
  · rw [ha, hn, hd]; exact touch_segI T h.dep h.far
  · rw [ha, hn]; exact h.far
/-- The rest is written. -/
theorem RdS.setR (h : RdS w0 w g k sa m cap l r) {sa' : Option Addr} {m' cap' : Nat} {l' : List Int} (hs : Seg w0 sa' m' l') (hc : Src sa' m' cap') (hy : Byt l') :
    RdS w0 (w.setCell ⟨g, 1, none⟩ (.slice sa' m' cap')) g k sa' m' cap' l' r ∧ Touch g w (w.setCell ⟨g, 1, none⟩ (.slice sa' m' cap')) := by
  have T : Touch g w (w.setCell ⟨g, 1, none⟩ (.slice sa' m' cap')) := (Touch.refl g w).setB _
  exact ⟨⟨h.box.setAt 1 _, T.below h.hg h.low, h.hg, hs, hc, hy, touch_segI T h.dep h.far, h.far⟩, T⟩
end
set_option maxHeartbeats 4000000 in
set_option maxRecDepth 100000 in
theorem rintOf_any (x : Nat) (w : World) : Calls Tryz.prog 77 #[.int .u64 (x : Int)] w fun r w' => r = .returned (.int .i64 (t31 x)) ∧ w = w' := by
  have e : (min (x : Int) 2147483647) = t31 x := by unfold t31; omega
  have b1 : 0 ≤ t31 x := by unfold t31; omega
  have b2 : t31 x ≤ 2147483647 := by unfold t31; omega
  generalize t31 x = y at *
  go_enter Tryz.func77, Tryz.ntmps77
  go_wp2
  go_ret
  exact ⟨rfl, rfl⟩

section
variable (w0 : World) (g k : Nat) (r : Rc)
set_option maxHeartbeats 4000000 in
set_option maxRecDepth 100000 in
theorem rpass_any (l : List Int) (j : Nat) (w : World) (hj : j ≤ l.length) (h : Rsx w0 w g k l r) :
    Calls Tryz.prog 64 #[.pointer (some ⟨g, 0, none⟩), .int .i64 (j : Int)] w fun e w' => e = .returned (.tuple #[]) ∧ Touch g w w' ∧ Rsx w0 w' g k (l.drop j) r := by
  obtain ⟨sa, m, cap, h⟩ := h
  have hl : l.length = m := h.seg.1
  have c1 := h.c1
  have t1 := h.box.thaw 1
  have HS := hide h
  have hsrc := h.src
  have hseg := h.seg
  have hbyt := h.byt
  clear h
  rcases hsrc with ⟨hn, hc⟩ | ⟨⟨b, off, rfl⟩, hc1, hc2⟩
  · subst hn hc
    obtain rfl : j = 0 := by omega
    obtain rfl : l = [] := List.length_eq_zero_iff.1 hl
    have R := hide (HS.out.setR (sa' := sa) (m' := 0) (cap' := 0) (l' := []) hseg (.inl ⟨rfl, rfl⟩) hbyt)
    clear hseg hbyt
    cases sa with
    | none =>
      go_enter Tryz.func64, Tryz.ntmps64
      go_wp2
      go_end0
      exact ⟨rfl, R.out.2, _, _, _, R.out.1⟩
    | some ad =>
      go_enter Tryz.func64, Tryz.ntmps64
      go_wp2
      go_end0
      exact ⟨rfl, R.out.2, _, _, _, R.out.1⟩
  · unfold maxLen at hc2
    have hkn : j ≤ m := by omega
    have Y : Hid (Byt (l.drop j)) := byt_drop hbyt j
    by_cases hck : cap = j
    · obtain rfl : m = j := by omega
      subst hck
      have e0 : Hid (l.drop cap = []) := List.drop_eq_nil_of_le (by omega)
      rw [e0.out] at Y ⊢
      have R := hide (HS.out.setR (sa' := some ⟨b, off, none⟩) (m' := cap - cap) (cap' := 0) (l' := []) (by rw [Nat.sub_self]; exact seg_empty _ _) (.inl ⟨Nat.sub_self _, rfl⟩) Y.out)
      rw [Nat.sub_self] at R
      clear hseg hbyt e0
      go_enter Tryz.func64, Tryz.ntmps64
      go_wp2
      go_end0
      exact ⟨rfl, by first | exact R.out.2 | (simp only [Nat.sub_self]; exact R.out.2), by first | exact ⟨_, _, _, R.out.1⟩ | (simp only [Nat.sub_self]; exact ⟨_, _, _, R.out.1⟩)⟩
    · have R := hide (HS.out.setR (sa' := some ⟨b, off + j, none⟩) (m' := m - j) (cap' := cap - j) (l' := l.drop j) (hseg.from hkn) (.inr ⟨⟨b, off + j, rfl⟩, by omega, by unfold maxLen; omega⟩) Y.out)
      have hlt : j < cap := by omega
      clear hseg hbyt
      go_enter Tryz.func64, Tryz.ntmps64
      go_wp2
      go_end0
      exact ⟨rfl, R.out.2, _, _, _, R.out.1⟩
set_option maxHeartbeats 4000000 in
set_option maxRecDepth 100000 in
theorem rwhole_any (l : List Int) (a : Nat → Addr) (w : World) (he : Errs w0 a) (h : Rsx w0 w g k l r) :
    Calls Tryz.prog 76 #[.pointer (some ⟨g, 0, none⟩)] w fun e w' => e = .returned (.tuple #[.int .u64 ((rWh l).1 : Nat), .int .i64 (rWh l).2.2]) ∧ Touch g w w' ∧ Rsx w0 w' g k (rWh l).2.1 r := by
  obtain ⟨sa, m, cap, h⟩ := h
  have c1 := h.c1
  have HS := hide h
  have HE := hide he
  clear h he
  cases hd : dec l with
  | ok p =>
    obtain ⟨x, j⟩ := p
    have e : Hid (rWh l = (x, l.drop j, 0)) := by show _ = _; unfold rWh; rw [hd]
    rw [e.out]
    have hm := dec_len HS.out.byt hd
    clear e
    have HD := hide hd
    clear hd
    go_enter Tryz.func76, Tryz.ntmps76
    go_wp2_with fail
    refine (getUint_any m cap sa l a _ (HS.out.seg.below HS.out.low (Nat.le_refl _)) HS.out.byt (HE.out.below HS.out.low (Nat.le_refl _))).mono ?_
    rintro e w1 ⟨hb1, h2⟩
    rw [HD.out] at h2
    obtain rfl := h2
    have H1 : Hid (Rsx w0 w1 g k l r) := ⟨sa, m, cap, HS.out.on hb1⟩
    have T0 := hide (Touch.ofBelow (b := g) hb1)
    clear hb1
    go_wp2_with fail
    refine (rpass_any w0 g k r l j _ hm.2.2 H1.out).mono ?_
    rintro q w2 ⟨rfl, T1, S1⟩
    have F := hide (And.intro (T0.out.trans T1) S1)
    clear T1 S1
    go_wp2
    go_ret2
    exact ⟨rfl, F.out⟩
  | error i =>
    have e : Hid (rWh l = (0, l, 11 + (i : Int))) := by show _ = _; unfold rWh; rw [hd]
    rw [e.out]
    clear e
    have HD := hide hd
    clear hd
    go_enter Tryz.func76, Tryz.ntmps76
    go_wp2_with fail
    refine (getUint_any m cap sa l a _ (HS.out.seg.below HS.out.low (Nat.le_refl _)) HS.out.byt (HE.out.below HS.out.low (Nat.le_refl _))).mono ?_
    rintro e w1 ⟨hb1, h2⟩
    rw [HD.out] at h2
    obtain rfl := h2
    have H1 : Hid (Rsx w0 w1 g k l r) := ⟨sa, m, cap, HS.out.on hb1⟩
    have T0 := hide (Touch.ofBelow (b := g) hb1)
    clear hb1
    go_wp2_with fail
    refine (rpass_any w0 g k r l 0 _ (Nat.zero_le _) H1.out).mono ?_
    rintro q w2 ⟨rfl, T1, S1⟩
    have F := hide (And.intro (T0.out.trans T1) S1)
    clear T1 S1
    go_wp2
    go_ret2
    exact ⟨rfl, F.out⟩
set_option maxHeartbeats 4000000 in
set_option maxRecDepth 100000 in
theorem rnum_any (l : List Int) (a : Nat → Addr) (w : World) (he : Errs w0 a) (h : Rsx w0 w g k l r) :
    Calls Tryz.prog 58 #[.pointer (some ⟨g, 0, none⟩)] w fun e w' => e = .returned (.tuple #[.int .i64 (t31 (rWh l).1), .int .i64 (rWh l).2.2]) ∧ Touch g w w' ∧ Rsx w0 w' g k (rWh l).2.1 r := by
  have HX := hide h
  have HE := hide he
  obtain ⟨x, l1, e1, hx⟩ : ∃ x l1 e1, Hid (rWh l = (x, l1, e1)) := ⟨_, _, _, rfl⟩
  rw [hx.out]
  clear h he
  go_enter Tryz.func58, Tryz.ntmps58
  go_wp2_with fail
  refine (rwhole_any w0 g k r l a _ HE.out HX.out).mono ?_
  rintro e w1 ⟨rfl, T1, S1⟩
  rw [hx.out] at S1 ⊢
  have F := hide (And.intro T1 S1)
  clear T1 S1
  go_wp2_with fail
  refine (rintOf_any x _).mono ?_
  rintro e w2 ⟨rfl, rfl⟩
  go_wp2
  go_ret2
  exact ⟨rfl, F.out⟩
set_option maxHeartbeats 4000000 in
set_option maxRecDepth 100000 in
theorem rpack_any (l : List Int) (a : Nat → Addr) (w : World) (he : Errs w0 a) (h : Rsx w0 w g k l r) :
    Calls Tryz.prog 60 #[.pointer (some ⟨g, 0, none⟩)] w fun e w' => e = .returned (.tuple #[.int .i64 (t31 ((rWh l).1 / 8)), .int .i64 (((rWh l).1 % 8 : Nat) : Int), .int .i64 (rWh l).2.2]) ∧ Touch g w w' ∧ Rsx w0 w' g k (rWh l).2.1 r := by
  have HX := hide h
  have HE := hide he
  obtain ⟨x, l1, e1, hx⟩ : ∃ x l1 e1, Hid (rWh l = (x, l1, e1)) := ⟨_, _, _, rfl⟩
  rw [hx.out]
  have hx64 : x < 18446744073709551616 := by
    cases hd : dec l with
    | ok p =>
      obtain ⟨y, j⟩ := p
      have e := hx.out
      unfold rWh at e
      rw [hd] at e
      simp only [Prod.mk.injEq] at e
      have := dec_lt h.byt hd
      omega
    | error i =>
      have e := hx.out
      unfold rWh at e
      rw [hd] at e
      simp only [Prod.mk.injEq] at e
      omega
  obtain ⟨q, hq⟩ : ∃ q, x / 8 = q := ⟨_, rfl⟩
  obtain ⟨m, hm⟩ : ∃ m, x % 8 = m := ⟨_, rfl⟩
  simp only [hq, hm]
  have q1 : (x : Int) / 8 = (q : Int) := by omega
  have q2 : (x : Int) % 8 = (m : Int) := by omega
  have q3 : Int.tdiv (x : Int) 8 = (q : Int) := by rw [Int.tdiv_eq_ediv_of_nonneg (by omega)]; exact q1
  have q4 : Int.tmod (x : Int) 8 = (m : Int) := by rw [Int.tmod_eq_emod_of_nonneg (by omega)]; exact q2
  have q5 : m < 8 := by omega
  clear h he
  go_enter Tryz.func60, Tryz.ntmps60
  go_wp2_with fail
  refine (rwhole_any w0 g k r l a _ HE.out HX.out).mono ?_
  rintro e w1 ⟨rfl, T1, S1⟩
  rw [hx.out] at S1 ⊢
  have F := hide (And.intro T1 S1)
  clear T1 S1
  go_wp2_with fail
  refine (rintOf_any q _).mono ?_
  rintro e w2 ⟨rfl, rfl⟩
  go_wp2
  go_ret3
  exact ⟨rfl, F.out⟩
end
end Go.Proofs.YtlapgnbiflcpfaaGreatDoor
