/- Texts of the proof, joined. -/
import Derived.Test.YtlhididcanedhaaGreatDoorJ07
import Derived.Test.YtlhididcanedhaaGreatDoorJ16
import Derived.Test.YtlhididcanedhaaGreatDoorJ17
import Derived.Test.YtlhididcanedhaaGreatDoorJ21
import Derived.Test.YtlhididcanedhaaGreatDoorJ09
import Derived.Test.YtlhididcanedhaaGreatDoorJ18
import Derived.Test.YtlhididcanedhaaGreatDoorJ01
/- What package record's reader reads, as mathematics; the reader in memory, and the contracts of its small methods. -/
namespace Go.Proofs.YtlhididcanedhaaGreatDoor
open Go.RowKit Go.Wire1

def rWh (l : List Int) : Nat × List Int × Int := match dec l with | .ok (x, m) => (x, l.drop m, 0) | .error i => (0, l, 11 + (i : Int))
def rOct (l : List Int) : Int × List Int × Int := match l with | [] => (0, [], 11) | x :: t => (x, t, 0)
def t31 (x : Nat) : Int := ((min x 2147483647 : Nat) : Int)
/-- The error of a field's reading. -/
def rdE (k : Nat) (r : Rc) (l : List Int) (x : Nat) : Int :=
  match x with
  | 119 => (rWh l).2.2
  | 110 => (rWh l).2.2
  | 105 => (rWh l).2.2
  | 98 => (rWh l).2.2
  | 115 => if (rOct l).2.2 = 0 then ((unlR (decide ((rOct l).1 ≤ 1)) 64 : Nat) : Int) else (rOct l).2.2
  | 99 => (decC 2 l).2.2
  | 113 => if noopR r then 0 else (rWh l).2.2
  | _ => if noopR r then 0 else ((upE (upk 2 (k : Int) l) : Nat) : Int)
/-- What is left behind it. -/
def rdL (k : Nat) (r : Rc) (l : List Int) (x : Nat) : List Int :=
  match x with
  | 119 => (rWh l).2.1
  | 110 => (rWh l).2.1
  | 105 => (rWh l).2.1
  | 98 => (rWh l).2.1
  | 115 => (rOct l).2.1
  | 99 => l.drop (decC 2 l).2.1
  | 113 => if noopR r then l else (rWh l).2.1
  | _ => if noopR r then l else l.drop (upN (upk 2 (k : Int) l))
/-- The record with the field that was read. -/
def rdR (k : Nat) (r : Rc) (l : List Int) (x : Nat) : Rc :=
  match x with
  | 119 => { r with id := t31 (rWh l).1 }
  | 110 => { r with n := t31 (rWh l).1 }
  | 105 => { r with num := t31 ((rWh l).1 / 8), row := (((rWh l).1 % 8 : Nat) : Int) }
  | 98 => { r with round := t31 ((rWh l).1 / 8), who := (((rWh l).1 % 8 : Nat) : Int) }
  | 115 => { r with same := (rOct l).1 == 1 }
  | 99 => { r with c := (decC 2 l).1 }
  | 113 => if noopR r then r else { r with seq := t31 (rWh l).1 }
  | _ => { r with deps := if noopR r then List.replicate k 0 else upL (upk 2 (k : Int) l) }
/-- Where a record's Deps lie is of no weight. -/
def _root_.Go.Wire1.Rc.lay (r : Rc) (a : Option Addr) (d c : Nat) : Rc := { r with da := a, dn := d, dc := c }

theorem rdecC_le {v : Int} {l : List Int} (hy : Byt l) : (decC v l).2.1 ≤ l.length := by
  by_cases h : (decC v l).2.2 = 0
  · exact (decC_one hy h).2.2.2.1
  · unfold decC at h ⊢
    split
    · split
      · rename_i h1 h2
        rw [if_pos h1, if_pos h2] at h
        exact absurd rfl h
      · exact Nat.zero_le _
    · exact Nat.zero_le _
/-- A reader in memory. -/
structure RdS (w0 w : World) (g k : Nat) (sa : Option Addr) (m cap : Nat) (l : List Int) (r : Rc) : Prop where
  box : Blk w g ([.int .i64 (k : Int), .slice sa m cap] ++ rcs r)
  low : Below w0.heap.size w0 w
  hg : w0.heap.size ≤ g
  seg : Seg w0 sa m l
  src : Src sa m cap
  byt : Byt l
  dep : SegI w r.da r.dn r.deps
  far : ∀ x, r.da = some x → 0 < r.dn → g < x.block
def Rsx (w0 w : World) (g k : Nat) (l : List Int) (r : Rc) : Prop := ∃ sa m cap, RdS w0 w g k sa m cap l r
theorem touch_segI {w w' : World} {g : Nat} {a : Option Addr} {n : Nat} {l : List Int} (T : Touch g w w') (h : SegI w a n l) (hf : ∀ x, a = some x → 0 < n → g < x.block) : SegI w' a n l := by
  obtain ⟨h1, h2, h3, h4⟩ := h
  refine ⟨h1, h2, fun hn => ?_, h4⟩
  obtain ⟨b, off, rfl, hc⟩ := h3 hn
  exact ⟨b, off, rfl, fun j hj => by rw [World.cell?_of_block (w := w) (T.block b (cell_lt (hc j hj)) (Nat.ne_of_gt (hf _ rfl hn)))]; exact hc j hj⟩
section
variable {w0 w w' : World} {g k : Nat} {sa : Option Addr} {m cap : Nat} {l : List Int} {r : Rc}
theorem RdS.lt (h : RdS w0 w g k sa m cap l r) : g < w.heap.size := h.box.lt
theorem RdS.on (h : RdS w0 w g k sa m cap l r) (hb : Below w.heap.size w w') : RdS w0 w' g k sa m cap l r :=
  ⟨h.box.on hb, h.low.trans (hb.mono h.low.size), h.hg, h.seg, h.src, h.byt, h.dep.below hb (Nat.le_refl _), h.far⟩
theorem Rsx.on (h : Rsx w0 w g k l r) (hb : Below w.heap.size w w') : Rsx w0 w' g k l r := by obtain ⟨a, b, c, h⟩ := h; exact ⟨a, b, c, h.on hb⟩
theorem RdS.drewN (h : RdS w0 w g k sa m cap l r) (n : Nat) : RdS w0 (w.drewN n) g k sa m cap l r := ⟨h.box.drewN n, h.low.drewN' n, h.hg, h.seg, h.src, h.byt, h.dep.drewN n, h.far⟩
theorem Rsx.drew (h : Rsx w0 w g k l r) : Rsx w0 w.drew g k l r := by obtain ⟨a, b, c, h⟩ := h; exact ⟨a, b, c, h.drewN 1⟩
theorem Rsx.lt (h : Rsx w0 w g k l r) : g < w.heap.size := by obtain ⟨a, b, c, h⟩ := h; exact h.lt
theorem Rsx.low (h : Rsx w0 w g k l r) : Below w0.heap.size w0 w := by obtain ⟨a, b, c, h⟩ := h; exact h.low
theorem Rsx.byt (h : Rsx w0 w g k l r) : Byt l := by obtain ⟨a, b, c, h⟩ := h; exact h.byt
theorem RdS.cell (h : RdS w0 w g k sa m cap l r) {j : Nat} {u : Value} (hu : (rcs r)[j]? = some u) : w.cell? ⟨g, j + 2, none⟩ = some u := h.box.cell (j + 2) u hu
theorem RdS.range (h : RdS w0 w g k sa m cap l r) : w.rangeAt g 2 (rcs r) := fun j u hu => by rw [Nat.add_comm]; exact h.cell hu
theorem RdS.c0 (h : RdS w0 w g k sa m cap l r) : w.cell? ⟨g, 0, none⟩ = some (.int .i64 (k : Int)) := h.box.cell 0 _ rfl
theorem RdS.c1 (h : RdS w0 w g k sa m cap l r) : w.cell? ⟨g, 1, none⟩ = some (.slice sa m cap) := h.box.cell 1 _ rfl
/-- A field is written. -/
theorem RdS.put (h : RdS w0 w g k sa m cap l r) (j : Nat) (v : Value) (r' : Rc) (hr : (rcs r).set j v = rcs r') (ha : r'.da = r.da) (hn : r'.dn = r.dn) (hd : r'.deps = r.deps) :
    RdS w0 (w.setCell ⟨g, j + 2, none⟩ v) g k sa m cap l r' ∧ Touch g w (w.setCell ⟨g, j + 2, none⟩ v) := by
  have T : Touch g w (w.setCell ⟨g, j + 2, none⟩ v) := (Touch.refl g w).setB _
  have hb := h.box.setAt (j + 2) v
  refine ⟨⟨?_, T.below h.hg h.low, h.hg, h.seg, h.src, h.byt, ?_, ?_⟩, T⟩
  · rw [← hr]; exact hb
  · rw [ha, hn, hd]; exact touch_segI T h.dep h.far
  · rw [ha, hn]; exact h.far
/-- The rest is written. -/
theorem RdS.setR (h : RdS w0 w g k sa m cap l r) {sa' : Option Addr} {m' cap' : Nat} {l' : List Int} (hs : Seg w0 sa' m' l') (hc : Src sa' m' cap') (hy : Byt l') :
    RdS w0 (w.setCell ⟨g, 1, none⟩ (.slice sa' m' cap')) g k sa' m' cap' l' r ∧ Touch g w (w.setCell ⟨g, 1, none⟩ (.slice sa' m' cap')) := by
  have T : Touch g w (w.setCell ⟨g, 1, none⟩ (.slice sa' m' cap')) := (Touch.refl g w).setB _
  exact ⟨⟨h.box.setAt 1 _, T.below h.hg h.low, h.hg, hs, hc, hy, touch_segI T h.dep h.far, h.far⟩, T⟩
end
set_option maxHeartbeats 4000000 in
set_option maxRecDepth 100000 in
theorem rintOf_any (x : Nat) (w : World) : Calls Tryz.prog 119 #[.int .u64 (x : Int)] w fun r w' => r = .returned (.int .i64 (t31 x)) ∧ w = w' := by
  have e : (min (x : Int) 2147483647) = t31 x := by unfold t31; omega
  have b1 : 0 ≤ t31 x := by unfold t31; omega
  have b2 : t31 x ≤ 2147483647 := by unfold t31; omega
  generalize t31 x = y at *
  go_enter Tryz.func119, Tryz.ntmps119
  go_wp2
  go_ret
  exact ⟨rfl, rfl⟩

section
variable (w0 : World) (g k : Nat) (r : Rc)
set_option maxHeartbeats 4000000 in
set_option maxRecDepth 100000 in
theorem rpass_any (l : List Int) (j : Nat) (w : World) (hj : j ≤ l.length) (h : Rsx w0 w g k l r) :
    Calls Tryz.prog 90 #[.pointer (some ⟨g, 0, none⟩), .int .i64 (j : Int)] w fun e w' => e = .returned (.tuple #[]) ∧ Touch g w w' ∧ Rsx w0 w' g k (l.drop j) r := by
  obtain ⟨sa, m, cap, h⟩ := h
  have hl : l.length = m := h.seg.1
  have c1 := h.c1
  have t1 := h.box.thaw 1
  have HS := hide h
  have hsrc := h.src
  have hseg := h.seg
  have hbyt := h.byt
  clear h
  rcases hsrc with ⟨hn, hc⟩ | ⟨⟨b, off, rfl⟩, hc1, hc2⟩
  · subst hn hc
    obtain rfl : j = 0 := by omega
    obtain rfl : l = [] := List.length_eq_zero_iff.1 hl
    have R := hide (HS.out.setR (sa' := sa) (m' := 0) (cap' := 0) (l' := []) hseg (.inl ⟨rfl, rfl⟩) hbyt)
    clear hseg hbyt
    cases sa with
    | none =>
      go_enter Tryz.func90, Tryz.ntmps90
      go_wp2
      go_end0
      exact ⟨rfl, R.out.2, _, _, _, R.out.1⟩
    | some ad =>
      go_enter Tryz.func90, Tryz.ntmps90
      go_wp2
      go_end0
      exact ⟨rfl, R.out.2, _, _, _, R.out.1⟩
  · unfold maxLen at hc2
    have hkn : j ≤ m := by omega
    have Y : Hid (Byt (l.drop j)) := byt_drop hbyt j
    by_cases hck : cap = j
    · obtain rfl : m = j := by omega
      subst hck
      have e0 : Hid (l.drop cap = []) := List.drop_eq_nil_of_le (by omega)
      rw [e0.out] at Y ⊢
      have R := hide (HS.out.setR (sa' := some ⟨b, off, none⟩) (m' := cap - cap) (cap' := 0) (l' := []) (by rw [Nat.sub_self]; exact seg_empty _ _) (.inl ⟨Nat.sub_self _, rfl⟩) Y.out)
      rw [Nat.sub_self] at R
      clear hseg hbyt e0
      go_enter Tryz.func90, Tryz.ntmps90
      go_wp2
      go_end0
      exact ⟨rfl, by first | exact R.out.2 | (simp only [Nat.sub_self]; exact R.out.2), by first | exact ⟨_, _, _, R.out.1⟩ | (simp only [Nat.sub_self]; exact ⟨_, _, _, R.out.1⟩)⟩
    · have R := hide (HS.out.setR (sa' := some ⟨b, off + j, none⟩) (m' := m - j) (cap' := cap - j) (l' := l.drop j) (hseg.from hkn) (.inr ⟨⟨b, off + j, rfl⟩, by omega, by unfold maxLen; omega⟩) Y.out)
      have hlt : j < cap := by omega
      clear hseg hbyt
      go_enter Tryz.func90, Tryz.ntmps90
      go_wp2
      go_end0
      exact ⟨rfl, R.out.2, _, _, _, R.out.1⟩
set_option maxHeartbeats 4000000 in
set_option maxRecDepth 100000 in
theorem rwhole_any (l : List Int) (a : Nat → Addr) (w : World) (he : Errs w0 a) (h : Rsx w0 w g k l r) :
    Calls Tryz.prog 118 #[.pointer (some ⟨g, 0, none⟩)] w fun e w' => e = .returned (.tuple #[.int .u64 ((rWh l).1 : Nat), .int .i64 (rWh l).2.2]) ∧ Touch g w w' ∧ Rsx w0 w' g k (rWh l).2.1 r := by
  obtain ⟨sa, m, cap, h⟩ := h
  have c1 := h.c1
  have HS := hide h
  have HE := hide he
  clear h he
  cases hd : dec l with
  | ok p =>
    obtain ⟨x, j⟩ := p
    have e : Hid (rWh l = (x, l.drop j, 0)) := by show _ = _; unfold rWh; rw [hd]
    rw [e.out]
    have hm := dec_len HS.out.byt hd
    clear e
    have HD := hide hd
    clear hd
    go_enter Tryz.func118, Tryz.ntmps118
    go_wp2_with fail
    refine (getUint_any m cap sa l a _ (HS.out.seg.below HS.out.low (Nat.le_refl _)) HS.out.byt (HE.out.below HS.out.low (Nat.le_refl _))).mono ?_
    rintro e w1 ⟨hb1, h2⟩
    rw [HD.out] at h2
    obtain rfl := h2
    have H1 : Hid (Rsx w0 w1 g k l r) := ⟨sa, m, cap, HS.out.on hb1⟩
    have T0 := hide (Touch.ofBelow (b := g) hb1)
    clear hb1
    go_wp2_with fail
    refine (rpass_any w0 g k r l j _ hm.2.2 H1.out).mono ?_
    rintro q w2 ⟨rfl, T1, S1⟩
    have F := hide (And.intro (T0.out.trans T1) S1)
    clear T1 S1
    go_wp2
    go_ret2
    exact ⟨rfl, F.out⟩
  | error i =>
    have e : Hid (rWh l = (0, l, 11 + (i : Int))) := by show _ = _; unfold rWh; rw [hd]
    rw [e.out]
    clear e
    have HD := hide hd
    clear hd
    go_enter Tryz.func118, Tryz.ntmps118
    go_wp2_with fail
    refine (getUint_any m cap sa l a _ (HS.out.seg.below HS.out.low (Nat.le_refl _)) HS.out.byt (HE.out.below HS.out.low (Nat.le_refl _))).mono ?_
    rintro e w1 ⟨hb1, h2⟩
    rw [HD.out] at h2
    obtain rfl := h2
    have H1 : Hid (Rsx w0 w1 g k l r) := ⟨sa, m, cap, HS.out.on hb1⟩
    have T0 := hide (Touch.ofBelow (b := g) hb1)
    clear hb1
    go_wp2_with fail
    refine (rpass_any w0 g k r l 0 _ (Nat.zero_le _) H1.out).mono ?_
    rintro q w2 ⟨rfl, T1, S1⟩
    have F := hide (And.intro (T0.out.trans T1) S1)
    clear T1 S1
    go_wp2
    go_ret2
    exact ⟨rfl, F.out⟩
set_option maxHeartbeats 4000000 in
set_option maxRecDepth 100000 in
theorem rnum_any (l : List Int) (a : Nat → Addr) (w : World) (he : Errs w0 a) (h : Rsx w0 w g k l r) :
    Calls Tryz.prog 84 #[.pointer (some ⟨g, 0, none⟩)] w fun e w' => e = .returned (.tuple #[.int .i64 (t31 (rWh l).1), .int .i64 (rWh l).2.2]) ∧ Touch g w w' ∧ Rsx w0 w' g k (rWh l).2.1 r := by
  have HX := hide h
  have HE := hide he
  obtain ⟨x, l1, e1, hx⟩ : ∃ x l1 e1, Hid (rWh l = (x, l1, e1)) := ⟨_, _, _, rfl⟩
  rw [hx.out]
  clear h he
  go_enter Tryz.func84, Tryz.ntmps84
  go_wp2_with fail
  refine (rwhole_any w0 g k r l a _ HE.out HX.out).mono ?_
  rintro e w1 ⟨rfl, T1, S1⟩
  rw [hx.out] at S1 ⊢
  have F := hide (And.intro T1 S1)
  clear T1 S1
  go_wp2_with fail
  refine (rintOf_any x _).mono ?_
  rintro e w2 ⟨rfl, rfl⟩
  go_wp2
  go_ret2
  exact ⟨rfl, F.out⟩
set_option maxHeartbeats 4000000 in
set_option maxRecDepth 100000 in
theorem rpack_any (l : List Int) (a : Nat → Addr) (w : World) (he : Errs w0 a) (h : Rsx w0 w g k l r) :
    Calls Tryz.prog 86 #[.pointer (some ⟨g, 0, none⟩)] w fun e w' => e = .returned (.tuple #[.int .i64 (t31 ((rWh l).1 / 8)), .int .i64 (((rWh l).1 % 8 : Nat) : Int), .int .i64 (rWh l).2.2]) ∧ Touch g w w' ∧ Rsx w0 w' g k (rWh l).2.1 r := by
  have HX := hide h
  have HE := hide he
  obtain ⟨x, l1, e1, hx⟩ : ∃ x l1 e1, Hid (rWh l = (x, l1, e1)) := ⟨_, _, _, rfl⟩
  rw [hx.out]
  have hx64 : x < 18446744073709551616 := by
    cases hd : dec l with
    | ok p =>
      obtain ⟨y, j⟩ := p
      have e := hx.out
      unfold rWh at e
      rw [hd] at e
      simp only [Prod.mk.injEq] at e
      have := dec_lt h.byt hd
      omega
    | error i =>
      have e := hx.out
      unfold rWh at e
      rw [hd] at e
      simp only [Prod.mk.injEq] at e
      omega
  obtain ⟨q, hq⟩ : ∃ q, x / 8 = q := ⟨_, rfl⟩
  obtain ⟨m, hm⟩ : ∃ m, x % 8 = m := ⟨_, rfl⟩
  simp only [hq, hm]
  have q1 : (x : Int) / 8 = (q : Int) := by omega
  have q2 : (x : Int) % 8 = (m : Int) := by omega
  have q3 : Int.tdiv (x : Int) 8 = (q : Int) := by rw [Int.tdiv_eq_ediv_of_nonneg (by omega)]; exact q1
  have q4 : Int.tmod (x : Int) 8 = (m : Int) := by rw [Int.tmod_eq_emod_of_nonneg (by omega)]; exact q2
  have q5 : m < 8 := by omega
  clear h he
  go_enter Tryz.func86, Tryz.ntmps86
  go_wp2_with fail
  refine (rwhole_any w0 g k r l a _ HE.out HX.out).mono ?_
  rintro e w1 ⟨rfl, T1, S1⟩
  rw [hx.out] at S1 ⊢
  have F := hide (And.intro T1 S1)
  clear T1 S1
  go_wp2_with fail
  refine (rintOf_any q _).mono ?_
  rintro e w2 ⟨rfl, rfl⟩
  go_wp2
  go_ret3
  exact ⟨rfl, F.out⟩
end
end Go.Proofs.YtlhididcanedhaaGreatDoor
/- The plain mathematics of the document's own reading of a number: the last byte is sought first, then the digits are summed up from the highest. -/
namespace Go.Wire1
/-- How many bytes in front bear 128, f at most. -/
def lead : Nat → List Int → Nat
  | 0, _ => 0
  | _ + 1, [] => 0
  | f + 1, z :: r => if 128 ≤ z then 1 + lead f r else 0

/-- What digits to the base 128, the low ones first, are worth. -/
def valD : List Int → Nat
  | [] => 0
  | z :: r => z.toNat % 128 + 128 * valD r

theorem lead_yes (f : Nat) (z : Int) (r : List Int) (h : 128 ≤ z) : lead (f + 1) (z :: r) = 1 + lead f r := by simp [lead, h]
theorem lead_no (f : Nat) (z : Int) (r : List Int) (h : ¬ 128 ≤ z) : lead f (z :: r) = 0 := by cases f <;> simp [lead, h]
theorem lead_nil (f : Nat) : lead f [] = 0 := by cases f <;> simp [lead]

theorem decF_short (f : Nat) : ∀ t l, l.length ≤ lead f l → decF f t l = .error 0 := by
  induction f with
  | zero =>
    intro t l h
    cases l with
    | nil => rfl
    | cons z r => simp [lead] at h
  | succ g ih =>
    intro t l h
    cases l with
    | nil => rfl
    | cons z r =>
      by_cases hz : 128 ≤ z
      · rw [lead_yes _ _ _ hz] at h
        simp only [decF, if_pos hz]
        rw [ih false r (by simp only [List.length_cons] at h; omega)]
      · rw [lead_no _ _ _ hz] at h; simp at h

theorem decF_end (f : Nat) : ∀ t l, Byt l → lead f l < l.length → lead f l = f → decF f t l = (if l.getD f 0 = 0 then .error 2 else if l.getD f 0 = 1 then .ok (valD (l.take (f + 1)), f + 1) else .error 1) := by
  induction f with
  | zero =>
    intro t l _ h _
    cases l with
    | nil => simp at h
    | cons z r =>
      simp only [decF, List.getD_cons_zero]
      split
      · rfl
      · split
        · rename_i e; subst e; rfl
        · rfl
  | succ g ih =>
    intro t l hy h he
    cases l with
    | nil => simp at h
    | cons z r =>
      have hb := hy z (by simp)
      have hr : Byt r := fun y hy' => hy y (by simp [hy'])
      by_cases hz : 128 ≤ z
      · rw [lead_yes _ _ _ hz] at h he
        have hi := ih false r hr (by simp only [List.length_cons] at h; omega) (by omega)
        simp only [decF, if_pos hz, hi, List.getD_cons_succ]
        by_cases h0 : r.getD g 0 = 0
        · simp only [if_pos h0]
        · by_cases h1 : r.getD g 0 = 1
          · have e : (z - 128).toNat = z.toNat % 128 := by omega
            simp only [if_neg h0, if_pos h1, List.take_succ_cons, valD, e]
          · simp only [if_neg h0, if_neg h1]
      · rw [lead_no _ _ _ hz] at he; omega

theorem decF_mid (f : Nat) : ∀ t l, Byt l → lead f l < l.length → lead f l < f → l.getD (lead f l) 0 < 128 ∧ decF f t l = (if l.getD (lead f l) 0 = 0 ∧ (0 < lead f l ∨ t = false) then .error 2 else .ok (valD (l.take (lead f l + 1)), lead f l + 1)) := by
  induction f with
  | zero => intro t l _ _ h; omega
  | succ g ih =>
    intro t l hy h he
    cases l with
    | nil => simp at h
    | cons z r =>
      have hb := hy z (by simp)
      have hr : Byt r := fun y hy' => hy y (by simp [hy'])
      by_cases hz : 128 ≤ z
      · have hl := lead_yes g z r hz
        rw [hl] at h he ⊢
        have hi := ih false r hr (by simp only [List.length_cons] at h; omega) (by omega)
        have e1 : (z :: r).getD (1 + lead g r) 0 = r.getD (lead g r) 0 := by rw [Nat.add_comm, List.getD_cons_succ]
        refine ⟨by rw [e1]; exact hi.1, ?_⟩
        simp only [decF, if_pos hz, hi.2, e1]
        have e : (z - 128).toNat = z.toNat % 128 := by omega
        by_cases h0 : r.getD (lead g r) 0 = 0
        · rw [if_pos ⟨h0, .inr trivial⟩, if_pos ⟨h0, .inl (by omega)⟩]
        · rw [if_neg (fun h => h0 h.1), if_neg (fun h => h0 h.1)]
          have e2 : (z :: r).take (1 + lead g r + 1) = z :: r.take (lead g r + 1) := by rw [show 1 + lead g r + 1 = (lead g r + 1) + 1 by omega, List.take_succ_cons]
          simp only [e2, valD, e]
          congr 2
          omega
      · have hl := lead_no (g + 1) z r hz
        rw [hl]
        refine ⟨by simp only [List.getD_cons_zero]; omega, ?_⟩
        simp only [decF, if_neg hz, List.getD_cons_zero]
        by_cases h0 : z = 0 ∧ t = false
        · rw [if_pos h0, if_pos ⟨h0.1, .inr h0.2⟩]
        · rw [if_neg h0, if_neg (fun h => h0 ⟨h.1, h.2.resolve_left (by omega)⟩)]
          simp only [Nat.zero_add, List.take_succ_cons, List.take_zero, valD]
          congr 2
          omega

/-- The digits from place i on, m of them. -/
def valAt (l : List Int) (i m : Nat) : Nat := valD ((l.drop i).take m)
theorem valAt_zero (l : List Int) (i : Nat) : valAt l i 0 = 0 := by simp [valAt, valD]
theorem valAt_step {l : List Int} {i m : Nat} (h : i < l.length) : valAt l i (m + 1) = (l.getD i 0).toNat % 128 + 128 * valAt l (i + 1) m := by
  simp only [valAt, drop_cons h, List.take_succ_cons, valD]
theorem valD_lt (l : List Int) : valD l < 128 ^ l.length := by
  induction l with
  | nil => simp [valD]
  | cons z r ih =>
    have : z.toNat % 128 < 128 := Nat.mod_lt _ (by decide)
    simp only [valD, List.length_cons, Nat.pow_succ]
    omega
theorem valAt_lt (l : List Int) (i m : Nat) : valAt l i m < 128 ^ m := by
  have h1 := valD_lt ((l.drop i).take m)
  have h2 : ((l.drop i).take m).length ≤ m := List.length_take_le _ _
  exact Nat.lt_of_lt_of_le h1 (Nat.pow_le_pow_right (by decide) h2)

/-- With a tenth digit of at most 1 all digits together fit. -/
theorem valAt_bd {l : List Int} {k i : Nat} (hk : k ≤ 9) (hl : k < l.length) (h9 : k = 9 → l.getD 9 0 ≤ 1) (hi : i ≤ k) : valAt l i (k + 1 - i) < 2 * 128 ^ (9 - i) := by
  by_cases e : k = 9
  · subst e
    have key : ∀ d i, i + d = 9 → valAt l i (d + 1) < 2 * 128 ^ d := by
      intro d
      induction d with
      | zero =>
        intro i hi
        obtain rfl : i = 9 := by omega
        have := h9 rfl
        rw [valAt_step hl, valAt_zero]
        simp only [Nat.pow_zero]
        omega
      | succ d ih =>
        intro i hi
        have := ih (i + 1) (by omega)
        have hm : (l.getD i 0).toNat % 128 < 128 := Nat.mod_lt _ (by decide)
        rw [valAt_step (by omega), Nat.pow_succ]
        omega
    have h := key (9 - i) i (by omega)
    have e2 : 9 + 1 - i = 9 - i + 1 := by omega
    rw [e2]; exact h
  · have h := valAt_lt l i (k + 1 - i)
    have h2 : 128 ^ (k + 1 - i) ≤ 128 ^ (9 - i) := Nat.pow_le_pow_right (by decide) (by omega)
    omega

theorem valAt_64 {l : List Int} {k i : Nat} (hk : k ≤ 9) (hl : k < l.length) (h9 : k = 9 → l.getD 9 0 ≤ 1) (hi : i ≤ k) : valAt l i (k + 1 - i) < 18446744073709551616 := by
  have h := valAt_bd hk hl h9 hi
  have h2 : 128 ^ (9 - i) ≤ 128 ^ 9 := Nat.pow_le_pow_right (by decide) (by omega)
  have e : (128 : Nat) ^ 9 = 9223372036854775808 := by decide
  omega

theorem ref_ways {l : List Int} {k : Nat} (hy : Byt l) (hlt : k < l.length) (hk : k ≤ 9) (hL : lead 9 l = k) :
    (k = 9 ∧ 1 < l.getD k 0 ∧ dec l = .error 1) ∨ (0 < k ∧ l.getD k 0 = 0 ∧ dec l = .error 2) ∨ ((k = 9 ∧ l.getD k 0 = 1 ∨ k < 9 ∧ 0 < l.getD k 0 ∧ l.getD k 0 < 128 ∨ k = 0 ∧ l.getD k 0 = 0) ∧ dec l = .ok (valAt l 0 (k + 1), k + 1)) := by
  have hz := byt_at hy k
  by_cases h9 : k = 9
  · subst h9
    have h := decF_end 9 true l hy (by omega) hL
    by_cases h0 : l.getD 9 0 = 0
    · rw [if_pos h0] at h; exact .inr (.inl ⟨by omega, h0, h⟩)
    · by_cases h1 : l.getD 9 0 = 1
      · rw [if_neg h0, if_pos h1] at h; exact .inr (.inr ⟨.inl ⟨rfl, h1⟩, by simpa [valAt, dec] using h⟩)
      · rw [if_neg h0, if_neg h1] at h; exact .inl ⟨rfl, by omega, h⟩
  · obtain ⟨hs, h⟩ := decF_mid 9 true l hy (by omega) (by omega)
    rw [hL] at hs h
    by_cases h0 : l.getD k 0 = 0
    · by_cases hk0 : 0 < k
      · rw [if_pos ⟨h0, .inl hk0⟩] at h; exact .inr (.inl ⟨hk0, h0, h⟩)
      · rw [if_neg (fun hh => by rcases hh.2 with h2 | h2; exact hk0 h2; cases h2)] at h
        exact .inr (.inr ⟨.inr (.inr ⟨by omega, h0⟩), by simpa [valAt, dec] using h⟩)
    · rw [if_neg (fun hh => h0 hh.1)] at h
      exact .inr (.inr ⟨.inr (.inl ⟨by omega, by omega, hs⟩), by simpa [valAt, dec] using h⟩)

end Go.Wire1
