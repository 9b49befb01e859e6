/- What a message's scan reads of two numbers, of an instance, a ballot and a vote, in both versions: as functions of the bytes, and the contracts. -/
import Derived.Test.YtooejihnifphkaaGreatDoorMItm
namespace Go.Proofs.YtooejihnifphkaaGreatDoor
open Go.RowKit Go.Wire1

def top31 (x : Nat) : Int := ((min x 2147483647 : Nat) : Int)
/-- Two numbers; one number that is two. -/
def iTwo (l : List Int) (f : Int) : (Int × Int) × List Int × Int := ((top31 (iNum l f).1, top31 (iNum (iNum l f).2.1 (iNum l f).2.2).1), (iNum (iNum l f).2.1 (iNum l f).2.2).2)
def iPack (l : List Int) (f : Int) : (Int × Int) × List Int × Int := ((top31 ((iNum l f).1 / 8), (((iNum l f).1 % 8 : Nat) : Int)), (iNum l f).2)
def unl (b : Bool) (e : Int) : Int := if b then 0 else e

theorem iNum_lt {l : List Int} {f : Int} (hy : Byt l) : (iNum l f).1 < 18446744073709551616 := by
  unfold iNum
  split
  · split
    · rename_i x m hd
      exact dec_lt hy hd
    · simp
  · simp
theorem iNum_byt {l : List Int} {f : Int} (hy : Byt l) : Byt (iNum l f).2.1 := by
  unfold iNum
  split
  · split
    · exact byt_drop hy _
    · exact hy
  · exact hy
theorem Scx.byt {w0 w : World} {g : Nat} {V : Nat → Option Value} {l : List Int} {f : Int} (h : Scx w0 w g V l f) : Byt l := by
  obtain ⟨_, _, _, h⟩ := h; exact h.byt
theorem Scx.lt {w0 w : World} {g : Nat} {V : Nat → Option Value} {l : List Int} {f : Int} (h : Scx w0 w g V l f) : g < w.heap.size := by
  obtain ⟨_, _, _, h⟩ := h; exact h.lt
theorem Scx.hg {w0 w : World} {g : Nat} {V : Nat → Option Value} {l : List Int} {f : Int} (h : Scx w0 w g V l f) : w0.heap.size ≤ g := by
  obtain ⟨_, _, _, h⟩ := h; exact h.hg
theorem Scx.low {w0 w : World} {g : Nat} {V : Nat → Option Value} {l : List Int} {f : Int} (h : Scx w0 w g V l f) : Below w0.heap.size w0 w := by
  obtain ⟨_, _, _, h⟩ := h; exact h.low
theorem Scx.more {w0 w : World} {g : Nat} {V : Nat → Option Value} {l : List Int} {f : Int} (h : Scx w0 w g V l f) {j : Nat} (hj : 2 ≤ j) : w.cell? ⟨g, j, none⟩ = V j := by
  obtain ⟨_, _, _, h⟩ := h; exact h.more j hj
theorem Scx.flt {w0 w : World} {g : Nat} {V : Nat → Option Value} {l : List Int} {f : Int} (h : Scx w0 w g V l f) : w.cell? ⟨g, 1, none⟩ = some (.int .i64 f) := by
  obtain ⟨_, _, _, h⟩ := h; exact h.flt
theorem Scx.below {w0 w w' : World} {g : Nat} {V : Nat → Option Value} {l : List Int} {f : Int} (h : Scx w0 w g V l f) (hb : Below w.heap.size w w') : Scx w0 w' g V l f := by
  obtain ⟨a, b, c, h⟩ := h; exact ⟨a, b, c, h.below hb⟩
theorem Scx.alloc {w0 w : World} {g : Nat} {V : Nat → Option Value} {l : List Int} {f : Int} (h : Scx w0 w g V l f) (o : Obj) : Scx w0 (w.alloc o) g V l f := h.below ((Below.refl _ _).alloc (Nat.le_refl _) _)
theorem Scx.drewN {w0 w : World} {g : Nat} {V : Nat → Option Value} {l : List Int} {f : Int} (h : Scx w0 w g V l f) (q : Nat) : Scx w0 (w.drewN q) g V l f := by
  obtain ⟨a, b, c, h⟩ := h; exact ⟨a, b, c, h.drewN q⟩
theorem Scx.drew {w0 w : World} {g : Nat} {V : Nat → Option Value} {l : List Int} {f : Int} (h : Scx w0 w g V l f) : Scx w0 w.drew g V l f := h.drewN 1
theorem Scx.other {w0 w : World} {g : Nat} {V : Nat → Option Value} {l : List Int} {f : Int} {c o : Nat} (h : Scx w0 w g V l f) (u : Value) (hc : c ≠ g) (h0 : w0.heap.size ≤ c) : Scx w0 (w.setCell ⟨c, o, none⟩ u) g V l f := by
  obtain ⟨a, b, c', h⟩ := h; exact ⟨a, b, c', h.other u hc h0⟩

set_option maxHeartbeats 400000 in
theorem unless_any (b : Bool) (e : Int) (w : World) : Calls Tryz.prog 54 #[.bool b, .int .i64 e] w fun r w' => r = .returned (.int .i64 (unl b e)) ∧ w = w' := by
  cases b
  all_goals
    go_enter Tryz.func54, Tryz.ntmps54
    go_wp2
    go_ret
    exact ⟨rfl, rfl⟩
set_option maxHeartbeats 400000 in
theorem intOf_any (x : Nat) (w : World) : Calls Tryz.prog 62 #[.int .u64 (x : Int)] w fun r w' => r = .returned (.int .i64 (top31 x)) ∧ w = w' := by
  have e : (min (x : Int) 2147483647) = top31 x := by unfold top31; omega
  have b1 : 0 ≤ top31 x := by unfold top31; omega
  have b2 : top31 x ≤ 2147483647 := by unfold top31; omega
  generalize top31 x = y at *
  go_enter Tryz.func62, Tryz.ntmps62
  go_wp2
  go_ret
  exact ⟨rfl, rfl⟩

section
variable (w0 : World) (g : Nat) (V : Nat → Option Value) (l : List Int)
theorem irefuse_x (f e : Int) (w : World) (h : Scx w0 w g V l f) :
    Calls Tryz.prog 26 #[.pointer (some ⟨g, 0, none⟩), .int .i64 e] w fun r w' => r = .returned (.tuple #[]) ∧ Touch g w w' ∧ Scx w0 w' g V l (refF e f) := by
  obtain ⟨sa, n, cap, h⟩ := h
  exact (irefuse_any w0 g V sa n cap l f e w h).mono fun r w' ⟨h1, h2, h3⟩ => ⟨h1, h2, _, _, _, h3⟩

set_option maxHeartbeats 1000000 in
set_option maxRecDepth 100000 in
theorem itwo_any (a : Nat → Addr) (f : Int) (w : World) (he : Errs w0 a) (h : Scx w0 w g V l f) :
    Calls Tryz.prog 52 #[.pointer (some ⟨g, 0, none⟩)] w fun r w' => r = .returned (.tuple #[.int .i64 (iTwo l f).1.1, .int .i64 (iTwo l f).1.2]) ∧ Touch g w w' ∧ Scx w0 w' g V (iTwo l f).2.1 (iTwo l f).2.2 := by
  have HX := hide h
  have HE := hide he
  clear h he
  unfold iTwo
  simp only
  obtain ⟨x, l1, f1, e1⟩ : ∃ x l1 f1, Hid (iNum l f = (x, l1, f1)) := ⟨_, _, _, rfl⟩
  rw [e1.out]
  simp only
  obtain ⟨y, l2, f2, e2⟩ : ∃ x l2 f2, Hid (iNum l1 f1 = (x, l2, f2)) := ⟨_, _, _, rfl⟩
  rw [e2.out]
  simp only
  go_enter Tryz.func52, Tryz.ntmps52
  go_wp2_with fail
  refine (inumber_any w0 g V l a f _ HE.out HX.out).mono ?_
  rintro r w1 ⟨rfl, T1, S1⟩
  rw [e1.out] at S1 ⊢
  simp only at S1 ⊢
  have HT1 := hide T1
  have HS1 := hide S1
  clear T1 S1 HX
  go_wp2_with fail
  refine (intOf_any x _).mono ?_
  rintro r w1' ⟨rfl, rfl⟩
  go_wp2_with fail
  refine (inumber_any w0 g V l1 a f1 _ HE.out HS1.out).mono ?_
  rintro r w2 ⟨rfl, T2, S2⟩
  rw [e2.out] at S2 ⊢
  simp only at S2 ⊢
  have HT2 := hide (HT1.out.trans T2)
  have HS2 := hide S2
  clear T2 S2 HS1 HT1
  go_wp2_with fail
  refine (intOf_any y _).mono ?_
  rintro r w2' ⟨rfl, rfl⟩
  go_wp2
  go_ret2
  exact ⟨rfl, HT2.out, HS2.out⟩

set_option maxHeartbeats 1000000 in
set_option maxRecDepth 100000 in
theorem ipacked_any (a : Nat → Addr) (f : Int) (w : World) (he : Errs w0 a) (h : Scx w0 w g V l f) :
    Calls Tryz.prog 56 #[.pointer (some ⟨g, 0, none⟩)] w fun r w' => r = .returned (.tuple #[.int .i64 (iPack l f).1.1, .int .i64 (iPack l f).1.2]) ∧ Touch g w w' ∧ Scx w0 w' g V (iPack l f).2.1 (iPack l f).2.2 := by
  have HX := hide h
  have HE := hide he
  have hlt := iNum_lt (f := f) h.byt
  clear h he
  unfold iPack
  simp only
  obtain ⟨x, l1, f1, e1⟩ : ∃ x l1 f1, Hid (iNum l f = (x, l1, f1)) := ⟨_, _, _, rfl⟩
  rw [e1.out] at hlt ⊢
  simp only at hlt ⊢
  obtain ⟨q, hq⟩ : ∃ q, x / 8 = q := ⟨_, rfl⟩
  obtain ⟨m, hm⟩ : ∃ m, x % 8 = m := ⟨_, rfl⟩
  rw [hq, hm]
  have q1 : (x : Int) / 8 = (q : Int) := by omega
  have q2 : (x : Int) % 8 = (m : Int) := by omega
  have q3 : Int.tdiv (x : Int) 8 = (q : Int) := by rw [Int.tdiv_eq_ediv_of_nonneg (by omega)]; exact q1
  have q4 : Int.tmod (x : Int) 8 = (m : Int) := by rw [Int.tmod_eq_emod_of_nonneg (by omega)]; exact q2
  have q5 : m < 8 := by omega
  go_enter Tryz.func56, Tryz.ntmps56
  go_wp2_with fail
  refine (inumber_any w0 g V l a f _ HE.out HX.out).mono ?_
  rintro r w1 ⟨rfl, T1, S1⟩
  rw [e1.out] at S1 ⊢
  simp only at S1 ⊢
  have HT1 := hide T1
  have HS1 := hide S1
  clear T1 S1 HX
  go_wp2_with fail
  refine (intOf_any q _).mono ?_
  rintro r w1' ⟨rfl, rfl⟩
  go_wp2
  go_ret2
  exact ⟨rfl, HT1.out, HS1.out⟩
end
end Go.Proofs.YtooejihnifphkaaGreatDoor
