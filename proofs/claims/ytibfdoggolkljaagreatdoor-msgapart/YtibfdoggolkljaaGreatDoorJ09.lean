import Derived.Test.YtibfdoggolkljaaGreatDoorJ08
set_option maxHeartbeats 1000000
set_option maxRecDepth 100000
namespace Go.Proofs.YtibfdoggolkljaaGreatDoor
open Go.RowKit Go.Wire1
def top31 (x : Nat) : Int := ((min x 2147483647 : Nat) : Int)
def iTwo (l : List Int) (f : Int) : (Int × Int) × List Int × Int := ((top31 (iNum l f).1, top31 (iNum (iNum l f).2.1 (iNum l f).2.2).1), (iNum (iNum l f).2.1 (iNum l f).2.2).2)
def iPack (l : List Int) (f : Int) : (Int × Int) × List Int × Int := ((top31 ((iNum l f).1 / 8), (((iNum l f).1 % 8 : Nat) : Int)), (iNum l f).2)
def unl (b : Bool) (e : Int) : Int := if b then 0 else e
theorem iNum_lt {l : List Int} {f : Int} (hy : Byt l) : (iNum l f).1 < 18446744073709551616 := by
 unfold iNum
 split
 ·split
  ·rename_i x m hd
   exact dec_lt hy hd
  ·simp
 ·simp
theorem Scx.byt {w0 w : World} {g : Nat} {V : Nat → Option Value} {l : List Int} {f : Int} (h : Scx w0 w g V l f) : Byt l := by
 obtain ⟨_, _, _, h⟩ := h; exact h.byt
theorem Scx.lt {w0 w : World} {g : Nat} {V : Nat → Option Value} {l : List Int} {f : Int} (h : Scx w0 w g V l f) : g < w.heap.size := by
 obtain ⟨_, _, _, h⟩ := h; exact h.lt
theorem Scx.hg {w0 w : World} {g : Nat} {V : Nat → Option Value} {l : List Int} {f : Int} (h : Scx w0 w g V l f) : w0.heap.size ≤ g := by
 obtain ⟨_, _, _, h⟩ := h; exact h.hg
theorem Scx.low {w0 w : World} {g : Nat} {V : Nat → Option Value} {l : List Int} {f : Int} (h : Scx w0 w g V l f) : Below w0.heap.size w0 w := by
 obtain ⟨_, _, _, h⟩ := h; exact h.low
theorem Scx.more {w0 w : World} {g : Nat} {V : Nat → Option Value} {l : List Int} {f : Int} (h : Scx w0 w g V l f) {j : Nat} (hj : 2 ≤ j) : w.cell? ⟨g, j, none⟩ = V j := by
 obtain ⟨_, _, _, h⟩ := h; exact h.more j hj
theorem Scx.flt {w0 w : World} {g : Nat} {V : Nat → Option Value} {l : List Int} {f : Int} (h : Scx w0 w g V l f) : w.cell? ⟨g, 1, none⟩ = some (.int .i64 f) := by
 obtain ⟨_, _, _, h⟩ := h; exact h.flt
theorem Scx.below {w0 w w' : World} {g : Nat} {V : Nat → Option Value} {l : List Int} {f : Int} (h : Scx w0 w g V l f) (hb : Below w.heap.size w w') : Scx w0 w' g V l f := by
 obtain ⟨a, b, c, h⟩ := h; exact ⟨a, b, c, h.below hb⟩
theorem Scx.alloc {w0 w : World} {g : Nat} {V : Nat → Option Value} {l : List Int} {f : Int} (h : Scx w0 w g V l f) (o : Obj) : Scx w0 (w.alloc o) g V l f := h.below ((Below.refl _ _).alloc zN _)
theorem Scx.drewN {w0 w : World} {g : Nat} {V : Nat → Option Value} {l : List Int} {f : Int} (h : Scx w0 w g V l f) (q : Nat) : Scx w0 (w.drewN q) g V l f := by
 obtain ⟨a, b, c, h⟩ := h; exact ⟨a, b, c, h.drewN q⟩
theorem Scx.drew {w0 w : World} {g : Nat} {V : Nat → Option Value} {l : List Int} {f : Int} (h : Scx w0 w g V l f) : Scx w0 w.drew g V l f := h.drewN 1
theorem Scx.other {w0 w : World} {g : Nat} {V : Nat → Option Value} {l : List Int} {f : Int} {c o : Nat} (h : Scx w0 w g V l f) (u : Value) (hc : c ≠ g) (h0 : w0.heap.size ≤ c) : Scx w0 (w.setCell ⟨c, o, none⟩ u) g V l f := by
 obtain ⟨a, b, c', h⟩ := h; exact ⟨a, b, c', h.other u hc h0⟩
theorem unless_any (b : Bool) (e : Int) (w : World) : Calls Tryz.prog 47 #[.bool b, .int .i64 e] w fun r w' => r = .returned (.int .i64 (unl b e)) ∧ w = w' := by
 cases b
 all_goals
  go_enter Tryz.func47, Tryz.ntmps47
  go_wp2
  go_ret
  exact ⟨rfl, rfl⟩
theorem intOf_any (x : Nat) (w : World) : Calls Tryz.prog 55 #[.int .u64 (x : Int)] w fun r w' => r = .returned (.int .i64 (top31 x)) ∧ w = w' := by
 have e : (min (x : Int) 2147483647) = top31 x := by unfold top31; omega
 have b1 : 0 ≤ top31 x := by unfold top31; omega
 have b2 : top31 x ≤ 2147483647 := by unfold top31; omega
 generalize top31 x = y at *
 go_enter Tryz.func55, Tryz.ntmps55
 go_wp2
 go_ret
 exact ⟨rfl, rfl⟩
section
variable (w0 : World) (g : Nat) (V : Nat → Option Value) (l : List Int)
theorem irefuse_x (f e : Int) (w : World) (h : Scx w0 w g V l f) :
  Calls Tryz.prog 21 #[.pointer (some ⟨g, 0, none⟩), .int .i64 e] w fun r w' => r = .returned (.tuple #[]) ∧ Touch g w w' ∧ Scx w0 w' g V l (refF e f) := by
 obtain ⟨sa, n, cap, h⟩ := h
 exact (irefuse_any w0 g V sa n cap l f e w h).mono fun r w' ⟨h1, h2, h3⟩ => ⟨h1, h2, _, _, _, h3⟩
theorem itwo_any (a : Nat → Addr) (f : Int) (w : World) (he : Errs w0 a) (h : Scx w0 w g V l f) :
  Calls Tryz.prog 45 #[.pointer (some ⟨g, 0, none⟩)] w fun r w' => r = .returned (.tuple #[.int .i64 (iTwo l f).1.1, .int .i64 (iTwo l f).1.2]) ∧ Touch g w w' ∧ Scx w0 w' g V (iTwo l f).2.1 (iTwo l f).2.2 := by
 have HX := hide h
 have HE := hide he
 clear h he
 unfold iTwo
 simp only
 obtain ⟨x, l1, f1, e1⟩ : ∃ x l1 f1, Hid (iNum l f = (x, l1, f1)) := ⟨_, _, _, rfl⟩
 rw [e1.out]
 simp only
 obtain ⟨y, l2, f2, e2⟩ : ∃ x l2 f2, Hid (iNum l1 f1 = (x, l2, f2)) := ⟨_, _, _, rfl⟩
 rw [e2.out]
 simp only
 go_enter Tryz.func45, Tryz.ntmps45
 go_wp2_with fail
 refine (inumber_any w0 g V l a f _ HE.out HX.out).mono ?_
 rintro r w1 ⟨rfl, T1, S1⟩
 rw [e1.out] at S1 ⊢
 simp only at S1 ⊢
 have HT1 := hide T1
 have HS1 := hide S1
 clear T1 S1 HX
 go_wp2_with fail
 refine (intOf_any x _).mono ?_
 rintro r w1' ⟨rfl, rfl⟩
 go_wp2_with fail
 refine (inumber_any w0 g V l1 a f1 _ HE.out HS1.out).mono ?_
 rintro r w2 ⟨rfl, T2, S2⟩
 rw [e2.out] at S2 ⊢
 simp only at S2 ⊢
 have HT2 := hide (HT1.out.trans T2)
 have HS2 := hide S2
 clear T2 S2 HS1 HT1
 go_wp2_with fail
 refine (intOf_any y _).mono ?_
 rintro r w2' ⟨rfl, rfl⟩
 go_wp2
 go_ret2
 exact ⟨rfl, HT2.out, HS2.out⟩
theorem ipacked_any (a : Nat → Addr) (f : Int) (w : World) (he : Errs w0 a) (h : Scx w0 w g V l f) :
  Calls Tryz.prog 49 #[.pointer (some ⟨g, 0, none⟩)] w fun r w' => r = .returned (.tuple #[.int .i64 (iPack l f).1.1, .int .i64 (iPack l f).1.2]) ∧ Touch g w w' ∧ Scx w0 w' g V (iPack l f).2.1 (iPack l f).2.2 := by
 have HX := hide h
 have HE := hide he
 have hlt := iNum_lt (f := f) h.byt
 clear h he
 unfold iPack
 simp only
 obtain ⟨x, l1, f1, e1⟩ : ∃ x l1 f1, Hid (iNum l f = (x, l1, f1)) := ⟨_, _, _, rfl⟩
 rw [e1.out] at hlt ⊢
 simp only at hlt ⊢
 obtain ⟨q, hq⟩ : ∃ q, x / 8 = q := ⟨_, rfl⟩
 obtain ⟨m, hm⟩ : ∃ m, x % 8 = m := ⟨_, rfl⟩
 rw [hq, hm]
 have q1 : (x : Int) / 8 = (q : Int) := by omega
 have q2 : (x : Int) % 8 = (m : Int) := by omega
 have q3 : Int.tdiv (x : Int) 8 = (q : Int) := by rw [Int.tdiv_eq_ediv_of_nonneg (by omega)]; exact q1
 have q4 : Int.tmod (x : Int) 8 = (m : Int) := by rw [Int.tmod_eq_emod_of_nonneg (by omega)]; exact q2
 have q5 : m < 8 := by omega
 go_enter Tryz.func49, Tryz.ntmps49
 go_wp2_with fail
 refine (inumber_any w0 g V l a f _ HE.out HX.out).mono ?_
 rintro r w1 ⟨rfl, T1, S1⟩
 rw [e1.out] at S1 ⊢
 simp only at S1 ⊢
 have HT1 := hide T1
 have HS1 := hide S1
 clear T1 S1 HX
 go_wp2_with fail
 refine (intOf_any q _).mono ?_
 rintro r w1' ⟨rfl, rfl⟩
 go_wp2
 go_ret2
 exact ⟨rfl, HT1.out, HS1.out⟩
end
open Go.RowKit Go.Wire1
structure B2 (w : World) (q : Nat) (x y : Int) : Prop where
 c0 : w.cell? ⟨q, 0, none⟩ = some (.int .i64 x)
 c1 : w.cell? ⟨q, 1, none⟩ = some (.int .i64 y)
 thaw : ∀ o, w.frozen? ⟨q, o, none⟩ = false
theorem b2_new (w : World) (T : TypeId) (x y : Int) : B2 (w.alloc (.cells #[.int .i64 x, .int .i64 y] T)) w.heap.size x y :=
 ⟨by rw [World.cell?_alloc_at _ _ _ _ rfl]; rfl, by rw [World.cell?_alloc_at _ _ _ _ rfl]; rfl, fun _ => World.frozen?_alloc_at _ _ _ _ rfl⟩
theorem B2.lt {w : World} {q : Nat} {x y : Int} (h : B2 w q x y) : q < w.heap.size := cell_lt h.c0
theorem B2.of_block {w w' : World} {q : Nat} {x y : Int} (h : B2 w q x y) (e : w'.heap[q]? = w.heap[q]?) : B2 w' q x y :=
 ⟨(World.cell?_of_block (a := ⟨q, 0, none⟩) e).trans h.c0, (World.cell?_of_block (a := ⟨q, 1, none⟩) e).trans h.c1, fun o => (World.frozen?_of_block (a := ⟨q, o, none⟩) e).trans (h.thaw o)⟩
theorem B2.touch {w w' : World} {q g : Nat} {x y : Int} (h : B2 w q x y) (T : Touch g w w') (hq : q ≠ g) : B2 w' q x y := h.of_block (T.block q h.lt hq)
def iInst (v : Int) (l : List Int) (f : Int) : (Int × Int) × List Int × Int := if v = 1 then iTwo l f else (((iPack l f).1.2, (iPack l f).1.1), (iPack l f).2)
def iBal (v : Int) (l : List Int) (f : Int) : (Int × Int) × List Int × Int := if v = 1 then iTwo l f else iPack l f
def vote1 (l : List Int) (f : Int) : (Int × Bool) × List Int × Int :=
 if (iNext l f).1 = 0 then ((0, false), (iNext l f).2.1, refF (unl (decide ((iNext l f).1 ≤ 2)) 54) (iNext l f).2.2)
 else (((iNext l f).1, (iNext (iNext l f).2.1 (refF (unl (decide ((iNext l f).1 ≤ 2)) 54) (iNext l f).2.2)).1 == 1), (iNext (iNext l f).2.1 (refF (unl (decide ((iNext l f).1 ≤ 2)) 54) (iNext l f).2.2)).2.1,
  refF (unl ((iNext (iNext l f).2.1 (refF (unl (decide ((iNext l f).1 ≤ 2)) 54) (iNext l f).2.2)).1 == 0 || ((iNext (iNext l f).2.1 (refF (unl (decide ((iNext l f).1 ≤ 2)) 54) (iNext l f).2.2)).1 == 1 && (iNext l f).1 == 1)) 54)
   (iNext (iNext l f).2.1 (refF (unl (decide ((iNext l f).1 ≤ 2)) 54) (iNext l f).2.2)).2.2)
def vote2 (l : List Int) (f : Int) : (Int × Bool) × List Int × Int :=
 if (iNext l f).1 = 0 ∨ (iNext l f).1 = 1 ∨ (iNext l f).1 = 2 then (((iNext l f).1, false), (iNext l f).2)
 else if (iNext l f).1 = 5 then ((1, true), (iNext l f).2) else ((0, false), (iNext l f).2.1, refF 54 (iNext l f).2.2)
def iVote (v : Int) (l : List Int) (f : Int) : (Int × Bool) × List Int × Int := if v = 1 then vote1 l f else vote2 l f
section
variable (w0 : World) (g : Nat) (V : Nat → Option Value) (l : List Int)
theorem takeInst1_any (a : Nat → Addr) (f : Int) (w : World) (he : Errs w0 a) (h : Scx w0 w g V l f) :
  Calls Tryz.prog 28 #[.pointer (some ⟨g, 0, none⟩)] w fun r w' => r = .returned (.agg #[.int .i64 (iTwo l f).1.1, .int .i64 (iTwo l f).1.2]) ∧ Touch g w w' ∧ Scx w0 w' g V (iTwo l f).2.1 (iTwo l f).2.2 := by
 have HX := hide (h.alloc (.cells #[.int .i64 0, .int .i64 0] 23))
 have HQ := hide (b2_new w 23 0 0)
 have T0 : Hid (Touch g w (w.alloc (.cells #[.int .i64 0, .int .i64 0] 23))) := Touch.ofBelow ((Below.refl _ _).alloc zN _)
 have hgl := h.lt
 have hgg := h.hg
 have HW := hide h.low.size
 have HE := hide he
 clear h he
 obtain ⟨x, y, l1, f1, e1⟩ : ∃ x y l1 f1, Hid (iTwo l f = ((x, y), l1, f1)) := ⟨_, _, _, _, rfl⟩
 rw [e1.out]
 simp only
 go_enter Tryz.func28, Tryz.ntmps28
 go_wp2_with fail
 refine (itwo_any w0 g V l a f _ HE.out HX.out).mono ?_
 rintro r w1 ⟨rfl, T1, S1⟩
 rw [e1.out] at S1 ⊢
 simp only at S1 ⊢
 have Q1 := HQ.out.touch T1 (by omega)
 have c0 := Q1.c0
 have c1 := Q1.c1
 have t0 := Q1.thaw 0
 have t1 := Q1.thaw 1
 have R : Hid (Touch g w ((w1.setCell ⟨w.heap.size, 0, none⟩ (.int .i64 x)).setCell ⟨w.heap.size, 1, none⟩ (.int .i64 y)) ∧ Scx w0 ((w1.setCell ⟨w.heap.size, 0, none⟩ (.int .i64 x)).setCell ⟨w.heap.size, 1, none⟩ (.int .i64 y)) g V l1 f1) :=
  ⟨((T0.out.trans T1).setNew _ zN).setNew _ zN, (S1.other _ (by omega) HW.out).other _ (by omega) HW.out⟩
 clear T1 S1 Q1 HX HQ T0
 go_wp2
 refine bodyPost_ret (v := .agg #[.int .i64 x, .int .i64 y]) (by simp [results, Tryz.results28, go_sem, *]) rfl ⟨rfl, R.out⟩
theorem takeInst2_any (a : Nat → Addr) (f : Int) (w : World) (he : Errs w0 a) (h : Scx w0 w g V l f) :
  Calls Tryz.prog 34 #[.pointer (some ⟨g, 0, none⟩)] w fun r w' => r = .returned (.agg #[.int .i64 (iPack l f).1.2, .int .i64 (iPack l f).1.1]) ∧ Touch g w w' ∧ Scx w0 w' g V (iPack l f).2.1 (iPack l f).2.2 := by
 have HX := hide (h.alloc (.cells #[.int .i64 0, .int .i64 0] 23))
 have HQ := hide (b2_new w 23 0 0)
 have T0 : Hid (Touch g w (w.alloc (.cells #[.int .i64 0, .int .i64 0] 23))) := Touch.ofBelow ((Below.refl _ _).alloc zN _)
 have hgl := h.lt
 have hgg := h.hg
 have HW := hide h.low.size
 have HE := hide he
 clear h he
 obtain ⟨x, y, l1, f1, e1⟩ : ∃ x y l1 f1, Hid (iPack l f = ((x, y), l1, f1)) := ⟨_, _, _, _, rfl⟩
 rw [e1.out]
 simp only
 go_enter Tryz.func34, Tryz.ntmps34
 go_wp2_with fail
 refine (ipacked_any w0 g V l a f _ HE.out HX.out).mono ?_
 rintro r w1 ⟨rfl, T1, S1⟩
 rw [e1.out] at S1 ⊢
 simp only at S1 ⊢
 have Q1 := HQ.out.touch T1 (by omega)
 have c0 := Q1.c0
 have c1 := Q1.c1
 have t0 := Q1.thaw 0
 have t1 := Q1.thaw 1
 have R : Hid (Touch g w ((w1.setCell ⟨w.heap.size, 0, none⟩ (.int .i64 y)).setCell ⟨w.heap.size, 1, none⟩ (.int .i64 x)) ∧ Scx w0 ((w1.setCell ⟨w.heap.size, 0, none⟩ (.int .i64 y)).setCell ⟨w.heap.size, 1, none⟩ (.int .i64 x)) g V l1 f1) :=
  ⟨((T0.out.trans T1).setNew _ zN).setNew _ zN, (S1.other _ (by omega) HW.out).other _ (by omega) HW.out⟩
 clear T1 S1 Q1 HX HQ T0
 go_wp2
 refine bodyPost_ret (v := .agg #[.int .i64 y, .int .i64 x]) (by simp [results, Tryz.results34, go_sem, *]) rfl ⟨rfl, R.out⟩
theorem takeBallot1_any (a : Nat → Addr) (f : Int) (w : World) (he : Errs w0 a) (h : Scx w0 w g V l f) :
  Calls Tryz.prog 29 #[.pointer (some ⟨g, 0, none⟩)] w fun r w' => r = .returned (.agg #[.int .i64 (iTwo l f).1.1, .int .i64 (iTwo l f).1.2]) ∧ Touch g w w' ∧ Scx w0 w' g V (iTwo l f).2.1 (iTwo l f).2.2 := by
 have HX := hide (h.alloc (.cells #[.int .i64 0, .int .i64 0] 25))
 have HQ := hide (b2_new w 25 0 0)
 have T0 : Hid (Touch g w (w.alloc (.cells #[.int .i64 0, .int .i64 0] 25))) := Touch.ofBelow ((Below.refl _ _).alloc zN _)
 have hgl := h.lt
 have hgg := h.hg
 have HW := hide h.low.size
 have HE := hide he
 clear h he
 obtain ⟨x, y, l1, f1, e1⟩ : ∃ x y l1 f1, Hid (iTwo l f = ((x, y), l1, f1)) := ⟨_, _, _, _, rfl⟩
 rw [e1.out]
 simp only
 go_enter Tryz.func29, Tryz.ntmps29
 go_wp2_with fail
 refine (itwo_any w0 g V l a f _ HE.out HX.out).mono ?_
 rintro r w1 ⟨rfl, T1, S1⟩
 rw [e1.out] at S1 ⊢
 simp only at S1 ⊢
 have Q1 := HQ.out.touch T1 (by omega)
 have c0 := Q1.c0
 have c1 := Q1.c1
 have t0 := Q1.thaw 0
 have t1 := Q1.thaw 1
 have R : Hid (Touch g w ((w1.setCell ⟨w.heap.size, 0, none⟩ (.int .i64 x)).setCell ⟨w.heap.size, 1, none⟩ (.int .i64 y)) ∧ Scx w0 ((w1.setCell ⟨w.heap.size, 0, none⟩ (.int .i64 x)).setCell ⟨w.heap.size, 1, none⟩ (.int .i64 y)) g V l1 f1) :=
  ⟨((T0.out.trans T1).setNew _ zN).setNew _ zN, (S1.other _ (by omega) HW.out).other _ (by omega) HW.out⟩
 clear T1 S1 Q1 HX HQ T0
 go_wp2
 refine bodyPost_ret (v := .agg #[.int .i64 x, .int .i64 y]) (by simp [results, Tryz.results29, go_sem, *]) rfl ⟨rfl, R.out⟩
theorem takeBallot2_any (a : Nat → Addr) (f : Int) (w : World) (he : Errs w0 a) (h : Scx w0 w g V l f) :
  Calls Tryz.prog 35 #[.pointer (some ⟨g, 0, none⟩)] w fun r w' => r = .returned (.agg #[.int .i64 (iPack l f).1.1, .int .i64 (iPack l f).1.2]) ∧ Touch g w w' ∧ Scx w0 w' g V (iPack l f).2.1 (iPack l f).2.2 := by
 have HX := hide (h.alloc (.cells #[.int .i64 0, .int .i64 0] 25))
 have HQ := hide (b2_new w 25 0 0)
 have T0 : Hid (Touch g w (w.alloc (.cells #[.int .i64 0, .int .i64 0] 25))) := Touch.ofBelow ((Below.refl _ _).alloc zN _)
 have hgl := h.lt
 have hgg := h.hg
 have HW := hide h.low.size
 have HE := hide he
 clear h he
 obtain ⟨x, y, l1, f1, e1⟩ : ∃ x y l1 f1, Hid (iPack l f = ((x, y), l1, f1)) := ⟨_, _, _, _, rfl⟩
 rw [e1.out]
 simp only
 go_enter Tryz.func35, Tryz.ntmps35
 go_wp2_with fail
 refine (ipacked_any w0 g V l a f _ HE.out HX.out).mono ?_
 rintro r w1 ⟨rfl, T1, S1⟩
 rw [e1.out] at S1 ⊢
 simp only at S1 ⊢
 have Q1 := HQ.out.touch T1 (by omega)
 have c0 := Q1.c0
 have c1 := Q1.c1
 have t0 := Q1.thaw 0
 have t1 := Q1.thaw 1
 have R : Hid (Touch g w ((w1.setCell ⟨w.heap.size, 0, none⟩ (.int .i64 x)).setCell ⟨w.heap.size, 1, none⟩ (.int .i64 y)) ∧ Scx w0 ((w1.setCell ⟨w.heap.size, 0, none⟩ (.int .i64 x)).setCell ⟨w.heap.size, 1, none⟩ (.int .i64 y)) g V l1 f1) :=
  ⟨((T0.out.trans T1).setNew _ zN).setNew _ zN, (S1.other _ (by omega) HW.out).other _ (by omega) HW.out⟩
 clear T1 S1 Q1 HX HQ T0
 go_wp2
 refine bodyPost_ret (v := .agg #[.int .i64 x, .int .i64 y]) (by simp [results, Tryz.results35, go_sem, *]) rfl ⟨rfl, R.out⟩
theorem takeVote1_any (f : Int) (w : World) (h : Scx w0 w g V l f) :
  Calls Tryz.prog 30 #[.pointer (some ⟨g, 0, none⟩)] w fun r w' => r = .returned (.tuple #[.int .i64 (vote1 l f).1.1, .bool (vote1 l f).1.2]) ∧ Touch g w w' ∧ Scx w0 w' g V (vote1 l f).2.1 (vote1 l f).2.2 := by
 have HX := hide h
 clear h
 obtain ⟨x, l1, f1, e1⟩ : ∃ x l1 f1, Hid (iNext l f = (x, l1, f1)) := ⟨_, _, _, rfl⟩
 have e0 : Hid (vote1 l f = if x = 0 then ((0, false), l1, refF (unl (decide (x ≤ 2)) 54) f1) else ((x, (iNext l1 (refF (unl (decide (x ≤ 2)) 54) f1)).1 == 1), (iNext l1 (refF (unl (decide (x ≤ 2)) 54) f1)).2.1,
  refF (unl ((iNext l1 (refF (unl (decide (x ≤ 2)) 54) f1)).1 == 0 || ((iNext l1 (refF (unl (decide (x ≤ 2)) 54) f1)).1 == 1 && x == 1)) 54) (iNext l1 (refF (unl (decide (x ≤ 2)) 54) f1)).2.2)) := by show _ = _; unfold vote1; rw [e1.out]
 rw [e0.out]
 obtain ⟨u, hu⟩ : ∃ u, Hid (unl (decide (x ≤ 2)) 54 = u) := ⟨_, rfl⟩
 rw [hu.out]
 obtain ⟨f2, hf2⟩ : ∃ f2, Hid (refF u f1 = f2) := ⟨_, rfl⟩
 rw [hf2.out]
 clear e0
 by_cases h0 : x = 0
 ·subst h0
  rw [if_pos rfl]
  simp only
  go_enter Tryz.func30, Tryz.ntmps30
  go_wp2_with fail
  refine (inext_any w0 g V l f _ HX.out).mono ?_
  rintro r w1 ⟨rfl, T1, S1⟩
  rw [e1.out] at S1 ⊢
  simp only at S1 ⊢
  have HT1 := hide T1
  have HS1 := hide S1
  clear T1 S1 HX
  go_wp2_with fail
  refine (unless_any true 54 _).mono ?_
  rintro r w2 ⟨rfl, rfl⟩
  rw [show unl true 54 = u from hu.out]
  go_wp2_with fail
  refine (irefuse_x w0 g V l1 f1 u _ HS1.out).mono ?_
  rintro r w3 ⟨rfl, T3, S3⟩
  rw [hf2.out] at S3
  have F := hide (And.intro (HT1.out.trans T3) S3)
  clear T3 S3 HS1 HT1
  go_wp2
  go_ret2
  exact ⟨rfl, F.out⟩
 ·rw [if_neg h0]
  obtain ⟨y, l2, f3, e2⟩ : ∃ y l2 f3, Hid (iNext l1 f2 = (y, l2, f3)) := ⟨_, _, _, rfl⟩
  rw [e2.out]
  simp only
  obtain ⟨b, hb⟩ : ∃ b, Hid ((y == 0 || (y == 1 && x == 1)) = b) := ⟨_, rfl⟩
  rw [hb.out]
  have g0 : (x == 0) = false := by rw [beq_eq_false_iff_ne]; exact h0
  clear h0
  have B : ∀ q0 q1 q2 : Bool, (y == 0) = q0 → (y == 1) = q1 → (x == 1) = q2 → Hid ((q0 || (q1 && q2)) = b) := fun q0 q1 q2 h1 h2 h3 => by rw [← h1, ← h2, ← h3]; exact hb
  obtain ⟨q0, hq0⟩ : ∃ q, (y == 0) = q := ⟨_, rfl⟩
  obtain ⟨q1, hq1⟩ : ∃ q, (y == 1) = q := ⟨_, rfl⟩
  obtain ⟨q2, hq2⟩ : ∃ q, (x == 1) = q := ⟨_, rfl⟩
  have HB := B q0 q1 q2 hq0 hq1 hq2
  clear B hb
  obtain ⟨d, hd⟩ : ∃ d, decide (x ≤ 2) = d := ⟨_, rfl⟩
  rw [hd] at hu
  rw [hq1]
  cases q0 <;> cases q1 <;> cases q2
  all_goals
   have hb' := HB.out
   subst hb'
   clear HB
   go_enter Tryz.func30, Tryz.ntmps30
   go_wp2_with fail
   refine (inext_any w0 g V l f _ HX.out).mono ?_
   rintro r w1 ⟨rfl, T1, S1⟩
   rw [e1.out] at S1 ⊢
   simp only at S1 ⊢
   have HT1 := hide T1
   have HS1 := hide S1
   clear T1 S1 HX
   go_wp2_with fail
   refine (unless_any d 54 _).mono ?_
   rintro r w2 ⟨rfl, rfl⟩
   rw [hu.out]
   go_wp2_with fail
   refine (irefuse_x w0 g V l1 f1 u _ HS1.out).mono ?_
   rintro r w3 ⟨rfl, T3, S3⟩
   rw [hf2.out] at S3
   have HT3 := hide (HT1.out.trans T3)
   have HS3 := hide S3
   clear T3 S3 HS1 HT1
   go_wp2_with fail
   refine (inext_any w0 g V l1 f2 _ HS3.out).mono ?_
   rintro r w4 ⟨rfl, T4, S4⟩
   rw [e2.out] at S4 ⊢
   simp only at S4 ⊢
   have HT4 := hide (HT3.out.trans T4)
   have HS4 := hide S4
   clear T4 S4 HS3 HT3
   go_wp2_with fail
   refine (unless_any _ 54 _).mono ?_
   rintro r w5 ⟨rfl, rfl⟩
   go_wp2_with fail
   refine (irefuse_x w0 g V l2 f3 _ _ HS4.out).mono ?_
   rintro r w6 ⟨rfl, T6, S6⟩
   have F := hide (And.intro (HT4.out.trans T6) S6)
   clear T6 S6 HS4 HT4
   go_wp2
   go_ret2
   exact ⟨rfl, F.out⟩
theorem takeVote2_any (f : Int) (w : World) (h : Scx w0 w g V l f) :
  Calls Tryz.prog 36 #[.pointer (some ⟨g, 0, none⟩)] w fun r w' => r = .returned (.tuple #[.int .i64 (vote2 l f).1.1, .bool (vote2 l f).1.2]) ∧ Touch g w w' ∧ Scx w0 w' g V (vote2 l f).2.1 (vote2 l f).2.2 := by
 have HX := hide h
 clear h
 obtain ⟨x, l1, f1, e1⟩ : ∃ x l1 f1, Hid (iNext l f = (x, l1, f1)) := ⟨_, _, _, rfl⟩
 have e0 : Hid (vote2 l f = if x = 0 ∨ x = 1 ∨ x = 2 then ((x, false), l1, f1) else if x = 5 then ((1, true), l1, f1) else ((0, false), l1, refF 54 f1)) := by show _ = _; unfold vote2; rw [e1.out]
 rw [e0.out]
 clear e0
 by_cases h0 : x = 0 ∨ x = 1 ∨ x = 2
 ·rw [if_pos h0]
  simp only
  rcases h0 with rfl | rfl | rfl
  all_goals
   go_enter Tryz.func36, Tryz.ntmps36
   go_wp2_with fail
   refine (inext_any w0 g V l f _ HX.out).mono ?_
   rintro r w1 ⟨rfl, T1, S1⟩
   rw [e1.out] at S1 ⊢
   simp only at S1 ⊢
   have HT1 := hide T1
   have HS1 := hide S1
   clear T1 S1 HX
   go_wp2
   go_ret2
   exact ⟨rfl, HT1.out, HS1.out⟩
 ·rw [if_neg h0]
  have a0 : (x == 0) = false := by rw [beq_eq_false_iff_ne]; omega
  have a1 : (x == 1) = false := by rw [beq_eq_false_iff_ne]; omega
  have a2 : (x == 2) = false := by rw [beq_eq_false_iff_ne]; omega
  clear h0
  by_cases h5 : x = 5
  ·subst h5
   rw [if_pos rfl]
   simp only
   go_enter Tryz.func36, Tryz.ntmps36
   go_wp2_with fail
   refine (inext_any w0 g V l f _ HX.out).mono ?_
   rintro r w1 ⟨rfl, T1, S1⟩
   rw [e1.out] at S1 ⊢
   simp only at S1 ⊢
   have HT1 := hide T1
   have HS1 := hide S1
   clear T1 S1 HX
   go_wp2
   go_ret2
   exact ⟨rfl, HT1.out, HS1.out⟩
  ·rw [if_neg h5]
   simp only
   have a5 : (x == 5) = false := by rw [beq_eq_false_iff_ne]; omega
   clear h5
   go_enter Tryz.func36, Tryz.ntmps36
   go_wp2_with fail
   refine (inext_any w0 g V l f _ HX.out).mono ?_
   rintro r w1 ⟨rfl, T1, S1⟩
   rw [e1.out] at S1 ⊢
   simp only at S1 ⊢
   have HT1 := hide T1
   have HS1 := hide S1
   clear T1 S1 HX
   go_wp2_with fail
   refine (irefuse_x w0 g V l1 f1 54 _ HS1.out).mono ?_
   rintro r w3 ⟨rfl, T3, S3⟩
   have F := hide (And.intro (HT1.out.trans T3) S3)
   clear T3 S3 HS1 HT1
   go_wp2
   go_ret2
   exact ⟨rfl, F.out⟩
end
end Go.Proofs.YtibfdoggolkljaaGreatDoor
namespace Go.Wire1
open Go.RowKit
def tx (s : ByteArray) : List Int := s.data.toList.map fun b => (b.toNat : Int)
theorem tx_len (s : ByteArray) : (tx s).length = s.size := by
 show (s.data.toList.map _).length = s.data.size
 rw [List.length_map, Array.length_toList]
def ptx (s : ByteArray) : List Int := enc s.size ++ tx s
def shL : List UInt8 → List UInt8 → Nat
 | a :: x, b :: y => if a = b then shL x y + 1 else 0
 | _, _ => 0
def shared (k k2 : ByteArray) : Nat := shL k.data.toList k2.data.toList
theorem shL_le : ∀ x y : List UInt8, shL x y ≤ x.length ∧ shL x y ≤ y.length
 | [], _ => by simp [shL]
 | _ :: _, [] => by simp [shL]
 | a :: x, b :: y => by
  have := shL_le x y
  simp only [shL]
  split <;> simp <;> omega
theorem shared_le (k k2 : ByteArray) : shared k k2 ≤ k.size ∧ shared k k2 ≤ k2.size := by
 have := shL_le k.data.toList k2.data.toList
 rw [← Lib.size_eq, ← Lib.size_eq] at this
 exact this
theorem shL_drop : ∀ (i : Nat) (x y : List UInt8), i < x.length → i < y.length → shL (x.drop i) (y.drop i) = if x.getD i 0 = y.getD i 0 then shL (x.drop (i + 1)) (y.drop (i + 1)) + 1 else 0 := by
 intro i x y hx hy
 rw [List.drop_eq_getElem_cons hx, List.drop_eq_getElem_cons hy, List.getD, List.getD, List.getElem?_eq_getElem hx, List.getElem?_eq_getElem hy]
 rfl
theorem shL_end (i : Nat) (x y : List UInt8) (h : x.length ≤ i ∨ y.length ≤ i) : shL (x.drop i) (y.drop i) = 0 := by
 rcases h with h | h
 ·rw [List.drop_eq_nil_of_le h]; rfl
 ·rw [List.drop_eq_nil_of_le h]; cases x.drop i <;> rfl
def restC (c : Cm) : List Int :=
 if 6 ≤ c.kind then enc (shared c.key c.key2) ++ ptx (c.key2.extract (shared c.key c.key2) c.key2.size)
 else if c.kind = 5 then ptx c.old ++ ptx c.val
 else if c.kind = 2 then ptx c.val
 else if c.kind = 4 then enc (zig c.n)
 else []
def encC (c : Cm) : List Int := if c.kind = 0 then [0] else [c.kind] ++ enc c.client.toNat ++ enc c.req.toNat ++ ptx c.key ++ restC c
theorem chk_zero {v : Int} {c : Cm} (h : chk v c = 0) : (v = 1 ∨ v = 2) ∧ isKd v c.kind = true ∧ ∀ f, f < 7 → faultF v c f = 0 := by
 unfold chk at h
 cases h1 : isVer v with
 | false => rw [h1] at h; simp at h
 | true =>
  cases h2 : isKd v c.kind with
  | false => rw [h1, h2] at h; simp at h
  | true =>
   rw [h1, h2] at h
   simp only [if_true] at h
   refine ⟨by simpa [isVer] using h1, rfl, ?_⟩
   have go : ∀ k f, firstF v c k f = 0 → ∀ j, f ≤ j → j < f + k → faultF v c j = 0 := by
    intro k
    induction k with
    | zero => intro f _ j h1 h2; omega
    | succ k ih =>
     intro f hf j h1 h2
     simp only [firstF] at hf
     by_cases h0 : faultF v c f = 0
     ·rw [if_pos h0] at hf
      by_cases e : j = f
      ·rw [e]; exact h0
      ·exact ih (f + 1) hf j (by omega) (by omega)
     ·rw [if_neg h0] at hf; exact absurd hf h0
   exact fun f hf => go 7 0 h f (by omega) (by omega)
theorem has_allow {v : Int} {c : Cm} {f : Nat} (h : faultF v c f = 0) (hf : f < 6) (hh : hasF c.kind f = true) : allowF v c f = true := by
 unfold faultF at h
 rw [hh] at h
 simp only [if_true] at h
 cases ha : allowF v c f with
 | true => rfl
 | false =>
  rw [ha] at h
  simp only [Bool.false_eq_true, if_false, errF] at h
  split at h <;> omega
structure Sound (c : Cm) : Prop where
 k0 : 0 ≤ c.kind
 k8 : c.kind ≤ 8
 client : c.kind ≠ 0 → 0 ≤ c.client ∧ c.client ≤ 65535
 req : c.kind ≠ 0 → 0 ≤ c.req ∧ c.req ≤ 1073741824
 key : c.kind ≠ 0 → 1 ≤ c.key.size ∧ c.key.size ≤ 64
 key2 : 6 ≤ c.kind → 1 ≤ c.key2.size ∧ c.key2.size ≤ 64 ∧ isPairB c.kind c.key c.key2 = true
 val : c.kind = 2 ∨ c.kind = 5 → c.val.size ≤ 65536
 old : c.kind = 5 → c.old.size ≤ 65536
theorem hasT (k : Fin 9) : (k.val ≠ 0 → hasF (k.val : Int) 0 = true ∧ hasF (k.val : Int) 1 = true ∧ hasF (k.val : Int) 2 = true) ∧ (6 ≤ k.val → hasF (k.val : Int) 3 = true) ∧ (k.val = 2 ∨ k.val = 5 → hasF (k.val : Int) 4 = true) ∧ (k.val = 5 → hasF (k.val : Int) 5 = true) := by
 revert k; decide
theorem sound_of {v : Int} {c : Cm} (h : chk v c = 0) : Sound c := by
 obtain ⟨hv, hk, hf⟩ := chk_zero h
 simp only [isKd, Bool.and_eq_true, decide_eq_true_eq] at hk
 obtain ⟨k, hkk⟩ := zI hk.1
 have hk9 : k < 9 := by omega
 obtain ⟨t1, t2, t3, t4⟩ := hasT ⟨k, hk9⟩
 simp only at t1 t2 t3 t4
 rw [show ((k : Nat) : Int) = c.kind from hkk.symm] at t1 t2 t3 t4
 have hm : mostV v ≤ 65536 := by unfold mostV; split <;> omega
 refine ⟨hk.1, by omega, fun hn => ?_, fun hn => ?_, fun hn => ?_, fun hn => ?_, fun hn => ?_, fun hn => ?_⟩
 ·have := has_allow (hf 0 (by omega)) (by omega) (t1 (by omega)).1
  simpa [allowF] using this
 ·have := has_allow (hf 1 (by omega)) (by omega) (t1 (by omega)).2.1
  simpa [allowF] using this
 ·have := has_allow (hf 2 (by omega)) (by omega) (t1 (by omega)).2.2
  simp only [allowF, isKeyB, Bool.and_eq_true, decide_eq_true_eq] at this
  exact this
 ·have := has_allow (hf 3 (by omega)) (by omega) (t2 (by omega))
  simp only [allowF, isKeyB, Bool.and_eq_true, decide_eq_true_eq] at this
  exact ⟨this.1.1, this.1.2, this.2⟩
 ·have := has_allow (hf 4 (by omega)) (by omega) (t3 (by omega))
  simp only [allowF, decide_eq_true_eq] at this
  omega
 ·have := has_allow (hf 5 (by omega)) (by omega) (t4 (by omega))
  simp only [allowF, decide_eq_true_eq] at this
  omega
end Go.Wire1
