import Derived.Lib.AppendStr
import Derived.Test.YtppocmgcfeelhaaGreatDoorJ07
set_option maxHeartbeats 1000000
set_option maxRecDepth 100000
namespace Go.Proofs.YtppocmgcfeelhaaGreatDoor
open Go.RowKit Go.Wire1
structure B2 (w : World) (q : Nat) (x y : Int) : Prop where
 c0 : w.cell? ⟨q, 0, none⟩ = some (.int .i64 x)
 c1 : w.cell? ⟨q, 1, none⟩ = some (.int .i64 y)
 thaw : ∀ o, w.frozen? ⟨q, o, none⟩ = false
theorem b2_new (w : World) (T : TypeId) (x y : Int) : B2 (w.alloc (.cells #[.int .i64 x, .int .i64 y] T)) w.heap.size x y :=
 ⟨by rw [World.cell?_alloc_at _ _ _ _ rfl]; rfl, by rw [World.cell?_alloc_at _ _ _ _ rfl]; rfl, fun _ => World.frozen?_alloc_at _ _ _ _ rfl⟩
theorem B2.lt {w : World} {q : Nat} {x y : Int} (h : B2 w q x y) : q < w.heap.size := cell_lt h.c0
theorem B2.of_block {w w' : World} {q : Nat} {x y : Int} (h : B2 w q x y) (e : w'.heap[q]? = w.heap[q]?) : B2 w' q x y :=
 ⟨(World.cell?_of_block (a := ⟨q, 0, none⟩) e).trans h.c0, (World.cell?_of_block (a := ⟨q, 1, none⟩) e).trans h.c1, fun o => (World.frozen?_of_block (a := ⟨q, o, none⟩) e).trans (h.thaw o)⟩
theorem B2.touch {w w' : World} {q g : Nat} {x y : Int} (h : B2 w q x y) (T : Touch g w w') (hq : q ≠ g) : B2 w' q x y := h.of_block (T.block q h.lt hq)
def iInst (v : Int) (l : List Int) (f : Int) : (Int × Int) × List Int × Int := if v = 1 then iTwo l f else (((iPack l f).1.2, (iPack l f).1.1), (iPack l f).2)
def iBal (v : Int) (l : List Int) (f : Int) : (Int × Int) × List Int × Int := if v = 1 then iTwo l f else iPack l f
def vote1 (l : List Int) (f : Int) : (Int × Bool) × List Int × Int :=
 if (iNext l f).1 = 0 then ((0, false), (iNext l f).2.1, refF (unl (decide ((iNext l f).1 ≤ 2)) 54) (iNext l f).2.2)
 else (((iNext l f).1, (iNext (iNext l f).2.1 (refF (unl (decide ((iNext l f).1 ≤ 2)) 54) (iNext l f).2.2)).1 == 1), (iNext (iNext l f).2.1 (refF (unl (decide ((iNext l f).1 ≤ 2)) 54) (iNext l f).2.2)).2.1,
  refF (unl ((iNext (iNext l f).2.1 (refF (unl (decide ((iNext l f).1 ≤ 2)) 54) (iNext l f).2.2)).1 == 0 || ((iNext (iNext l f).2.1 (refF (unl (decide ((iNext l f).1 ≤ 2)) 54) (iNext l f).2.2)).1 == 1 && (iNext l f).1 == 1)) 54)
   (iNext (iNext l f).2.1 (refF (unl (decide ((iNext l f).1 ≤ 2)) 54) (iNext l f).2.2)).2.2)
def vote2 (l : List Int) (f : Int) : (Int × Bool) × List Int × Int :=
 if (iNext l f).1 = 0 ∨ (iNext l f).1 = 1 ∨ (iNext l f).1 = 2 then (((iNext l f).1, false), (iNext l f).2)
 else if (iNext l f).1 = 5 then ((1, true), (iNext l f).2) else ((0, false), (iNext l f).2.1, refF 54 (iNext l f).2.2)
def iVote (v : Int) (l : List Int) (f : Int) : (Int × Bool) × List Int × Int := if v = 1 then vote1 l f else vote2 l f
section
variable (w0 : World) (g : Nat) (V : Nat → Option Value) (l : List Int)
theorem takeInst1_any (a : Nat → Addr) (f : Int) (w : World) (he : Errs w0 a) (h : Scx w0 w g V l f) :
  Calls Tryz.prog 32 #[.pointer (some ⟨g, 0, none⟩)] w fun r w' => r = .returned (.agg #[.int .i64 (iTwo l f).1.1, .int .i64 (iTwo l f).1.2]) ∧ Touch g w w' ∧ Scx w0 w' g V (iTwo l f).2.1 (iTwo l f).2.2 := by
 have HX := hide (h.alloc (.cells #[.int .i64 0, .int .i64 0] 23))
 have HQ := hide (b2_new w 23 0 0)
 have T0 : Hid (Touch g w (w.alloc (.cells #[.int .i64 0, .int .i64 0] 23))) := Touch.ofBelow ((Below.refl _ _).alloc zN _)
 have hgl := h.lt
 have hgg := h.hg
 have HW := hide h.low.size
 have HE := hide he
 clear h he
 obtain ⟨x, y, l1, f1, e1⟩ : ∃ x y l1 f1, Hid (iTwo l f = ((x, y), l1, f1)) := ⟨_, _, _, _, rfl⟩
 rw [e1.out]
 simp only
 go_enter Tryz.func32, Tryz.ntmps32
 go_wp2_with fail
 refine (itwo_any w0 g V l a f _ HE.out HX.out).mono ?_
 rintro r w1 ⟨rfl, T1, S1⟩
 rw [e1.out] at S1 ⊢
 simp only at S1 ⊢
 have Q1 := HQ.out.touch T1 (by omega)
 have c0 := Q1.c0
 have c1 := Q1.c1
 have t0 := Q1.thaw 0
 have t1 := Q1.thaw 1
 have R : Hid (Touch g w ((w1.setCell ⟨w.heap.size, 0, none⟩ (.int .i64 x)).setCell ⟨w.heap.size, 1, none⟩ (.int .i64 y)) ∧ Scx w0 ((w1.setCell ⟨w.heap.size, 0, none⟩ (.int .i64 x)).setCell ⟨w.heap.size, 1, none⟩ (.int .i64 y)) g V l1 f1) :=
  ⟨((T0.out.trans T1).setNew _ zN).setNew _ zN, (S1.other _ (by omega) HW.out).other _ (by omega) HW.out⟩
 clear T1 S1 Q1 HX HQ T0
 go_wp2
 refine bodyPost_ret (v := .agg #[.int .i64 x, .int .i64 y]) (by simp [results, Tryz.results32, go_sem, *]) rfl ⟨rfl, R.out⟩
theorem takeInst2_any (a : Nat → Addr) (f : Int) (w : World) (he : Errs w0 a) (h : Scx w0 w g V l f) :
  Calls Tryz.prog 38 #[.pointer (some ⟨g, 0, none⟩)] w fun r w' => r = .returned (.agg #[.int .i64 (iPack l f).1.2, .int .i64 (iPack l f).1.1]) ∧ Touch g w w' ∧ Scx w0 w' g V (iPack l f).2.1 (iPack l f).2.2 := by
 have HX := hide (h.alloc (.cells #[.int .i64 0, .int .i64 0] 23))
 have HQ := hide (b2_new w 23 0 0)
 have T0 : Hid (Touch g w (w.alloc (.cells #[.int .i64 0, .int .i64 0] 23))) := Touch.ofBelow ((Below.refl _ _).alloc zN _)
 have hgl := h.lt
 have hgg := h.hg
 have HW := hide h.low.size
 have HE := hide he
 clear h he
 obtain ⟨x, y, l1, f1, e1⟩ : ∃ x y l1 f1, Hid (iPack l f = ((x, y), l1, f1)) := ⟨_, _, _, _, rfl⟩
 rw [e1.out]
 simp only
 go_enter Tryz.func38, Tryz.ntmps38
 go_wp2_with fail
 refine (ipacked_any w0 g V l a f _ HE.out HX.out).mono ?_
 rintro r w1 ⟨rfl, T1, S1⟩
 rw [e1.out] at S1 ⊢
 simp only at S1 ⊢
 have Q1 := HQ.out.touch T1 (by omega)
 have c0 := Q1.c0
 have c1 := Q1.c1
 have t0 := Q1.thaw 0
 have t1 := Q1.thaw 1
 have R : Hid (Touch g w ((w1.setCell ⟨w.heap.size, 0, none⟩ (.int .i64 y)).setCell ⟨w.heap.size, 1, none⟩ (.int .i64 x)) ∧ Scx w0 ((w1.setCell ⟨w.heap.size, 0, none⟩ (.int .i64 y)).setCell ⟨w.heap.size, 1, none⟩ (.int .i64 x)) g V l1 f1) :=
  ⟨((T0.out.trans T1).setNew _ zN).setNew _ zN, (S1.other _ (by omega) HW.out).other _ (by omega) HW.out⟩
 clear T1 S1 Q1 HX HQ T0
 go_wp2
 refine bodyPost_ret (v := .agg #[.int .i64 y, .int .i64 x]) (by simp [results, Tryz.results38, go_sem, *]) rfl ⟨rfl, R.out⟩
theorem takeBallot1_any (a : Nat → Addr) (f : Int) (w : World) (he : Errs w0 a) (h : Scx w0 w g V l f) :
  Calls Tryz.prog 33 #[.pointer (some ⟨g, 0, none⟩)] w fun r w' => r = .returned (.agg #[.int .i64 (iTwo l f).1.1, .int .i64 (iTwo l f).1.2]) ∧ Touch g w w' ∧ Scx w0 w' g V (iTwo l f).2.1 (iTwo l f).2.2 := by
 have HX := hide (h.alloc (.cells #[.int .i64 0, .int .i64 0] 25))
 have HQ := hide (b2_new w 25 0 0)
 have T0 : Hid (Touch g w (w.alloc (.cells #[.int .i64 0, .int .i64 0] 25))) := Touch.ofBelow ((Below.refl _ _).alloc zN _)
 have hgl := h.lt
 have hgg := h.hg
 have HW := hide h.low.size
 have HE := hide he
 clear h he
 obtain ⟨x, y, l1, f1, e1⟩ : ∃ x y l1 f1, Hid (iTwo l f = ((x, y), l1, f1)) := ⟨_, _, _, _, rfl⟩
 rw [e1.out]
 simp only
 go_enter Tryz.func33, Tryz.ntmps33
 go_wp2_with fail
 refine (itwo_any w0 g V l a f _ HE.out HX.out).mono ?_
 rintro r w1 ⟨rfl, T1, S1⟩
 rw [e1.out] at S1 ⊢
 simp only at S1 ⊢
 have Q1 := HQ.out.touch T1 (by omega)
 have c0 := Q1.c0
 have c1 := Q1.c1
 have t0 := Q1.thaw 0
 have t1 := Q1.thaw 1
 have R : Hid (Touch g w ((w1.setCell ⟨w.heap.size, 0, none⟩ (.int .i64 x)).setCell ⟨w.heap.size, 1, none⟩ (.int .i64 y)) ∧ Scx w0 ((w1.setCell ⟨w.heap.size, 0, none⟩ (.int .i64 x)).setCell ⟨w.heap.size, 1, none⟩ (.int .i64 y)) g V l1 f1) :=
  ⟨((T0.out.trans T1).setNew _ zN).setNew _ zN, (S1.other _ (by omega) HW.out).other _ (by omega) HW.out⟩
 clear T1 S1 Q1 HX HQ T0
 go_wp2
 refine bodyPost_ret (v := .agg #[.int .i64 x, .int .i64 y]) (by simp [results, Tryz.results33, go_sem, *]) rfl ⟨rfl, R.out⟩
theorem takeBallot2_any (a : Nat → Addr) (f : Int) (w : World) (he : Errs w0 a) (h : Scx w0 w g V l f) :
  Calls Tryz.prog 39 #[.pointer (some ⟨g, 0, none⟩)] w fun r w' => r = .returned (.agg #[.int .i64 (iPack l f).1.1, .int .i64 (iPack l f).1.2]) ∧ Touch g w w' ∧ Scx w0 w' g V (iPack l f).2.1 (iPack l f).2.2 := by
 have HX := hide (h.alloc (.cells #[.int .i64 0, .int .i64 0] 25))
 have HQ := hide (b2_new w 25 0 0)
 have T0 : Hid (Touch g w (w.alloc (.cells #[.int .i64 0, .int .i64 0] 25))) := Touch.ofBelow ((Below.refl _ _).alloc zN _)
 have hgl := h.lt
 have hgg := h.hg
 have HW := hide h.low.size
 have HE := hide he
 clear h he
 obtain ⟨x, y, l1, f1, e1⟩ : ∃ x y l1 f1, Hid (iPack l f = ((x, y), l1, f1)) := ⟨_, _, _, _, rfl⟩
 rw [e1.out]
 simp only
 go_enter Tryz.func39, Tryz.ntmps39
 go_wp2_with fail
 refine (ipacked_any w0 g V l a f _ HE.out HX.out).mono ?_
 rintro r w1 ⟨rfl, T1, S1⟩
 rw [e1.out] at S1 ⊢
 simp only at S1 ⊢
 have Q1 := HQ.out.touch T1 (by omega)
 have c0 := Q1.c0
 have c1 := Q1.c1
 have t0 := Q1.thaw 0
 have t1 := Q1.thaw 1
 have R : Hid (Touch g w ((w1.setCell ⟨w.heap.size, 0, none⟩ (.int .i64 x)).setCell ⟨w.heap.size, 1, none⟩ (.int .i64 y)) ∧ Scx w0 ((w1.setCell ⟨w.heap.size, 0, none⟩ (.int .i64 x)).setCell ⟨w.heap.size, 1, none⟩ (.int .i64 y)) g V l1 f1) :=
  ⟨((T0.out.trans T1).setNew _ zN).setNew _ zN, (S1.other _ (by omega) HW.out).other _ (by omega) HW.out⟩
 clear T1 S1 Q1 HX HQ T0
 go_wp2
 refine bodyPost_ret (v := .agg #[.int .i64 x, .int .i64 y]) (by simp [results, Tryz.results39, go_sem, *]) rfl ⟨rfl, R.out⟩
theorem takeVote1_any (f : Int) (w : World) (h : Scx w0 w g V l f) :
  Calls Tryz.prog 34 #[.pointer (some ⟨g, 0, none⟩)] w fun r w' => r = .returned (.tuple #[.int .i64 (vote1 l f).1.1, .bool (vote1 l f).1.2]) ∧ Touch g w w' ∧ Scx w0 w' g V (vote1 l f).2.1 (vote1 l f).2.2 := by
 have HX := hide h
 clear h
 obtain ⟨x, l1, f1, e1⟩ : ∃ x l1 f1, Hid (iNext l f = (x, l1, f1)) := ⟨_, _, _, rfl⟩
 have e0 : Hid (vote1 l f = if x = 0 then ((0, false), l1, refF (unl (decide (x ≤ 2)) 54) f1) else ((x, (iNext l1 (refF (unl (decide (x ≤ 2)) 54) f1)).1 == 1), (iNext l1 (refF (unl (decide (x ≤ 2)) 54) f1)).2.1,
  refF (unl ((iNext l1 (refF (unl (decide (x ≤ 2)) 54) f1)).1 == 0 || ((iNext l1 (refF (unl (decide (x ≤ 2)) 54) f1)).1 == 1 && x == 1)) 54) (iNext l1 (refF (unl (decide (x ≤ 2)) 54) f1)).2.2)) := by show _ = _; unfold vote1; rw [e1.out]
 rw [e0.out]
 obtain ⟨u, hu⟩ : ∃ u, Hid (unl (decide (x ≤ 2)) 54 = u) := ⟨_, rfl⟩
 rw [hu.out]
 obtain ⟨f2, hf2⟩ : ∃ f2, Hid (refF u f1 = f2) := ⟨_, rfl⟩
 rw [hf2.out]
 clear e0
 by_cases h0 : x = 0
 ·subst h0
  rw [if_pos rfl]
  simp only
  go_enter Tryz.func34, Tryz.ntmps34
  go_wp2_with fail
  refine (inext_any w0 g V l f _ HX.out).mono ?_
  rintro r w1 ⟨rfl, T1, S1⟩
  rw [e1.out] at S1 ⊢
  simp only at S1 ⊢
  have HT1 := hide T1
  have HS1 := hide S1
  clear T1 S1 HX
  go_wp2_with fail
  refine (unless_any true 54 _).mono ?_
  rintro r w2 ⟨rfl, rfl⟩
  rw [show unl true 54 = u from hu.out]
  go_wp2_with fail
  refine (irefuse_x w0 g V l1 f1 u _ HS1.out).mono ?_
  rintro r w3 ⟨rfl, T3, S3⟩
  rw [hf2.out] at S3
  have F := hide (And.intro (HT1.out.trans T3) S3)
  clear T3 S3 HS1 HT1
  go_wp2
  go_ret2
  exact ⟨rfl, F.out⟩
 ·rw [if_neg h0]
  obtain ⟨y, l2, f3, e2⟩ : ∃ y l2 f3, Hid (iNext l1 f2 = (y, l2, f3)) := ⟨_, _, _, rfl⟩
  rw [e2.out]
  simp only
  obtain ⟨b, hb⟩ : ∃ b, Hid ((y == 0 || (y == 1 && x == 1)) = b) := ⟨_, rfl⟩
  rw [hb.out]
  have g0 : (x == 0) = false := by rw [beq_eq_false_iff_ne]; exact h0
  clear h0
  have B : ∀ q0 q1 q2 : Bool, (y == 0) = q0 → (y == 1) = q1 → (x == 1) = q2 → Hid ((q0 || (q1 && q2)) = b) := fun q0 q1 q2 h1 h2 h3 => by rw [← h1, ← h2, ← h3]; exact hb
  obtain ⟨q0, hq0⟩ : ∃ q, (y == 0) = q := ⟨_, rfl⟩
  obtain ⟨q1, hq1⟩ : ∃ q, (y == 1) = q := ⟨_, rfl⟩
  obtain ⟨q2, hq2⟩ : ∃ q, (x == 1) = q := ⟨_, rfl⟩
  have HB := B q0 q1 q2 hq0 hq1 hq2
  clear B hb
  obtain ⟨d, hd⟩ : ∃ d, decide (x ≤ 2) = d := ⟨_, rfl⟩
  rw [hd] at hu
  rw [hq1]
  cases q0 <;> cases q1 <;> cases q2
  all_goals
   have hb' := HB.out
   subst hb'
   clear HB
   go_enter Tryz.func34, Tryz.ntmps34
   go_wp2_with fail
   refine (inext_any w0 g V l f _ HX.out).mono ?_
   rintro r w1 ⟨rfl, T1, S1⟩
   rw [e1.out] at S1 ⊢
   simp only at S1 ⊢
   have HT1 := hide T1
   have HS1 := hide S1
   clear T1 S1 HX
   go_wp2_with fail
   refine (unless_any d 54 _).mono ?_
   rintro r w2 ⟨rfl, rfl⟩
   rw [hu.out]
   go_wp2_with fail
   refine (irefuse_x w0 g V l1 f1 u _ HS1.out).mono ?_
   rintro r w3 ⟨rfl, T3, S3⟩
   rw [hf2.out] at S3
   have HT3 := hide (HT1.out.trans T3)
   have HS3 := hide S3
   clear T3 S3 HS1 HT1
   go_wp2_with fail
   refine (inext_any w0 g V l1 f2 _ HS3.out).mono ?_
   rintro r w4 ⟨rfl, T4, S4⟩
   rw [e2.out] at S4 ⊢
   simp only at S4 ⊢
   have HT4 := hide (HT3.out.trans T4)
   have HS4 := hide S4
   clear T4 S4 HS3 HT3
   go_wp2_with fail
   refine (unless_any _ 54 _).mono ?_
   rintro r w5 ⟨rfl, rfl⟩
   go_wp2_with fail
   refine (irefuse_x w0 g V l2 f3 _ _ HS4.out).mono ?_
   rintro r w6 ⟨rfl, T6, S6⟩
   have F := hide (And.intro (HT4.out.trans T6) S6)
   clear T6 S6 HS4 HT4
   go_wp2
   go_ret2
   exact ⟨rfl, F.out⟩
theorem takeVote2_any (f : Int) (w : World) (h : Scx w0 w g V l f) :
  Calls Tryz.prog 40 #[.pointer (some ⟨g, 0, none⟩)] w fun r w' => r = .returned (.tuple #[.int .i64 (vote2 l f).1.1, .bool (vote2 l f).1.2]) ∧ Touch g w w' ∧ Scx w0 w' g V (vote2 l f).2.1 (vote2 l f).2.2 := by
 have HX := hide h
 clear h
 obtain ⟨x, l1, f1, e1⟩ : ∃ x l1 f1, Hid (iNext l f = (x, l1, f1)) := ⟨_, _, _, rfl⟩
 have e0 : Hid (vote2 l f = if x = 0 ∨ x = 1 ∨ x = 2 then ((x, false), l1, f1) else if x = 5 then ((1, true), l1, f1) else ((0, false), l1, refF 54 f1)) := by show _ = _; unfold vote2; rw [e1.out]
 rw [e0.out]
 clear e0
 by_cases h0 : x = 0 ∨ x = 1 ∨ x = 2
 ·rw [if_pos h0]
  simp only
  rcases h0 with rfl | rfl | rfl
  all_goals
   go_enter Tryz.func40, Tryz.ntmps40
   go_wp2_with fail
   refine (inext_any w0 g V l f _ HX.out).mono ?_
   rintro r w1 ⟨rfl, T1, S1⟩
   rw [e1.out] at S1 ⊢
   simp only at S1 ⊢
   have HT1 := hide T1
   have HS1 := hide S1
   clear T1 S1 HX
   go_wp2
   go_ret2
   exact ⟨rfl, HT1.out, HS1.out⟩
 ·rw [if_neg h0]
  have a0 : (x == 0) = false := by rw [beq_eq_false_iff_ne]; omega
  have a1 : (x == 1) = false := by rw [beq_eq_false_iff_ne]; omega
  have a2 : (x == 2) = false := by rw [beq_eq_false_iff_ne]; omega
  clear h0
  by_cases h5 : x = 5
  ·subst h5
   rw [if_pos rfl]
   simp only
   go_enter Tryz.func40, Tryz.ntmps40
   go_wp2_with fail
   refine (inext_any w0 g V l f _ HX.out).mono ?_
   rintro r w1 ⟨rfl, T1, S1⟩
   rw [e1.out] at S1 ⊢
   simp only at S1 ⊢
   have HT1 := hide T1
   have HS1 := hide S1
   clear T1 S1 HX
   go_wp2
   go_ret2
   exact ⟨rfl, HT1.out, HS1.out⟩
  ·rw [if_neg h5]
   simp only
   have a5 : (x == 5) = false := by rw [beq_eq_false_iff_ne]; omega
   clear h5
   go_enter Tryz.func40, Tryz.ntmps40
   go_wp2_with fail
   refine (inext_any w0 g V l f _ HX.out).mono ?_
   rintro r w1 ⟨rfl, T1, S1⟩
   rw [e1.out] at S1 ⊢
   simp only at S1 ⊢
   have HT1 := hide T1
   have HS1 := hide S1
   clear T1 S1 HX
   go_wp2_with fail
   refine (irefuse_x w0 g V l1 f1 54 _ HS1.out).mono ?_
   rintro r w3 ⟨rfl, T3, S3⟩
   have F := hide (And.intro (HT1.out.trans T3) S3)
   clear T3 S3 HS1 HT1
   go_wp2
   go_ret2
   exact ⟨rfl, F.out⟩
end
end Go.Proofs.YtppocmgcfeelhaaGreatDoor
namespace Go.Wire1
open Go.RowKit
def tx (s : ByteArray) : List Int := s.data.toList.map fun b => (b.toNat : Int)
theorem tx_len (s : ByteArray) : (tx s).length = s.size := by
 show (s.data.toList.map _).length = s.data.size
 rw [List.length_map, Array.length_toList]
def ptx (s : ByteArray) : List Int := enc s.size ++ tx s
def shL : List UInt8 → List UInt8 → Nat
 | a :: x, b :: y => if a = b then shL x y + 1 else 0
 | _, _ => 0
def shared (k k2 : ByteArray) : Nat := shL k.data.toList k2.data.toList
theorem shL_le : ∀ x y : List UInt8, shL x y ≤ x.length ∧ shL x y ≤ y.length
 | [], _ => by simp [shL]
 | _ :: _, [] => by simp [shL]
 | a :: x, b :: y => by
  have := shL_le x y
  simp only [shL]
  split <;> simp <;> omega
theorem shared_le (k k2 : ByteArray) : shared k k2 ≤ k.size ∧ shared k k2 ≤ k2.size := by
 have := shL_le k.data.toList k2.data.toList
 rw [← Lib.size_eq, ← Lib.size_eq] at this
 exact this
theorem shL_drop : ∀ (i : Nat) (x y : List UInt8), i < x.length → i < y.length → shL (x.drop i) (y.drop i) = if x.getD i 0 = y.getD i 0 then shL (x.drop (i + 1)) (y.drop (i + 1)) + 1 else 0 := by
 intro i x y hx hy
 rw [List.drop_eq_getElem_cons hx, List.drop_eq_getElem_cons hy, List.getD, List.getD, List.getElem?_eq_getElem hx, List.getElem?_eq_getElem hy]
 rfl
theorem shL_end (i : Nat) (x y : List UInt8) (h : x.length ≤ i ∨ y.length ≤ i) : shL (x.drop i) (y.drop i) = 0 := by
 rcases h with h | h
 ·rw [List.drop_eq_nil_of_le h]; rfl
 ·rw [List.drop_eq_nil_of_le h]; cases x.drop i <;> rfl
def restC (c : Cm) : List Int :=
 if 6 ≤ c.kind then enc (shared c.key c.key2) ++ ptx (c.key2.extract (shared c.key c.key2) c.key2.size)
 else if c.kind = 5 then ptx c.old ++ ptx c.val
 else if c.kind = 2 then ptx c.val
 else if c.kind = 4 then enc (zig c.n)
 else []
def encC (c : Cm) : List Int := if c.kind = 0 then [0] else [c.kind] ++ enc c.client.toNat ++ enc c.req.toNat ++ ptx c.key ++ restC c
theorem chk_zero {v : Int} {c : Cm} (h : chk v c = 0) : (v = 1 ∨ v = 2) ∧ isKd v c.kind = true ∧ ∀ f, f < 7 → faultF v c f = 0 := by
 unfold chk at h
 cases h1 : isVer v with
 | false => rw [h1] at h; simp at h
 | true =>
  cases h2 : isKd v c.kind with
  | false => rw [h1, h2] at h; simp at h
  | true =>
   rw [h1, h2] at h
   simp only [if_true] at h
   refine ⟨by simpa [isVer] using h1, rfl, ?_⟩
   have go : ∀ k f, firstF v c k f = 0 → ∀ j, f ≤ j → j < f + k → faultF v c j = 0 := by
    intro k
    induction k with
    | zero => intro f _ j h1 h2; omega
    | succ k ih =>
     intro f hf j h1 h2
     simp only [firstF] at hf
     by_cases h0 : faultF v c f = 0
     ·rw [if_pos h0] at hf
      by_cases e : j = f
      ·rw [e]; exact h0
      ·exact ih (f + 1) hf j (by omega) (by omega)
     ·rw [if_neg h0] at hf; exact absurd hf h0
   exact fun f hf => go 7 0 h f (by omega) (by omega)
theorem has_allow {v : Int} {c : Cm} {f : Nat} (h : faultF v c f = 0) (hf : f < 6) (hh : hasF c.kind f = true) : allowF v c f = true := by
 unfold faultF at h
 rw [hh] at h
 simp only [if_true] at h
 cases ha : allowF v c f with
 | true => rfl
 | false =>
  rw [ha] at h
  simp only [Bool.false_eq_true, if_false, errF] at h
  split at h <;> omega
structure Sound (c : Cm) : Prop where
 k0 : 0 ≤ c.kind
 k8 : c.kind ≤ 8
 client : c.kind ≠ 0 → 0 ≤ c.client ∧ c.client ≤ 65535
 req : c.kind ≠ 0 → 0 ≤ c.req ∧ c.req ≤ 1073741824
 key : c.kind ≠ 0 → 1 ≤ c.key.size ∧ c.key.size ≤ 64
 key2 : 6 ≤ c.kind → 1 ≤ c.key2.size ∧ c.key2.size ≤ 64 ∧ isPairB c.kind c.key c.key2 = true
 val : c.kind = 2 ∨ c.kind = 5 → c.val.size ≤ 65536
 old : c.kind = 5 → c.old.size ≤ 65536
theorem hasT (k : Fin 9) : (k.val ≠ 0 → hasF (k.val : Int) 0 = true ∧ hasF (k.val : Int) 1 = true ∧ hasF (k.val : Int) 2 = true) ∧ (6 ≤ k.val → hasF (k.val : Int) 3 = true) ∧ (k.val = 2 ∨ k.val = 5 → hasF (k.val : Int) 4 = true) ∧ (k.val = 5 → hasF (k.val : Int) 5 = true) := by
 revert k; decide
theorem sound_of {v : Int} {c : Cm} (h : chk v c = 0) : Sound c := by
 obtain ⟨hv, hk, hf⟩ := chk_zero h
 simp only [isKd, Bool.and_eq_true, decide_eq_true_eq] at hk
 obtain ⟨k, hkk⟩ := zI hk.1
 have hk9 : k < 9 := by omega
 obtain ⟨t1, t2, t3, t4⟩ := hasT ⟨k, hk9⟩
 simp only at t1 t2 t3 t4
 rw [show ((k : Nat) : Int) = c.kind from hkk.symm] at t1 t2 t3 t4
 have hm : mostV v ≤ 65536 := by unfold mostV; split <;> omega
 refine ⟨hk.1, by omega, fun hn => ?_, fun hn => ?_, fun hn => ?_, fun hn => ?_, fun hn => ?_, fun hn => ?_⟩
 ·have := has_allow (hf 0 (by omega)) (by omega) (t1 (by omega)).1
  simpa [allowF] using this
 ·have := has_allow (hf 1 (by omega)) (by omega) (t1 (by omega)).2.1
  simpa [allowF] using this
 ·have := has_allow (hf 2 (by omega)) (by omega) (t1 (by omega)).2.2
  simp only [allowF, isKeyB, Bool.and_eq_true, decide_eq_true_eq] at this
  exact this
 ·have := has_allow (hf 3 (by omega)) (by omega) (t2 (by omega))
  simp only [allowF, isKeyB, Bool.and_eq_true, decide_eq_true_eq] at this
  exact ⟨this.1.1, this.1.2, this.2⟩
 ·have := has_allow (hf 4 (by omega)) (by omega) (t3 (by omega))
  simp only [allowF, decide_eq_true_eq] at this
  omega
 ·have := has_allow (hf 5 (by omega)) (by omega) (t4 (by omega))
  simp only [allowF, decide_eq_true_eq] at this
  omega
end Go.Wire1
namespace Go.Proofs.YtppocmgcfeelhaaGreatDoor
open Go.RowKit Go.Wire1
structure St where
 k : Nat
 f : Int
 ft : Int
def gU (most : Nat) (l : List Int) (s : St) : Nat × Nat × Int :=
 if s.f = 0 then (match dec (l.drop s.k) with | .ok (x, m) => if most < x then (0, s.k, 14) else (x, s.k + m, 0) | .error i => (0, s.k, 11 + (i : Int))) else (0, s.k, s.f)
def gI (l : List Int) (s : St) : Int × Nat × Int :=
 if s.f = 0 then (match dec (l.drop s.k) with | .ok (x, m) => (unzig x, s.k + m, 0) | .error i => (0, s.k, 11 + (i : Int))) else (0, s.k, s.f)
def gB (most : Int) (l : List Int) (s : St) : Int × Nat × Int :=
 if s.f = 0 then (if l.length ≤ s.k then (0, s.k, 11) else if most < l.getD s.k 0 then (0, s.k, 14) else (l.getD s.k 0, s.k + 1, 0)) else (0, s.k, s.f)
def gT (least most : Int) (l : List Int) (s : St) : ByteArray × Nat × Int :=
 if s.f = 0 then (match dec (l.drop s.k) with
  | .ok (x, m) => if least ≤ (x : Int) ∧ (x : Int) ≤ most then (if s.k + m + x ≤ l.length then (strOfNums ((l.drop (s.k + m)).take x), s.k + (m + x), 0) else (⟨#[]⟩, s.k, 11)) else (⟨#[]⟩, s.k, 15)
  | .error i => (⟨#[]⟩, s.k, 11 + (i : Int))) else (⟨#[]⟩, s.k, s.f)
theorem meth_U (most : Nat) (l : List Int) (s : St) : Meth (.int .u64 0) (rU most l s.k) s.k s.f = (.int .u64 ((gU most l s).1 : Nat), (gU most l s).2.1, (gU most l s).2.2) := by
 unfold Meth gU rU
 by_cases h : s.f = 0
 ·rw [if_pos h, if_pos h]
  cases dec (l.drop s.k) with
  | error i => rfl
  | ok p =>
   obtain ⟨x, m⟩ := p
   simp only
   by_cases h1 : most < x
   ·rw [if_pos h1, if_pos h1]; rfl
   ·rw [if_neg h1, if_neg h1]
 ·rw [if_neg h, if_neg h]; rfl
theorem meth_I (l : List Int) (s : St) : Meth (.int .i64 0) (rI l s.k) s.k s.f = (.int .i64 (gI l s).1, (gI l s).2.1, (gI l s).2.2) := by
 unfold Meth gI rI
 by_cases h : s.f = 0
 ·rw [if_pos h, if_pos h]
  cases dec (l.drop s.k) with
  | error i => rfl
  | ok p => rfl
 ·rw [if_neg h, if_neg h]
theorem meth_B (most : Int) (l : List Int) (s : St) : Meth (.int .i64 0) (rB most l s.k) s.k s.f = (.int .i64 (gB most l s).1, (gB most l s).2.1, (gB most l s).2.2) := by
 unfold Meth gB rB
 by_cases h : s.f = 0
 ·rw [if_pos h, if_pos h]
  by_cases h1 : l.length ≤ s.k
  ·rw [if_pos h1, if_pos h1]; rfl
  ·rw [if_neg h1, if_neg h1]
   by_cases h2 : most < l.getD s.k 0
   ·rw [if_pos h2, if_pos h2]; rfl
   ·rw [if_neg h2, if_neg h2]
 ·rw [if_neg h, if_neg h]
theorem meth_T (least most : Int) (l : List Int) (s : St) : Meth (.string ⟨#[]⟩) (rT least most l s.k) s.k s.f = (.string (gT least most l s).1, (gT least most l s).2.1, (gT least most l s).2.2) := by
 unfold Meth gT rT
 by_cases h : s.f = 0
 ·rw [if_pos h, if_pos h]
  cases dec (l.drop s.k) with
  | error i => rfl
  | ok p =>
   obtain ⟨x, m⟩ := p
   simp only
   by_cases h1 : least ≤ (x : Int) ∧ (x : Int) ≤ most
   ·rw [if_pos h1, if_pos h1]
    by_cases h2 : s.k + m + x ≤ l.length
    ·rw [if_pos h2, if_pos h2]
    ·rw [if_neg h2, if_neg h2]; rfl
   ·rw [if_neg h1, if_neg h1]; rfl
 ·rw [if_neg h, if_neg h]
theorem gU_le (most : Nat) (l : List Int) (s : St) : (gU most l s).1 ≤ most := by
 unfold gU
 split
 ·split
  ·split <;> simp; omega
  ·simp
 ·simp
def sNum (most : Nat) (own : Int) (l : List Int) (s : St) : Nat × St := ((gU most l s).1, ⟨(gU most l s).2.1, (gU most l s).2.2, noteF own (gU most l s).2.2 s.ft⟩)
def sInt (l : List Int) (s : St) : Int × St := ((gI l s).1, ⟨(gI l s).2.1, (gI l s).2.2, noteF 14 (gI l s).2.2 s.ft⟩)
def sTxt (least most own : Int) (l : List Int) (s : St) : ByteArray × St := ((gT least most l s).1, ⟨(gT least most l s).2.1, (gT least most l s).2.2, noteF own (gT least most l s).2.2 s.ft⟩)
def sKind (v : Int) (l : List Int) (s : St) : Int × St :=
 ((gB 255 l s).1, ⟨(gB 255 l s).2.1, (gB 255 l s).2.2, if isKd v (gB 255 l s).1 then noteF 41 (gB 255 l s).2.2 s.ft else refF 41 (noteF 41 (gB 255 l s).2.2 s.ft)⟩)
def Scs (w : World) (g b : Nat) (sa : Option Addr) (n cap : Nat) (l : List Int) (a : Nat → Addr) (s : St) : Prop := Scn w g b sa n cap s.k s.f s.ft l a
section
variable (g b n cap : Nat) (sa : Option Addr) (l : List Int) (a : Nat → Addr)
theorem number_scn (most : Nat) (own : Int) (s : St) (w : World) (hm : most ≤ 1073741824) (h : Scs w g b sa n cap l a s) :
  Calls Tryz.prog 86 #[.pointer (some ⟨g, 0, none⟩), .int .i64 most, .int .i64 own] w fun e w' => e = .returned (.int .i64 ((sNum most own l s).1 : Nat)) ∧ Turn g b w w' ∧ Scs w' g b sa n cap l a (sNum most own l s).2 := by
 have c0 := h.ptr
 have HS := hide h
 have hle := gU_le most l s
 clear h
 obtain ⟨x, hx⟩ : ∃ x, Hid ((sNum most own l s).1 = x) := ⟨_, rfl⟩
 obtain ⟨t, ht⟩ : ∃ t, Hid ((sNum most own l s).2 = t) := ⟨_, rfl⟩
 have hx1 : Hid ((gU most l s).1 = x) := hx
 have ht1 : Hid ((⟨(gU most l s).2.1, (gU most l s).2.2, noteF own (gU most l s).2.2 s.ft⟩ : St) = t) := ht
 rw [hx.out, ht.out]
 rw [hx1.out] at hle
 go_enter Tryz.func86, Tryz.ntmps86
 go_wp2_with fail
 refine (mUint.any most b n cap s.k s.f sa l a _ HS.out.rdr).mono ?_
 rintro e w1 ⟨rfl, T1, R1⟩
 rw [meth_U] at R1 ⊢
 have S1 := hide (HS.out.read T1 R1)
 have HT1 := hide (Turn.ofB (g := g) T1)
 simp only at S1 ⊢
 rw [hx1.out]
 clear T1 R1 c0
 go_wp2_with fail
 refine (note_any g b n cap _ _ _ sa l a own _ S1.out).mono ?_
 rintro e w2 ⟨rfl, T2, S2⟩
 have R2 : Hid (Turn g b w w2 ∧ Scs w2 g b sa n cap l a t) := ⟨HT1.out.trans (Turn.ofG T2), by rw [← ht1.out]; exact S2⟩
 clear T2 S2 S1 HT1
 go_wp2
 go_ret
 exact ⟨rfl, R2.out⟩
theorem signed_scn (s : St) (w : World) (h : Scs w g b sa n cap l a s) :
  Calls Tryz.prog 90 #[.pointer (some ⟨g, 0, none⟩)] w fun e w' => e = .returned (.int .i64 (sInt l s).1) ∧ Turn g b w w' ∧ Scs w' g b sa n cap l a (sInt l s).2 := by
 have c0 := h.ptr
 have HS := hide h
 clear h
 obtain ⟨x, hx⟩ : ∃ x, Hid ((sInt l s).1 = x) := ⟨_, rfl⟩
 obtain ⟨t, ht⟩ : ∃ t, Hid ((sInt l s).2 = t) := ⟨_, rfl⟩
 have hx1 : Hid ((gI l s).1 = x) := hx
 have ht1 : Hid ((⟨(gI l s).2.1, (gI l s).2.2, noteF 14 (gI l s).2.2 s.ft⟩ : St) = t) := ht
 rw [hx.out, ht.out]
 go_enter Tryz.func90, Tryz.ntmps90
 go_wp2_with fail
 refine (mInt.any b n cap s.k s.f sa l a _ HS.out.rdr).mono ?_
 rintro e w1 ⟨rfl, T1, R1⟩
 rw [meth_I] at R1 ⊢
 have S1 := hide (HS.out.read T1 R1)
 have HT1 := hide (Turn.ofB (g := g) T1)
 simp only at S1 ⊢
 rw [hx1.out]
 clear T1 R1 c0
 go_wp2_with fail
 refine (note_any g b n cap _ _ _ sa l a 14 _ S1.out).mono ?_
 rintro e w2 ⟨rfl, T2, S2⟩
 have R2 : Hid (Turn g b w w2 ∧ Scs w2 g b sa n cap l a t) := ⟨HT1.out.trans (Turn.ofG T2), by rw [← ht1.out]; exact S2⟩
 clear T2 S2 S1 HT1
 go_wp2
 go_ret
 exact ⟨rfl, R2.out⟩
theorem text_scn (least most own : Int) (s : St) (w : World) (h1 : -9223372036854775808 ≤ least) (h2 : least ≤ 9223372036854775807) (h3 : -9223372036854775808 ≤ most) (h4 : most ≤ 9223372036854775807) (h : Scs w g b sa n cap l a s) :
  Calls Tryz.prog 87 #[.pointer (some ⟨g, 0, none⟩), .int .i64 least, .int .i64 most, .int .i64 own] w fun e w' => e = .returned (.string (sTxt least most own l s).1) ∧ Turn g b w w' ∧ Scs w' g b sa n cap l a (sTxt least most own l s).2 := by
 have c0 := h.ptr
 have HS := hide h
 clear h
 obtain ⟨x, hx⟩ : ∃ x, Hid ((sTxt least most own l s).1 = x) := ⟨_, rfl⟩
 obtain ⟨t, ht⟩ : ∃ t, Hid ((sTxt least most own l s).2 = t) := ⟨_, rfl⟩
 have hx1 : Hid ((gT least most l s).1 = x) := hx
 have ht1 : Hid ((⟨(gT least most l s).2.1, (gT least most l s).2.2, noteF own (gT least most l s).2.2 s.ft⟩ : St) = t) := ht
 rw [hx.out, ht.out]
 go_enter Tryz.func87, Tryz.ntmps87
 go_wp2_with fail
 refine (mText.any least most h1 h2 h3 h4 b n cap s.k s.f sa l a _ HS.out.rdr).mono ?_
 rintro e w1 ⟨rfl, T1, R1⟩
 rw [meth_T] at R1 ⊢
 have S1 := hide (HS.out.read T1 R1)
 have HT1 := hide (Turn.ofB (g := g) T1)
 simp only at S1 ⊢
 rw [hx1.out]
 clear T1 R1 c0
 go_wp2_with fail
 refine (note_any g b n cap _ _ _ sa l a own _ S1.out).mono ?_
 rintro e w2 ⟨rfl, T2, S2⟩
 have R2 : Hid (Turn g b w w2 ∧ Scs w2 g b sa n cap l a t) := ⟨HT1.out.trans (Turn.ofG T2), by rw [← ht1.out]; exact S2⟩
 clear T2 S2 S1 HT1
 go_wp2
 go_ret
 exact ⟨rfl, R2.out⟩
theorem kind_scn (v : Int) (s : St) (w : World) (hK : Knd w) (h : Scs w g b sa n cap l a s) :
  Calls Tryz.prog 85 #[.pointer (some ⟨g, 0, none⟩), .int .i64 v] w fun e w' => e = .returned (.int .i64 (sKind v l s).1) ∧ Turn g b w w' ∧ Scs w' g b sa n cap l a (sKind v l s).2 := by
 have c0 := h.ptr
 have hg := h.six
 have hb := h.rdr.ready.five
 have HS := hide h
 have HK := hide hK
 clear h hK
 obtain ⟨x, hx⟩ : ∃ x, Hid ((sKind v l s).1 = x) := ⟨_, rfl⟩
 obtain ⟨t, ht⟩ : ∃ t, Hid ((sKind v l s).2 = t) := ⟨_, rfl⟩
 have hx1 : Hid ((gB 255 l s).1 = x) := hx
 have ht1 : Hid ((⟨(gB 255 l s).2.1, (gB 255 l s).2.2, if isKd v (gB 255 l s).1 then noteF 41 (gB 255 l s).2.2 s.ft else refF 41 (noteF 41 (gB 255 l s).2.2 s.ft)⟩ : St) = t) := ht
 rw [hx.out, ht.out]
 rw [hx1.out] at ht1
 cases hk : isKd v x with
 | true =>
  have ht2 : Hid ((⟨(gB 255 l s).2.1, (gB 255 l s).2.2, noteF 41 (gB 255 l s).2.2 s.ft⟩ : St) = t) := by rw [← ht1.out, hk]; rfl
  go_enter Tryz.func85, Tryz.ntmps85
  go_wp2_with fail
  refine (mByte.any 255 b n cap s.k s.f sa l a _ HS.out.rdr).mono ?_
  rintro e w1 ⟨rfl, T1, R1⟩
  rw [meth_B] at R1 ⊢
  have S1 := hide (HS.out.read T1 R1)
  have HT1 := hide (Turn.ofB (g := g) T1)
  simp only at S1 ⊢
  rw [hx1.out]
  clear T1 R1 c0
  go_wp2_with fail
  refine (note_any g b n cap _ _ _ sa l a 41 _ S1.out).mono ?_
  rintro e w2 ⟨rfl, T2, S2⟩
  have R2 : Hid (Turn g b w w2 ∧ Scs w2 g b sa n cap l a t) := ⟨HT1.out.trans (Turn.ofG T2), by rw [← ht2.out]; exact S2⟩
  clear T2 S2 S1 HT1
  go_wp2_with fail
  refine (isKind_any v x _ (R2.out.1.knd HK.out hg hb)).mono ?_
  rintro e w3 ⟨rfl, rfl⟩
  rw [hk]
  clear hk
  go_wp2
  go_ret
  exact ⟨rfl, R2.out⟩
 | false =>
  have ht2 : Hid ((⟨(gB 255 l s).2.1, (gB 255 l s).2.2, refF 41 (noteF 41 (gB 255 l s).2.2 s.ft)⟩ : St) = t) := by rw [← ht1.out, hk]; rfl
  go_enter Tryz.func85, Tryz.ntmps85
  go_wp2_with fail
  refine (mByte.any 255 b n cap s.k s.f sa l a _ HS.out.rdr).mono ?_
  rintro e w1 ⟨rfl, T1, R1⟩
  rw [meth_B] at R1 ⊢
  have S1 := hide (HS.out.read T1 R1)
  have HT1 := hide (Turn.ofB (g := g) T1)
  simp only at S1 ⊢
  rw [hx1.out]
  clear T1 R1 c0
  go_wp2_with fail
  refine (note_any g b n cap _ _ _ sa l a 41 _ S1.out).mono ?_
  rintro e w2 ⟨rfl, T2, S2⟩
  have HS2 := hide S2
  have HT2 := hide (HT1.out.trans (Turn.ofG T2))
  clear T2 S2 S1 HT1
  go_wp2_with fail
  refine (isKind_any v x _ (HT2.out.knd HK.out hg hb)).mono ?_
  rintro e w3 ⟨rfl, rfl⟩
  rw [hk]
  clear hk
  go_wp2_with fail
  refine (refuse_any g b n cap _ _ _ sa l a 41 _ HS2.out).mono ?_
  rintro e w4 ⟨rfl, T4, S4⟩
  have R4 : Hid (Turn g b w w4 ∧ Scs w4 g b sa n cap l a t) := ⟨HT2.out.trans (Turn.ofG T4), by rw [← ht2.out]; exact S4⟩
  clear T4 S4
  go_wp2
  go_ret
  exact ⟨rfl, R4.out⟩
end
open Go.RowKit Go.Wire1 Go.Lib
def txt (s : ByteArray) : List Int := s.data.toList.map fun b => (b.toNat : Int)
theorem txt_len (s : ByteArray) : (txt s).length = s.size := by
 show (s.data.toList.map _).length = s.data.size
 rw [List.length_map, Array.length_toList]
theorem txt_cells (s : ByteArray) : strCells s = (txt s).map (Value.int .u8) := by simp [strCells, txt]
theorem putText_any (s : ByteArray) (w : World) (hs : s.size ≤ 140737488351232) :
  Calls Tryz.prog 148 #[.string s] w fun e w' => ∃ v, e = .returned v ∧ w'.ownsRow w.heap.size 5 1 v (enc s.size ++ txt s).length ((enc s.size ++ txt s).map (Value.int .u8)) ∧ Below w.heap.size w w' := by
 obtain ⟨i0, hi, hz0, hz1, hz2⟩ := info_parts Tryz.info5
 have hle := enc_le s.size (by omega)
 go_enter Tryz.func148, Tryz.ntmps148
 go_wp2_with fail
 refine (putUint_any s.size _ (by omega)).mono ?_
 rintro e w1 ⟨v, rfl, hown, hbel⟩
 have hsz := hbel.size
 go_wp2_with (first
  | (at_builtin; refine wpList_append_own_string _ rfl _ _ 34 9 rfl w.heap.size 5 i0 Tryz.underlying34 Tryz.underlying9 hi hz0 hz1 hz2 _ _ _ rfl hown s rfl ?c1 ?c2 ?c3 ?_))
 case c1 => unfold maxLen; omega
 case c2 => omega
 case c3 => omega
 intro v' w2 hown' hgrow _
 have B2 : Below w.heap.size w w2 := hbel.grown hgrow hsz (fun j hj => (hown.lt j hj).1)
 rw [txt_cells, ← List.map_append] at hown'
 have e1 : (enc s.size).length + s.size = (enc s.size ++ txt s).length := by rw [zL, txt_len]
 rw [e1] at hown'
 clear e1 hgrow hown hbel
 go_wp2
 go_ret
 exact ⟨_, rfl, hown', B2⟩
end Go.Proofs.YtppocmgcfeelhaaGreatDoor
