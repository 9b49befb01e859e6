/- Texts of the proof, joined. -/
import Derived.Test.YtbdkelffncmkhaaGreatDoorJ10
import Derived.Test.YtbdkelffncmkhaaGreatDoorJ09
/- The contracts of takeInst, takeBallot and takeVote, in both versions. -/
namespace Go.Proofs.YtbdkelffncmkhaaGreatDoor
open Go.RowKit Go.Wire1

/-- A block of two numbers that may be written. -/
structure B2 (w : World) (q : Nat) (x y : Int) : Prop where
  c0 : w.cell? ⟨q, 0, none⟩ = some (.int .i64 x)
  c1 : w.cell? ⟨q, 1, none⟩ = some (.int .i64 y)
  thaw : ∀ o, w.frozen? ⟨q, o, none⟩ = false
theorem b2_new (w : World) (T : TypeId) (x y : Int) : B2 (w.alloc (.cells #[.int .i64 x, .int .i64 y] T)) w.heap.size x y :=
  ⟨by rw [World.cell?_alloc_at _ _ _ _ rfl]; rfl, by rw [World.cell?_alloc_at _ _ _ _ rfl]; rfl, fun _ => World.frozen?_alloc_at _ _ _ _ rfl⟩
theorem B2.lt {w : World} {q : Nat} {x y : Int} (h : B2 w q x y) : q < w.heap.size := cell_lt h.c0
theorem B2.of_block {w w' : World} {q : Nat} {x y : Int} (h : B2 w q x y) (e : w'.heap[q]? = w.heap[q]?) : B2 w' q x y :=
  ⟨(World.cell?_of_block (a := ⟨q, 0, none⟩) e).trans h.c0, (World.cell?_of_block (a := ⟨q, 1, none⟩) e).trans h.c1, fun o => (World.frozen?_of_block (a := ⟨q, o, none⟩) e).trans (h.thaw o)⟩
theorem B2.touch {w w' : World} {q g : Nat} {x y : Int} (h : B2 w q x y) (T : Touch g w w') (hq : q ≠ g) : B2 w' q x y := h.of_block (T.block q h.lt hq)

/-- The instance, the ballot: by the version. -/
def iInst (v : Int) (l : List Int) (f : Int) : (Int × Int) × List Int × Int := if v = 1 then iTwo l f else (((iPack l f).1.2, (iPack l f).1.1), (iPack l f).2)
def iBal (v : Int) (l : List Int) (f : Int) : (Int × Int) × List Int × Int := if v = 1 then iTwo l f else iPack l f
def vote1 (l : List Int) (f : Int) : (Int × Bool) × List Int × Int :=
  if (iNext l f).1 = 0 then ((0, false), (iNext l f).2.1, refF (unl (decide ((iNext l f).1 ≤ 2)) 54) (iNext l f).2.2)
  else (((iNext l f).1, (iNext (iNext l f).2.1 (refF (unl (decide ((iNext l f).1 ≤ 2)) 54) (iNext l f).2.2)).1 == 1), (iNext (iNext l f).2.1 (refF (unl (decide ((iNext l f).1 ≤ 2)) 54) (iNext l f).2.2)).2.1,
    refF (unl ((iNext (iNext l f).2.1 (refF (unl (decide ((iNext l f).1 ≤ 2)) 54) (iNext l f).2.2)).1 == 0 || ((iNext (iNext l f).2.1 (refF (unl (decide ((iNext l f).1 ≤ 2)) 54) (iNext l f).2.2)).1 == 1 && (iNext l f).1 == 1)) 54)
      (iNext (iNext l f).2.1 (refF (unl (decide ((iNext l f).1 ≤ 2)) 54) (iNext l f).2.2)).2.2)
def vote2 (l : List Int) (f : Int) : (Int × Bool) × List Int × Int :=
  if (iNext l f).1 = 0 ∨ (iNext l f).1 = 1 ∨ (iNext l f).1 = 2 then (((iNext l f).1, false), (iNext l f).2)
  else if (iNext l f).1 = 5 then ((1, true), (iNext l f).2) else ((0, false), (iNext l f).2.1, refF 54 (iNext l f).2.2)
def iVote (v : Int) (l : List Int) (f : Int) : (Int × Bool) × List Int × Int := if v = 1 then vote1 l f else vote2 l f
section
variable (w0 : World) (g : Nat) (V : Nat → Option Value) (l : List Int)
set_option maxHeartbeats 1000000 in
set_option maxRecDepth 100000 in
theorem takeInst1_any (a : Nat → Addr) (f : Int) (w : World) (he : Errs w0 a) (h : Scx w0 w g V l f) :
    Calls Tryz.prog 27 #[.pointer (some ⟨g, 0, none⟩)] w fun r w' => r = .returned (.agg #[.int .i64 (iTwo l f).1.1, .int .i64 (iTwo l f).1.2]) ∧ Touch g w w' ∧ Scx w0 w' g V (iTwo l f).2.1 (iTwo l f).2.2 := by
  have HX := hide (h.alloc (.cells #[.int .i64 0, .int .i64 0] 25))
  have HQ := hide (b2_new w 25 0 0)
  have T0 : Hid (Touch g w (w.alloc (.cells #[.int .i64 0, .int .i64 0] 25))) := Touch.ofBelow ((Below.refl _ _).alloc (Nat.le_refl _) _)
  have hgl := h.lt
  have hgg := h.hg
  have HW := hide h.low.size
  have HE := hide he
  clear h he
  obtain ⟨x, y, l1, f1, e1⟩ : ∃ x y l1 f1, Hid (iTwo l f = ((x, y), l1, f1)) := ⟨_, _, _, _, rfl⟩
  rw [e1.out]
  simp only
  go_enter Tryz.func27, Tryz.ntmps27
  go_wp2_with fail
  refine (itwo_any w0 g V l a f _ HE.out HX.out).mono ?_
  rintro r w1 ⟨rfl, T1, S1⟩
  rw [e1.out] at S1 ⊢
  simp only at S1 ⊢
  have Q1 := HQ.out.touch T1 (by omega)
  have c0 := Q1.c0
  have c1 := Q1.c1
  have t0 := Q1.thaw 0
  have t1 := Q1.thaw 1
  have R : Hid (Touch g w ((w1.setCell ⟨w.heap.size, 0, none⟩ (.int .i64 x)).setCell ⟨w.heap.size, 1, none⟩ (.int .i64 y)) ∧ Scx w0 ((w1.setCell ⟨w.heap.size, 0, none⟩ (.int .i64 x)).setCell ⟨w.heap.size, 1, none⟩ (.int .i64 y)) g V l1 f1) :=
    ⟨((T0.out.trans T1).setNew _ (Nat.le_refl _)).setNew _ (Nat.le_refl _), (S1.other _ (by omega) HW.out).other _ (by omega) HW.out⟩
  clear T1 S1 Q1 HX HQ T0
  go_wp2
  refine bodyPost_ret (v := .agg #[.int .i64 x, .int .i64 y]) (by simp [results, Tryz.results27, go_sem, *]) rfl ⟨rfl, R.out⟩
set_option maxHeartbeats 1000000 in
set_option maxRecDepth 100000 in
theorem takeInst2_any (a : Nat → Addr) (f : Int) (w : World) (he : Errs w0 a) (h : Scx w0 w g V l f) :
    Calls Tryz.prog 33 #[.pointer (some ⟨g, 0, none⟩)] w fun r w' => r = .returned (.agg #[.int .i64 (iPack l f).1.2, .int .i64 (iPack l f).1.1]) ∧ Touch g w w' ∧ Scx w0 w' g V (iPack l f).2.1 (iPack l f).2.2 := by
  have HX := hide (h.alloc (.cells #[.int .i64 0, .int .i64 0] 25))
  have HQ := hide (b2_new w 25 0 0)
  have T0 : Hid (Touch g w (w.alloc (.cells #[.int .i64 0, .int .i64 0] 25))) := Touch.ofBelow ((Below.refl _ _).alloc (Nat.le_refl _) _)
  have hgl := h.lt
  have hgg := h.hg
  have HW := hide h.low.size
  have HE := hide he
  clear h he
  obtain ⟨x, y, l1, f1, e1⟩ : ∃ x y l1 f1, Hid (iPack l f = ((x, y), l1, f1)) := ⟨_, _, _, _, rfl⟩
  rw [e1.out]
  simp only
  go_enter Tryz.func33, Tryz.ntmps33
  go_wp2_with fail
  refine (ipacked_any w0 g V l a f _ HE.out HX.out).mono ?_
  rintro r w1 ⟨rfl, T1, S1⟩
  rw [e1.out] at S1 ⊢
  simp only at S1 ⊢
  have Q1 := HQ.out.touch T1 (by omega)
  have c0 := Q1.c0
  have c1 := Q1.c1
  have t0 := Q1.thaw 0
  have t1 := Q1.thaw 1
  have R : Hid (Touch g w ((w1.setCell ⟨w.heap.size, 0, none⟩ (.int .i64 y)).setCell ⟨w.heap.size, 1, none⟩ (.int .i64 x)) ∧ Scx w0 ((w1.setCell ⟨w.heap.size, 0, none⟩ (.int .i64 y)).setCell ⟨w.heap.size, 1, none⟩ (.int .i64 x)) g V l1 f1) :=
    ⟨((T0.out.trans T1).setNew _ (Nat.le_refl _)).setNew _ (Nat.le_refl _), (S1.other _ (by omega) HW.out).other _ (by omega) HW.out⟩
  clear T1 S1 Q1 HX HQ T0
  go_wp2
  refine bodyPost_ret (v := .agg #[.int .i64 y, .int .i64 x]) (by simp [results, Tryz.results33, go_sem, *]) rfl ⟨rfl, R.out⟩
set_option maxHeartbeats 1000000 in
set_option maxRecDepth 100000 in
theorem takeBallot1_any (a : Nat → Addr) (f : Int) (w : World) (he : Errs w0 a) (h : Scx w0 w g V l f) :
    Calls Tryz.prog 28 #[.pointer (some ⟨g, 0, none⟩)] w fun r w' => r = .returned (.agg #[.int .i64 (iTwo l f).1.1, .int .i64 (iTwo l f).1.2]) ∧ Touch g w w' ∧ Scx w0 w' g V (iTwo l f).2.1 (iTwo l f).2.2 := by
  have HX := hide (h.alloc (.cells #[.int .i64 0, .int .i64 0] 27))
  have HQ := hide (b2_new w 27 0 0)
  have T0 : Hid (Touch g w (w.alloc (.cells #[.int .i64 0, .int .i64 0] 27))) := Touch.ofBelow ((Below.refl _ _).alloc (Nat.le_refl _) _)
  have hgl := h.lt
  have hgg := h.hg
  have HW := hide h.low.size
  have HE := hide he
  clear h he
  obtain ⟨x, y, l1, f1, e1⟩ : ∃ x y l1 f1, Hid (iTwo l f = ((x, y), l1, f1)) := ⟨_, _, _, _, rfl⟩
  rw [e1.out]
  simp only
  go_enter Tryz.func28, Tryz.ntmps28
  go_wp2_with fail
  refine (itwo_any w0 g V l a f _ HE.out HX.out).mono ?_
  rintro r w1 ⟨rfl, T1, S1⟩
  rw [e1.out] at S1 ⊢
  simp only at S1 ⊢
  have Q1 := HQ.out.touch T1 (by omega)
  have c0 := Q1.c0
  have c1 := Q1.c1
  have t0 := Q1.thaw 0
  have t1 := Q1.thaw 1
  have R : Hid (Touch g w ((w1.setCell ⟨w.heap.size, 0, none⟩ (.int .i64 x)).setCell ⟨w.heap.size, 1, none⟩ (.int .i64 y)) ∧ Scx w0 ((w1.setCell ⟨w.heap.size, 0, none⟩ (.int .i64 x)).setCell ⟨w.heap.size, 1, none⟩ (.int .i64 y)) g V l1 f1) :=
    ⟨((T0.out.trans T1).setNew _ (Nat.le_refl _)).setNew _ (Nat.le_refl _), (S1.other _ (by omega) HW.out).other _ (by omega) HW.out⟩
  clear T1 S1 Q1 HX HQ T0
  go_wp2
  refine bodyPost_ret (v := .agg #[.int .i64 x, .int .i64 y]) (by simp [results, Tryz.results28, go_sem, *]) rfl ⟨rfl, R.out⟩
set_option maxHeartbeats 1000000 in
set_option maxRecDepth 100000 in
theorem takeBallot2_any (a : Nat → Addr) (f : Int) (w : World) (he : Errs w0 a) (h : Scx w0 w g V l f) :
    Calls Tryz.prog 34 #[.pointer (some ⟨g, 0, none⟩)] w fun r w' => r = .returned (.agg #[.int .i64 (iPack l f).1.1, .int .i64 (iPack l f).1.2]) ∧ Touch g w w' ∧ Scx w0 w' g V (iPack l f).2.1 (iPack l f).2.2 := by
  have HX := hide (h.alloc (.cells #[.int .i64 0, .int .i64 0] 27))
  have HQ := hide (b2_new w 27 0 0)
  have T0 : Hid (Touch g w (w.alloc (.cells #[.int .i64 0, .int .i64 0] 27))) := Touch.ofBelow ((Below.refl _ _).alloc (Nat.le_refl _) _)
  have hgl := h.lt
  have hgg := h.hg
  have HW := hide h.low.size
  have HE := hide he
  clear h he
  obtain ⟨x, y, l1, f1, e1⟩ : ∃ x y l1 f1, Hid (iPack l f = ((x, y), l1, f1)) := ⟨_, _, _, _, rfl⟩
  rw [e1.out]
  simp only
  go_enter Tryz.func34, Tryz.ntmps34
  go_wp2_with fail
  refine (ipacked_any w0 g V l a f _ HE.out HX.out).mono ?_
  rintro r w1 ⟨rfl, T1, S1⟩
  rw [e1.out] at S1 ⊢
  simp only at S1 ⊢
  have Q1 := HQ.out.touch T1 (by omega)
  have c0 := Q1.c0
  have c1 := Q1.c1
  have t0 := Q1.thaw 0
  have t1 := Q1.thaw 1
  have R : Hid (Touch g w ((w1.setCell ⟨w.heap.size, 0, none⟩ (.int .i64 x)).setCell ⟨w.heap.size, 1, none⟩ (.int .i64 y)) ∧ Scx w0 ((w1.setCell ⟨w.heap.size, 0, none⟩ (.int .i64 x)).setCell ⟨w.heap.size, 1, none⟩ (.int .i64 y)) g V l1 f1) :=
    ⟨((T0.out.trans T1).setNew _ (Nat.le_refl _)).setNew _ (Nat.le_refl _), (S1.other _ (by omega) HW.out).other _ (by omega) HW.out⟩
  clear T1 S1 Q1 HX HQ T0
  go_wp2
  refine bodyPost_ret (v := .agg #[.int .i64 x, .int .i64 y]) (by simp [results, Tryz.results34, go_sem, *]) rfl ⟨rfl, R.out⟩
set_option maxHeartbeats 1000000 in
set_option maxRecDepth 100000 in
theorem takeVote1_any (f : Int) (w : World) (h : Scx w0 w g V l f) :
    Calls Tryz.prog 29 #[.pointer (some ⟨g, 0, none⟩)] w fun r w' => r = .returned (.tuple #[.int .i64 (vote1 l f).1.1, .bool (vote1 l f).1.2]) ∧ Touch g w w' ∧ Scx w0 w' g V (vote1 l f).2.1 (vote1 l f).2.2 := by
  have HX := hide h
  clear h
  obtain ⟨x, l1, f1, e1⟩ : ∃ x l1 f1, Hid (iNext l f = (x, l1, f1)) := ⟨_, _, _, rfl⟩
  have e0 : Hid (vote1 l f = if x = 0 then ((0, false), l1, refF (unl (decide (x ≤ 2)) 54) f1) else ((x, (iNext l1 (refF (unl (decide (x ≤ 2)) 54) f1)).1 == 1), (iNext l1 (refF (unl (decide (x ≤ 2)) 54) f1)).2.1,
    refF (unl ((iNext l1 (refF (unl (decide (x ≤ 2)) 54) f1)).1 == 0 || ((iNext l1 (refF (unl (decide (x ≤ 2)) 54) f1)).1 == 1 && x == 1)) 54) (iNext l1 (refF (unl (decide (x ≤ 2)) 54) f1)).2.2)) := by show _ = _; unfold vote1; rw [e1.out]
  rw [e0.out]
  obtain ⟨u, hu⟩ : ∃ u, Hid (unl (decide (x ≤ 2)) 54 = u) := ⟨_, rfl⟩
  rw [hu.out]
  obtain ⟨f2, hf2⟩ : ∃ f2, Hid (refF u f1 = f2) := ⟨_, rfl⟩
  rw [hf2.out]
  clear e0
  by_cases h0 : x = 0
  · subst h0
    rw [if_pos rfl]
    simp only
    go_enter Tryz.func29, Tryz.ntmps29
    go_wp2_with fail
    refine (inext_any w0 g V l f _ HX.out).mono ?_
    rintro r w1 ⟨rfl, T1, S1⟩
    rw [e1.out] at S1 ⊢
    simp only at S1 ⊢
    have HT1 := hide T1
    have HS1 := hide S1
    clear T1 S1 HX
    go_wp2_with fail
    refine (unless_any true 54 _).mono ?_
    rintro r w2 ⟨rfl, rfl⟩
    rw [show unl true 54 = u from hu.out]
    go_wp2_with fail
    refine (irefuse_x w0 g V l1 f1 u _ HS1.out).mono ?_
    rintro r w3 ⟨rfl, T3, S3⟩
    rw [hf2.out] at S3
    have F := hide (And.intro (HT1.out.trans T3) S3)
    clear T3 S3 HS1 HT1
    go_wp2
    go_ret2
    exact ⟨rfl, F.out⟩
  · rw [if_neg h0]
    obtain ⟨y, l2, f3, e2⟩ : ∃ y l2 f3, Hid (iNext l1 f2 = (y, l2, f3)) := ⟨_, _, _, rfl⟩
    rw [e2.out]
    simp only
    obtain ⟨b, hb⟩ : ∃ b, Hid ((y == 0 || (y == 1 && x == 1)) = b) := ⟨_, rfl⟩
    rw [hb.out]
    have g0 : (x == 0) = false := by rw [beq_eq_false_iff_ne]; exact h0
    clear h0
    have B : ∀ q0 q1 q2 : Bool, (y == 0) = q0 → (y == 1) = q1 → (x == 1) = q2 → Hid ((q0 || (q1 && q2)) = b) := fun q0 q1 q2 h1 h2 h3 => by rw [← h1, ← h2, ← h3]; exact hb
    obtain ⟨q0, hq0⟩ : ∃ q, (y == 0) = q := ⟨_, rfl⟩
    obtain ⟨q1, hq1⟩ : ∃ q, (y == 1) = q := ⟨_, rfl⟩
    obtain ⟨q2, hq2⟩ : ∃ q, (x == 1) = q := ⟨_, rfl⟩
    have HB := B q0 q1 q2 hq0 hq1 hq2
    clear B hb
    obtain ⟨d, hd⟩ : ∃ d, decide (x ≤ 2) = d := ⟨_, rfl⟩
    rw [hd] at hu
    rw [hq1]
    cases q0 <;> cases q1 <;> cases q2
    all_goals
      have hb' := HB.out
      subst hb'
      clear HB
      go_enter Tryz.func29, Tryz.ntmps29
      go_wp2_with fail
      refine (inext_any w0 g V l f _ HX.out).mono ?_
      rintro r w1 ⟨rfl, T1, S1⟩
      rw [e1.out] at S1 ⊢
      simp only at S1 ⊢
      have HT1 := hide T1
      have HS1 := hide S1
      clear T1 S1 HX
      go_wp2_with fail
      refine (unless_any d 54 _).mono ?_
      rintro r w2 ⟨rfl, rfl⟩
      rw [hu.out]
      go_wp2_with fail
      refine (irefuse_x w0 g V l1 f1 u _ HS1.out).mono ?_
      rintro r w3 ⟨rfl, T3, S3⟩
      rw [hf2.out] at S3
      have HT3 := hide (HT1.out.trans T3)
      have HS3 := hide S3
      clear T3 S3 HS1 HT1
      go_wp2_with fail
      refine (inext_any w0 g V l1 f2 _ HS3.out).mono ?_
      rintro r w4 ⟨rfl, T4, S4⟩
      rw [e2.out] at S4 ⊢
      simp only at S4 ⊢
      have HT4 := hide (HT3.out.trans T4)
      have HS4 := hide S4
      clear T4 S4 HS3 HT3
      go_wp2_with fail
      refine (unless_any _ 54 _).mono ?_
      rintro r w5 ⟨rfl, rfl⟩
      go_wp2_with fail
      refine (irefuse_x w0 g V l2 f3 _ _ HS4.out).mono ?_
      rintro r w6 ⟨rfl, T6, S6⟩
      have F := hide (And.intro (HT4.out.trans T6) S6)
      clear T6 S6 HS4 HT4
      go_wp2
      go_ret2
      exact ⟨rfl, F.out⟩
set_option maxHeartbeats 1000000 in
set_option maxRecDepth 100000 in
theorem takeVote2_any (f : Int) (w : World) (h : Scx w0 w g V l f) :
    Calls Tryz.prog 35 #[.pointer (some ⟨g, 0, none⟩)] w fun r w' => r = .returned (.tuple #[.int .i64 (vote2 l f).1.1, .bool (vote2 l f).1.2]) ∧ Touch g w w' ∧ Scx w0 w' g V (vote2 l f).2.1 (vote2 l f).2.2 := by
  have HX := hide h
  clear h
  obtain ⟨x, l1, f1, e1⟩ : ∃ x l1 f1, Hid (iNext l f = (x, l1, f1)) := ⟨_, _, _, rfl⟩
  have e0 : Hid (vote2 l f = if x = 0 ∨ x = 1 ∨ x = 2 then ((x, false), l1, f1) else if x = 5 then ((1, true), l1, f1) else ((0, false), l1, refF 54 f1)) := by show _ = _; unfold vote2; rw [e1.out]
  rw [e0.out]
  clear e0
  by_cases h0 : x = 0 ∨ x = 1 ∨ x = 2
  · rw [if_pos h0]
    simp only
    rcases h0 with rfl | rfl | rfl
    all_goals
      go_enter Tryz.func35, Tryz.ntmps35
      go_wp2_with fail
      refine (inext_any w0 g V l f _ HX.out).mono ?_
      rintro r w1 ⟨rfl, T1, S1⟩
      rw [e1.out] at S1 ⊢
      simp only at S1 ⊢
      have HT1 := hide T1
      have HS1 := hide S1
      clear T1 S1 HX
      go_wp2
      go_ret2
      exact ⟨rfl, HT1.out, HS1.out⟩
  · rw [if_neg h0]
    have a0 : (x == 0) = false := by rw [beq_eq_false_iff_ne]; omega
    have a1 : (x == 1) = false := by rw [beq_eq_false_iff_ne]; omega
    have a2 : (x == 2) = false := by rw [beq_eq_false_iff_ne]; omega
    clear h0
    by_cases h5 : x = 5
    · subst h5
      rw [if_pos rfl]
      simp only
      go_enter Tryz.func35, Tryz.ntmps35
      go_wp2_with fail
      refine (inext_any w0 g V l f _ HX.out).mono ?_
      rintro r w1 ⟨rfl, T1, S1⟩
      rw [e1.out] at S1 ⊢
      simp only at S1 ⊢
      have HT1 := hide T1
      have HS1 := hide S1
      clear T1 S1 HX
      go_wp2
      go_ret2
      exact ⟨rfl, HT1.out, HS1.out⟩
    · rw [if_neg h5]
      simp only
      have a5 : (x == 5) = false := by rw [beq_eq_false_iff_ne]; omega
      clear h5
      go_enter Tryz.func35, Tryz.ntmps35
      go_wp2_with fail
      refine (inext_any w0 g V l f _ HX.out).mono ?_
      rintro r w1 ⟨rfl, T1, S1⟩
      rw [e1.out] at S1 ⊢
      simp only at S1 ⊢
      have HT1 := hide T1
      have HS1 := hide S1
      clear T1 S1 HX
      go_wp2_with fail
      refine (irefuse_x w0 g V l1 f1 54 _ HS1.out).mono ?_
      rintro r w3 ⟨rfl, T3, S3⟩
      have F := hide (And.intro (HT1.out.trans T3) S3)
      clear T3 S3 HS1 HT1
      go_wp2
      go_ret2
      exact ⟨rfl, F.out⟩
end
end Go.Proofs.YtbdkelffncmkhaaGreatDoor
/- The plain mathematics of a command's bytes; nothing of the program is named here. -/
namespace Go.Wire1
open Go.RowKit

/-- A text's bytes, as numbers. -/
def tx (s : ByteArray) : List Int := s.data.toList.map fun b => (b.toNat : Int)
/-- A text as an item: its length, its bytes. -/
def ptx (s : ByteArray) : List Int := enc s.size ++ tx s
/-- How many bytes two texts share at their beginning. -/
def shL : List UInt8 → List UInt8 → Nat
  | a :: x, b :: y => if a = b then shL x y + 1 else 0
  | _, _ => 0
def shared (k k2 : ByteArray) : Nat := shL k.data.toList k2.data.toList
theorem shL_le : ∀ x y : List UInt8, shL x y ≤ x.length ∧ shL x y ≤ y.length
  | [], _ => by simp [shL]
  | _ :: _, [] => by simp [shL]
  | a :: x, b :: y => by
    have := shL_le x y
    simp only [shL]
    split <;> simp <;> omega
theorem shared_le (k k2 : ByteArray) : shared k k2 ≤ k.size ∧ shared k k2 ≤ k2.size := by
  have := shL_le k.data.toList k2.data.toList
  rw [← Lib.size_eq, ← Lib.size_eq] at this
  exact this
theorem shL_drop : ∀ (i : Nat) (x y : List UInt8), i < x.length → i < y.length → shL (x.drop i) (y.drop i) = if x.getD i 0 = y.getD i 0 then shL (x.drop (i + 1)) (y.drop (i + 1)) + 1 else 0 := by
  intro i x y hx hy
  rw [List.drop_eq_getElem_cons hx, List.drop_eq_getElem_cons hy, List.getD, List.getD, List.getElem?_eq_getElem hx, List.getElem?_eq_getElem hy]
  rfl
theorem shL_end (i : Nat) (x y : List UInt8) (h : x.length ≤ i ∨ y.length ≤ i) : shL (x.drop i) (y.drop i) = 0 := by
  rcases h with h | h
  · rw [List.drop_eq_nil_of_le h]; rfl
  · rw [List.drop_eq_nil_of_le h]; cases x.drop i <;> rfl

def restC (c : Cm) : List Int :=
  if 6 ≤ c.kind then enc (shared c.key c.key2) ++ ptx (c.key2.extract (shared c.key c.key2) c.key2.size)
  else if c.kind = 5 then ptx c.old ++ ptx c.val
  else if c.kind = 2 then ptx c.val
  else if c.kind = 4 then enc (zig c.n)
  else []
/-- The bytes of a command. -/
def encC (c : Cm) : List Int := if c.kind = 0 then [0] else [c.kind] ++ enc c.client.toNat ++ enc c.req.toNat ++ ptx c.key ++ restC c

theorem chk_zero {v : Int} {c : Cm} (h : chk v c = 0) : (v = 1 ∨ v = 2) ∧ isKd v c.kind = true ∧ ∀ f, f < 7 → faultF v c f = 0 := by
  unfold chk at h
  cases h1 : isVer v with
  | false => rw [h1] at h; simp at h
  | true =>
    cases h2 : isKd v c.kind with
    | false => rw [h1, h2] at h; simp at h
    | true =>
      rw [h1, h2] at h
      simp only [if_true] at h
      refine ⟨by simpa [isVer] using h1, rfl, ?_⟩
      have go : ∀ k f, firstF v c k f = 0 → ∀ j, f ≤ j → j < f + k → faultF v c j = 0 := by
        intro k
        induction k with
        | zero => intro f _ j h1 h2; omega
        | succ k ih =>
          intro f hf j h1 h2
          simp only [firstF] at hf
          by_cases h0 : faultF v c f = 0
          · rw [if_pos h0] at hf
            by_cases e : j = f
            · rw [e]; exact h0
            · exact ih (f + 1) hf j (by omega) (by omega)
          · rw [if_neg h0] at hf; exact absurd hf h0
      exact fun f hf => go 7 0 h f (by omega) (by omega)
theorem has_allow {v : Int} {c : Cm} {f : Nat} (h : faultF v c f = 0) (hf : f < 6) (hh : hasF c.kind f = true) : allowF v c f = true := by
  unfold faultF at h
  rw [hh] at h
  simp only [if_true] at h
  cases ha : allowF v c f with
  | true => rfl
  | false =>
    rw [ha] at h
    simp only [Bool.false_eq_true, if_false, errF] at h
    split at h <;> omega
/-- What a command that Check takes is. -/
structure Sound (c : Cm) : Prop where
  k0 : 0 ≤ c.kind
  k8 : c.kind ≤ 8
  client : c.kind ≠ 0 → 0 ≤ c.client ∧ c.client ≤ 65535
  req : c.kind ≠ 0 → 0 ≤ c.req ∧ c.req ≤ 1073741824
  key : c.kind ≠ 0 → 1 ≤ c.key.size ∧ c.key.size ≤ 64
  key2 : 6 ≤ c.kind → 1 ≤ c.key2.size ∧ c.key2.size ≤ 64 ∧ isPairB c.kind c.key c.key2 = true
  val : c.kind = 2 ∨ c.kind = 5 → c.val.size ≤ 65536
  old : c.kind = 5 → c.old.size ≤ 65536
end Go.Wire1
