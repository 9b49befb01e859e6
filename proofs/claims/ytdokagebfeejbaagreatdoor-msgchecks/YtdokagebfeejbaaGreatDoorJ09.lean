/- Texts of the proof, joined. -/
import Derived.Test.YtdokagebfeejbaaGreatDoorJ08
import Derived.Test.YtdokagebfeejbaaGreatDoorJ03
/- The contracts of takeInst, takeBallot and takeVote, in both versions. -/
namespace Go.Proofs.YtdokagebfeejbaaGreatDoor
open Go.RowKit Go.Wire1

/-- A block of two numbers that may be written. -/
structure B2 (w : World) (q : Nat) (x y : Int) : Prop where
  c0 : w.cell? ⟨q, 0, none⟩ = some (.int .i64 x)
  c1 : w.cell? ⟨q, 1, none⟩ = some (.int .i64 y)
  thaw : ∀ o, w.frozen? ⟨q, o, none⟩ = false
theorem b2_new (w : World) (T : TypeId) (x y : Int) : B2 (w.alloc (.cells #[.int .i64 x, .int .i64 y] T)) w.heap.size x y :=
  ⟨by rw [World.cell?_alloc_at _ _ _ _ rfl]; rfl, by rw [World.cell?_alloc_at _ _ _ _ rfl]; rfl, fun _ => World.frozen?_alloc_at _ _ _ _ rfl⟩
theorem B2.lt {w : World} {q : Nat} {x y : Int} (h : B2 w q x y) : q < w.heap.size := cell_lt h.c0
theorem B2.of_block {w w' : World} {q : Nat} {x y : Int} (h : B2 w q x y) (e : w'.heap[q]? = w.heap[q]?) : B2 w' q x y :=
  ⟨(World.cell?_of_block (a := ⟨q, 0, none⟩) e).trans h.c0, (World.cell?_of_block (a := ⟨q, 1, none⟩) e).trans h.c1, fun o => (World.frozen?_of_block (a := ⟨q, o, none⟩) e).trans (h.thaw o)⟩
theorem B2.touch {w w' : World} {q g : Nat} {x y : Int} (h : B2 w q x y) (T : Touch g w w') (hq : q ≠ g) : B2 w' q x y := h.of_block (T.block q h.lt hq)

/-- The instance, the ballot: by the version. -/
def iInst (v : Int) (l : List Int) (f : Int) : (Int × Int) × List Int × Int := if v = 1 then iTwo l f else (((iPack l f).1.2, (iPack l f).1.1), (iPack l f).2)
def iBal (v : Int) (l : List Int) (f : Int) : (Int × Int) × List Int × Int := if v = 1 then iTwo l f else iPack l f
def vote1 (l : List Int) (f : Int) : (Int × Bool) × List Int × Int :=
  if (iNext l f).1 = 0 then ((0, false), (iNext l f).2.1, refF (unl (decide ((iNext l f).1 ≤ 2)) 54) (iNext l f).2.2)
  else (((iNext l f).1, (iNext (iNext l f).2.1 (refF (unl (decide ((iNext l f).1 ≤ 2)) 54) (iNext l f).2.2)).1 == 1), (iNext (iNext l f).2.1 (refF (unl (decide ((iNext l f).1 ≤ 2)) 54) (iNext l f).2.2)).2.1,
    refF (unl ((iNext (iNext l f).2.1 (refF (unl (decide ((iNext l f).1 ≤ 2)) 54) (iNext l f).2.2)).1 == 0 || ((iNext (iNext l f).2.1 (refF (unl (decide ((iNext l f).1 ≤ 2)) 54) (iNext l f).2.2)).1 == 1 && (iNext l f).1 == 1)) 54)
      (iNext (iNext l f).2.1 (refF (unl (decide ((iNext l f).1 ≤ 2)) 54) (iNext l f).2.2)).2.2)
def vote2 (l : List Int) (f : Int) : (Int × Bool) × List Int × Int :=
  if (iNext l f).1 = 0 ∨ (iNext l f).1 = 1 ∨ (iNext l f).1 = 2 then (((iNext l f).1, false), (iNext l f).2)
  else if (iNext l f).1 = 5 then ((1, true), (iNext l f).2) else ((0, false), (iNext l f).2.1, refF 54 (iNext l f).2.2)
def iVote (v : Int) (l : List Int) (f : Int) : (Int × Bool) × List Int × Int := if v = 1 then vote1 l f else vote2 l f
section
variable (w0 : World) (g : Nat) (V : Nat → Option Value) (l : List Int)
set_option maxHeartbeats 1000000 in
set_option maxRecDepth 100000 in
theorem takeInst1_any (a : Nat → Addr) (f : Int) (w : World) (he : Errs w0 a) (h : Scx w0 w g V l f) :
    Calls Tryz.prog 55 #[.pointer (some ⟨g, 0, none⟩)] w fun r w' => r = .returned (.agg #[.int .i64 (iTwo l f).1.1, .int .i64 (iTwo l f).1.2]) ∧ Touch g w w' ∧ Scx w0 w' g V (iTwo l f).2.1 (iTwo l f).2.2 := by
  have HX := hide (h.alloc (.cells #[.int .i64 0, .int .i64 0] 23))
  have HQ := hide (b2_new w 23 0 0)
  have T0 : Hid (Touch g w (w.alloc (.cells #[.int .i64 0, .int .i64 0] 23))) := Touch.ofBelow ((Below.refl _ _).alloc (Nat.le_refl _) _)
  have hgl := h.lt
  have hgg := h.hg
  have HW := hide h.low.size
  have HE := hide he
  clear h he
  obtain ⟨x, y, l1, f1, e1⟩ : ∃ x y l1 f1, Hid (iTwo l f = ((x, y), l1, f1)) := ⟨_, _, _, _, rfl⟩
  rw [e1.out]
  simp only
  go_enter Tryz.func55, Tryz.ntmps55
  go_wp2_with fail
  refine (itwo_any w0 g V l a f _ HE.out HX.out).mono ?_
  rintro r w1 ⟨rfl, T1, S1⟩
  rw [e1.out] at S1 ⊢
  simp only at S1 ⊢
  have Q1 := HQ.out.touch T1 (by omega)
  have c0 := Q1.c0
  have c1 := Q1.c1
  have t0 := Q1.thaw 0
  have t1 := Q1.thaw 1
  have R : Hid (Touch g w ((w1.setCell ⟨w.heap.size, 0, none⟩ (.int .i64 x)).setCell ⟨w.heap.size, 1, none⟩ (.int .i64 y)) ∧ Scx w0 ((w1.setCell ⟨w.heap.size, 0, none⟩ (.int .i64 x)).setCell ⟨w.heap.size, 1, none⟩ (.int .i64 y)) g V l1 f1) :=
    ⟨((T0.out.trans T1).setNew _ (Nat.le_refl _)).setNew _ (Nat.le_refl _), (S1.other _ (by omega) HW.out).other _ (by omega) HW.out⟩
  clear T1 S1 Q1 HX HQ T0
  go_wp2
  refine bodyPost_ret (v := .agg #[.int .i64 x, .int .i64 y]) (by simp [results, Tryz.results55, go_sem, *]) rfl ⟨rfl, R.out⟩
set_option maxHeartbeats 1000000 in
set_option maxRecDepth 100000 in
theorem takeInst2_any (a : Nat → Addr) (f : Int) (w : World) (he : Errs w0 a) (h : Scx w0 w g V l f) :
    Calls Tryz.prog 61 #[.pointer (some ⟨g, 0, none⟩)] w fun r w' => r = .returned (.agg #[.int .i64 (iPack l f).1.2, .int .i64 (iPack l f).1.1]) ∧ Touch g w w' ∧ Scx w0 w' g V (iPack l f).2.1 (iPack l f).2.2 := by
  have HX := hide (h.alloc (.cells #[.int .i64 0, .int .i64 0] 23))
  have HQ := hide (b2_new w 23 0 0)
  have T0 : Hid (Touch g w (w.alloc (.cells #[.int .i64 0, .int .i64 0] 23))) := Touch.ofBelow ((Below.refl _ _).alloc (Nat.le_refl _) _)
  have hgl := h.lt
  have hgg := h.hg
  have HW := hide h.low.size
  have HE := hide he
  clear h he
  obtain ⟨x, y, l1, f1, e1⟩ : ∃ x y l1 f1, Hid (iPack l f = ((x, y), l1, f1)) := ⟨_, _, _, _, rfl⟩
  rw [e1.out]
  simp only
  go_enter Tryz.func61, Tryz.ntmps61
  go_wp2_with fail
  refine (ipacked_any w0 g V l a f _ HE.out HX.out).mono ?_
  rintro r w1 ⟨rfl, T1, S1⟩
  rw [e1.out] at S1 ⊢
  simp only at S1 ⊢
  have Q1 := HQ.out.touch T1 (by omega)
  have c0 := Q1.c0
  have c1 := Q1.c1
  have t0 := Q1.thaw 0
  have t1 := Q1.thaw 1
  have R : Hid (Touch g w ((w1.setCell ⟨w.heap.size, 0, none⟩ (.int .i64 y)).setCell ⟨w.heap.size, 1, none⟩ (.int .i64 x)) ∧ Scx w0 ((w1.setCell ⟨w.heap.size, 0, none⟩ (.int .i64 y)).setCell ⟨w.heap.size, 1, none⟩ (.int .i64 x)) g V l1 f1) :=
    ⟨((T0.out.trans T1).setNew _ (Nat.le_refl _)).setNew _ (Nat.le_refl _), (S1.other _ (by omega) HW.out).other _ (by omega) HW.out⟩
  clear T1 S1 Q1 HX HQ T0
  go_wp2
  refine bodyPost_ret (v := .agg #[.int .i64 y, .int .i64 x]) (by simp [results, Tryz.results61, go_sem, *]) rfl ⟨rfl, R.out⟩
set_option maxHeartbeats 1000000 in
set_option maxRecDepth 100000 in
theorem takeBallot1_any (a : Nat → Addr) (f : Int) (w : World) (he : Errs w0 a) (h : Scx w0 w g V l f) :
    Calls Tryz.prog 56 #[.pointer (some ⟨g, 0, none⟩)] w fun r w' => r = .returned (.agg #[.int .i64 (iTwo l f).1.1, .int .i64 (iTwo l f).1.2]) ∧ Touch g w w' ∧ Scx w0 w' g V (iTwo l f).2.1 (iTwo l f).2.2 := by
  have HX := hide (h.alloc (.cells #[.int .i64 0, .int .i64 0] 25))
  have HQ := hide (b2_new w 25 0 0)
  have T0 : Hid (Touch g w (w.alloc (.cells #[.int .i64 0, .int .i64 0] 25))) := Touch.ofBelow ((Below.refl _ _).alloc (Nat.le_refl _) _)
  have hgl := h.lt
  have hgg := h.hg
  have HW := hide h.low.size
  have HE := hide he
  clear h he
  obtain ⟨x, y, l1, f1, e1⟩ : ∃ x y l1 f1, Hid (iTwo l f = ((x, y), l1, f1)) := ⟨_, _, _, _, rfl⟩
  rw [e1.out]
  simp only
  go_enter Tryz.func56, Tryz.ntmps56
  go_wp2_with fail
  refine (itwo_any w0 g V l a f _ HE.out HX.out).mono ?_
  rintro r w1 ⟨rfl, T1, S1⟩
  rw [e1.out] at S1 ⊢
  simp only at S1 ⊢
  have Q1 := HQ.out.touch T1 (by omega)
  have c0 := Q1.c0
  have c1 := Q1.c1
  have t0 := Q1.thaw 0
  have t1 := Q1.thaw 1
  have R : Hid (Touch g w ((w1.setCell ⟨w.heap.size, 0, none⟩ (.int .i64 x)).setCell ⟨w.heap.size, 1, none⟩ (.int .i64 y)) ∧ Scx w0 ((w1.setCell ⟨w.heap.size, 0, none⟩ (.int .i64 x)).setCell ⟨w.heap.size, 1, none⟩ (.int .i64 y)) g V l1 f1) :=
    ⟨((T0.out.trans T1).setNew _ (Nat.le_refl _)).setNew _ (Nat.le_refl _), (S1.other _ (by omega) HW.out).other _ (by omega) HW.out⟩
  clear T1 S1 Q1 HX HQ T0
  go_wp2
  refine bodyPost_ret (v := .agg #[.int .i64 x, .int .i64 y]) (by simp [results, Tryz.results56, go_sem, *]) rfl ⟨rfl, R.out⟩
set_option maxHeartbeats 1000000 in
set_option maxRecDepth 100000 in
theorem takeBallot2_any (a : Nat → Addr) (f : Int) (w : World) (he : Errs w0 a) (h : Scx w0 w g V l f) :
    Calls Tryz.prog 62 #[.pointer (some ⟨g, 0, none⟩)] w fun r w' => r = .returned (.agg #[.int .i64 (iPack l f).1.1, .int .i64 (iPack l f).1.2]) ∧ Touch g w w' ∧ Scx w0 w' g V (iPack l f).2.1 (iPack l f).2.2 := by
  have HX := hide (h.alloc (.cells #[.int .i64 0, .int .i64 0] 25))
  have HQ := hide (b2_new w 25 0 0)
  have T0 : Hid (Touch g w (w.alloc (.cells #[.int .i64 0, .int .i64 0] 25))) := Touch.ofBelow ((Below.refl _ _).alloc (Nat.le_refl _) _)
  have hgl := h.lt
  have hgg := h.hg
  have HW := hide h.low.size
  have HE := hide he
  clear h he
  obtain ⟨x, y, l1, f1, e1⟩ : ∃ x y l1 f1, Hid (iPack l f = ((x, y), l1, f1)) := ⟨_, _, _, _, rfl⟩
  rw [e1.out]
  simp only
  go_enter Tryz.func62, Tryz.ntmps62
  go_wp2_with fail
  refine (ipacked_any w0 g V l a f _ HE.out HX.out).mono ?_
  rintro r w1 ⟨rfl, T1, S1⟩
  rw [e1.out] at S1 ⊢
  simp only at S1 ⊢
  have Q1 := HQ.out.touch T1 (by omega)
  have c0 := Q1.c0
  have c1 := Q1.c1
  have t0 := Q1.thaw 0
  have t1 := Q1.thaw 1
  have R : Hid (Touch g w ((w1.setCell ⟨w.heap.size, 0, none⟩ (.int .i64 x)).setCell ⟨w.heap.size, 1, none⟩ (.int .i64 y)) ∧ Scx w0 ((w1.setCell ⟨w.heap.size, 0, none⟩ (.int .i64 x)).setCell ⟨w.heap.size, 1, none⟩ (.int .i64 y)) g V l1 f1) :=
    ⟨((T0.out.trans T1).setNew _ (Nat.le_refl _)).setNew _ (Nat.le_refl _), (S1.other _ (by omega) HW.out).other _ (by omega) HW.out⟩
  clear T1 S1 Q1 HX HQ T0
  go_wp2
  refine bodyPost_ret (v := .agg #[.int .i64 x, .int .i64 y]) (by simp [results, Tryz.results62, go_sem, *]) rfl ⟨rfl, R.out⟩
end
end Go.Proofs.YtdokagebfeejbaaGreatDoor
/- The rules of package msg as plain functions, and the contracts of isKind, isBallot, below, instFault, ballotFault, voteFault, seqFault, depsFault, noopFault. -/
namespace Go.Proofs.YtdokagebfeejbaaGreatDoor
open Go.RowKit Go.Wire1

def fromM : List Nat := [0, 1, 1, 1, 1, 1, 1, 1, 1, 2]
def rndM : List Nat := [0, 0, 0, 0, 0, 0, 1, 1, 0, 0]
def isMK (v k : Int) : Bool := decide (0 < k) && (decide (k < 10) && decide ((fromM.getD k.toNat 0 : Int) ≤ v))
/-- The table of the messages' kinds lies in memory. -/
def Kmd (w : World) : Prop := ∀ i, i < 10 → w.cell? ⟨0, i * 2, none⟩ = some (.int .i64 (fromM.getD i 0 : Nat)) ∧ w.cell? ⟨0, i * 2 + 1, none⟩ = some (.int .i64 (rndM.getD i 0 : Nat))
theorem Kmd.lt {w : World} (h : Kmd w) : 0 < w.heap.size := cell_lt (h 0 (by omega)).1
theorem Kmd.below {w w' : World} {B : Nat} (h : Kmd w) (hb : Below B w w') (hB : w.heap.size ≤ B) : Kmd w' := by
  have hl := h.lt
  intro i hi
  obtain ⟨h1, h2⟩ := h i hi
  exact ⟨by rw [hb.cell (p := ⟨0, i * 2, none⟩) (Nat.lt_of_lt_of_le hl hB)]; exact h1, by rw [hb.cell (p := ⟨0, i * 2 + 1, none⟩) (Nat.lt_of_lt_of_le hl hB)]; exact h2⟩
def balB (n row rnd who : Int) : Bool := decide (0 ≤ rnd) && (decide (rnd ≤ 65535) && (decide (0 ≤ who) && (decide (who < n) && (decide (0 < rnd) || who == row))))
def belB (r1 w1 r2 w2 : Int) : Bool := decide (r1 < r2) || (r1 == r2 && decide (w1 < w2))
def instB (n row num : Int) : Bool := decide (0 ≤ row) && (decide (row < n) && (decide (1 ≤ num) && decide (num ≤ 1048576)))

set_option maxHeartbeats 400000 in
set_option maxRecDepth 100000 in
theorem mKind_any (v kind : Int) (w : World) (hK : Kmd w) :
    Calls Tryz.prog 21 #[.int .i64 v, .int .i64 kind] w fun e w' => e = .returned (.bool (isMK v kind)) ∧ w = w' := by
  by_cases h1 : 0 < kind
  · by_cases h2 : kind < 10
    · obtain ⟨k, rfl⟩ := Int.eq_ofNat_of_zero_le (show 0 ≤ kind by omega)
      have h3 : k < 10 := by omega
      obtain ⟨hc, _⟩ := hK k h3
      have HR : Hid (isMK v (k : Int) = decide ((fromM.getD k 0 : Int) ≤ v)) := by
        show _ = _; unfold isMK; rw [decide_eq_true h1, decide_eq_true h2]; rfl
      generalize fromM.getD k 0 = fr at *
      go_enter Tryz.func21, Tryz.ntmps21
      go_wp2
      go_ret
      exact ⟨by rw [HR.out]; rfl, rfl⟩
    · have HR : Hid (isMK v kind = false) := by show _ = _; unfold isMK; rw [decide_eq_false h2]; simp
      go_enter Tryz.func21, Tryz.ntmps21
      go_wp2
      go_ret
      exact ⟨by rw [HR.out]; first | rfl | (simp; omega), rfl⟩
  · have HR : Hid (isMK v kind = false) := by show _ = _; unfold isMK; rw [decide_eq_false h1]; rfl
    go_enter Tryz.func21, Tryz.ntmps21
    go_wp2
    go_ret
    exact ⟨by rw [HR.out]; first | rfl | (simp; omega), rfl⟩
set_option maxHeartbeats 2000000 in
set_option maxRecDepth 100000 in
theorem isBallot_any (n row num rnd who : Int) (w : World) :
    Calls Tryz.prog 90 #[.int .i64 n, .agg #[.int .i64 row, .int .i64 num], .agg #[.int .i64 rnd, .int .i64 who]] w fun e w' => e = .returned (.bool (balB n row rnd who)) ∧ Below w.heap.size w w' := by
  have BB : ∀ o p, Hid (Below w.heap.size w ((w.alloc o).alloc p)) := fun o p => ((Below.refl _ w).alloc (Nat.le_refl _) _).alloc (by simp) _
  by_cases h0 : 0 ≤ rnd
  rotate_left
  · have HR : Hid (balB n row rnd who = false) := by simp [Hid, balB, h0]
    go_enter Tryz.func90, Tryz.ntmps90
    go_wp2
    go_ret
    exact ⟨by rw [HR.out]; first | rfl | (simp; done) | (simp; omega), (BB _ _).out⟩
  by_cases h1 : rnd ≤ 65535
  rotate_left
  · have HR : Hid (balB n row rnd who = false) := by simp [Hid, balB, h1]
    go_enter Tryz.func90, Tryz.ntmps90
    go_wp2
    go_ret
    exact ⟨by rw [HR.out]; first | rfl | (simp; done) | (simp; omega), (BB _ _).out⟩
  by_cases h2 : 0 ≤ who
  rotate_left
  · have HR : Hid (balB n row rnd who = false) := by simp [Hid, balB, h2]
    go_enter Tryz.func90, Tryz.ntmps90
    go_wp2
    go_ret
    exact ⟨by rw [HR.out]; first | rfl | (simp; done) | (simp; omega), (BB _ _).out⟩
  by_cases h3 : who < n
  rotate_left
  · have HR : Hid (balB n row rnd who = false) := by simp [Hid, balB, h3]
    go_enter Tryz.func90, Tryz.ntmps90
    go_wp2
    go_ret
    exact ⟨by rw [HR.out]; first | rfl | (simp; done) | (simp; omega), (BB _ _).out⟩
  by_cases h4 : 0 < rnd
  · have HR : Hid (balB n row rnd who = true) := by simp [Hid, balB, h0, h1, h2, h3, h4]
    go_enter Tryz.func90, Tryz.ntmps90
    go_wp2
    go_ret
    exact ⟨by rw [HR.out]; first | rfl | (simp; done) | (simp; omega), (BB _ _).out⟩
  · have HR : Hid (balB n row rnd who = (who == row)) := by simp [Hid, balB, h0, h1, h2, h3, h4]
    obtain ⟨b, hb⟩ : ∃ b, (who == row) = b := ⟨_, rfl⟩
    rw [HR.out, hb]
    go_enter Tryz.func90, Tryz.ntmps90
    go_wp2
    go_ret
    exact ⟨rfl, (BB _ _).out⟩
set_option maxHeartbeats 1000000 in
set_option maxRecDepth 100000 in
theorem mbelow_any (r1 w1 r2 w2 : Int) (w : World) :
    Calls Tryz.prog 91 #[.agg #[.int .i64 r1, .int .i64 w1], .agg #[.int .i64 r2, .int .i64 w2]] w fun e w' => e = .returned (.bool (belB r1 w1 r2 w2)) ∧ Below w.heap.size w w' := by
  have BB : ∀ o p, Hid (Below w.heap.size w ((w.alloc o).alloc p)) := fun o p => ((Below.refl _ w).alloc (Nat.le_refl _) _).alloc (by simp) _
  obtain ⟨p, hp⟩ : ∃ p, decide (r1 < r2) = p := ⟨_, rfl⟩
  obtain ⟨q, hq⟩ : ∃ q, (r1 == r2) = q := ⟨_, rfl⟩
  obtain ⟨r, hr⟩ : ∃ r, decide (w1 < w2) = r := ⟨_, rfl⟩
  unfold belB
  rw [hp, hq, hr]
  cases p <;> cases q
  all_goals
    go_enter Tryz.func91, Tryz.ntmps91
    go_wp2
    go_ret
    exact ⟨by first | rfl | (simp; done), (BB _ _).out⟩
set_option maxHeartbeats 2000000 in
set_option maxRecDepth 100000 in
theorem instFault_any (kind row num n : Int) (w : World) :
    Calls Tryz.prog 78 #[.agg #[.int .i64 kind, .int .i64 row, .int .i64 num], .int .i64 n] w fun e w' => e = .returned (.int .i64 (unl (instB n row num) 52)) ∧ Below w.heap.size w w' := by
  have BB : ∀ o q, Hid (Below w.heap.size w ((w.alloc o).drewN q)) := fun o q => by
    have h := (Below.refl _ w).alloc (Nat.le_refl _) o
    exact ⟨h.os, h.tape, h.output, h.size, h.block⟩
  obtain ⟨b, hb⟩ : ∃ b, Hid (instB n row num = b) := ⟨_, rfl⟩
  rw [hb.out]
  by_cases h0 : 0 ≤ row
  rotate_left
  · obtain rfl : b = false := by rw [← hb.out]; simp [instB, h0]
    have d0 : decide (0 ≤ row) = false := decide_eq_false h0
    go_enter Tryz.func78, Tryz.ntmps78
    go_wp2
    go_region
    go_wp2_with fail
    refine (unless_any _ 52 _).mono ?_
    rintro r w1 ⟨rfl, rfl⟩
    go_wp2
    go_ret
    exact ⟨by first | rfl | (simp; done) | simp_all, (BB _ 1).out⟩
  by_cases h1 : row < n
  rotate_left
  · obtain rfl : b = false := by rw [← hb.out]; simp [instB, h1]
    have d1 : decide (row < n) = false := decide_eq_false h1
    go_enter Tryz.func78, Tryz.ntmps78
    go_wp2
    go_region
    go_wp2_with fail
    refine (unless_any _ 52 _).mono ?_
    rintro r w1 ⟨rfl, rfl⟩
    go_wp2
    go_ret
    exact ⟨by first | rfl | (simp; done) | simp_all, (BB _ 1).out⟩
  by_cases h2 : 1 ≤ num
  rotate_left
  · obtain rfl : b = false := by rw [← hb.out]; simp [instB, h2]
    have d2 : decide (1 ≤ num) = false := decide_eq_false h2
    go_enter Tryz.func78, Tryz.ntmps78
    go_wp2
    go_region
    go_wp2_with fail
    refine (unless_any _ 52 _).mono ?_
    rintro r w1 ⟨rfl, rfl⟩
    go_wp2
    go_ret
    exact ⟨by first | rfl | (simp; done) | simp_all, (BB _ 1).out⟩
  by_cases h3 : num ≤ 1048576
  rotate_left
  · obtain rfl : b = false := by rw [← hb.out]; simp [instB, h3]
    have d3 : decide (num ≤ 1048576) = false := decide_eq_false h3
    go_enter Tryz.func78, Tryz.ntmps78
    go_wp2
    go_region
    go_wp2_with fail
    refine (unless_any _ 52 _).mono ?_
    rintro r w1 ⟨rfl, rfl⟩
    go_wp2
    go_ret
    exact ⟨by first | rfl | (simp; done) | simp_all, (BB _ 1).out⟩
  obtain rfl : b = true := by rw [← hb.out]; simp [instB, h0, h1, h2, h3]
  go_enter Tryz.func78, Tryz.ntmps78
  go_wp2
  go_region
  go_wp2_with fail
  refine (unless_any _ 52 _).mono ?_
  rintro r w1 ⟨rfl, rfl⟩
  go_wp2
  go_ret
  exact ⟨by first | rfl | (simp; done) | simp_all, (BB _ 1).out⟩
def seqB (noop : Bool) (seq : Int) : Bool := if noop then seq == 0 else decide (1 ≤ seq) && decide (seq ≤ 1073741824)
set_option maxHeartbeats 1000000 in
set_option maxRecDepth 100000 in
theorem seqFault_any (noop : Bool) (seq : Int) (w : World) :
    Calls Tryz.prog 85 #[.bool noop, .int .i64 seq] w fun e w' => e = .returned (.int .i64 (unl (seqB noop seq) 55)) ∧ w = w' := by
  unfold seqB
  cases noop with
  | true =>
    obtain ⟨b, hb⟩ : ∃ b, (seq == 0) = b := ⟨_, rfl⟩
    rw [if_pos rfl, hb]
    go_enter Tryz.func85, Tryz.ntmps85
    go_wp2_with fail
    refine (unless_any b 55 _).mono ?_
    rintro r w1 ⟨rfl, rfl⟩
    go_wp2
    go_ret
    exact ⟨rfl, rfl⟩
  | false =>
    obtain ⟨p, hp⟩ : ∃ p, decide (1 ≤ seq) = p := ⟨_, rfl⟩
    obtain ⟨q, hq⟩ : ∃ q, decide (seq ≤ 1073741824) = q := ⟨_, rfl⟩
    rw [if_neg (by decide), hp, hq]
    cases p
    all_goals
      go_enter Tryz.func85, Tryz.ntmps85
      go_wp2_with fail
      refine (unless_any _ 55 _).mono ?_
      rintro r w1 ⟨rfl, rfl⟩
      go_wp2
      go_ret
      exact ⟨by first | rfl | (simp; done) | simp_all, rfl⟩
end Go.Proofs.YtdokagebfeejbaaGreatDoor
