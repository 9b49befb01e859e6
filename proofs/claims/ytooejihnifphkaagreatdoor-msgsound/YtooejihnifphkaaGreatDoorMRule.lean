/- The rules of package msg as plain functions, and the contracts of isKind, isBallot, below, instFault, ballotFault, voteFault, seqFault, depsFault, noopFault. -/
import Derived.Test.YtooejihnifphkaaGreatDoorMTake2
import Derived.Test.YtooejihnifphkaaGreatDoorVInts
namespace Go.Proofs.YtooejihnifphkaaGreatDoor
open Go.RowKit Go.Wire1

def fromM : List Nat := [0, 1, 1, 1, 1, 1, 1, 1, 1, 2]
def rndM : List Nat := [0, 0, 0, 0, 0, 0, 1, 1, 0, 0]
def isMK (v k : Int) : Bool := decide (0 < k) && (decide (k < 10) && decide ((fromM.getD k.toNat 0 : Int) ≤ v))
/-- The table of the messages' kinds lies in memory. -/
def Kmd (w : World) : Prop := ∀ i, i < 10 → w.cell? ⟨0, i * 2, none⟩ = some (.int .i64 (fromM.getD i 0 : Nat)) ∧ w.cell? ⟨0, i * 2 + 1, none⟩ = some (.int .i64 (rndM.getD i 0 : Nat))
theorem Kmd.lt {w : World} (h : Kmd w) : 0 < w.heap.size := cell_lt (h 0 (by omega)).1
theorem Kmd.below {w w' : World} {B : Nat} (h : Kmd w) (hb : Below B w w') (hB : w.heap.size ≤ B) : Kmd w' := by
  have hl := h.lt
  intro i hi
  obtain ⟨h1, h2⟩ := h i hi
  exact ⟨by rw [hb.cell (p := ⟨0, i * 2, none⟩) (Nat.lt_of_lt_of_le hl hB)]; exact h1, by rw [hb.cell (p := ⟨0, i * 2 + 1, none⟩) (Nat.lt_of_lt_of_le hl hB)]; exact h2⟩
def balB (n row rnd who : Int) : Bool := decide (0 ≤ rnd) && (decide (rnd ≤ 65535) && (decide (0 ≤ who) && (decide (who < n) && (decide (0 < rnd) || who == row))))
def belB (r1 w1 r2 w2 : Int) : Bool := decide (r1 < r2) || (r1 == r2 && decide (w1 < w2))
def instB (n row num : Int) : Bool := decide (0 ≤ row) && (decide (row < n) && (decide (1 ≤ num) && decide (num ≤ 1048576)))

set_option maxHeartbeats 400000 in
set_option maxRecDepth 100000 in
theorem mKind_any (v kind : Int) (w : World) (hK : Kmd w) :
    Calls Tryz.prog 21 #[.int .i64 v, .int .i64 kind] w fun e w' => e = .returned (.bool (isMK v kind)) ∧ w = w' := by
  by_cases h1 : 0 < kind
  · by_cases h2 : kind < 10
    · obtain ⟨k, rfl⟩ := Int.eq_ofNat_of_zero_le (show 0 ≤ kind by omega)
      have h3 : k < 10 := by omega
      obtain ⟨hc, _⟩ := hK k h3
      have HR : Hid (isMK v (k : Int) = decide ((fromM.getD k 0 : Int) ≤ v)) := by
        show _ = _; unfold isMK; rw [decide_eq_true h1, decide_eq_true h2]; rfl
      generalize fromM.getD k 0 = fr at *
      go_enter Tryz.func21, Tryz.ntmps21
      go_wp2
      go_ret
      exact ⟨by rw [HR.out]; rfl, rfl⟩
    · have HR : Hid (isMK v kind = false) := by show _ = _; unfold isMK; rw [decide_eq_false h2]; simp
      go_enter Tryz.func21, Tryz.ntmps21
      go_wp2
      go_ret
      exact ⟨by rw [HR.out]; first | rfl | (simp; omega), rfl⟩
  · have HR : Hid (isMK v kind = false) := by show _ = _; unfold isMK; rw [decide_eq_false h1]; rfl
    go_enter Tryz.func21, Tryz.ntmps21
    go_wp2
    go_ret
    exact ⟨by rw [HR.out]; first | rfl | (simp; omega), rfl⟩
set_option maxHeartbeats 2000000 in
set_option maxRecDepth 100000 in
theorem isBallot_any (n row num rnd who : Int) (w : World) :
    Calls Tryz.prog 69 #[.int .i64 n, .agg #[.int .i64 row, .int .i64 num], .agg #[.int .i64 rnd, .int .i64 who]] w fun e w' => e = .returned (.bool (balB n row rnd who)) ∧ Below w.heap.size w w' := by
  have BB : ∀ o p, Hid (Below w.heap.size w ((w.alloc o).alloc p)) := fun o p => ((Below.refl _ w).alloc (Nat.le_refl _) _).alloc (by simp) _
  by_cases h0 : 0 ≤ rnd
  rotate_left
  · have HR : Hid (balB n row rnd who = false) := by simp [Hid, balB, h0]
    go_enter Tryz.func69, Tryz.ntmps69
    go_wp2
    go_ret
    exact ⟨by rw [HR.out]; first | rfl | (simp; done) | (simp; omega), (BB _ _).out⟩
  by_cases h1 : rnd ≤ 65535
  rotate_left
  · have HR : Hid (balB n row rnd who = false) := by simp [Hid, balB, h1]
    go_enter Tryz.func69, Tryz.ntmps69
    go_wp2
    go_ret
    exact ⟨by rw [HR.out]; first | rfl | (simp; done) | (simp; omega), (BB _ _).out⟩
  by_cases h2 : 0 ≤ who
  rotate_left
  · have HR : Hid (balB n row rnd who = false) := by simp [Hid, balB, h2]
    go_enter Tryz.func69, Tryz.ntmps69
    go_wp2
    go_ret
    exact ⟨by rw [HR.out]; first | rfl | (simp; done) | (simp; omega), (BB _ _).out⟩
  by_cases h3 : who < n
  rotate_left
  · have HR : Hid (balB n row rnd who = false) := by simp [Hid, balB, h3]
    go_enter Tryz.func69, Tryz.ntmps69
    go_wp2
    go_ret
    exact ⟨by rw [HR.out]; first | rfl | (simp; done) | (simp; omega), (BB _ _).out⟩
  by_cases h4 : 0 < rnd
  · have HR : Hid (balB n row rnd who = true) := by simp [Hid, balB, h0, h1, h2, h3, h4]
    go_enter Tryz.func69, Tryz.ntmps69
    go_wp2
    go_ret
    exact ⟨by rw [HR.out]; first | rfl | (simp; done) | (simp; omega), (BB _ _).out⟩
  · have HR : Hid (balB n row rnd who = (who == row)) := by simp [Hid, balB, h0, h1, h2, h3, h4]
    obtain ⟨b, hb⟩ : ∃ b, (who == row) = b := ⟨_, rfl⟩
    rw [HR.out, hb]
    go_enter Tryz.func69, Tryz.ntmps69
    go_wp2
    go_ret
    exact ⟨rfl, (BB _ _).out⟩
set_option maxHeartbeats 1000000 in
set_option maxRecDepth 100000 in
theorem mbelow_any (r1 w1 r2 w2 : Int) (w : World) :
    Calls Tryz.prog 70 #[.agg #[.int .i64 r1, .int .i64 w1], .agg #[.int .i64 r2, .int .i64 w2]] w fun e w' => e = .returned (.bool (belB r1 w1 r2 w2)) ∧ Below w.heap.size w w' := by
  have BB : ∀ o p, Hid (Below w.heap.size w ((w.alloc o).alloc p)) := fun o p => ((Below.refl _ w).alloc (Nat.le_refl _) _).alloc (by simp) _
  obtain ⟨p, hp⟩ : ∃ p, decide (r1 < r2) = p := ⟨_, rfl⟩
  obtain ⟨q, hq⟩ : ∃ q, (r1 == r2) = q := ⟨_, rfl⟩
  obtain ⟨r, hr⟩ : ∃ r, decide (w1 < w2) = r := ⟨_, rfl⟩
  unfold belB
  rw [hp, hq, hr]
  cases p <;> cases q
  all_goals
    go_enter Tryz.func70, Tryz.ntmps70
    go_wp2
    go_ret
    exact ⟨by first | rfl | (simp; done), (BB _ _).out⟩
set_option maxHeartbeats 2000000 in
set_option maxRecDepth 100000 in
theorem instFault_any (kind row num n : Int) (w : World) :
    Calls Tryz.prog 57 #[.agg #[.int .i64 kind, .int .i64 row, .int .i64 num], .int .i64 n] w fun e w' => e = .returned (.int .i64 (unl (instB n row num) 52)) ∧ Below w.heap.size w w' := by
  have BB : ∀ o q, Hid (Below w.heap.size w ((w.alloc o).drewN q)) := fun o q => by
    have h := (Below.refl _ w).alloc (Nat.le_refl _) o
    exact ⟨h.os, h.tape, h.output, h.size, h.block⟩
  obtain ⟨b, hb⟩ : ∃ b, Hid (instB n row num = b) := ⟨_, rfl⟩
  rw [hb.out]
  by_cases h0 : 0 ≤ row
  rotate_left
  · obtain rfl : b = false := by rw [← hb.out]; simp [instB, h0]
    have d0 : decide (0 ≤ row) = false := decide_eq_false h0
    go_enter Tryz.func57, Tryz.ntmps57
    go_wp2
    go_region
    go_wp2_with fail
    refine (unless_any _ 52 _).mono ?_
    rintro r w1 ⟨rfl, rfl⟩
    go_wp2
    go_ret
    exact ⟨by first | rfl | (simp; done) | simp_all, (BB _ 1).out⟩
  by_cases h1 : row < n
  rotate_left
  · obtain rfl : b = false := by rw [← hb.out]; simp [instB, h1]
    have d1 : decide (row < n) = false := decide_eq_false h1
    go_enter Tryz.func57, Tryz.ntmps57
    go_wp2
    go_region
    go_wp2_with fail
    refine (unless_any _ 52 _).mono ?_
    rintro r w1 ⟨rfl, rfl⟩
    go_wp2
    go_ret
    exact ⟨by first | rfl | (simp; done) | simp_all, (BB _ 1).out⟩
  by_cases h2 : 1 ≤ num
  rotate_left
  · obtain rfl : b = false := by rw [← hb.out]; simp [instB, h2]
    have d2 : decide (1 ≤ num) = false := decide_eq_false h2
    go_enter Tryz.func57, Tryz.ntmps57
    go_wp2
    go_region
    go_wp2_with fail
    refine (unless_any _ 52 _).mono ?_
    rintro r w1 ⟨rfl, rfl⟩
    go_wp2
    go_ret
    exact ⟨by first | rfl | (simp; done) | simp_all, (BB _ 1).out⟩
  by_cases h3 : num ≤ 1048576
  rotate_left
  · obtain rfl : b = false := by rw [← hb.out]; simp [instB, h3]
    have d3 : decide (num ≤ 1048576) = false := decide_eq_false h3
    go_enter Tryz.func57, Tryz.ntmps57
    go_wp2
    go_region
    go_wp2_with fail
    refine (unless_any _ 52 _).mono ?_
    rintro r w1 ⟨rfl, rfl⟩
    go_wp2
    go_ret
    exact ⟨by first | rfl | (simp; done) | simp_all, (BB _ 1).out⟩
  obtain rfl : b = true := by rw [← hb.out]; simp [instB, h0, h1, h2, h3]
  go_enter Tryz.func57, Tryz.ntmps57
  go_wp2
  go_region
  go_wp2_with fail
  refine (unless_any _ 52 _).mono ?_
  rintro r w1 ⟨rfl, rfl⟩
  go_wp2
  go_ret
  exact ⟨by first | rfl | (simp; done) | simp_all, (BB _ 1).out⟩
def seqB (noop : Bool) (seq : Int) : Bool := if noop then seq == 0 else decide (1 ≤ seq) && decide (seq ≤ 1073741824)
set_option maxHeartbeats 1000000 in
set_option maxRecDepth 100000 in
theorem seqFault_any (noop : Bool) (seq : Int) (w : World) :
    Calls Tryz.prog 64 #[.bool noop, .int .i64 seq] w fun e w' => e = .returned (.int .i64 (unl (seqB noop seq) 55)) ∧ w = w' := by
  unfold seqB
  cases noop with
  | true =>
    obtain ⟨b, hb⟩ : ∃ b, (seq == 0) = b := ⟨_, rfl⟩
    rw [if_pos rfl, hb]
    go_enter Tryz.func64, Tryz.ntmps64
    go_wp2_with fail
    refine (unless_any b 55 _).mono ?_
    rintro r w1 ⟨rfl, rfl⟩
    go_wp2
    go_ret
    exact ⟨rfl, rfl⟩
  | false =>
    obtain ⟨p, hp⟩ : ∃ p, decide (1 ≤ seq) = p := ⟨_, rfl⟩
    obtain ⟨q, hq⟩ : ∃ q, decide (seq ≤ 1073741824) = q := ⟨_, rfl⟩
    rw [if_neg (by decide), hp, hq]
    cases p
    all_goals
      go_enter Tryz.func64, Tryz.ntmps64
      go_wp2_with fail
      refine (unless_any _ 55 _).mono ?_
      rintro r w1 ⟨rfl, rfl⟩
      go_wp2
      go_ret
      exact ⟨by first | rfl | (simp; done) | simp_all, rfl⟩
end Go.Proofs.YtooejihnifphkaaGreatDoor
