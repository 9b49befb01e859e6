/- Texts of the proof, joined. -/
import Derived.Test.YtbdkelffncmkhaaGreatDoorJ11
import Derived.Test.YtbdkelffncmkhaaGreatDoorJ04
import Derived.Test.YtbdkelffncmkhaaGreatDoorJ01
import Derived.Test.YtbdkelffncmkhaaGreatDoorJ09
import Derived.Deep.RegionHeld3
/- The rules of package msg as plain functions, and the contracts of isKind, isBallot, below, instFault, ballotFault, voteFault, seqFault, depsFault, noopFault. -/
namespace Go.Proofs.YtbdkelffncmkhaaGreatDoor
open Go.RowKit Go.Wire1

def fromM : List Nat := [0, 1, 1, 1, 1, 1, 1, 1, 1, 2]
def rndM : List Nat := [0, 0, 0, 0, 0, 0, 1, 1, 0, 0]
def isMK (v k : Int) : Bool := decide (0 < k) && (decide (k < 10) && decide ((fromM.getD k.toNat 0 : Int) ≤ v))
/-- The table of the messages' kinds lies in memory. -/
def Kmd (w : World) : Prop := ∀ i, i < 10 → w.cell? ⟨0, i * 2, none⟩ = some (.int .i64 (fromM.getD i 0 : Nat)) ∧ w.cell? ⟨0, i * 2 + 1, none⟩ = some (.int .i64 (rndM.getD i 0 : Nat))
theorem Kmd.lt {w : World} (h : Kmd w) : 0 < w.heap.size := cell_lt (h 0 (by omega)).1
theorem Kmd.below {w w' : World} {B : Nat} (h : Kmd w) (hb : Below B w w') (hB : w.heap.size ≤ B) : Kmd w' := by
  have hl := h.lt
  intro i hi
  obtain ⟨h1, h2⟩ := h i hi
  exact ⟨by rw [hb.cell (p := ⟨0, i * 2, none⟩) (Nat.lt_of_lt_of_le hl hB)]; exact h1, by rw [hb.cell (p := ⟨0, i * 2 + 1, none⟩) (Nat.lt_of_lt_of_le hl hB)]; exact h2⟩
def balB (n row rnd who : Int) : Bool := decide (0 ≤ rnd) && (decide (rnd ≤ 65535) && (decide (0 ≤ who) && (decide (who < n) && (decide (0 < rnd) || who == row))))
def belB (r1 w1 r2 w2 : Int) : Bool := decide (r1 < r2) || (r1 == r2 && decide (w1 < w2))
def instB (n row num : Int) : Bool := decide (0 ≤ row) && (decide (row < n) && (decide (1 ≤ num) && decide (num ≤ 1048576)))

set_option maxHeartbeats 400000 in
set_option maxRecDepth 100000 in
theorem mKind_any (v kind : Int) (w : World) (hK : Kmd w) :
    Calls Tryz.prog 18 #[.int .i64 v, .int .i64 kind] w fun e w' => e = .returned (.bool (isMK v kind)) ∧ w = w' := by
  by_cases h1 : 0 < kind
  · by_cases h2 : kind < 10
    · obtain ⟨k, rfl⟩ := Int.eq_ofNat_of_zero_le (show 0 ≤ kind by omega)
      have h3 : k < 10 := by omega
      obtain ⟨hc, _⟩ := hK k h3
      have HR : Hid (isMK v (k : Int) = decide ((fromM.getD k 0 : Int) ≤ v)) := by
        show _ = _; unfold isMK; rw [decide_eq_true h1, decide_eq_true h2]; rfl
      generalize fromM.getD k 0 = fr at *
      go_enter Tryz.func18, Tryz.ntmps18
      go_wp2
      go_ret
      exact ⟨by rw [HR.out]; rfl, rfl⟩
    · have HR : Hid (isMK v kind = false) := by show _ = _; unfold isMK; rw [decide_eq_false h2]; simp
      go_enter Tryz.func18, Tryz.ntmps18
      go_wp2
      go_ret
      exact ⟨by rw [HR.out]; first | rfl | (simp; omega), rfl⟩
  · have HR : Hid (isMK v kind = false) := by show _ = _; unfold isMK; rw [decide_eq_false h1]; rfl
    go_enter Tryz.func18, Tryz.ntmps18
    go_wp2
    go_ret
    exact ⟨by rw [HR.out]; first | rfl | (simp; omega), rfl⟩
set_option maxHeartbeats 2000000 in
set_option maxRecDepth 100000 in
theorem isBallot_any (n row num rnd who : Int) (w : World) :
    Calls Tryz.prog 61 #[.int .i64 n, .agg #[.int .i64 row, .int .i64 num], .agg #[.int .i64 rnd, .int .i64 who]] w fun e w' => e = .returned (.bool (balB n row rnd who)) ∧ Below w.heap.size w w' := by
  have BB : ∀ o p, Hid (Below w.heap.size w ((w.alloc o).alloc p)) := fun o p => ((Below.refl _ w).alloc (Nat.le_refl _) _).alloc (by simp) _
  by_cases h0 : 0 ≤ rnd
  rotate_left
  · have HR : Hid (balB n row rnd who = false) := by simp [Hid, balB, h0]
    go_enter Tryz.func61, Tryz.ntmps61
    go_wp2
    go_ret
    exact ⟨by rw [HR.out]; first | rfl | (simp; done) | (simp; omega), (BB _ _).out⟩
  by_cases h1 : rnd ≤ 65535
  rotate_left
  · have HR : Hid (balB n row rnd who = false) := by simp [Hid, balB, h1]
    go_enter Tryz.func61, Tryz.ntmps61
    go_wp2
    go_ret
    exact ⟨by rw [HR.out]; first | rfl | (simp; done) | (simp; omega), (BB _ _).out⟩
  by_cases h2 : 0 ≤ who
  rotate_left
  · have HR : Hid (balB n row rnd who = false) := by simp [Hid, balB, h2]
    go_enter Tryz.func61, Tryz.ntmps61
    go_wp2
    go_ret
    exact ⟨by rw [HR.out]; first | rfl | (simp; done) | (simp; omega), (BB _ _).out⟩
  by_cases h3 : who < n
  rotate_left
  · have HR : Hid (balB n row rnd who = false) := by simp [Hid, balB, h3]
    go_enter Tryz.func61, Tryz.ntmps61
    go_wp2
    go_ret
    exact ⟨by rw [HR.out]; first | rfl | (simp; done) | (simp; omega), (BB _ _).out⟩
  by_cases h4 : 0 < rnd
  · have HR : Hid (balB n row rnd who = true) := by simp [Hid, balB, h0, h1, h2, h3, h4]
    go_enter Tryz.func61, Tryz.ntmps61
    go_wp2
    go_ret
    exact ⟨by rw [HR.out]; first | rfl | (simp; done) | (simp; omega), (BB _ _).out⟩
  · have HR : Hid (balB n row rnd who = (who == row)) := by simp [Hid, balB, h0, h1, h2, h3, h4]
    obtain ⟨b, hb⟩ : ∃ b, (who == row) = b := ⟨_, rfl⟩
    rw [HR.out, hb]
    go_enter Tryz.func61, Tryz.ntmps61
    go_wp2
    go_ret
    exact ⟨rfl, (BB _ _).out⟩
set_option maxHeartbeats 1000000 in
set_option maxRecDepth 100000 in
theorem mbelow_any (r1 w1 r2 w2 : Int) (w : World) :
    Calls Tryz.prog 62 #[.agg #[.int .i64 r1, .int .i64 w1], .agg #[.int .i64 r2, .int .i64 w2]] w fun e w' => e = .returned (.bool (belB r1 w1 r2 w2)) ∧ Below w.heap.size w w' := by
  have BB : ∀ o p, Hid (Below w.heap.size w ((w.alloc o).alloc p)) := fun o p => ((Below.refl _ w).alloc (Nat.le_refl _) _).alloc (by simp) _
  obtain ⟨p, hp⟩ : ∃ p, decide (r1 < r2) = p := ⟨_, rfl⟩
  obtain ⟨q, hq⟩ : ∃ q, (r1 == r2) = q := ⟨_, rfl⟩
  obtain ⟨r, hr⟩ : ∃ r, decide (w1 < w2) = r := ⟨_, rfl⟩
  unfold belB
  rw [hp, hq, hr]
  cases p <;> cases q
  all_goals
    go_enter Tryz.func62, Tryz.ntmps62
    go_wp2
    go_ret
    exact ⟨by first | rfl | (simp; done), (BB _ _).out⟩
set_option maxHeartbeats 2000000 in
set_option maxRecDepth 100000 in
theorem instFault_any (kind row num n : Int) (w : World) :
    Calls Tryz.prog 49 #[.agg #[.int .i64 kind, .int .i64 row, .int .i64 num], .int .i64 n] w fun e w' => e = .returned (.int .i64 (unl (instB n row num) 52)) ∧ Below w.heap.size w w' := by
  have BB : ∀ o q, Hid (Below w.heap.size w ((w.alloc o).drewN q)) := fun o q => by
    have h := (Below.refl _ w).alloc (Nat.le_refl _) o
    exact ⟨h.os, h.tape, h.output, h.size, h.block⟩
  obtain ⟨b, hb⟩ : ∃ b, Hid (instB n row num = b) := ⟨_, rfl⟩
  rw [hb.out]
  by_cases h0 : 0 ≤ row
  rotate_left
  · obtain rfl : b = false := by rw [← hb.out]; simp [instB, h0]
    have d0 : decide (0 ≤ row) = false := decide_eq_false h0
    go_enter Tryz.func49, Tryz.ntmps49
    go_wp2
    go_region
    go_wp2_with fail
    refine (unless_any _ 52 _).mono ?_
    rintro r w1 ⟨rfl, rfl⟩
    go_wp2
    go_ret
    exact ⟨by first | rfl | (simp; done) | simp_all, (BB _ 1).out⟩
  by_cases h1 : row < n
  rotate_left
  · obtain rfl : b = false := by rw [← hb.out]; simp [instB, h1]
    have d1 : decide (row < n) = false := decide_eq_false h1
    go_enter Tryz.func49, Tryz.ntmps49
    go_wp2
    go_region
    go_wp2_with fail
    refine (unless_any _ 52 _).mono ?_
    rintro r w1 ⟨rfl, rfl⟩
    go_wp2
    go_ret
    exact ⟨by first | rfl | (simp; done) | simp_all, (BB _ 1).out⟩
  by_cases h2 : 1 ≤ num
  rotate_left
  · obtain rfl : b = false := by rw [← hb.out]; simp [instB, h2]
    have d2 : decide (1 ≤ num) = false := decide_eq_false h2
    go_enter Tryz.func49, Tryz.ntmps49
    go_wp2
    go_region
    go_wp2_with fail
    refine (unless_any _ 52 _).mono ?_
    rintro r w1 ⟨rfl, rfl⟩
    go_wp2
    go_ret
    exact ⟨by first | rfl | (simp; done) | simp_all, (BB _ 1).out⟩
  by_cases h3 : num ≤ 1048576
  rotate_left
  · obtain rfl : b = false := by rw [← hb.out]; simp [instB, h3]
    have d3 : decide (num ≤ 1048576) = false := decide_eq_false h3
    go_enter Tryz.func49, Tryz.ntmps49
    go_wp2
    go_region
    go_wp2_with fail
    refine (unless_any _ 52 _).mono ?_
    rintro r w1 ⟨rfl, rfl⟩
    go_wp2
    go_ret
    exact ⟨by first | rfl | (simp; done) | simp_all, (BB _ 1).out⟩
  obtain rfl : b = true := by rw [← hb.out]; simp [instB, h0, h1, h2, h3]
  go_enter Tryz.func49, Tryz.ntmps49
  go_wp2
  go_region
  go_wp2_with fail
  refine (unless_any _ 52 _).mono ?_
  rintro r w1 ⟨rfl, rfl⟩
  go_wp2
  go_ret
  exact ⟨by first | rfl | (simp; done) | simp_all, (BB _ 1).out⟩
def seqB (noop : Bool) (seq : Int) : Bool := if noop then seq == 0 else decide (1 ≤ seq) && decide (seq ≤ 1073741824)
set_option maxHeartbeats 1000000 in
set_option maxRecDepth 100000 in
theorem seqFault_any (noop : Bool) (seq : Int) (w : World) :
    Calls Tryz.prog 56 #[.bool noop, .int .i64 seq] w fun e w' => e = .returned (.int .i64 (unl (seqB noop seq) 55)) ∧ w = w' := by
  unfold seqB
  cases noop with
  | true =>
    obtain ⟨b, hb⟩ : ∃ b, (seq == 0) = b := ⟨_, rfl⟩
    rw [if_pos rfl, hb]
    go_enter Tryz.func56, Tryz.ntmps56
    go_wp2_with fail
    refine (unless_any b 55 _).mono ?_
    rintro r w1 ⟨rfl, rfl⟩
    go_wp2
    go_ret
    exact ⟨rfl, rfl⟩
  | false =>
    obtain ⟨p, hp⟩ : ∃ p, decide (1 ≤ seq) = p := ⟨_, rfl⟩
    obtain ⟨q, hq⟩ : ∃ q, decide (seq ≤ 1073741824) = q := ⟨_, rfl⟩
    rw [if_neg (by decide), hp, hq]
    cases p
    all_goals
      go_enter Tryz.func56, Tryz.ntmps56
      go_wp2_with fail
      refine (unless_any _ 55 _).mono ?_
      rintro r w1 ⟨rfl, rfl⟩
      go_wp2
      go_ret
      exact ⟨by first | rfl | (simp; done) | simp_all, rfl⟩
end Go.Proofs.YtbdkelffncmkhaaGreatDoor
/- The contracts of ballotFault, noopFault, the two voteFaults and depsFault. -/
namespace Go.Proofs.YtbdkelffncmkhaaGreatDoor
open Go.RowKit Go.Wire1

def ballB (kind : Nat) (n row rnd who : Int) : Bool := balB n row rnd who && decide ((rndM.getD kind 0 : Int) ≤ rnd)
theorem b3_new (w : World) (T : TypeId) (x y z : Value) : (w.alloc (.cells #[x, y, z] T)).cell? ⟨w.heap.size, 0, none⟩ = some x ∧ (w.alloc (.cells #[x, y, z] T)).cell? ⟨w.heap.size, 1, none⟩ = some y ∧ (w.alloc (.cells #[x, y, z] T)).cell? ⟨w.heap.size, 2, none⟩ = some z :=
  ⟨by rw [World.cell?_alloc_at _ _ _ _ rfl]; rfl, by rw [World.cell?_alloc_at _ _ _ _ rfl]; rfl, by rw [World.cell?_alloc_at _ _ _ _ rfl]; rfl⟩
theorem alloc_keep {w : World} {q o : Nat} {v : Value} (x : Obj) (h : w.cell? ⟨q, o, none⟩ = some v) : (w.alloc x).cell? ⟨q, o, none⟩ = some v :=
  (((Below.refl w.heap.size w).alloc (Nat.le_refl _) x).cell (p := ⟨q, o, none⟩) (cell_lt h)).trans h

set_option maxHeartbeats 4000000 in
set_option maxRecDepth 100000 in
theorem ballotFault_any (kind : Nat) (row num n rnd who : Int) (w : World) (hk : kind < 10) (hK : Kmd w) :
    Calls Tryz.prog 50 #[.agg #[.int .i64 (kind : Int), .int .i64 row, .int .i64 num], .int .i64 n, .agg #[.int .i64 rnd, .int .i64 who]] w fun e w' => e = .returned (.int .i64 (unl (ballB kind n row rnd who) 53)) ∧ Below w.heap.size w w' := by
  obtain ⟨U, hU⟩ : ∃ U, U = w.alloc (.cells #[.int .i64 (kind : Int), .int .i64 row, .int .i64 num] 73) := ⟨_, rfl⟩
  obtain ⟨V, hV⟩ : ∃ V, V = U.alloc (.cells #[.int .i64 rnd, .int .i64 who] 27) := ⟨_, rfl⟩
  have hUs : U.heap.size = w.heap.size + 1 := by rw [hU]; simp
  have BV : Hid (Below w.heap.size w V) := by rw [hV, hU]; exact ((Below.refl _ w).alloc (Nat.le_refl _) _).alloc (by simp) _
  have h3 := b3_new w 73 (.int .i64 (kind : Int)) (.int .i64 row) (.int .i64 num)
  rw [← hU] at h3
  have h2 := b2_new U 27 rnd who
  rw [← hV, hUs] at h2
  have c0 : V.cell? ⟨w.heap.size, 0, none⟩ = some (.int .i64 (kind : Int)) := by rw [hV]; exact alloc_keep _ h3.1
  have c1 : V.cell? ⟨w.heap.size, 1, none⟩ = some (.int .i64 row) := by rw [hV]; exact alloc_keep _ h3.2.1
  have c2 : V.cell? ⟨w.heap.size, 2, none⟩ = some (.int .i64 num) := by rw [hV]; exact alloc_keep _ h3.2.2
  have d0 : V.cell? ⟨w.heap.size + 1, 0, none⟩ = some (.int .i64 rnd) := h2.c0
  have d1 : V.cell? ⟨w.heap.size + 1, 1, none⟩ = some (.int .i64 who) := h2.c1
  have k0 : V.cell? ⟨0, kind * 2 + 1, none⟩ = some (.int .i64 (rndM.getD kind 0 : Nat)) := ((hK.below BV.out (Nat.le_refl _)) kind hk).2
  clear h3 h2 hK
  obtain ⟨r0, hr0⟩ : ∃ r, Hid (rndM.getD kind 0 = r) := ⟨_, rfl⟩
  rw [hr0.out] at k0
  have HR : Hid (ballB kind n row rnd who = (balB n row rnd who && decide ((r0 : Int) ≤ rnd))) := by rw [← hr0.out]; rfl
  rw [HR.out]
  clear hr0 HR
  have hVlt : w.heap.size + 1 < V.heap.size := cell_lt d0
  have hkl : 0 < V.heap.size := cell_lt k0
  have hkI : (kind : Int) < 10 := by omega
  cases hq : balB n row rnd who with
  | true =>
    go_enter Tryz.func50, Tryz.ntmps50
    go_wp2
    rw [← hU, ← hV]
    clear hU hV
    refine wp_region_noPanic ?_
    refine wp_region_held_drew (S := (fun w' => w'.cell? ⟨w.heap.size, 0, none⟩ = some (.int .i64 (kind : Int)) ∧ w'.cell? ⟨w.heap.size, 1, none⟩ = some (.int .i64 row) ∧ w'.cell? ⟨w.heap.size, 2, none⟩ = some (.int .i64 num) ∧ w'.cell? ⟨w.heap.size + 1, 0, none⟩ = some (.int .i64 rnd) ∧ w'.cell? ⟨w.heap.size + 1, 1, none⟩ = some (.int .i64 who) ∧ w'.cell? ⟨0, kind * 2 + 1, none⟩ = some (.int .i64 (r0 : Nat)))) (by kernel_rfl) ⟨c0, c1, c2, d0, d1, k0⟩ (fun hHeld => ?_)
    refine tk 0 ?_
    refine tk 1 ?_
    refine tk 2 ?_
    refine tk 3 ?_
    refine wpAnyH_ready (rs := [4]) (by kernel_rfl) (by simp) ?_
    refine AllReadyH.cons rfl (fun K hK => ?_) AllReadyH.nil
    rw [if_pos (by rfl)]
    go_wp2_with fail
    refine (isBallot_any n row num rnd who _).mono ?_
    rintro e wA ⟨rfl, hbA⟩
    rw [hq]
    have e0 := (hbA.cell (p := ⟨w.heap.size, 0, none⟩) (by show w.heap.size < V.heap.size; omega)).trans c0
    have e1 := (hbA.cell (p := ⟨w.heap.size, 1, none⟩) (by show w.heap.size < V.heap.size; omega)).trans c1
    have e2 := (hbA.cell (p := ⟨w.heap.size, 2, none⟩) (by show w.heap.size < V.heap.size; omega)).trans c2
    have f0 := (hbA.cell (p := ⟨w.heap.size + 1, 0, none⟩) hVlt).trans d0
    have f1 := (hbA.cell (p := ⟨w.heap.size + 1, 1, none⟩) hVlt).trans d1
    have l0 := (hbA.cell (p := ⟨0, kind * 2 + 1, none⟩) hkl).trans k0
    refine hK.out _ _ ⟨e0, e1, e2, f0, f1, l0⟩ (fun hHeld => ?_)
    clear hK K
    try simp only [Act.put, List.getElem_toArray, List.getElem_cons_succ, List.getElem_cons_zero, List.setIfInBounds_toArray, List.set_cons_zero, List.set_cons_succ]
    refine tk 5 ?_
    refine tk 6 ?_
    refine tk 7 ?_
    refine tk 8 ?_
    refine tk 9 ?_
    refine tk 10 ?_
    refine tk 11 ?_
    refine tk 12 ?_
    refine tk 13 ?_
    refine tk 14 ?_
    refine wpAnyH_ready (rs := [15]) (by kernel_rfl) (by simp) ?_
    refine AllReadyH.cons rfl (fun K hK => ?_) AllReadyH.nil
    rw [if_pos (by rfl)]
    go_wp2_with fail
    refine (unless_any _ 53 _).mono ?_
    rintro e wB ⟨rfl, hwB⟩
    subst hwB
    refine hK.out _ _ ⟨e0, e1, e2, f0, f1, l0⟩ (fun hHeld => ?_)
    clear hK K
    try simp only [Act.put, List.getElem_toArray, List.getElem_cons_succ, List.getElem_cons_zero, List.setIfInBounds_toArray, List.set_cons_zero, List.set_cons_succ]
    refine tk 16 ?_
    refine wpAnyH_done (by kernel_rfl) ?_ _
    refine NoPanic.normal ?_
    have B9 : Hid (Below w.heap.size w wA) := BV.out.trans (((Below.refl V.heap.size V).drew.trans hbA).mono (by have := BV.out.size; omega))
    clear hbA
    go_wp2
    go_ret
    exact ⟨by first | rfl | (simp; done), B9.out⟩
  | false =>
    go_enter Tryz.func50, Tryz.ntmps50
    go_wp2
    rw [← hU, ← hV]
    clear hU hV
    refine wp_region_noPanic ?_
    refine wp_region_held_drew (S := (fun w' => w'.cell? ⟨w.heap.size, 0, none⟩ = some (.int .i64 (kind : Int)) ∧ w'.cell? ⟨w.heap.size, 1, none⟩ = some (.int .i64 row) ∧ w'.cell? ⟨w.heap.size, 2, none⟩ = some (.int .i64 num) ∧ w'.cell? ⟨w.heap.size + 1, 0, none⟩ = some (.int .i64 rnd) ∧ w'.cell? ⟨w.heap.size + 1, 1, none⟩ = some (.int .i64 who) ∧ w'.cell? ⟨0, kind * 2 + 1, none⟩ = some (.int .i64 (r0 : Nat)))) (by kernel_rfl) ⟨c0, c1, c2, d0, d1, k0⟩ (fun hHeld => ?_)
    refine tk 0 ?_
    refine tk 1 ?_
    refine tk 2 ?_
    refine tk 3 ?_
    refine wpAnyH_ready (rs := [4]) (by kernel_rfl) (by simp) ?_
    refine AllReadyH.cons rfl (fun K hK => ?_) AllReadyH.nil
    rw [if_pos (by rfl)]
    go_wp2_with fail
    refine (isBallot_any n row num rnd who _).mono ?_
    rintro e wA ⟨rfl, hbA⟩
    rw [hq]
    have e0 := (hbA.cell (p := ⟨w.heap.size, 0, none⟩) (by show w.heap.size < V.heap.size; omega)).trans c0
    have e1 := (hbA.cell (p := ⟨w.heap.size, 1, none⟩) (by show w.heap.size < V.heap.size; omega)).trans c1
    have e2 := (hbA.cell (p := ⟨w.heap.size, 2, none⟩) (by show w.heap.size < V.heap.size; omega)).trans c2
    have f0 := (hbA.cell (p := ⟨w.heap.size + 1, 0, none⟩) hVlt).trans d0
    have f1 := (hbA.cell (p := ⟨w.heap.size + 1, 1, none⟩) hVlt).trans d1
    have l0 := (hbA.cell (p := ⟨0, kind * 2 + 1, none⟩) hkl).trans k0
    refine hK.out _ _ ⟨e0, e1, e2, f0, f1, l0⟩ (fun hHeld => ?_)
    clear hK K
    try simp only [Act.put, List.getElem_toArray, List.getElem_cons_succ, List.getElem_cons_zero, List.setIfInBounds_toArray, List.set_cons_zero, List.set_cons_succ]
    refine tk 5 ?_
    refine wpAnyH_take (i := 6) (v := undef) rfl (by kernel_rfl) (by kernel_rfl) (by kernel_rfl) (fun _ _ _ h => h) (Or.inr ⟨by rfl, rfl⟩) (by assumption) ?_
    try simp only [Act.put, List.getElem_toArray, List.getElem_cons_succ, List.getElem_cons_zero, List.setIfInBounds_toArray, List.set_cons_zero, List.set_cons_succ]
    refine wpAnyH_take (i := 7) (v := undef) rfl (by kernel_rfl) (by kernel_rfl) (by kernel_rfl) (fun _ _ _ h => h) (Or.inr ⟨by rfl, rfl⟩) (by assumption) ?_
    try simp only [Act.put, List.getElem_toArray, List.getElem_cons_succ, List.getElem_cons_zero, List.setIfInBounds_toArray, List.set_cons_zero, List.set_cons_succ]
    refine wpAnyH_take (i := 8) (v := undef) rfl (by kernel_rfl) (by kernel_rfl) (by kernel_rfl) (fun _ _ _ h => h) (Or.inr ⟨by rfl, rfl⟩) (by assumption) ?_
    try simp only [Act.put, List.getElem_toArray, List.getElem_cons_succ, List.getElem_cons_zero, List.setIfInBounds_toArray, List.set_cons_zero, List.set_cons_succ]
    refine wpAnyH_take (i := 9) (v := undef) rfl (by kernel_rfl) (by kernel_rfl) (by kernel_rfl) (fun _ _ _ h => h) (Or.inr ⟨by rfl, rfl⟩) (by assumption) ?_
    try simp only [Act.put, List.getElem_toArray, List.getElem_cons_succ, List.getElem_cons_zero, List.setIfInBounds_toArray, List.set_cons_zero, List.set_cons_succ]
    refine wpAnyH_take (i := 10) (v := undef) rfl (by kernel_rfl) (by kernel_rfl) (by kernel_rfl) (fun _ _ _ h => h) (Or.inr ⟨by rfl, rfl⟩) (by assumption) ?_
    try simp only [Act.put, List.getElem_toArray, List.getElem_cons_succ, List.getElem_cons_zero, List.setIfInBounds_toArray, List.set_cons_zero, List.set_cons_succ]
    refine wpAnyH_take (i := 11) (v := undef) rfl (by kernel_rfl) (by kernel_rfl) (by kernel_rfl) (fun _ _ _ h => h) (Or.inr ⟨by rfl, rfl⟩) (by assumption) ?_
    try simp only [Act.put, List.getElem_toArray, List.getElem_cons_succ, List.getElem_cons_zero, List.setIfInBounds_toArray, List.set_cons_zero, List.set_cons_succ]
    refine wpAnyH_take (i := 12) (v := undef) rfl (by kernel_rfl) (by kernel_rfl) (by kernel_rfl) (fun _ _ _ h => h) (Or.inr ⟨by rfl, rfl⟩) (by assumption) ?_
    try simp only [Act.put, List.getElem_toArray, List.getElem_cons_succ, List.getElem_cons_zero, List.setIfInBounds_toArray, List.set_cons_zero, List.set_cons_succ]
    refine wpAnyH_take (i := 13) (v := undef) rfl (by kernel_rfl) (by kernel_rfl) (by kernel_rfl) (fun _ _ _ h => h) (Or.inr ⟨by rfl, rfl⟩) (by assumption) ?_
    try simp only [Act.put, List.getElem_toArray, List.getElem_cons_succ, List.getElem_cons_zero, List.setIfInBounds_toArray, List.set_cons_zero, List.set_cons_succ]
    refine tk 14 ?_
    refine wpAnyH_ready (rs := [15]) (by kernel_rfl) (by simp) ?_
    refine AllReadyH.cons rfl (fun K hK => ?_) AllReadyH.nil
    rw [if_pos (by rfl)]
    go_wp2_with fail
    refine (unless_any _ 53 _).mono ?_
    rintro e wB ⟨rfl, hwB⟩
    subst hwB
    refine hK.out _ _ ⟨e0, e1, e2, f0, f1, l0⟩ (fun hHeld => ?_)
    clear hK K
    try simp only [Act.put, List.getElem_toArray, List.getElem_cons_succ, List.getElem_cons_zero, List.setIfInBounds_toArray, List.set_cons_zero, List.set_cons_succ]
    refine tk 16 ?_
    refine wpAnyH_done (by kernel_rfl) ?_ _
    refine NoPanic.normal ?_
    have B9 : Hid (Below w.heap.size w wA) := BV.out.trans (((Below.refl V.heap.size V).drew.trans hbA).mono (by have := BV.out.size; omega))
    clear hbA
    go_wp2
    go_ret
    exact ⟨by first | rfl | (simp; done), B9.out⟩

set_option maxHeartbeats 400000 in
set_option maxRecDepth 100000 in
theorem isNoop_any (c : Cm) (seq : Int) (dv : Value) (w : World) :
    Calls Tryz.prog 53 #[.agg #[.int .i64 c.kind, .int .i64 c.client, .int .i64 c.req, .string c.key, .string c.key2, .string c.val, .string c.old, .int .i64 c.n, .int .i64 seq, dv]] w fun e w' => e = .returned (.bool (c.kind == 0)) ∧ Below w.heap.size w w' := by
  have BB : ∀ o, Hid (Below w.heap.size w (w.alloc o)) := fun o => (Below.refl _ w).alloc (Nat.le_refl _) _
  go_enter Tryz.func53, Tryz.ntmps53
  go_wp2
  go_ret
  exact ⟨rfl, (BB _).out⟩
end Go.Proofs.YtbdkelffncmkhaaGreatDoor
