/- Texts of the proof, joined. -/
import Derived.Test.YtdokagebfeejbaaGreatDoorJ11
import Derived.Test.YtdokagebfeejbaaGreatDoorJ07
import Derived.Test.YtdokagebfeejbaaGreatDoorJ08
import Derived.Test.YtdokagebfeejbaaGreatDoorJ02
import Derived.Lib.AppendStr
/- The document's own Check of messages: the small functions. -/
namespace Go.Proofs.YtdokagebfeejbaaGreatDoor
open Go.RowKit Go.Wire1

def hb5 (k : Int) : Bool := (k != 5) && (k != 9)
def la5 (k : Int) : Bool := (k == 6) || (k == 7)
def ik5 (v k : Int) : Bool := ((k == 9) && (v == 2)) || (decide (1 ≤ k) && decide (k < 9))
set_option maxHeartbeats 1000000 in
set_option maxRecDepth 100000 in
theorem hb5_any (k : Int) (w : World) : Calls Tryz.prog 27 #[.int .i64 k] w fun e w' => e = .returned (.bool (hb5 k)) ∧ w = w' := by
  by_cases h1 : k = 5
  · have d1 : (k != 5) = false := by simp [h1]
    have HQ : Hid (hb5 k = false) := by show _ = false; rw [Bool.eq_false_iff]; intro h; simp only [hb5, Bool.and_eq_true, bne_iff_ne] at h; omega
    rw [HQ.out]
    clear HQ h1
    go_enter Tryz.func27, Tryz.ntmps27
    go_wp2
    go_ret
    exact ⟨rfl, rfl⟩
  · have d1 : (k != 5) = true := by simp [h1]
    by_cases h2 : k = 9
    · have d2 : (k != 9) = false := by simp [h2]
      have HQ : Hid (hb5 k = false) := by show _ = false; rw [Bool.eq_false_iff]; intro h; simp only [hb5, Bool.and_eq_true, bne_iff_ne] at h; omega
      rw [HQ.out]
      clear HQ h1 h2
      go_enter Tryz.func27, Tryz.ntmps27
      go_wp2
      go_ret
      exact ⟨rfl, rfl⟩
    · have d2 : (k != 9) = true := by simp [h2]
      have HQ : Hid (hb5 k = true) := by show _ = true; simp only [hb5, Bool.and_eq_true, bne_iff_ne]; omega
      rw [HQ.out]
      clear HQ h1 h2
      go_enter Tryz.func27, Tryz.ntmps27
      go_wp2
      go_ret
      exact ⟨rfl, rfl⟩
set_option maxHeartbeats 1000000 in
set_option maxRecDepth 100000 in
theorem la5_any (k : Int) (w : World) : Calls Tryz.prog 29 #[.int .i64 k] w fun e w' => e = .returned (.bool (la5 k)) ∧ w = w' := by
  by_cases h1 : k = 6
  · have d1 : (k == 6) = true := by simp [h1]
    have HQ : Hid (la5 k = true) := by show _ = true; simp only [la5, Bool.or_eq_true, beq_iff_eq]; omega
    rw [HQ.out]
    clear HQ h1
    go_enter Tryz.func29, Tryz.ntmps29
    go_wp2
    go_ret
    exact ⟨rfl, rfl⟩
  · have d1 : (k == 6) = false := beq_eq_false_iff_ne.2 h1
    by_cases h2 : k = 7
    · have d2 : (k == 7) = true := by simp [h2]
      have HQ : Hid (la5 k = true) := by show _ = true; simp only [la5, Bool.or_eq_true, beq_iff_eq]; omega
      rw [HQ.out]
      clear HQ h1 h2
      go_enter Tryz.func29, Tryz.ntmps29
      go_wp2
      go_ret
      exact ⟨rfl, rfl⟩
    · have d2 : (k == 7) = false := beq_eq_false_iff_ne.2 h2
      have HQ : Hid (la5 k = false) := by show _ = false; rw [Bool.eq_false_iff]; intro h; simp only [la5, Bool.or_eq_true, beq_iff_eq] at h; omega
      rw [HQ.out]
      clear HQ h1 h2
      go_enter Tryz.func29, Tryz.ntmps29
      go_wp2
      go_ret
      exact ⟨rfl, rfl⟩
set_option maxHeartbeats 1000000 in
set_option maxRecDepth 100000 in
theorem ik5_any (v k : Int) (w : World) : Calls Tryz.prog 24 #[.int .i64 v, .int .i64 k] w fun e w' => e = .returned (.bool (ik5 v k)) ∧ w = w' := by
  by_cases h1 : k = 9
  · have d1 : (k == 9) = true := by simp [h1]
    by_cases h2 : v = 2
    · have d2 : (v == 2) = true := by simp [h2]
      have HQ : Hid (ik5 v k = true) := by show _ = true; simp only [ik5, Bool.and_eq_true, Bool.or_eq_true, decide_eq_true_eq, beq_iff_eq]; omega
      rw [HQ.out]
      clear HQ h1 h2
      go_enter Tryz.func24, Tryz.ntmps24
      go_wp2
      go_ret
      exact ⟨rfl, rfl⟩
    · have d2 : (v == 2) = false := beq_eq_false_iff_ne.2 h2
      have HQ : Hid (ik5 v k = false) := by show _ = false; rw [Bool.eq_false_iff]; intro h; simp only [ik5, Bool.and_eq_true, Bool.or_eq_true, decide_eq_true_eq, beq_iff_eq] at h; omega
      rw [HQ.out]
      clear HQ h1 h2
      go_enter Tryz.func24, Tryz.ntmps24
      go_wp2
      go_ret
      exact ⟨rfl, rfl⟩
  · have d1 : (k == 9) = false := beq_eq_false_iff_ne.2 h1
    by_cases h2 : 1 ≤ k
    · have d2 : decide (1 ≤ k) = true := decide_eq_true h2
      by_cases h3 : k < 9
      · have d3 : decide (k < 9) = true := decide_eq_true h3
        have HQ : Hid (ik5 v k = true) := by show _ = true; simp only [ik5, Bool.and_eq_true, Bool.or_eq_true, decide_eq_true_eq, beq_iff_eq]; omega
        rw [HQ.out]
        clear HQ h1 h2 h3
        go_enter Tryz.func24, Tryz.ntmps24
        go_wp2
        go_ret
        exact ⟨rfl, rfl⟩
      · have d3 : decide (k < 9) = false := decide_eq_false h3
        have HQ : Hid (ik5 v k = false) := by show _ = false; rw [Bool.eq_false_iff]; intro h; simp only [ik5, Bool.and_eq_true, Bool.or_eq_true, decide_eq_true_eq, beq_iff_eq] at h; omega
        rw [HQ.out]
        clear HQ h1 h2 h3
        go_enter Tryz.func24, Tryz.ntmps24
        go_wp2
        go_ret
        exact ⟨rfl, rfl⟩
    · have d2 : decide (1 ≤ k) = false := decide_eq_false h2
      have HQ : Hid (ik5 v k = false) := by show _ = false; rw [Bool.eq_false_iff]; intro h; simp only [ik5, Bool.and_eq_true, Bool.or_eq_true, decide_eq_true_eq, beq_iff_eq] at h; omega
      rw [HQ.out]
      clear HQ h1 h2
      go_enter Tryz.func24, Tryz.ntmps24
      go_wp2
      go_ret
      exact ⟨rfl, rfl⟩
set_option maxHeartbeats 1000000 in
set_option maxRecDepth 100000 in
theorem ii5_any (n row num : Int) (w : World) : Calls Tryz.prog 26 #[.int .i64 n, .agg #[.int .i64 row, .int .i64 num]] w fun e w' => e = .returned (.bool (instB n row num)) ∧ Below w.heap.size w w' := by
  have BB : ∀ o, Hid (Below w.heap.size w (w.alloc o)) := fun o => (Below.refl _ w).alloc (Nat.le_refl _) _
  by_cases h1 : 0 ≤ row
  · have d1 : decide (0 ≤ row) = true := decide_eq_true h1
    by_cases h2 : row < n
    · have d2 : decide (row < n) = true := decide_eq_true h2
      by_cases h3 : 1 ≤ num
      · have d3 : decide (1 ≤ num) = true := decide_eq_true h3
        by_cases h4 : num ≤ 1048576
        · have d4 : decide (num ≤ 1048576) = true := decide_eq_true h4
          have HQ : Hid (instB n row num = true) := by show _ = true; simp only [instB, Bool.and_eq_true, decide_eq_true_eq]; omega
          rw [HQ.out]
          clear HQ h1 h2 h3 h4
          go_enter Tryz.func26, Tryz.ntmps26
          go_wp2
          go_ret
          exact ⟨rfl, (BB _).out⟩
        · have d4 : decide (num ≤ 1048576) = false := decide_eq_false h4
          have HQ : Hid (instB n row num = false) := by show _ = false; rw [Bool.eq_false_iff]; intro h; simp only [instB, Bool.and_eq_true, decide_eq_true_eq] at h; omega
          rw [HQ.out]
          clear HQ h1 h2 h3 h4
          go_enter Tryz.func26, Tryz.ntmps26
          go_wp2
          go_ret
          exact ⟨rfl, (BB _).out⟩
      · have d3 : decide (1 ≤ num) = false := decide_eq_false h3
        have HQ : Hid (instB n row num = false) := by show _ = false; rw [Bool.eq_false_iff]; intro h; simp only [instB, Bool.and_eq_true, decide_eq_true_eq] at h; omega
        rw [HQ.out]
        clear HQ h1 h2 h3
        go_enter Tryz.func26, Tryz.ntmps26
        go_wp2
        go_ret
        exact ⟨rfl, (BB _).out⟩
    · have d2 : decide (row < n) = false := decide_eq_false h2
      have HQ : Hid (instB n row num = false) := by show _ = false; rw [Bool.eq_false_iff]; intro h; simp only [instB, Bool.and_eq_true, decide_eq_true_eq] at h; omega
      rw [HQ.out]
      clear HQ h1 h2
      go_enter Tryz.func26, Tryz.ntmps26
      go_wp2
      go_ret
      exact ⟨rfl, (BB _).out⟩
  · have d1 : decide (0 ≤ row) = false := decide_eq_false h1
    have HQ : Hid (instB n row num = false) := by show _ = false; rw [Bool.eq_false_iff]; intro h; simp only [instB, Bool.and_eq_true, decide_eq_true_eq] at h; omega
    rw [HQ.out]
    clear HQ h1
    go_enter Tryz.func26, Tryz.ntmps26
    go_wp2
    go_ret
    exact ⟨rfl, (BB _).out⟩
set_option maxHeartbeats 1000000 in
set_option maxRecDepth 100000 in
theorem ib5_any (n row num rnd who : Int) (w : World) : Calls Tryz.prog 28 #[.int .i64 n, .agg #[.int .i64 row, .int .i64 num], .agg #[.int .i64 rnd, .int .i64 who]] w fun e w' => e = .returned (.bool (balB n row rnd who)) ∧ Below w.heap.size w w' := by
  have BB : ∀ o p, Hid (Below w.heap.size w ((w.alloc o).alloc p)) := fun o p => ((Below.refl _ w).alloc (Nat.le_refl _) _).alloc (by simp) _
  by_cases h1 : rnd < 0
  · have d1 : decide (rnd < 0) = true := decide_eq_true h1
    have HQ : Hid (balB n row rnd who = false) := by show _ = false; rw [Bool.eq_false_iff]; intro h; simp only [balB, Bool.and_eq_true, Bool.or_eq_true, decide_eq_true_eq, beq_iff_eq] at h; omega
    rw [HQ.out]
    clear HQ h1
    go_enter Tryz.func28, Tryz.ntmps28
    go_wp2
    go_ret
    exact ⟨rfl, (BB _ _).out⟩
  · have d1 : decide (rnd < 0) = false := decide_eq_false h1
    by_cases h2 : 65535 < rnd
    · have d2 : decide (65535 < rnd) = true := decide_eq_true h2
      have HQ : Hid (balB n row rnd who = false) := by show _ = false; rw [Bool.eq_false_iff]; intro h; simp only [balB, Bool.and_eq_true, Bool.or_eq_true, decide_eq_true_eq, beq_iff_eq] at h; omega
      rw [HQ.out]
      clear HQ h1 h2
      go_enter Tryz.func28, Tryz.ntmps28
      go_wp2
      go_ret
      exact ⟨rfl, (BB _ _).out⟩
    · have d2 : decide (65535 < rnd) = false := decide_eq_false h2
      by_cases h3 : who < 0
      · have d3 : decide (who < 0) = true := decide_eq_true h3
        have HQ : Hid (balB n row rnd who = false) := by show _ = false; rw [Bool.eq_false_iff]; intro h; simp only [balB, Bool.and_eq_true, Bool.or_eq_true, decide_eq_true_eq, beq_iff_eq] at h; omega
        rw [HQ.out]
        clear HQ h1 h2 h3
        go_enter Tryz.func28, Tryz.ntmps28
        go_wp2
        go_ret
        exact ⟨rfl, (BB _ _).out⟩
      · have d3 : decide (who < 0) = false := decide_eq_false h3
        by_cases h4 : n ≤ who
        · have d4 : decide (n ≤ who) = true := decide_eq_true h4
          have HQ : Hid (balB n row rnd who = false) := by show _ = false; rw [Bool.eq_false_iff]; intro h; simp only [balB, Bool.and_eq_true, Bool.or_eq_true, decide_eq_true_eq, beq_iff_eq] at h; omega
          rw [HQ.out]
          clear HQ h1 h2 h3 h4
          go_enter Tryz.func28, Tryz.ntmps28
          go_wp2
          go_ret
          exact ⟨rfl, (BB _ _).out⟩
        · have d4 : decide (n ≤ who) = false := decide_eq_false h4
          by_cases h5 : 0 < rnd
          · have d5 : decide (0 < rnd) = true := decide_eq_true h5
            have HQ : Hid (balB n row rnd who = true) := by show _ = true; simp only [balB, Bool.and_eq_true, Bool.or_eq_true, decide_eq_true_eq, beq_iff_eq]; omega
            rw [HQ.out]
            clear HQ h1 h2 h3 h4 h5
            go_enter Tryz.func28, Tryz.ntmps28
            go_wp2
            go_ret
            exact ⟨rfl, (BB _ _).out⟩
          · have d5 : decide (0 < rnd) = false := decide_eq_false h5
            by_cases h6 : who = row
            · have d6 : (who == row) = true := by simp [h6]
              have HQ : Hid (balB n row rnd who = true) := by show _ = true; simp only [balB, Bool.and_eq_true, Bool.or_eq_true, decide_eq_true_eq, beq_iff_eq]; omega
              rw [HQ.out]
              clear HQ h1 h2 h3 h4 h5 h6
              go_enter Tryz.func28, Tryz.ntmps28
              go_wp2
              go_ret
              exact ⟨rfl, (BB _ _).out⟩
            · have d6 : (who == row) = false := beq_eq_false_iff_ne.2 h6
              have HQ : Hid (balB n row rnd who = false) := by show _ = false; rw [Bool.eq_false_iff]; intro h; simp only [balB, Bool.and_eq_true, Bool.or_eq_true, decide_eq_true_eq, beq_iff_eq] at h; omega
              rw [HQ.out]
              clear HQ h1 h2 h3 h4 h5 h6
              go_enter Tryz.func28, Tryz.ntmps28
              go_wp2
              go_ret
              exact ⟨rfl, (BB _ _).out⟩
set_option maxHeartbeats 1000000 in
set_option maxRecDepth 100000 in
theorem sf5_any (noop : Bool) (s : Int) (w : World) : Calls Tryz.prog 36 #[.bool noop, .int .i64 s] w fun e w' => e = .returned (.bool (seqB noop s)) ∧ w = w' := by
  cases noop with
  | true =>
    by_cases h1 : s = 0
    · have d1 : (s == 0) = true := by simp [h1]
      have HQ : Hid (seqB true s = true) := by show _ = true; simp only [seqB, if_true, beq_iff_eq]; omega
      rw [HQ.out]
      clear HQ h1
      go_enter Tryz.func36, Tryz.ntmps36
      go_wp2
      go_ret
      exact ⟨rfl, rfl⟩
    · have d1 : (s == 0) = false := beq_eq_false_iff_ne.2 h1
      have HQ : Hid (seqB true s = false) := by show _ = false; rw [Bool.eq_false_iff]; intro h; simp only [seqB, if_true, beq_iff_eq] at h; omega
      rw [HQ.out]
      clear HQ h1
      go_enter Tryz.func36, Tryz.ntmps36
      go_wp2
      go_ret
      exact ⟨rfl, rfl⟩
  | false =>
    by_cases h1 : 1 ≤ s
    · have d1 : decide (1 ≤ s) = true := decide_eq_true h1
      by_cases h2 : s ≤ 1073741824
      · have d2 : decide (s ≤ 1073741824) = true := decide_eq_true h2
        have HQ : Hid (seqB false s = true) := by show _ = true; simp only [seqB, if_false, Bool.false_eq_true, Bool.and_eq_true, decide_eq_true_eq]; omega
        rw [HQ.out]
        clear HQ h1 h2
        go_enter Tryz.func36, Tryz.ntmps36
        go_wp2
        go_ret
        exact ⟨rfl, rfl⟩
      · have d2 : decide (s ≤ 1073741824) = false := decide_eq_false h2
        have HQ : Hid (seqB false s = false) := by show _ = false; rw [Bool.eq_false_iff]; intro h; simp only [seqB, if_false, Bool.false_eq_true, Bool.and_eq_true, decide_eq_true_eq] at h; omega
        rw [HQ.out]
        clear HQ h1 h2
        go_enter Tryz.func36, Tryz.ntmps36
        go_wp2
        go_ret
        exact ⟨rfl, rfl⟩
    · have d1 : decide (1 ≤ s) = false := decide_eq_false h1
      have HQ : Hid (seqB false s = false) := by show _ = false; rw [Bool.eq_false_iff]; intro h; simp only [seqB, if_false, Bool.false_eq_true, Bool.and_eq_true, decide_eq_true_eq] at h; omega
      rw [HQ.out]
      clear HQ h1
      go_enter Tryz.func36, Tryz.ntmps36
      go_wp2
      go_ret
      exact ⟨rfl, rfl⟩
set_option maxHeartbeats 1000000 in
set_option maxRecDepth 100000 in
theorem be5_any (r1 w1 r2 w2 : Int) (w : World) : Calls Tryz.prog 31 #[.agg #[.int .i64 r1, .int .i64 w1], .agg #[.int .i64 r2, .int .i64 w2]] w fun e w' => e = .returned (.bool (belB r1 w1 r2 w2)) ∧ Below w.heap.size w w' := by
  have BB : ∀ o p, Hid (Below w.heap.size w ((w.alloc o).alloc p)) := fun o p => ((Below.refl _ w).alloc (Nat.le_refl _) _).alloc (by simp) _
  by_cases h1 : r1 = r2
  · have d1 : (r1 != r2) = false := by simp [h1]
    by_cases h2 : w1 < w2
    · have d2 : decide (w1 < w2) = true := decide_eq_true h2
      have HQ : Hid (belB r1 w1 r2 w2 = true) := by show _ = true; simp only [belB, Bool.and_eq_true, Bool.or_eq_true, decide_eq_true_eq, beq_iff_eq]; omega
      rw [HQ.out]
      clear HQ h1 h2
      go_enter Tryz.func31, Tryz.ntmps31
      go_wp2
      go_ret
      exact ⟨rfl, (BB _ _).out⟩
    · have d2 : decide (w1 < w2) = false := decide_eq_false h2
      have HQ : Hid (belB r1 w1 r2 w2 = false) := by show _ = false; rw [Bool.eq_false_iff]; intro h; simp only [belB, Bool.and_eq_true, Bool.or_eq_true, decide_eq_true_eq, beq_iff_eq] at h; omega
      rw [HQ.out]
      clear HQ h1 h2
      go_enter Tryz.func31, Tryz.ntmps31
      go_wp2
      go_ret
      exact ⟨rfl, (BB _ _).out⟩
  · have d1 : (r1 != r2) = true := by simp [h1]
    by_cases h2 : r1 < r2
    · have d2 : decide (r1 < r2) = true := decide_eq_true h2
      have HQ : Hid (belB r1 w1 r2 w2 = true) := by show _ = true; simp only [belB, Bool.and_eq_true, Bool.or_eq_true, decide_eq_true_eq, beq_iff_eq]; omega
      rw [HQ.out]
      clear HQ h1 h2
      go_enter Tryz.func31, Tryz.ntmps31
      go_wp2
      go_ret
      exact ⟨rfl, (BB _ _).out⟩
    · have d2 : decide (r1 < r2) = false := decide_eq_false h2
      have HQ : Hid (belB r1 w1 r2 w2 = false) := by show _ = false; rw [Bool.eq_false_iff]; intro h; simp only [belB, Bool.and_eq_true, Bool.or_eq_true, decide_eq_true_eq, beq_iff_eq] at h; omega
      rw [HQ.out]
      clear HQ h1 h2
      go_enter Tryz.func31, Tryz.ntmps31
      go_wp2
      go_ret
      exact ⟨rfl, (BB _ _).out⟩
end Go.Proofs.YtdokagebfeejbaaGreatDoor
/- The plain mathematics of a command's bytes; nothing of the program is named here. -/
namespace Go.Wire1
open Go.RowKit

/-- A text's bytes, as numbers. -/
def tx (s : ByteArray) : List Int := s.data.toList.map fun b => (b.toNat : Int)
theorem tx_len (s : ByteArray) : (tx s).length = s.size := by
  show (s.data.toList.map _).length = s.data.size
  rw [List.length_map, Array.length_toList]
/-- A text as an item: its length, its bytes. -/
def ptx (s : ByteArray) : List Int := enc s.size ++ tx s
/-- How many bytes two texts share at their beginning. -/
def shL : List UInt8 → List UInt8 → Nat
  | a :: x, b :: y => if a = b then shL x y + 1 else 0
  | _, _ => 0
def shared (k k2 : ByteArray) : Nat := shL k.data.toList k2.data.toList
theorem shL_le : ∀ x y : List UInt8, shL x y ≤ x.length ∧ shL x y ≤ y.length
  | [], _ => by simp [shL]
  | _ :: _, [] => by simp [shL]
  | a :: x, b :: y => by
    have := shL_le x y
    simp only [shL]
    split <;> simp <;> omega
theorem shared_le (k k2 : ByteArray) : shared k k2 ≤ k.size ∧ shared k k2 ≤ k2.size := by
  have := shL_le k.data.toList k2.data.toList
  rw [← Lib.size_eq, ← Lib.size_eq] at this
  exact this
theorem shL_drop : ∀ (i : Nat) (x y : List UInt8), i < x.length → i < y.length → shL (x.drop i) (y.drop i) = if x.getD i 0 = y.getD i 0 then shL (x.drop (i + 1)) (y.drop (i + 1)) + 1 else 0 := by
  intro i x y hx hy
  rw [List.drop_eq_getElem_cons hx, List.drop_eq_getElem_cons hy, List.getD, List.getD, List.getElem?_eq_getElem hx, List.getElem?_eq_getElem hy]
  rfl
theorem shL_end (i : Nat) (x y : List UInt8) (h : x.length ≤ i ∨ y.length ≤ i) : shL (x.drop i) (y.drop i) = 0 := by
  rcases h with h | h
  · rw [List.drop_eq_nil_of_le h]; rfl
  · rw [List.drop_eq_nil_of_le h]; cases x.drop i <;> rfl

def restC (c : Cm) : List Int :=
  if 6 ≤ c.kind then enc (shared c.key c.key2) ++ ptx (c.key2.extract (shared c.key c.key2) c.key2.size)
  else if c.kind = 5 then ptx c.old ++ ptx c.val
  else if c.kind = 2 then ptx c.val
  else if c.kind = 4 then enc (zig c.n)
  else []
/-- The bytes of a command. -/
def encC (c : Cm) : List Int := if c.kind = 0 then [0] else [c.kind] ++ enc c.client.toNat ++ enc c.req.toNat ++ ptx c.key ++ restC c

theorem chk_zero {v : Int} {c : Cm} (h : chk v c = 0) : (v = 1 ∨ v = 2) ∧ isKd v c.kind = true ∧ ∀ f, f < 7 → faultF v c f = 0 := by
  unfold chk at h
  cases h1 : isVer v with
  | false => rw [h1] at h; simp at h
  | true =>
    cases h2 : isKd v c.kind with
    | false => rw [h1, h2] at h; simp at h
    | true =>
      rw [h1, h2] at h
      simp only [if_true] at h
      refine ⟨by simpa [isVer] using h1, rfl, ?_⟩
      have go : ∀ k f, firstF v c k f = 0 → ∀ j, f ≤ j → j < f + k → faultF v c j = 0 := by
        intro k
        induction k with
        | zero => intro f _ j h1 h2; omega
        | succ k ih =>
          intro f hf j h1 h2
          simp only [firstF] at hf
          by_cases h0 : faultF v c f = 0
          · rw [if_pos h0] at hf
            by_cases e : j = f
            · rw [e]; exact h0
            · exact ih (f + 1) hf j (by omega) (by omega)
          · rw [if_neg h0] at hf; exact absurd hf h0
      exact fun f hf => go 7 0 h f (by omega) (by omega)
theorem has_allow {v : Int} {c : Cm} {f : Nat} (h : faultF v c f = 0) (hf : f < 6) (hh : hasF c.kind f = true) : allowF v c f = true := by
  unfold faultF at h
  rw [hh] at h
  simp only [if_true] at h
  cases ha : allowF v c f with
  | true => rfl
  | false =>
    rw [ha] at h
    simp only [Bool.false_eq_true, if_false, errF] at h
    split at h <;> omega
/-- What a command that Check takes is. -/
structure Sound (c : Cm) : Prop where
  k0 : 0 ≤ c.kind
  k8 : c.kind ≤ 8
  client : c.kind ≠ 0 → 0 ≤ c.client ∧ c.client ≤ 65535
  req : c.kind ≠ 0 → 0 ≤ c.req ∧ c.req ≤ 1073741824
  key : c.kind ≠ 0 → 1 ≤ c.key.size ∧ c.key.size ≤ 64
  key2 : 6 ≤ c.kind → 1 ≤ c.key2.size ∧ c.key2.size ≤ 64 ∧ isPairB c.kind c.key c.key2 = true
  val : c.kind = 2 ∨ c.kind = 5 → c.val.size ≤ 65536
  old : c.kind = 5 → c.old.size ≤ 65536
theorem hasT (k : Fin 9) : (k.val ≠ 0 → hasF (k.val : Int) 0 = true ∧ hasF (k.val : Int) 1 = true ∧ hasF (k.val : Int) 2 = true) ∧ (6 ≤ k.val → hasF (k.val : Int) 3 = true) ∧ (k.val = 2 ∨ k.val = 5 → hasF (k.val : Int) 4 = true) ∧ (k.val = 5 → hasF (k.val : Int) 5 = true) := by
  revert k; decide
theorem sound_of {v : Int} {c : Cm} (h : chk v c = 0) : Sound c := by
  obtain ⟨hv, hk, hf⟩ := chk_zero h
  simp only [isKd, Bool.and_eq_true, decide_eq_true_eq] at hk
  obtain ⟨k, hkk⟩ := Int.eq_ofNat_of_zero_le hk.1
  have hk9 : k < 9 := by omega
  obtain ⟨t1, t2, t3, t4⟩ := hasT ⟨k, hk9⟩
  simp only at t1 t2 t3 t4
  rw [show ((k : Nat) : Int) = c.kind from hkk.symm] at t1 t2 t3 t4
  have hm : mostV v ≤ 65536 := by unfold mostV; split <;> omega
  refine ⟨hk.1, by omega, fun hn => ?_, fun hn => ?_, fun hn => ?_, fun hn => ?_, fun hn => ?_, fun hn => ?_⟩
  · have := has_allow (hf 0 (by omega)) (by omega) (t1 (by omega)).1
    simpa [allowF] using this
  · have := has_allow (hf 1 (by omega)) (by omega) (t1 (by omega)).2.1
    simpa [allowF] using this
  · have := has_allow (hf 2 (by omega)) (by omega) (t1 (by omega)).2.2
    simp only [allowF, isKeyB, Bool.and_eq_true, decide_eq_true_eq] at this
    exact this
  · have := has_allow (hf 3 (by omega)) (by omega) (t2 (by omega))
    simp only [allowF, isKeyB, Bool.and_eq_true, decide_eq_true_eq] at this
    exact ⟨this.1.1, this.1.2, this.2⟩
  · have := has_allow (hf 4 (by omega)) (by omega) (t3 (by omega))
    simp only [allowF, decide_eq_true_eq] at this
    omega
  · have := has_allow (hf 5 (by omega)) (by omega) (t4 (by omega))
    simp only [allowF, decide_eq_true_eq] at this
    omega
end Go.Wire1
/- What a scan reads, as plain functions of the bytes. -/
namespace Go.Proofs.YtdokagebfeejbaaGreatDoor
open Go.RowKit Go.Wire1

/-- A scan's state: the reader's place and fault, its own fault. -/
structure St where
  k : Nat
  f : Int
  ft : Int

def gU (most : Nat) (l : List Int) (s : St) : Nat × Nat × Int :=
  if s.f = 0 then (match dec (l.drop s.k) with | .ok (x, m) => if most < x then (0, s.k, 14) else (x, s.k + m, 0) | .error i => (0, s.k, 11 + (i : Int))) else (0, s.k, s.f)
def gI (l : List Int) (s : St) : Int × Nat × Int :=
  if s.f = 0 then (match dec (l.drop s.k) with | .ok (x, m) => (unzig x, s.k + m, 0) | .error i => (0, s.k, 11 + (i : Int))) else (0, s.k, s.f)
def gB (most : Int) (l : List Int) (s : St) : Int × Nat × Int :=
  if s.f = 0 then (if l.length ≤ s.k then (0, s.k, 11) else if most < l.getD s.k 0 then (0, s.k, 14) else (l.getD s.k 0, s.k + 1, 0)) else (0, s.k, s.f)
def gT (least most : Int) (l : List Int) (s : St) : ByteArray × Nat × Int :=
  if s.f = 0 then (match dec (l.drop s.k) with
    | .ok (x, m) => if least ≤ (x : Int) ∧ (x : Int) ≤ most then (if s.k + m + x ≤ l.length then (strOfNums ((l.drop (s.k + m)).take x), s.k + (m + x), 0) else (⟨#[]⟩, s.k, 11)) else (⟨#[]⟩, s.k, 15)
    | .error i => (⟨#[]⟩, s.k, 11 + (i : Int))) else (⟨#[]⟩, s.k, s.f)

def sNum (most : Nat) (own : Int) (l : List Int) (s : St) : Nat × St := ((gU most l s).1, ⟨(gU most l s).2.1, (gU most l s).2.2, noteF own (gU most l s).2.2 s.ft⟩)
def sInt (l : List Int) (s : St) : Int × St := ((gI l s).1, ⟨(gI l s).2.1, (gI l s).2.2, noteF 14 (gI l s).2.2 s.ft⟩)
def sTxt (least most own : Int) (l : List Int) (s : St) : ByteArray × St := ((gT least most l s).1, ⟨(gT least most l s).2.1, (gT least most l s).2.2, noteF own (gT least most l s).2.2 s.ft⟩)
def sKind (v : Int) (l : List Int) (s : St) : Int × St :=
  ((gB 255 l s).1, ⟨(gB 255 l s).2.1, (gB 255 l s).2.2, if isKd v (gB 255 l s).1 then noteF 41 (gB 255 l s).2.2 s.ft else refF 41 (noteF 41 (gB 255 l s).2.2 s.ft)⟩)

/-- A scan in the state s. -/
def Scs (w : World) (g b : Nat) (sa : Option Addr) (n cap : Nat) (l : List Int) (a : Nat → Addr) (s : St) : Prop := Scn w g b sa n cap s.k s.f s.ft l a

section
variable (g b n cap : Nat) (sa : Option Addr) (l : List Int) (a : Nat → Addr)
end
end Go.Proofs.YtdokagebfeejbaaGreatDoor
/- The contract of PutText: new memory that holds the length's form and the text's bytes. -/
namespace Go.Proofs.YtdokagebfeejbaaGreatDoor
open Go.RowKit Go.Wire1 Go.Lib

/-- A text's bytes, as numbers. -/
def txt (s : ByteArray) : List Int := s.data.toList.map fun b => (b.toNat : Int)
theorem txt_len (s : ByteArray) : (txt s).length = s.size := by
  show (s.data.toList.map _).length = s.data.size
  rw [List.length_map, Array.length_toList]
theorem txt_cells (s : ByteArray) : strCells s = (txt s).map (Value.int .u8) := by simp [strCells, txt]

set_option maxHeartbeats 1000000 in
set_option maxRecDepth 100000 in
theorem putText_any (s : ByteArray) (w : World) (hs : s.size ≤ 140737488351232) :
    Calls Tryz.prog 172 #[.string s] w fun e w' => ∃ v, e = .returned v ∧ w'.ownsRow w.heap.size 5 1 v (enc s.size ++ txt s).length ((enc s.size ++ txt s).map (Value.int .u8)) ∧ Below w.heap.size w w' := by
  obtain ⟨i0, hi, hz0, hz1, hz2⟩ := info_parts Tryz.info5
  have hle := enc_le s.size (by omega)
  go_enter Tryz.func172, Tryz.ntmps172
  go_wp2_with fail
  refine (putUint_any s.size _ (by omega)).mono ?_
  rintro e w1 ⟨v, rfl, hown, hbel⟩
  have hsz := hbel.size
  go_wp2_with (first
    | (at_builtin; refine wpList_append_own_string _ rfl _ _ 42 9 rfl w.heap.size 5 i0 Tryz.underlying42 Tryz.underlying9 hi hz0 hz1 hz2 _ _ _ rfl hown s rfl ?c1 ?c2 ?c3 ?_))
  case c1 => unfold maxLen; omega
  case c2 => omega
  case c3 => omega
  intro v' w2 hown' hgrow _
  have B2 : Below w.heap.size w w2 := hbel.grown hgrow hsz (fun j hj => (hown.lt j hj).1)
  rw [txt_cells, ← List.map_append] at hown'
  have e1 : (enc s.size).length + s.size = (enc s.size ++ txt s).length := by rw [List.length_append, txt_len]
  rw [e1] at hown'
  clear e1 hgrow hown hbel
  go_wp2
  go_ret
  exact ⟨_, rfl, hown', B2⟩
end Go.Proofs.YtdokagebfeejbaaGreatDoor
