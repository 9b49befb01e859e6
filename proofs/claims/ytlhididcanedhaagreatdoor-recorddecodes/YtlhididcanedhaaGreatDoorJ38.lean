/- Texts of the proof, joined. -/
import Derived.Test.YtlhididcanedhaaGreatDoorJ02
import Derived.Test.YtlhididcanedhaaGreatDoorJ05
import Derived.Test.YtlhididcanedhaaGreatDoorJ31
import Derived.Test.YtlhididcanedhaaGreatDoorJ07
import Derived.Test.YtlhididcanedhaaGreatDoorJ34
import Derived.Deep.Cut
import Derived.Deep.Light
import Derived.Test.YtlhididcanedhaaGreatDoorJ37
/- The contract of mootref.SameCmd. -/
namespace Go.Proofs.YtlhididcanedhaaGreatDoor
open Go.RowKit Go.Wire1

def sameC (c d : Cm) : Bool := (c.kind == d.kind) && (c.client == d.client) && (c.req == d.req) && (c.n == d.n) && teq c.key d.key && teq c.key2 d.key2 && teq c.val d.val && teq c.old d.old

set_option maxHeartbeats 1000000 in
set_option maxRecDepth 100000 in
theorem sameCmd_any (c d : Cm) (w : World) :
    Calls Tryz.prog 28 #[.agg #[.int .i64 c.kind, .int .i64 c.client, .int .i64 c.req, .string c.key, .string c.key2, .string c.val, .string c.old, .int .i64 c.n], .agg #[.int .i64 d.kind, .int .i64 d.client, .int .i64 d.req, .string d.key, .string d.key2, .string d.val, .string d.old, .int .i64 d.n]] w fun e w' => e = .returned (.bool (sameC c d)) ∧ Below w.heap.size w w' := by
  obtain ⟨r, hr⟩ : ∃ r, Hid (sameC c d = r) := ⟨_, rfl⟩
  rw [hr.out]
  have BB : ∀ o p, Hid (Below w.heap.size w ((w.alloc o).alloc p)) := fun o p => ((Below.refl _ w).alloc (Nat.le_refl _) _).alloc (by simp) _
  by_cases h0 : c.kind = d.kind
  rotate_left
  · have e : Hid (r = false) := by rw [← hr.out]; simp [Hid, sameC, teq, h0]
    rw [e.out]
    clear hr e
    go_enter Tryz.func28, Tryz.ntmps28
    go_wp2
    go_ret
    exact ⟨rfl, (BB _ _).out⟩
  by_cases h1 : c.client = d.client
  rotate_left
  · have e : Hid (r = false) := by rw [← hr.out]; simp [Hid, sameC, teq, h0, h1]
    rw [e.out]
    clear hr e
    go_enter Tryz.func28, Tryz.ntmps28
    go_wp2
    go_ret
    exact ⟨rfl, (BB _ _).out⟩
  by_cases h2 : c.req = d.req
  rotate_left
  · have e : Hid (r = false) := by rw [← hr.out]; simp [Hid, sameC, teq, h0, h1, h2]
    rw [e.out]
    clear hr e
    go_enter Tryz.func28, Tryz.ntmps28
    go_wp2
    go_ret
    exact ⟨rfl, (BB _ _).out⟩
  by_cases h3 : c.n = d.n
  rotate_left
  · have e : Hid (r = false) := by rw [← hr.out]; simp [Hid, sameC, teq, h0, h1, h2, h3]
    rw [e.out]
    clear hr e
    go_enter Tryz.func28, Tryz.ntmps28
    go_wp2
    go_ret
    exact ⟨rfl, (BB _ _).out⟩
  cases h4 : (c.key.toList == d.key.toList) with
  | false =>
    have e : Hid (r = false) := by rw [← hr.out]; simp [Hid, sameC, teq, h0, h1, h2, h3, h4]
    rw [e.out]
    clear hr e
    go_enter Tryz.func28, Tryz.ntmps28
    go_wp2
    go_ret
    exact ⟨rfl, (BB _ _).out⟩
  | true =>
    cases h5 : (c.key2.toList == d.key2.toList) with
    | false =>
      have e : Hid (r = false) := by rw [← hr.out]; simp [Hid, sameC, teq, h0, h1, h2, h3, h4, h5]
      rw [e.out]
      clear hr e
      go_enter Tryz.func28, Tryz.ntmps28
      go_wp2
      go_ret
      exact ⟨rfl, (BB _ _).out⟩
    | true =>
      cases h6 : (c.val.toList == d.val.toList) with
      | false =>
        have e : Hid (r = false) := by rw [← hr.out]; simp [Hid, sameC, teq, h0, h1, h2, h3, h4, h5, h6]
        rw [e.out]
        clear hr e
        go_enter Tryz.func28, Tryz.ntmps28
        go_wp2
        go_ret
        exact ⟨rfl, (BB _ _).out⟩
      | true =>
        cases h7 : (c.old.toList == d.old.toList) with
        | false =>
          have e : Hid (r = false) := by rw [← hr.out]; simp [Hid, sameC, teq, h0, h1, h2, h3, h4, h5, h6, h7]
          rw [e.out]
          clear hr e
          go_enter Tryz.func28, Tryz.ntmps28
          go_wp2
          go_ret
          exact ⟨rfl, (BB _ _).out⟩
        | true =>
          have e : Hid (r = true) := by rw [← hr.out]; simp [Hid, sameC, teq, h0, h1, h2, h3, h4, h5, h6, h7]
          rw [e.out]
          clear hr e
          go_enter Tryz.func28, Tryz.ntmps28
          go_wp2
          go_ret
          exact ⟨rfl, (BB _ _).out⟩
end Go.Proofs.YtlhididcanedhaaGreatDoor
/- The contract of the document's own Check. -/
namespace Go.Proofs.YtlhididcanedhaaGreatDoor
open Go.RowKit Go.Wire1

end Go.Proofs.YtlhididcanedhaaGreatDoor
/- The contracts of the document's own parts of record.Check: which fields a kind has, what is extra, the bounds. -/
namespace Go.Proofs.YtlhididcanedhaaGreatDoor
open Go.RowKit Go.Wire1

def hasIB (k : Nat) : Bool := k != 1
def hasBB (k : Nat) : Bool := (k == 2) || ((k == 3) || (k == 4))
def hasCB (k : Nat) : Bool := (k == 3) || ((k == 4) || (k == 5))
theorem five {k : Nat} (h1 : 1 ≤ k) (h5 : k ≤ 5) : k = 1 ∨ k = 2 ∨ k = 3 ∨ k = 4 ∨ k = 5 := by omega
def soundB (n : Int) (l : List Int) : Bool := isVec l && ((l.length : Int) == n)
def allZ (l : List Int) : Bool := l.all fun x => x == 0
end Go.Proofs.YtlhididcanedhaaGreatDoor
/- The contracts of the document's own headOK, instOK, balOK, extra, attrOK and Check of a record. -/
namespace Go.Proofs.YtlhididcanedhaaGreatDoor
open Go.RowKit Go.Wire1

set_option maxHeartbeats 4000000 in
set_option maxRecDepth 100000 in
theorem refInstOK_any (n row num : Int) (w : World) :
    Calls Tryz.prog 55 #[.int .i64 n, .agg #[.int .i64 row, .int .i64 num]] w fun e w' => e = .returned (.bool (rinstB n row num)) ∧ Below w.heap.size w w' := by
  by_cases h0 : 0 ≤ row
  · by_cases h1 : row < n
    · by_cases h2 : 1 ≤ num
      · by_cases h3 : num ≤ 1048576
        · have HQ : Hid (rinstB n row num = true) := by simp [Hid, rinstB, h0, h1, h2, h3]
          go_enter Tryz.func55, Tryz.ntmps55
          go_wp2
          go_ret
          exact ⟨by rw [HQ.out]; rfl, (Below.refl _ _).alloc (Nat.le_refl _) _⟩
        · have HQ : Hid (rinstB n row num = false) := by simp [Hid, rinstB, h0, h1, h2, h3]
          have n3 : decide (num ≤ 1048576) = false := by simpa using h3
          go_enter Tryz.func55, Tryz.ntmps55
          go_wp2
          go_ret
          exact ⟨by rw [HQ.out]; rfl, (Below.refl _ _).alloc (Nat.le_refl _) _⟩
      · have HQ : Hid (rinstB n row num = false) := by simp [Hid, rinstB, h0, h1, h2]
        have n2 : decide (1 ≤ num) = false := by simpa using h2
        go_enter Tryz.func55, Tryz.ntmps55
        go_wp2
        go_ret
        exact ⟨by rw [HQ.out]; rfl, (Below.refl _ _).alloc (Nat.le_refl _) _⟩
    · have HQ : Hid (rinstB n row num = false) := by simp [Hid, rinstB, h0, h1]
      have n1 : decide (row < n) = false := by simpa using h1
      go_enter Tryz.func55, Tryz.ntmps55
      go_wp2
      go_ret
      exact ⟨by rw [HQ.out]; rfl, (Below.refl _ _).alloc (Nat.le_refl _) _⟩
  · have HQ : Hid (rinstB n row num = false) := by simp [Hid, rinstB, h0]
    have n0 : decide (0 ≤ row) = false := by simpa using h0
    go_enter Tryz.func55, Tryz.ntmps55
    go_wp2
    go_ret
    exact ⟨by rw [HQ.out]; rfl, (Below.refl _ _).alloc (Nat.le_refl _) _⟩
def refX (k : Nat) (i b c s h : Bool) : Bool := ((i && !(hasIB k)) || ((b && !(hasBB k)) || (c && !(hasCB k)))) || ((s && (k != 3)) || (h && (k != 1)))
def cmdX (r : Rc) : Bool := !(zeroR r 99) || (!(zeroR r 113) || !(zeroR r 100))
def headX (r : Rc) : Bool := !(zeroR r 119) || !(zeroR r 110)
end Go.Proofs.YtlhididcanedhaaGreatDoor
/- The document's own scan of records: which kinds have what; the ballot's rule. -/
namespace Go.Proofs.YtlhididcanedhaaGreatDoor
open Go.RowKit Go.Wire1

set_option maxHeartbeats 1000000 in
set_option maxRecDepth 100000 in
theorem hasBal6_any (k : Int) (w : World) : Calls Tryz.prog 19 #[.int .i64 k] w fun e w' => e = .returned (.bool (decide (k = 2 ∨ k = 3 ∨ k = 4))) ∧ w = w' := by
  by_cases h2 : k = 2
  · subst h2
    go_enter Tryz.func19, Tryz.ntmps19
    go_wp2
    go_ret
    exact ⟨rfl, rfl⟩
  by_cases h3 : k = 3
  · subst h3
    go_enter Tryz.func19, Tryz.ntmps19
    go_wp2
    go_ret
    exact ⟨rfl, rfl⟩
  by_cases h4 : k = 4
  · subst h4
    go_enter Tryz.func19, Tryz.ntmps19
    go_wp2
    go_ret
    exact ⟨rfl, rfl⟩
  have g2 : (k == 2) = false := beq_eq_false_iff_ne.2 h2
  have g3 : (k == 3) = false := beq_eq_false_iff_ne.2 h3
  have g4 : (k == 4) = false := beq_eq_false_iff_ne.2 h4
  have HQ : Hid (decide (k = 2 ∨ k = 3 ∨ k = 4) = false) := by simp [Hid, h2, h3, h4]
  rw [HQ.out]
  clear h2 h3 h4
  go_enter Tryz.func19, Tryz.ntmps19
  go_wp2
  go_ret
  exact ⟨rfl, rfl⟩
set_option maxHeartbeats 1000000 in
set_option maxRecDepth 100000 in
theorem hasCmd6_any (k : Int) (w : World) : Calls Tryz.prog 20 #[.int .i64 k] w fun e w' => e = .returned (.bool (decide (k = 3 ∨ k = 4 ∨ k = 5))) ∧ w = w' := by
  by_cases h3 : k = 3
  · subst h3
    go_enter Tryz.func20, Tryz.ntmps20
    go_wp2
    go_ret
    exact ⟨rfl, rfl⟩
  by_cases h4 : k = 4
  · subst h4
    go_enter Tryz.func20, Tryz.ntmps20
    go_wp2
    go_ret
    exact ⟨rfl, rfl⟩
  by_cases h5 : k = 5
  · subst h5
    go_enter Tryz.func20, Tryz.ntmps20
    go_wp2
    go_ret
    exact ⟨rfl, rfl⟩
  have g3 : (k == 3) = false := beq_eq_false_iff_ne.2 h3
  have g4 : (k == 4) = false := beq_eq_false_iff_ne.2 h4
  have g5 : (k == 5) = false := beq_eq_false_iff_ne.2 h5
  have HQ : Hid (decide (k = 3 ∨ k = 4 ∨ k = 5) = false) := by simp [Hid, h3, h4, h5]
  rw [HQ.out]
  clear h3 h4 h5
  go_enter Tryz.func20, Tryz.ntmps20
  go_wp2
  go_ret
  exact ⟨rfl, rfl⟩
def balX (n kind row round who : Int) : Bool := if round < 0 ∨ 65535 < round ∨ who < 0 ∨ n ≤ who then false else decide (0 < round) || ((who == row) && (kind != 2))
set_option maxHeartbeats 2000000 in
set_option maxRecDepth 100000 in
theorem balX_any (n kind row num round who : Int) (w : World) :
    Calls Tryz.prog 56 #[.int .i64 n, .int .i64 kind, .agg #[.int .i64 row, .int .i64 num], .agg #[.int .i64 round, .int .i64 who]] w fun e w' => e = .returned (.bool (balX n kind row round who)) ∧ Below w.heap.size w w' := by
  have BB : ∀ o p, Hid (Below w.heap.size w ((w.alloc o).alloc p)) := fun o p => ((Below.refl _ w).alloc (Nat.le_refl _) _).alloc (by simp) _
  obtain ⟨z, hz⟩ : ∃ z, Hid (balX n kind row round who = z) := ⟨_, rfl⟩
  rw [hz.out]
  by_cases ha : round < 0
  · have e : Hid (z = false) := by rw [← hz.out]; simp only [Hid, balX]; rw [if_pos (by omega)]
    have da : decide (round < 0) = true := decide_eq_true ha
    rw [e.out]
    clear hz e ha
    go_enter Tryz.func56, Tryz.ntmps56
    go_wp2
    go_ret
    exact ⟨rfl, (BB _ _).out⟩
  have da : decide (round < 0) = false := decide_eq_false ha
  by_cases hb : 65535 < round
  · have e : Hid (z = false) := by rw [← hz.out]; simp only [Hid, balX]; rw [if_pos (by omega)]
    have db : decide (65535 < round) = true := decide_eq_true hb
    rw [e.out]
    clear hz e hb
    go_enter Tryz.func56, Tryz.ntmps56
    go_wp2
    go_ret
    exact ⟨rfl, (BB _ _).out⟩
  have db : decide (65535 < round) = false := decide_eq_false hb
  by_cases hc : who < 0
  · have e : Hid (z = false) := by rw [← hz.out]; simp only [Hid, balX]; rw [if_pos (by omega)]
    have dc : decide (who < 0) = true := decide_eq_true hc
    rw [e.out]
    clear hz e hc
    go_enter Tryz.func56, Tryz.ntmps56
    go_wp2
    go_ret
    exact ⟨rfl, (BB _ _).out⟩
  have dc : decide (who < 0) = false := decide_eq_false hc
  by_cases hd : n ≤ who
  · have e : Hid (z = false) := by rw [← hz.out]; simp only [Hid, balX]; rw [if_pos (by omega)]
    have dd : decide (n ≤ who) = true := decide_eq_true hd
    rw [e.out]
    clear hz e hd
    go_enter Tryz.func56, Tryz.ntmps56
    go_wp2
    go_ret
    exact ⟨rfl, (BB _ _).out⟩
  have dd : decide (n ≤ who) = false := decide_eq_false hd
  have hn : ¬ (round < 0 ∨ 65535 < round ∨ who < 0 ∨ n ≤ who) := by omega
  by_cases h1 : 0 < round
  · have e : Hid (z = true) := by rw [← hz.out]; simp only [Hid, balX]; rw [if_neg hn]; simp [h1]
    have d1 : decide (0 < round) = true := decide_eq_true h1
    rw [e.out]
    clear hz e hn
    go_enter Tryz.func56, Tryz.ntmps56
    go_wp2
    go_ret
    exact ⟨rfl, (BB _ _).out⟩
  have d1 : decide (0 < round) = false := decide_eq_false h1
  by_cases h2 : who = row
  rotate_left
  · have e : Hid (z = false) := by rw [← hz.out]; simp only [Hid, balX]; rw [if_neg hn]; simp [h1, h2]
    have d2 : (who == row) = false := beq_eq_false_iff_ne.2 h2
    rw [e.out]
    clear hz e hn
    go_enter Tryz.func56, Tryz.ntmps56
    go_wp2
    go_ret
    exact ⟨rfl, (BB _ _).out⟩
  have d2 : (who == row) = true := by simp [h2]
  by_cases h3 : kind = 2
  · have e : Hid (z = false) := by rw [← hz.out]; simp only [Hid, balX]; rw [if_neg hn]; simp [h1, h2, h3]
    have d3 : (kind != 2) = false := by simp [h3]
    rw [e.out]
    clear hz e hn
    go_enter Tryz.func56, Tryz.ntmps56
    go_wp2
    go_ret
    exact ⟨rfl, (BB _ _).out⟩
  · have e : Hid (z = true) := by rw [← hz.out]; simp only [Hid, balX]; rw [if_neg hn]; simp [h1, h2, h3]
    have d3 : (kind != 2) = true := by rw [bne_iff_ne]; exact h3
    rw [e.out]
    clear hz e hn
    go_enter Tryz.func56, Tryz.ntmps56
    go_wp2
    go_ret
    exact ⟨rfl, (BB _ _).out⟩
end Go.Proofs.YtlhididcanedhaaGreatDoor
