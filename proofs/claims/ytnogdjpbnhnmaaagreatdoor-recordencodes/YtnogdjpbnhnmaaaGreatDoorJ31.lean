/- Texts of the proof, joined. -/
import Derived.Test.YtnogdjpbnhnmaaaGreatDoorJ02
import Derived.Test.YtnogdjpbnhnmaaaGreatDoorJ08
import Derived.Test.YtnogdjpbnhnmaaaGreatDoorJ09
/- The contract of mootref.SameCmd. -/
namespace Go.Proofs.YtnogdjpbnhnmaaaGreatDoor
open Go.RowKit Go.Wire1

def sameC (c d : Cm) : Bool := (c.kind == d.kind) && (c.client == d.client) && (c.req == d.req) && (c.n == d.n) && teq c.key d.key && teq c.key2 d.key2 && teq c.val d.val && teq c.old d.old

set_option maxHeartbeats 1000000 in
set_option maxRecDepth 100000 in
theorem sameCmd_any (c d : Cm) (w : World) :
    Calls Tryz.prog 19 #[.agg #[.int .i64 c.kind, .int .i64 c.client, .int .i64 c.req, .string c.key, .string c.key2, .string c.val, .string c.old, .int .i64 c.n], .agg #[.int .i64 d.kind, .int .i64 d.client, .int .i64 d.req, .string d.key, .string d.key2, .string d.val, .string d.old, .int .i64 d.n]] w fun e w' => e = .returned (.bool (sameC c d)) ∧ Below w.heap.size w w' := by
  obtain ⟨r, hr⟩ : ∃ r, Hid (sameC c d = r) := ⟨_, rfl⟩
  rw [hr.out]
  have BB : ∀ o p, Hid (Below w.heap.size w ((w.alloc o).alloc p)) := fun o p => ((Below.refl _ w).alloc (Nat.le_refl _) _).alloc (by simp) _
  by_cases h0 : c.kind = d.kind
  rotate_left
  · have e : Hid (r = false) := by rw [← hr.out]; simp [Hid, sameC, teq, h0]
    rw [e.out]
    clear hr e
    go_enter Tryz.func19, Tryz.ntmps19
    go_wp2
    go_ret
    exact ⟨rfl, (BB _ _).out⟩
  by_cases h1 : c.client = d.client
  rotate_left
  · have e : Hid (r = false) := by rw [← hr.out]; simp [Hid, sameC, teq, h0, h1]
    rw [e.out]
    clear hr e
    go_enter Tryz.func19, Tryz.ntmps19
    go_wp2
    go_ret
    exact ⟨rfl, (BB _ _).out⟩
  by_cases h2 : c.req = d.req
  rotate_left
  · have e : Hid (r = false) := by rw [← hr.out]; simp [Hid, sameC, teq, h0, h1, h2]
    rw [e.out]
    clear hr e
    go_enter Tryz.func19, Tryz.ntmps19
    go_wp2
    go_ret
    exact ⟨rfl, (BB _ _).out⟩
  by_cases h3 : c.n = d.n
  rotate_left
  · have e : Hid (r = false) := by rw [← hr.out]; simp [Hid, sameC, teq, h0, h1, h2, h3]
    rw [e.out]
    clear hr e
    go_enter Tryz.func19, Tryz.ntmps19
    go_wp2
    go_ret
    exact ⟨rfl, (BB _ _).out⟩
  cases h4 : (c.key.toList == d.key.toList) with
  | false =>
    have e : Hid (r = false) := by rw [← hr.out]; simp [Hid, sameC, teq, h0, h1, h2, h3, h4]
    rw [e.out]
    clear hr e
    go_enter Tryz.func19, Tryz.ntmps19
    go_wp2
    go_ret
    exact ⟨rfl, (BB _ _).out⟩
  | true =>
    cases h5 : (c.key2.toList == d.key2.toList) with
    | false =>
      have e : Hid (r = false) := by rw [← hr.out]; simp [Hid, sameC, teq, h0, h1, h2, h3, h4, h5]
      rw [e.out]
      clear hr e
      go_enter Tryz.func19, Tryz.ntmps19
      go_wp2
      go_ret
      exact ⟨rfl, (BB _ _).out⟩
    | true =>
      cases h6 : (c.val.toList == d.val.toList) with
      | false =>
        have e : Hid (r = false) := by rw [← hr.out]; simp [Hid, sameC, teq, h0, h1, h2, h3, h4, h5, h6]
        rw [e.out]
        clear hr e
        go_enter Tryz.func19, Tryz.ntmps19
        go_wp2
        go_ret
        exact ⟨rfl, (BB _ _).out⟩
      | true =>
        cases h7 : (c.old.toList == d.old.toList) with
        | false =>
          have e : Hid (r = false) := by rw [← hr.out]; simp [Hid, sameC, teq, h0, h1, h2, h3, h4, h5, h6, h7]
          rw [e.out]
          clear hr e
          go_enter Tryz.func19, Tryz.ntmps19
          go_wp2
          go_ret
          exact ⟨rfl, (BB _ _).out⟩
        | true =>
          have e : Hid (r = true) := by rw [← hr.out]; simp [Hid, sameC, teq, h0, h1, h2, h3, h4, h5, h6, h7]
          rw [e.out]
          clear hr e
          go_enter Tryz.func19, Tryz.ntmps19
          go_wp2
          go_ret
          exact ⟨rfl, (BB _ _).out⟩
end Go.Proofs.YtnogdjpbnhnmaaaGreatDoor
/- The plain mathematics of the document's own Check; nothing of the program is named here. -/
namespace Go.Wire1
open Go.RowKit

/-- The bytes of a text, as numbers. -/
def tb (s : ByteArray) (i : Nat) : Int := ((s.data.toList.getD i 0).toNat : Int)
def hasC (s : ByteArray) (b : Int) : Bool := (List.range s.size).any fun i => tb s i == b
theorem hasC_step {s : ByteArray} {b : Int} {i : Nat} (h : (List.range i).any (fun i => tb s i == b) = false) (h2 : (tb s i == b) = false) : (List.range (i + 1)).any (fun i => tb s i == b) = false := by
  rw [List.range_succ, List.any_append, h]; simp [h2]
theorem hasC_hit {s : ByteArray} {b : Int} {i : Nat} (hi : i < s.size) (h2 : (tb s i == b) = true) : hasC s b = true := List.any_eq_true.2 ⟨i, List.mem_range.2 hi, h2⟩

/-- The document's letters of a kind's fields. -/
def fldS (kind : Int) : ByteArray :=
  if kind = 1 ∨ kind = 3 then ⟨#[99, 114, 107]⟩ else if kind = 2 then ⟨#[99, 114, 107, 118]⟩ else if kind = 4 then ⟨#[99, 114, 107, 110]⟩
  else if kind = 5 then ⟨#[99, 114, 107, 111, 118]⟩ else if kind = 6 ∨ kind = 7 ∨ kind = 8 then ⟨#[99, 114, 107, 106]⟩ else ⟨#[]⟩
theorem fldS_size (kind : Int) : (fldS kind).size ≤ 5 := by
  unfold fldS; repeat' split
  all_goals decide
def letF : List Int := [99, 114, 107, 106, 118, 111, 110]
theorem has_letter {kind : Int} (h0 : 0 ≤ kind) (h9 : kind < 9) {f : Nat} (hf : f < 7) : hasC (fldS kind) (letF.getD f 0) = hasF kind f := by
  obtain ⟨k, rfl⟩ := Int.eq_ofNat_of_zero_le h0
  have h : ∀ k : Fin 9, ∀ f : Fin 7, hasC (fldS (k.val : Int)) (letF.getD f.val 0) = hasF (k.val : Int) f.val := by decide +kernel
  exact h ⟨k, by omega⟩ ⟨f, hf⟩

def knownR (v kind : Int) : Bool := if v = 1 then decide (0 ≤ kind) && decide (kind ≤ 5) else decide (0 ≤ kind) && decide (kind ≤ 8)
theorem known_eq {v kind : Int} (hv : v = 1 ∨ v = 2) : knownR v kind = isKd v kind := by
  unfold knownR isKd
  by_cases h0 : 0 ≤ kind
  · by_cases h9 : kind < 9
    · obtain ⟨k, rfl⟩ := Int.eq_ofNat_of_zero_le h0
      have h : ∀ k : Fin 9, ((decide ((k.val : Int) ≤ 5) = decide ((fromL.getD k.val 0 : Int) ≤ 1)) ∧ (decide ((k.val : Int) ≤ 8) = decide ((fromL.getD k.val 0 : Int) ≤ 2))) := by decide
      have := h ⟨k, by omega⟩
      simp only at this
      rcases hv with rfl | rfl
      · simp [h9, this.1]
      · simp [h9]
        have := this.2
        simp at this
        omega
    · rcases hv with rfl | rfl <;> simp [h9] <;> omega
  · simp [h0]
def numR (t : Bool) (x top : Int) (e : Nat) : Nat := if t then (if x < 0 ∨ top < x then e else 0) else (if x = 0 then 0 else 48)
def txtR (t : Bool) (s : ByteArray) (least top : Nat) (e : Nat) : Nat := if t then (if s.size < least ∨ top < s.size then e else 0) else (if s.toList.isEmpty then 0 else 48)
def key2R (c : Cm) : Nat := if txtR (hasF c.kind 3) c.key2 1 64 45 = 0 ∧ hasF c.kind 3 = true ∧ isPairB c.kind c.key c.key2 = false then 45 else txtR (hasF c.kind 3) c.key2 1 64 45
def nR (c : Cm) : Nat := if c.n = 0 then 0 else if hasF c.kind 6 then 0 else 48

theorem f0_eq (v : Int) (c : Cm) : numR (hasF c.kind 0) c.client 65535 42 = faultF v c 0 := by
  unfold numR faultF
  cases hasF c.kind 0 <;> simp [zeroF, allowF, errF]
  by_cases h : c.client < 0 ∨ 65535 < c.client
  · rw [if_pos h, if_neg (by omega)]
  · rw [if_neg h, if_pos (by omega)]
theorem f1_eq (v : Int) (c : Cm) : numR (hasF c.kind 1) c.req 1073741824 43 = faultF v c 1 := by
  unfold numR faultF
  cases hasF c.kind 1 <;> simp [zeroF, allowF, errF]
  by_cases h : c.req < 0 ∨ 1073741824 < c.req
  · rw [if_pos h, if_neg (by omega)]
  · rw [if_neg h, if_pos (by omega)]
theorem f2_eq (v : Int) (c : Cm) : txtR (hasF c.kind 2) c.key 1 64 44 = faultF v c 2 := by
  unfold txtR faultF
  cases hasF c.kind 2
  · simp [zeroF]
  · show (if c.key.size < 1 ∨ 64 < c.key.size then 44 else 0) = if (decide (1 ≤ c.key.size) && decide (c.key.size ≤ 64)) = true then 0 else 44
    generalize c.key.size = m
    by_cases h : m < 1 ∨ 64 < m
    · rw [if_pos h, if_neg (by simp; omega)]
    · rw [if_neg h, if_pos (by simp; omega)]
theorem f3_eq (v : Int) (c : Cm) : key2R c = faultF v c 3 := by
  unfold key2R txtR faultF
  cases hasF c.kind 3
  · simp [zeroF]
  · show (if (if c.key2.size < 1 ∨ 64 < c.key2.size then 45 else 0) = 0 ∧ true = true ∧ isPairB c.kind c.key c.key2 = false then 45 else (if c.key2.size < 1 ∨ 64 < c.key2.size then 45 else 0)) = if ((decide (1 ≤ c.key2.size) && decide (c.key2.size ≤ 64)) && isPairB c.kind c.key c.key2) = true then 0 else 45
    generalize c.key2.size = m
    generalize isPairB c.kind c.key c.key2 = q
    by_cases h : m < 1 ∨ 64 < m
    · rw [if_pos h, if_neg (by simp), if_neg (by simp; omega)]
    · rw [if_neg h]
      cases q
      · simp
      · rw [if_neg (by simp), if_pos (by simp; omega)]
theorem f4_eq (v : Int) (c : Cm) : txtR (hasF c.kind 4) c.val 0 (mostV v) 46 = faultF v c 4 := by
  unfold txtR faultF
  cases hasF c.kind 4 <;> simp [zeroF, allowF, errF]
  by_cases h : mostV v < c.val.size
  · rw [if_pos h, if_neg (by omega)]
  · rw [if_neg h, if_pos (by omega)]
theorem f5_eq (v : Int) (c : Cm) : txtR (hasF c.kind 5) c.old 0 (mostV v) 47 = faultF v c 5 := by
  unfold txtR faultF
  cases hasF c.kind 5 <;> simp [zeroF, allowF, errF]
  by_cases h : mostV v < c.old.size
  · rw [if_pos h, if_neg (by omega)]
  · rw [if_neg h, if_pos (by omega)]
theorem f6_eq (v : Int) (c : Cm) : nR c = faultF v c 6 := by
  unfold nR faultF
  cases hasF c.kind 6 <;> simp [zeroF, allowF]
/-- The first number that is not 0. -/
def first0 : List Nat → Nat
  | [] => 0
  | x :: r => if x = 0 then first0 r else x
theorem first0_eq (v : Int) (c : Cm) : first0 [numR (hasF c.kind 0) c.client 65535 42, numR (hasF c.kind 1) c.req 1073741824 43, txtR (hasF c.kind 2) c.key 1 64 44, key2R c, txtR (hasF c.kind 4) c.val 0 (mostV v) 46, txtR (hasF c.kind 5) c.old 0 (mostV v) 47, nR c] = firstF v c 7 0 := by
  rw [f0_eq v c, f1_eq v c, f2_eq v c, f3_eq v c, f4_eq v c, f5_eq v c, f6_eq v c]
  simp only [first0, firstF]
end Go.Wire1
