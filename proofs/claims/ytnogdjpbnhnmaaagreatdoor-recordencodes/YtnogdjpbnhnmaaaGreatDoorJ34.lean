/- Texts of the proof, joined. -/
import Derived.Test.YtnogdjpbnhnmaaaGreatDoorJ05
import Derived.Test.YtnogdjpbnhnmaaaGreatDoorJ12
import Derived.Test.YtnogdjpbnhnmaaaGreatDoorJ31
import Derived.Test.YtnogdjpbnhnmaaaGreatDoorJ33
import Derived.Deep.Cut
/- The contracts of the document's own Width and Entries; one more int onto a row of our own. -/
namespace Go.Proofs.YtnogdjpbnhnmaaaGreatDoor
open Go.RowKit Go.Wire1

set_option maxRecDepth 100000 in
theorem width_any (a : Option Addr) (n cap : Nat) (w : World) (hn : n ≤ maxLen) :
    Calls Tryz.prog 68 #[.slice a n cap] w fun e w' => e = .returned (.bool (okW n)) ∧ w = w' := by
  unfold maxLen at hn
  by_cases h1 : (1 : Int) ≤ (n : Int)
  · by_cases h2 : (n : Int) ≤ 7
    · have HQ : Hid (okW n = true) := decide_eq_true (by omega)
      go_enter Tryz.func68, Tryz.ntmps68
      go_wp2
      go_ret
      exact ⟨by rw [HQ.out]; rfl, rfl⟩
    · have HQ : Hid (okW n = false) := decide_eq_false (by omega)
      go_enter Tryz.func68, Tryz.ntmps68
      go_wp2
      go_ret
      exact ⟨by rw [HQ.out]; rfl, rfl⟩
  · have HQ : Hid (okW n = false) := decide_eq_false (by omega)
    go_enter Tryz.func68, Tryz.ntmps68
    go_wp2
    go_ret
    exact ⟨by rw [HQ.out]; rfl, rfl⟩

set_option maxHeartbeats 400000 in
set_option maxRecDepth 100000 in
theorem entries_any (a : Option Addr) (n cap : Nat) (l : List Int) (w : World) (h : SegI w a n l) :
    Calls Tryz.prog 69 #[.slice a n cap] w fun e w' => e = .returned (.bool (okL l)) ∧ w = w' := by
  obtain ⟨hn, hn', ha, -⟩ := h
  have HN : Hid (l.length = n) := hn
  unfold maxLen at hn'
  clear hn
  go_enter Tryz.func69, Tryz.ntmps69
  go_wp2
  go_loop [3] (fun i => ∃ k : Nat, i = .int .i64 (k : Int) ∧ k ≤ n ∧ Hid (okL (l.take k) = true)) (fun i => n - (intOf i).toNat)
  case atStart => exact ⟨0, rfl, Nat.zero_le _, rfl⟩
  case round =>
    obtain ⟨k, rfl, hk, HT⟩ := hrel
    by_cases hlt : k < n
    · obtain ⟨ba, oa, rfl, hca⟩ := ha (by omega)
      have ca := hca k hlt
      clear ha hca
      by_cases h0 : l.getD k 0 < 0
      · have HS : Hid (okL l = false) := okL_no (k := k) (by have := HN.out; omega) (by omega)
        generalize l.getD k 0 = c at *
        go_wp2
        go_ret
        exact ⟨by rw [HS.out]; rfl, rfl⟩
      · by_cases h1 : 1048576 < l.getD k 0
        · have HS : Hid (okL l = false) := okL_no (k := k) (by have := HN.out; omega) (by omega)
          generalize l.getD k 0 = c at *
          go_wp2
          go_ret
          exact ⟨by rw [HS.out]; rfl, rfl⟩
        · have HT' : Hid (okL (l.take (k + 1)) = true) := okL_step (by have := HN.out; omega) HT.out (by omega)
          generalize l.getD k 0 = c at *
          go_wp2
          go_round
          case rel => exact ⟨k + 1, by go_num, by omega, HT'⟩
          case measure => simp [intOf]; omega
    · have HS : Hid (okL l = true) := by show _ = _; have := HT.out; rwa [List.take_of_length_le (by have := HN.out; omega)] at this
      go_wp2
      go_ret
      exact ⟨by rw [HS.out]; rfl, rfl⟩
end Go.Proofs.YtnogdjpbnhnmaaaGreatDoor
/- The contracts of the document's own parts of record.Check: which fields a kind has, what is extra, the bounds. -/
namespace Go.Proofs.YtnogdjpbnhnmaaaGreatDoor
open Go.RowKit Go.Wire1

def hasIB (k : Nat) : Bool := k != 1
def hasBB (k : Nat) : Bool := (k == 2) || ((k == 3) || (k == 4))
def hasCB (k : Nat) : Bool := (k == 3) || ((k == 4) || (k == 5))
theorem five {k : Nat} (h1 : 1 ≤ k) (h5 : k ≤ 5) : k = 1 ∨ k = 2 ∨ k = 3 ∨ k = 4 ∨ k = 5 := by omega
set_option maxHeartbeats 1000000 in
set_option maxRecDepth 100000 in
theorem refHasInst_any (k : Nat) (w : World) (h1 : 1 ≤ k) (h5 : k ≤ 5) :
    Calls Tryz.prog 97 #[.int .i64 (k : Int)] w fun e w' => e = .returned (.bool (hasIB k)) ∧ w = w' := by
  rcases five h1 h5 with rfl | rfl | rfl | rfl | rfl <;>
  · go_enter Tryz.func97, Tryz.ntmps97
    go_wp2
    go_ret
    exact ⟨rfl, rfl⟩
set_option maxHeartbeats 1000000 in
set_option maxRecDepth 100000 in
theorem refHasBal_any (k : Nat) (w : World) (h1 : 1 ≤ k) (h5 : k ≤ 5) :
    Calls Tryz.prog 29 #[.int .i64 (k : Int)] w fun e w' => e = .returned (.bool (hasBB k)) ∧ w = w' := by
  rcases five h1 h5 with rfl | rfl | rfl | rfl | rfl <;>
  · go_enter Tryz.func29, Tryz.ntmps29
    go_wp2
    go_ret
    exact ⟨rfl, rfl⟩
set_option maxHeartbeats 1000000 in
set_option maxRecDepth 100000 in
theorem refHasCmd_any (k : Nat) (w : World) (h1 : 1 ≤ k) (h5 : k ≤ 5) :
    Calls Tryz.prog 30 #[.int .i64 (k : Int)] w fun e w' => e = .returned (.bool (hasCB k)) ∧ w = w' := by
  rcases five h1 h5 with rfl | rfl | rfl | rfl | rfl <;>
  · go_enter Tryz.func30, Tryz.ntmps30
    go_wp2
    go_ret
    exact ⟨rfl, rfl⟩

set_option maxHeartbeats 1000000 in
set_option maxRecDepth 100000 in
theorem refVector_any (a : Option Addr) (n cap : Nat) (l : List Int) (w : World) (h : SegI w a n l) :
    Calls Tryz.prog 137 #[.slice a n cap] w fun e w' => e = .returned (.bool (isVec l)) ∧ w = w' := by
  have HS : Hid (SegI w a n l) := h
  have HQ : Hid (isVec l = (okW n && okL l)) := by show _ = _; unfold isVec; rw [h.1]
  have hm := h.2.1
  clear h
  go_enter Tryz.func137, Tryz.ntmps137
  go_wp2_with fail
  refine (width_any _ _ _ _ hm).mono ?_
  rintro e w' ⟨rfl, rfl⟩
  go_wp2_with fail
  refine (entries_any _ _ _ l _ HS.out).mono ?_
  rintro e w' ⟨rfl, rfl⟩
  generalize okW n = x at *
  generalize okL l = y at *
  cases x <;> cases y <;>
  · go_wp2
    go_ret
    exact ⟨by rw [HQ.out]; rfl, rfl⟩
def soundB (n : Int) (l : List Int) : Bool := isVec l && ((l.length : Int) == n)
set_option maxHeartbeats 1000000 in
set_option maxRecDepth 100000 in
theorem refSound_any (k : Int) (a : Option Addr) (n cap : Nat) (l : List Int) (w : World) (h : SegI w a n l) :
    Calls Tryz.prog 105 #[.int .i64 k, .slice a n cap] w fun e w' => e = .returned (.bool (soundB k l)) ∧ w = w' := by
  have HS : Hid (SegI w a n l) := h
  have HQ : Hid (soundB k l = (isVec l && ((n : Int) == k))) := by show _ = _; unfold soundB; rw [h.1]
  clear h
  go_enter Tryz.func105, Tryz.ntmps105
  go_wp2_with fail
  refine (refVector_any _ _ _ l _ HS.out).mono ?_
  rintro e w' ⟨rfl, rfl⟩
  generalize isVec l = x at *
  cases x <;>
  · go_wp2
    go_ret
    exact ⟨by rw [HQ.out]; rfl, rfl⟩
def allZ (l : List Int) : Bool := l.all fun x => x == 0
set_option maxHeartbeats 1000000 in
set_option maxRecDepth 100000 in
theorem refAllZero_any (a : Option Addr) (n cap : Nat) (l : List Int) (w : World) (h : SegI w a n l) :
    Calls Tryz.prog 106 #[.slice a n cap] w fun e w' => e = .returned (.bool (allZ l)) ∧ w = w' := by
  obtain ⟨hn, hn', ha, -⟩ := h
  have HN : Hid (l.length = n) := hn
  unfold maxLen at hn'
  clear hn
  go_enter Tryz.func106, Tryz.ntmps106
  go_wp2
  go_loop [3] (fun i => ∃ k : Nat, i = .int .i64 (k : Int) ∧ k ≤ n ∧ Hid (allZ (l.take k) = true)) (fun i => n - (intOf i).toNat)
  case atStart => exact ⟨0, rfl, Nat.zero_le _, rfl⟩
  case round =>
    obtain ⟨k, rfl, hk, HT⟩ := hrel
    by_cases hlt : k < n
    · obtain ⟨ba, oa, rfl, hca⟩ := ha (by omega)
      have ca := hca k hlt
      have hkl : Hid (k < l.length) := by show _ < _; have := HN.out; omega
      clear ha hca
      by_cases h0 : l.getD k 0 = 0
      · have HT' : Hid (allZ (l.take (k + 1)) = true) := by
          show _ = _
          unfold allZ
          rw [take_next hkl.out, List.all_append, show (l.take k).all (fun x => x == 0) = true from HT.out]
          simpa using h0
        have e0 : (l.getD k 0 != 0) = false := by simpa using h0
        clear h0
        generalize l.getD k 0 = c at *
        go_wp2
        go_round
        case rel => exact ⟨k + 1, by go_num, by omega, HT'⟩
        case measure => simp [intOf]; omega
      · have HS : Hid (allZ l = false) := by
          show _ = _
          rw [Bool.eq_false_iff]
          intro e
          have := List.all_eq_true.1 e (l.getD k 0) (by rw [List.getD, List.getElem?_eq_getElem hkl.out]; exact List.getElem_mem hkl.out)
          exact h0 (by simpa using this)
        have e0 : (l.getD k 0 != 0) = true := by simpa using h0
        clear h0
        generalize l.getD k 0 = c at *
        go_wp2
        go_ret
        exact ⟨by rw [HS.out]; rfl, rfl⟩
    · have HS : Hid (allZ l = true) := by show _ = _; have := HT.out; rwa [List.take_of_length_le (by have := HN.out; omega)] at this
      go_wp2
      go_ret
      exact ⟨by rw [HS.out]; rfl, rfl⟩

theorem same_zero (c : Cm) : sameC c ⟨0, 0, 0, ⟨#[]⟩, ⟨#[]⟩, ⟨#[]⟩, ⟨#[]⟩, 0⟩ = zeroCm c := by
  have e : ∀ s : ByteArray, teq s ⟨#[]⟩ = s.toList.isEmpty := fun s => by
    unfold teq
    rw [show (⟨#[]⟩ : ByteArray).toList = [] by rw [ByteArray.toList_eq]]
    cases h : s.toList <;> rfl
  unfold sameC zeroCm
  simp only [e]
  cases c.kind == 0 <;> cases c.client == 0 <;> cases c.req == 0 <;> cases c.n == 0 <;> cases c.key.toList.isEmpty <;> cases c.key2.toList.isEmpty <;> cases c.val.toList.isEmpty <;> cases c.old.toList.isEmpty <;> rfl
end Go.Proofs.YtnogdjpbnhnmaaaGreatDoor
