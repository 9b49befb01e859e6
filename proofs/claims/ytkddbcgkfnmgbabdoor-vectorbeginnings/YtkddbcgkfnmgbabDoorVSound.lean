/- The contract of the statements' own sound. -/
import Derived.Test.YtkddbcgkfnmgbabDoorVInts
namespace Go.Proofs.YtkddbcgkfnmgbabDoor
open Go.RowKit Go.Wire1

set_option maxHeartbeats 400000 in
set_option maxRecDepth 100000 in
theorem sound_any (a : Option Addr) (n cap : Nat) (l : List Int) (w : World) (h : SegI w a n l) :
    Calls Tryd.prog 10 #[.slice a n cap] w fun e w' => e = .returned (.bool (isVec l)) ∧ w = w' := by
  obtain ⟨hn, hn', ha, -⟩ := h
  have HN : Hid (l.length = n) := hn
  have HF : Hid (isVec l = (okW n && okL l)) := by show _ = _; unfold isVec; rw [hn]
  unfold maxLen at hn'
  clear hn
  by_cases h1 : (n : Int) < 1
  · have HQ : Hid (isVec l = false) := by show _ = _; rw [HF.out, show okW n = false from decide_eq_false (by omega)]; rfl
    clear ha
    go_enter Tryd.func10, Tryd.ntmps10
    go_wp2
    go_ret
    exact ⟨by rw [HQ.out]; rfl, rfl⟩
  · by_cases h2 : 7 < (n : Int)
    · have HQ : Hid (isVec l = false) := by show _ = _; rw [HF.out, show okW n = false from decide_eq_false (by omega)]; rfl
      clear ha
      go_enter Tryd.func10, Tryd.ntmps10
      go_wp2
      go_ret
      exact ⟨by rw [HQ.out]; rfl, rfl⟩
    · have HQ : Hid (isVec l = okL l) := by show _ = _; rw [HF.out, show okW n = true from decide_eq_true (by omega)]; rfl
      have d1 : decide ((n : Int) < 1) = false := decide_eq_false h1
      have d2 : decide ((7 : Int) < (n : Int)) = false := decide_eq_false h2
      go_enter Tryd.func10, Tryd.ntmps10
      go_wp2
      go_loop [3] (fun i => ∃ k : Nat, i = .int .i64 (k : Int) ∧ k ≤ n ∧ Hid (okL (l.take k) = true)) (fun i => n - (intOf i).toNat)
      case atStart => exact ⟨0, rfl, Nat.zero_le _, rfl⟩
      case round =>
        obtain ⟨k, rfl, hk, HT⟩ := hrel
        by_cases hlt : k < n
        · obtain ⟨ba, oa, rfl, hca⟩ := ha (by omega)
          have ca := hca k hlt
          clear ha hca
          by_cases h0 : l.getD k 0 < 0
          · have HS : Hid (isVec l = false) := by show _ = _; rw [HQ.out]; exact okL_no (k := k) (by have := HN.out; omega) (by omega)
            generalize l.getD k 0 = c at *
            go_wp2
            go_ret
            exact ⟨by rw [HS.out]; rfl, rfl⟩
          · by_cases h1 : 1048576 < l.getD k 0
            · have HS : Hid (isVec l = false) := by show _ = _; rw [HQ.out]; exact okL_no (k := k) (by have := HN.out; omega) (by omega)
              generalize l.getD k 0 = c at *
              go_wp2
              go_ret
              exact ⟨by rw [HS.out]; rfl, rfl⟩
            · have HT' : Hid (okL (l.take (k + 1)) = true) := okL_step (by have := HN.out; omega) HT.out (by omega)
              generalize l.getD k 0 = c at *
              go_wp2
              go_round
              case rel => exact ⟨k + 1, by go_num, by omega, HT'⟩
              case measure => simp [intOf]; omega
        · have HS : Hid (isVec l = true) := by show _ = _; rw [HQ.out]; have := HT.out; rwa [List.take_of_length_le (by have := HN.out; omega)] at this
          go_wp2
          go_ret
          exact ⟨by rw [HS.out]; rfl, rfl⟩
end Go.Proofs.YtkddbcgkfnmgbabDoor
