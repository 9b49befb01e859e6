/- Texts of the proof, joined. -/
import Derived.Test.YtbdkelffncmkhaaGreatDoorJ28
/- The contracts of callFault and layoutOf. -/
namespace Go.Proofs.YtbdkelffncmkhaaGreatDoor
open Go.RowKit Go.Wire1

def callF (v n : Int) : Int := if v = 1 ∨ v = 2 then (if 1 ≤ n ∧ n ≤ 7 then 0 else 3) else 2
set_option maxHeartbeats 1000000 in
set_option maxRecDepth 100000 in
theorem callFault_any (v n : Int) (w : World) : Calls Tryz.prog 12 #[.int .i64 v, .int .i64 n] w fun r w' => r = .returned (.int .i64 (callF v n)) ∧ w = w' := by
  by_cases h1 : v = 1
  · subst h1
    by_cases h3 : n < 1
    · have E : Hid (callF 1 n = 3) := by show _ = _; unfold callF; rw [if_pos (by omega), if_neg (by omega)]
      go_enter Tryz.func12, Tryz.ntmps12
      go_wp2
      go_ret
      exact ⟨by rw [E.out]; rfl, rfl⟩
    · by_cases h4 : 7 < n
      · have E : Hid (callF 1 n = 3) := by show _ = _; unfold callF; rw [if_pos (by omega), if_neg (by omega)]
        go_enter Tryz.func12, Tryz.ntmps12
        go_wp2
        go_ret
        exact ⟨by rw [E.out]; rfl, rfl⟩
      · have E : Hid (callF 1 n = 0) := by show _ = _; unfold callF; rw [if_pos (by omega), if_pos (by omega)]
        go_enter Tryz.func12, Tryz.ntmps12
        go_wp2
        go_ret
        exact ⟨by rw [E.out]; rfl, rfl⟩
  · have q1 : (v != 1) = true := by rw [bne_iff_ne]; exact h1
    by_cases h2 : v = 2
    · subst h2
      by_cases h3 : n < 1
      · have E : Hid (callF 2 n = 3) := by show _ = _; unfold callF; rw [if_pos (by omega), if_neg (by omega)]
        go_enter Tryz.func12, Tryz.ntmps12
        go_wp2
        go_ret
        exact ⟨by rw [E.out]; rfl, rfl⟩
      · by_cases h4 : 7 < n
        · have E : Hid (callF 2 n = 3) := by show _ = _; unfold callF; rw [if_pos (by omega), if_neg (by omega)]
          go_enter Tryz.func12, Tryz.ntmps12
          go_wp2
          go_ret
          exact ⟨by rw [E.out]; rfl, rfl⟩
        · have E : Hid (callF 2 n = 0) := by show _ = _; unfold callF; rw [if_pos (by omega), if_pos (by omega)]
          go_enter Tryz.func12, Tryz.ntmps12
          go_wp2
          go_ret
          exact ⟨by rw [E.out]; rfl, rfl⟩
    · have q2 : (v != 2) = true := by rw [bne_iff_ne]; exact h2
      have E : Hid (callF v n = 2) := by show _ = _; unfold callF; rw [if_neg (by omega)]
      clear h1 h2
      go_enter Tryz.func12, Tryz.ntmps12
      go_wp2
      go_ret
      exact ⟨by rw [E.out]; rfl, rfl⟩

/-- A layout's cells. -/
def lyc1 : List Value := [.int .i64 1, .func (.func 24) #[] #[], .func (.func 25) #[] #[], .func (.func 26) #[] #[], .func (.func 27) #[] #[], .func (.func 28) #[] #[], .func (.func 29) #[] #[]]
def lyc2 : List Value := [.int .i64 2, .func (.func 30) #[] #[], .func (.func 31) #[] #[], .func (.func 32) #[] #[], .func (.func 33) #[] #[], .func (.func 34) #[] #[], .func (.func 35) #[] #[]]
set_option maxHeartbeats 1000000 in
set_option maxRecDepth 100000 in
theorem layout1 (w : World) : Calls Tryz.prog 13 #[.int .i64 1] w fun r w' => r = .returned (.agg lyc1.toArray) ∧ Below w.heap.size w w' := by
  have QZ : Hid (Blk (w.alloc (.cells #[.int .i64 0, .nilFunc, .nilFunc, .nilFunc, .nilFunc, .nilFunc, .nilFunc] 54)) w.heap.size [.int .i64 0, .nilFunc, .nilFunc, .nilFunc, .nilFunc, .nilFunc, .nilFunc]) := blk_new w 54 [.int .i64 0, .nilFunc, .nilFunc, .nilFunc, .nilFunc, .nilFunc, .nilFunc]
  have TZ : Hid ((w.alloc (.cells #[.int .i64 0, .nilFunc, .nilFunc, .nilFunc, .nilFunc, .nilFunc, .nilFunc] 54)).there w.heap.size 0 7) := QZ.out.there
  have BY : Hid (Below w.heap.size w ((w.alloc (.cells #[.int .i64 0, .nilFunc, .nilFunc, .nilFunc, .nilFunc, .nilFunc, .nilFunc] 54)).setCells w.heap.size 0 lyc1)) := below_cells (Nat.le_refl _) _ _ _ ((Below.refl _ _).alloc (Nat.le_refl _) _)
  have RA : Hid (((w.alloc (.cells #[.int .i64 0, .nilFunc, .nilFunc, .nilFunc, .nilFunc, .nilFunc, .nilFunc] 54)).setCells w.heap.size 0 lyc1).rangeAt w.heap.size 0 lyc1) := (blk_cells (vs := lyc1) QZ.out rfl).range
  go_enter Tryz.func13, Tryz.ntmps13
  go_upto_region 2 with fail
  go_wp2_with (first | (refine wpList_store_mid rfl 54 _ _ rfl w.heap.size 0 #[.int .i64 1, .func (.func 24) #[] #[], .func (.func 25) #[] #[], .func (.func 26) #[] #[], .func (.func 27) #[] #[], .func (.func 28) #[] #[], .func (.func 29) #[] #[]] rfl rfl TZ.out (by kernel_rfl) (by kernel_rfl) ?_))
  refine bodyPost_ret (results_cell_mid Tryz.results13 _ _ w.heap.size lyc1 _ rfl RA.out Tryz.underlying54 rfl (by kernel_rfl)) rfl ?_
  exact ⟨rfl, BY.out⟩
set_option maxHeartbeats 1000000 in
set_option maxRecDepth 100000 in
theorem layout2 (v : Int) (hv : v ≠ 1) (w : World) : Calls Tryz.prog 13 #[.int .i64 v] w fun r w' => r = .returned (.agg lyc2.toArray) ∧ Below w.heap.size w w' := by
  have q1 : (v == 1) = false := by rw [beq_eq_false_iff_ne]; exact hv
  clear hv
  have QZ : Hid (Blk (w.alloc (.cells #[.int .i64 0, .nilFunc, .nilFunc, .nilFunc, .nilFunc, .nilFunc, .nilFunc] 54)) w.heap.size [.int .i64 0, .nilFunc, .nilFunc, .nilFunc, .nilFunc, .nilFunc, .nilFunc]) := blk_new w 54 [.int .i64 0, .nilFunc, .nilFunc, .nilFunc, .nilFunc, .nilFunc, .nilFunc]
  have TZ : Hid ((w.alloc (.cells #[.int .i64 0, .nilFunc, .nilFunc, .nilFunc, .nilFunc, .nilFunc, .nilFunc] 54)).there w.heap.size 0 7) := QZ.out.there
  have BY : Hid (Below w.heap.size w ((w.alloc (.cells #[.int .i64 0, .nilFunc, .nilFunc, .nilFunc, .nilFunc, .nilFunc, .nilFunc] 54)).setCells w.heap.size 0 lyc2)) := below_cells (Nat.le_refl _) _ _ _ ((Below.refl _ _).alloc (Nat.le_refl _) _)
  have RA : Hid (((w.alloc (.cells #[.int .i64 0, .nilFunc, .nilFunc, .nilFunc, .nilFunc, .nilFunc, .nilFunc] 54)).setCells w.heap.size 0 lyc2).rangeAt w.heap.size 0 lyc2) := (blk_cells (vs := lyc2) QZ.out rfl).range
  go_enter Tryz.func13, Tryz.ntmps13
  go_upto_region 3 with fail
  go_wp2_with (first | (refine wpList_store_mid rfl 54 _ _ rfl w.heap.size 0 #[.int .i64 2, .func (.func 30) #[] #[], .func (.func 31) #[] #[], .func (.func 32) #[] #[], .func (.func 33) #[] #[], .func (.func 34) #[] #[], .func (.func 35) #[] #[]] rfl rfl TZ.out (by kernel_rfl) (by kernel_rfl) ?_))
  refine bodyPost_ret (results_cell_mid Tryz.results13 _ _ w.heap.size lyc2 _ rfl RA.out Tryz.underlying54 rfl (by kernel_rfl)) rfl ?_
  exact ⟨rfl, BY.out⟩
end Go.Proofs.YtbdkelffncmkhaaGreatDoor
