/- The contract of package record's fieldOf, a leaf a letter. -/
import Derived.Test.YtjpggmenbnkbbaaGreatDoorRows
import Derived.Test.YtjpggmenbnkbbaaGreatDoorBlk
import Derived.WalkLawsBesides
import Derived.Deep.Cut
namespace Go.Proofs.YtjpggmenbnkbbaaGreatDoor
open Go.RowKit Go.Wire1

set_option maxHeartbeats 4000000 in
set_option maxRecDepth 100000 in
theorem fieldOf_id (w : World) :
    Calls Tryz.prog 17 #[.int .i32 119] w fun e w' => e = .returned (.agg #[.func (.func 28) #[] #[], .func (.func 29) #[] #[]]) ∧ Below w.heap.size w w' := by
  obtain ⟨U, hU⟩ : ∃ U, U = w.alloc (.cells #[.nilFunc, .nilFunc] 54) := ⟨_, rfl⟩
  have BU : Hid (Below w.heap.size w U) := by rw [hU]; exact (Below.refl _ _).alloc (Nat.le_refl _) _
  have QU : Hid (Blk U w.heap.size [.nilFunc, .nilFunc]) := by rw [hU]; exact blk_new w 54 [.nilFunc, .nilFunc]
  have TH : Hid (U.there w.heap.size 0 2) := QU.out.there
  have R : Hid (Below w.heap.size w (U.setCells w.heap.size 0 [.func (.func 28) #[] #[], .func (.func 29) #[] #[]])) := below_cells (Nat.le_refl _) _ _ _ BU.out
  have RA : Hid ((U.setCells w.heap.size 0 [.func (.func 28) #[] #[], .func (.func 29) #[] #[]]).rangeAt w.heap.size 0 [.func (.func 28) #[] #[], .func (.func 29) #[] #[]]) := World.rangeAt_setCells_same _ _ _ _ TH.out
  go_enter Tryz.func17, Tryz.ntmps17
  go_upto_region 1 with fail
  rw [← hU]
  clear hU
  go_wp2_with (first | (refine wpList_store_mid rfl 54 _ _ rfl w.heap.size 0 #[.func (.func 28) #[] #[], .func (.func 29) #[] #[]] rfl rfl TH.out (by kernel_rfl) (by kernel_rfl) ?_))
  refine bodyPost_ret (results_cell_mid Tryz.results17 _ _ w.heap.size [.func (.func 28) #[] #[], .func (.func 29) #[] #[]] _ rfl RA.out Tryz.underlying54 rfl (by kernel_rfl)) rfl ⟨rfl, R.out⟩
set_option maxHeartbeats 4000000 in
set_option maxRecDepth 100000 in
theorem fieldOf_n (w : World) :
    Calls Tryz.prog 17 #[.int .i32 110] w fun e w' => e = .returned (.agg #[.func (.func 30) #[] #[], .func (.func 31) #[] #[]]) ∧ Below w.heap.size w w' := by
  obtain ⟨U, hU⟩ : ∃ U, U = w.alloc (.cells #[.nilFunc, .nilFunc] 54) := ⟨_, rfl⟩
  have BU : Hid (Below w.heap.size w U) := by rw [hU]; exact (Below.refl _ _).alloc (Nat.le_refl _) _
  have QU : Hid (Blk U w.heap.size [.nilFunc, .nilFunc]) := by rw [hU]; exact blk_new w 54 [.nilFunc, .nilFunc]
  have TH : Hid (U.there w.heap.size 0 2) := QU.out.there
  have R : Hid (Below w.heap.size w (U.setCells w.heap.size 0 [.func (.func 30) #[] #[], .func (.func 31) #[] #[]])) := below_cells (Nat.le_refl _) _ _ _ BU.out
  have RA : Hid ((U.setCells w.heap.size 0 [.func (.func 30) #[] #[], .func (.func 31) #[] #[]]).rangeAt w.heap.size 0 [.func (.func 30) #[] #[], .func (.func 31) #[] #[]]) := World.rangeAt_setCells_same _ _ _ _ TH.out
  go_enter Tryz.func17, Tryz.ntmps17
  go_upto_region 1 with fail
  rw [← hU]
  clear hU
  go_wp2_with (first | (refine wpList_store_mid rfl 54 _ _ rfl w.heap.size 0 #[.func (.func 30) #[] #[], .func (.func 31) #[] #[]] rfl rfl TH.out (by kernel_rfl) (by kernel_rfl) ?_))
  refine bodyPost_ret (results_cell_mid Tryz.results17 _ _ w.heap.size [.func (.func 30) #[] #[], .func (.func 31) #[] #[]] _ rfl RA.out Tryz.underlying54 rfl (by kernel_rfl)) rfl ⟨rfl, R.out⟩
set_option maxHeartbeats 4000000 in
set_option maxRecDepth 100000 in
theorem fieldOf_inst (w : World) :
    Calls Tryz.prog 17 #[.int .i32 105] w fun e w' => e = .returned (.agg #[.func (.func 32) #[] #[], .func (.func 33) #[] #[]]) ∧ Below w.heap.size w w' := by
  obtain ⟨U, hU⟩ : ∃ U, U = w.alloc (.cells #[.nilFunc, .nilFunc] 54) := ⟨_, rfl⟩
  have BU : Hid (Below w.heap.size w U) := by rw [hU]; exact (Below.refl _ _).alloc (Nat.le_refl _) _
  have QU : Hid (Blk U w.heap.size [.nilFunc, .nilFunc]) := by rw [hU]; exact blk_new w 54 [.nilFunc, .nilFunc]
  have TH : Hid (U.there w.heap.size 0 2) := QU.out.there
  have R : Hid (Below w.heap.size w (U.setCells w.heap.size 0 [.func (.func 32) #[] #[], .func (.func 33) #[] #[]])) := below_cells (Nat.le_refl _) _ _ _ BU.out
  have RA : Hid ((U.setCells w.heap.size 0 [.func (.func 32) #[] #[], .func (.func 33) #[] #[]]).rangeAt w.heap.size 0 [.func (.func 32) #[] #[], .func (.func 33) #[] #[]]) := World.rangeAt_setCells_same _ _ _ _ TH.out
  go_enter Tryz.func17, Tryz.ntmps17
  go_upto_region 1 with fail
  rw [← hU]
  clear hU
  go_wp2_with (first | (refine wpList_store_mid rfl 54 _ _ rfl w.heap.size 0 #[.func (.func 32) #[] #[], .func (.func 33) #[] #[]] rfl rfl TH.out (by kernel_rfl) (by kernel_rfl) ?_))
  refine bodyPost_ret (results_cell_mid Tryz.results17 _ _ w.heap.size [.func (.func 32) #[] #[], .func (.func 33) #[] #[]] _ rfl RA.out Tryz.underlying54 rfl (by kernel_rfl)) rfl ⟨rfl, R.out⟩
set_option maxHeartbeats 4000000 in
set_option maxRecDepth 100000 in
theorem fieldOf_bal (w : World) :
    Calls Tryz.prog 17 #[.int .i32 98] w fun e w' => e = .returned (.agg #[.func (.func 34) #[] #[], .func (.func 35) #[] #[]]) ∧ Below w.heap.size w w' := by
  obtain ⟨U, hU⟩ : ∃ U, U = w.alloc (.cells #[.nilFunc, .nilFunc] 54) := ⟨_, rfl⟩
  have BU : Hid (Below w.heap.size w U) := by rw [hU]; exact (Below.refl _ _).alloc (Nat.le_refl _) _
  have QU : Hid (Blk U w.heap.size [.nilFunc, .nilFunc]) := by rw [hU]; exact blk_new w 54 [.nilFunc, .nilFunc]
  have TH : Hid (U.there w.heap.size 0 2) := QU.out.there
  have R : Hid (Below w.heap.size w (U.setCells w.heap.size 0 [.func (.func 34) #[] #[], .func (.func 35) #[] #[]])) := below_cells (Nat.le_refl _) _ _ _ BU.out
  have RA : Hid ((U.setCells w.heap.size 0 [.func (.func 34) #[] #[], .func (.func 35) #[] #[]]).rangeAt w.heap.size 0 [.func (.func 34) #[] #[], .func (.func 35) #[] #[]]) := World.rangeAt_setCells_same _ _ _ _ TH.out
  go_enter Tryz.func17, Tryz.ntmps17
  go_upto_region 1 with fail
  rw [← hU]
  clear hU
  go_wp2_with (first | (refine wpList_store_mid rfl 54 _ _ rfl w.heap.size 0 #[.func (.func 34) #[] #[], .func (.func 35) #[] #[]] rfl rfl TH.out (by kernel_rfl) (by kernel_rfl) ?_))
  refine bodyPost_ret (results_cell_mid Tryz.results17 _ _ w.heap.size [.func (.func 34) #[] #[], .func (.func 35) #[] #[]] _ rfl RA.out Tryz.underlying54 rfl (by kernel_rfl)) rfl ⟨rfl, R.out⟩
set_option maxHeartbeats 4000000 in
set_option maxRecDepth 100000 in
theorem fieldOf_same (w : World) :
    Calls Tryz.prog 17 #[.int .i32 115] w fun e w' => e = .returned (.agg #[.func (.func 36) #[] #[], .func (.func 37) #[] #[]]) ∧ Below w.heap.size w w' := by
  obtain ⟨U, hU⟩ : ∃ U, U = w.alloc (.cells #[.nilFunc, .nilFunc] 54) := ⟨_, rfl⟩
  have BU : Hid (Below w.heap.size w U) := by rw [hU]; exact (Below.refl _ _).alloc (Nat.le_refl _) _
  have QU : Hid (Blk U w.heap.size [.nilFunc, .nilFunc]) := by rw [hU]; exact blk_new w 54 [.nilFunc, .nilFunc]
  have TH : Hid (U.there w.heap.size 0 2) := QU.out.there
  have R : Hid (Below w.heap.size w (U.setCells w.heap.size 0 [.func (.func 36) #[] #[], .func (.func 37) #[] #[]])) := below_cells (Nat.le_refl _) _ _ _ BU.out
  have RA : Hid ((U.setCells w.heap.size 0 [.func (.func 36) #[] #[], .func (.func 37) #[] #[]]).rangeAt w.heap.size 0 [.func (.func 36) #[] #[], .func (.func 37) #[] #[]]) := World.rangeAt_setCells_same _ _ _ _ TH.out
  go_enter Tryz.func17, Tryz.ntmps17
  go_upto_region 1 with fail
  rw [← hU]
  clear hU
  go_wp2_with (first | (refine wpList_store_mid rfl 54 _ _ rfl w.heap.size 0 #[.func (.func 36) #[] #[], .func (.func 37) #[] #[]] rfl rfl TH.out (by kernel_rfl) (by kernel_rfl) ?_))
  refine bodyPost_ret (results_cell_mid Tryz.results17 _ _ w.heap.size [.func (.func 36) #[] #[], .func (.func 37) #[] #[]] _ rfl RA.out Tryz.underlying54 rfl (by kernel_rfl)) rfl ⟨rfl, R.out⟩
set_option maxHeartbeats 4000000 in
set_option maxRecDepth 100000 in
theorem fieldOf_cmd (w : World) :
    Calls Tryz.prog 17 #[.int .i32 99] w fun e w' => e = .returned (.agg #[.func (.func 38) #[] #[], .func (.func 39) #[] #[]]) ∧ Below w.heap.size w w' := by
  obtain ⟨U, hU⟩ : ∃ U, U = w.alloc (.cells #[.nilFunc, .nilFunc] 54) := ⟨_, rfl⟩
  have BU : Hid (Below w.heap.size w U) := by rw [hU]; exact (Below.refl _ _).alloc (Nat.le_refl _) _
  have QU : Hid (Blk U w.heap.size [.nilFunc, .nilFunc]) := by rw [hU]; exact blk_new w 54 [.nilFunc, .nilFunc]
  have TH : Hid (U.there w.heap.size 0 2) := QU.out.there
  have R : Hid (Below w.heap.size w (U.setCells w.heap.size 0 [.func (.func 38) #[] #[], .func (.func 39) #[] #[]])) := below_cells (Nat.le_refl _) _ _ _ BU.out
  have RA : Hid ((U.setCells w.heap.size 0 [.func (.func 38) #[] #[], .func (.func 39) #[] #[]]).rangeAt w.heap.size 0 [.func (.func 38) #[] #[], .func (.func 39) #[] #[]]) := World.rangeAt_setCells_same _ _ _ _ TH.out
  go_enter Tryz.func17, Tryz.ntmps17
  go_upto_region 1 with fail
  rw [← hU]
  clear hU
  go_wp2_with (first | (refine wpList_store_mid rfl 54 _ _ rfl w.heap.size 0 #[.func (.func 38) #[] #[], .func (.func 39) #[] #[]] rfl rfl TH.out (by kernel_rfl) (by kernel_rfl) ?_))
  refine bodyPost_ret (results_cell_mid Tryz.results17 _ _ w.heap.size [.func (.func 38) #[] #[], .func (.func 39) #[] #[]] _ rfl RA.out Tryz.underlying54 rfl (by kernel_rfl)) rfl ⟨rfl, R.out⟩
set_option maxHeartbeats 4000000 in
set_option maxRecDepth 100000 in
theorem fieldOf_seq (w : World) :
    Calls Tryz.prog 17 #[.int .i32 113] w fun e w' => e = .returned (.agg #[.func (.func 40) #[] #[], .func (.func 41) #[] #[]]) ∧ Below w.heap.size w w' := by
  obtain ⟨U, hU⟩ : ∃ U, U = w.alloc (.cells #[.nilFunc, .nilFunc] 54) := ⟨_, rfl⟩
  have BU : Hid (Below w.heap.size w U) := by rw [hU]; exact (Below.refl _ _).alloc (Nat.le_refl _) _
  have QU : Hid (Blk U w.heap.size [.nilFunc, .nilFunc]) := by rw [hU]; exact blk_new w 54 [.nilFunc, .nilFunc]
  have TH : Hid (U.there w.heap.size 0 2) := QU.out.there
  have R : Hid (Below w.heap.size w (U.setCells w.heap.size 0 [.func (.func 40) #[] #[], .func (.func 41) #[] #[]])) := below_cells (Nat.le_refl _) _ _ _ BU.out
  have RA : Hid ((U.setCells w.heap.size 0 [.func (.func 40) #[] #[], .func (.func 41) #[] #[]]).rangeAt w.heap.size 0 [.func (.func 40) #[] #[], .func (.func 41) #[] #[]]) := World.rangeAt_setCells_same _ _ _ _ TH.out
  go_enter Tryz.func17, Tryz.ntmps17
  go_upto_region 1 with fail
  rw [← hU]
  clear hU
  go_wp2_with (first | (refine wpList_store_mid rfl 54 _ _ rfl w.heap.size 0 #[.func (.func 40) #[] #[], .func (.func 41) #[] #[]] rfl rfl TH.out (by kernel_rfl) (by kernel_rfl) ?_))
  refine bodyPost_ret (results_cell_mid Tryz.results17 _ _ w.heap.size [.func (.func 40) #[] #[], .func (.func 41) #[] #[]] _ rfl RA.out Tryz.underlying54 rfl (by kernel_rfl)) rfl ⟨rfl, R.out⟩
set_option maxHeartbeats 4000000 in
set_option maxRecDepth 100000 in
theorem fieldOf_deps (w : World) :
    Calls Tryz.prog 17 #[.int .i32 100] w fun e w' => e = .returned (.agg #[.func (.func 42) #[] #[], .func (.func 43) #[] #[]]) ∧ Below w.heap.size w w' := by
  obtain ⟨U, hU⟩ : ∃ U, U = w.alloc (.cells #[.nilFunc, .nilFunc] 54) := ⟨_, rfl⟩
  have BU : Hid (Below w.heap.size w U) := by rw [hU]; exact (Below.refl _ _).alloc (Nat.le_refl _) _
  have QU : Hid (Blk U w.heap.size [.nilFunc, .nilFunc]) := by rw [hU]; exact blk_new w 54 [.nilFunc, .nilFunc]
  have TH : Hid (U.there w.heap.size 0 2) := QU.out.there
  have R : Hid (Below w.heap.size w (U.setCells w.heap.size 0 [.func (.func 42) #[] #[], .func (.func 43) #[] #[]])) := below_cells (Nat.le_refl _) _ _ _ BU.out
  have RA : Hid ((U.setCells w.heap.size 0 [.func (.func 42) #[] #[], .func (.func 43) #[] #[]]).rangeAt w.heap.size 0 [.func (.func 42) #[] #[], .func (.func 43) #[] #[]]) := World.rangeAt_setCells_same _ _ _ _ TH.out
  go_enter Tryz.func17, Tryz.ntmps17
  go_upto_region 1 with fail
  rw [← hU]
  clear hU
  go_wp2_with (first | (refine wpList_store_mid rfl 54 _ _ rfl w.heap.size 0 #[.func (.func 42) #[] #[], .func (.func 43) #[] #[]] rfl rfl TH.out (by kernel_rfl) (by kernel_rfl) ?_))
  refine bodyPost_ret (results_cell_mid Tryz.results17 _ _ w.heap.size [.func (.func 42) #[] #[], .func (.func 43) #[] #[]] _ rfl RA.out Tryz.underlying54 rfl (by kernel_rfl)) rfl ⟨rfl, R.out⟩
theorem field_0 (f g : Value) (W : World) : (Instr.field 54 (.agg #[f, g]) 0).run Tryz.prog W = .ok f W := by kernel_rfl
theorem field_1 (f g : Value) (W : World) : (Instr.field 54 (.agg #[f, g]) 1).run Tryz.prog W = .ok g W := by kernel_rfl
end Go.Proofs.YtjpggmenbnkbbaaGreatDoor
