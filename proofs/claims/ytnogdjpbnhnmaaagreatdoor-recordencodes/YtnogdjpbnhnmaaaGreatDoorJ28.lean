/- Texts of the proof, joined. -/
import Derived.Test.YtnogdjpbnhnmaaaGreatDoorRows
import Derived.Test.YtnogdjpbnhnmaaaGreatDoorJ03
import Derived.WalkLawsBesides
import Derived.Deep.Cut
/- The contract of package record's fieldOf, a leaf a letter. -/
namespace Go.Proofs.YtnogdjpbnhnmaaaGreatDoor
open Go.RowKit Go.Wire1

set_option maxHeartbeats 4000000 in
set_option maxRecDepth 100000 in
theorem fieldOf_id (w : World) :
    Calls Tryz.prog 26 #[.int .i32 119] w fun e w' => e = .returned (.agg #[.func (.func 44) #[] #[], .func (.func 45) #[] #[]]) ∧ Below w.heap.size w w' := by
  obtain ⟨U, hU⟩ : ∃ U, U = w.alloc (.cells #[.nilFunc, .nilFunc] 71) := ⟨_, rfl⟩
  have BU : Hid (Below w.heap.size w U) := by rw [hU]; exact (Below.refl _ _).alloc (Nat.le_refl _) _
  have QU : Hid (Blk U w.heap.size [.nilFunc, .nilFunc]) := by rw [hU]; exact blk_new w 71 [.nilFunc, .nilFunc]
  have TH : Hid (U.there w.heap.size 0 2) := QU.out.there
  have R : Hid (Below w.heap.size w (U.setCells w.heap.size 0 [.func (.func 44) #[] #[], .func (.func 45) #[] #[]])) := below_cells (Nat.le_refl _) _ _ _ BU.out
  have RA : Hid ((U.setCells w.heap.size 0 [.func (.func 44) #[] #[], .func (.func 45) #[] #[]]).rangeAt w.heap.size 0 [.func (.func 44) #[] #[], .func (.func 45) #[] #[]]) := World.rangeAt_setCells_same _ _ _ _ TH.out
  go_enter Tryz.func26, Tryz.ntmps26
  go_upto_region 1 with fail
  rw [← hU]
  clear hU
  go_wp2_with (first | (refine wpList_store_mid rfl 71 _ _ rfl w.heap.size 0 #[.func (.func 44) #[] #[], .func (.func 45) #[] #[]] rfl rfl TH.out (by kernel_rfl) (by kernel_rfl) ?_))
  refine bodyPost_ret (results_cell_mid Tryz.results26 _ _ w.heap.size [.func (.func 44) #[] #[], .func (.func 45) #[] #[]] _ rfl RA.out Tryz.underlying71 rfl (by kernel_rfl)) rfl ⟨rfl, R.out⟩
set_option maxHeartbeats 4000000 in
set_option maxRecDepth 100000 in
theorem fieldOf_n (w : World) :
    Calls Tryz.prog 26 #[.int .i32 110] w fun e w' => e = .returned (.agg #[.func (.func 46) #[] #[], .func (.func 47) #[] #[]]) ∧ Below w.heap.size w w' := by
  obtain ⟨U, hU⟩ : ∃ U, U = w.alloc (.cells #[.nilFunc, .nilFunc] 71) := ⟨_, rfl⟩
  have BU : Hid (Below w.heap.size w U) := by rw [hU]; exact (Below.refl _ _).alloc (Nat.le_refl _) _
  have QU : Hid (Blk U w.heap.size [.nilFunc, .nilFunc]) := by rw [hU]; exact blk_new w 71 [.nilFunc, .nilFunc]
  have TH : Hid (U.there w.heap.size 0 2) := QU.out.there
  have R : Hid (Below w.heap.size w (U.setCells w.heap.size 0 [.func (.func 46) #[] #[], .func (.func 47) #[] #[]])) := below_cells (Nat.le_refl _) _ _ _ BU.out
  have RA : Hid ((U.setCells w.heap.size 0 [.func (.func 46) #[] #[], .func (.func 47) #[] #[]]).rangeAt w.heap.size 0 [.func (.func 46) #[] #[], .func (.func 47) #[] #[]]) := World.rangeAt_setCells_same _ _ _ _ TH.out
  go_enter Tryz.func26, Tryz.ntmps26
  go_upto_region 1 with fail
  rw [← hU]
  clear hU
  go_wp2_with (first | (refine wpList_store_mid rfl 71 _ _ rfl w.heap.size 0 #[.func (.func 46) #[] #[], .func (.func 47) #[] #[]] rfl rfl TH.out (by kernel_rfl) (by kernel_rfl) ?_))
  refine bodyPost_ret (results_cell_mid Tryz.results26 _ _ w.heap.size [.func (.func 46) #[] #[], .func (.func 47) #[] #[]] _ rfl RA.out Tryz.underlying71 rfl (by kernel_rfl)) rfl ⟨rfl, R.out⟩
set_option maxHeartbeats 4000000 in
set_option maxRecDepth 100000 in
theorem fieldOf_inst (w : World) :
    Calls Tryz.prog 26 #[.int .i32 105] w fun e w' => e = .returned (.agg #[.func (.func 48) #[] #[], .func (.func 49) #[] #[]]) ∧ Below w.heap.size w w' := by
  obtain ⟨U, hU⟩ : ∃ U, U = w.alloc (.cells #[.nilFunc, .nilFunc] 71) := ⟨_, rfl⟩
  have BU : Hid (Below w.heap.size w U) := by rw [hU]; exact (Below.refl _ _).alloc (Nat.le_refl _) _
  have QU : Hid (Blk U w.heap.size [.nilFunc, .nilFunc]) := by rw [hU]; exact blk_new w 71 [.nilFunc, .nilFunc]
  have TH : Hid (U.there w.heap.size 0 2) := QU.out.there
  have R : Hid (Below w.heap.size w (U.setCells w.heap.size 0 [.func (.func 48) #[] #[], .func (.func 49) #[] #[]])) := below_cells (Nat.le_refl _) _ _ _ BU.out
  have RA : Hid ((U.setCells w.heap.size 0 [.func (.func 48) #[] #[], .func (.func 49) #[] #[]]).rangeAt w.heap.size 0 [.func (.func 48) #[] #[], .func (.func 49) #[] #[]]) := World.rangeAt_setCells_same _ _ _ _ TH.out
  go_enter Tryz.func26, Tryz.ntmps26
  go_upto_region 1 with fail
  rw [← hU]
  clear hU
  go_wp2_with (first | (refine wpList_store_mid rfl 71 _ _ rfl w.heap.size 0 #[.func (.func 48) #[] #[], .func (.func 49) #[] #[]] rfl rfl TH.out (by kernel_rfl) (by kernel_rfl) ?_))
  refine bodyPost_ret (results_cell_mid Tryz.results26 _ _ w.heap.size [.func (.func 48) #[] #[], .func (.func 49) #[] #[]] _ rfl RA.out Tryz.underlying71 rfl (by kernel_rfl)) rfl ⟨rfl, R.out⟩
set_option maxHeartbeats 4000000 in
set_option maxRecDepth 100000 in
theorem fieldOf_bal (w : World) :
    Calls Tryz.prog 26 #[.int .i32 98] w fun e w' => e = .returned (.agg #[.func (.func 50) #[] #[], .func (.func 51) #[] #[]]) ∧ Below w.heap.size w w' := by
  obtain ⟨U, hU⟩ : ∃ U, U = w.alloc (.cells #[.nilFunc, .nilFunc] 71) := ⟨_, rfl⟩
  have BU : Hid (Below w.heap.size w U) := by rw [hU]; exact (Below.refl _ _).alloc (Nat.le_refl _) _
  have QU : Hid (Blk U w.heap.size [.nilFunc, .nilFunc]) := by rw [hU]; exact blk_new w 71 [.nilFunc, .nilFunc]
  have TH : Hid (U.there w.heap.size 0 2) := QU.out.there
  have R : Hid (Below w.heap.size w (U.setCells w.heap.size 0 [.func (.func 50) #[] #[], .func (.func 51) #[] #[]])) := below_cells (Nat.le_refl _) _ _ _ BU.out
  have RA : Hid ((U.setCells w.heap.size 0 [.func (.func 50) #[] #[], .func (.func 51) #[] #[]]).rangeAt w.heap.size 0 [.func (.func 50) #[] #[], .func (.func 51) #[] #[]]) := World.rangeAt_setCells_same _ _ _ _ TH.out
  go_enter Tryz.func26, Tryz.ntmps26
  go_upto_region 1 with fail
  rw [← hU]
  clear hU
  go_wp2_with (first | (refine wpList_store_mid rfl 71 _ _ rfl w.heap.size 0 #[.func (.func 50) #[] #[], .func (.func 51) #[] #[]] rfl rfl TH.out (by kernel_rfl) (by kernel_rfl) ?_))
  refine bodyPost_ret (results_cell_mid Tryz.results26 _ _ w.heap.size [.func (.func 50) #[] #[], .func (.func 51) #[] #[]] _ rfl RA.out Tryz.underlying71 rfl (by kernel_rfl)) rfl ⟨rfl, R.out⟩
set_option maxHeartbeats 4000000 in
set_option maxRecDepth 100000 in
theorem fieldOf_same (w : World) :
    Calls Tryz.prog 26 #[.int .i32 115] w fun e w' => e = .returned (.agg #[.func (.func 52) #[] #[], .func (.func 53) #[] #[]]) ∧ Below w.heap.size w w' := by
  obtain ⟨U, hU⟩ : ∃ U, U = w.alloc (.cells #[.nilFunc, .nilFunc] 71) := ⟨_, rfl⟩
  have BU : Hid (Below w.heap.size w U) := by rw [hU]; exact (Below.refl _ _).alloc (Nat.le_refl _) _
  have QU : Hid (Blk U w.heap.size [.nilFunc, .nilFunc]) := by rw [hU]; exact blk_new w 71 [.nilFunc, .nilFunc]
  have TH : Hid (U.there w.heap.size 0 2) := QU.out.there
  have R : Hid (Below w.heap.size w (U.setCells w.heap.size 0 [.func (.func 52) #[] #[], .func (.func 53) #[] #[]])) := below_cells (Nat.le_refl _) _ _ _ BU.out
  have RA : Hid ((U.setCells w.heap.size 0 [.func (.func 52) #[] #[], .func (.func 53) #[] #[]]).rangeAt w.heap.size 0 [.func (.func 52) #[] #[], .func (.func 53) #[] #[]]) := World.rangeAt_setCells_same _ _ _ _ TH.out
  go_enter Tryz.func26, Tryz.ntmps26
  go_upto_region 1 with fail
  rw [← hU]
  clear hU
  go_wp2_with (first | (refine wpList_store_mid rfl 71 _ _ rfl w.heap.size 0 #[.func (.func 52) #[] #[], .func (.func 53) #[] #[]] rfl rfl TH.out (by kernel_rfl) (by kernel_rfl) ?_))
  refine bodyPost_ret (results_cell_mid Tryz.results26 _ _ w.heap.size [.func (.func 52) #[] #[], .func (.func 53) #[] #[]] _ rfl RA.out Tryz.underlying71 rfl (by kernel_rfl)) rfl ⟨rfl, R.out⟩
set_option maxHeartbeats 4000000 in
set_option maxRecDepth 100000 in
theorem fieldOf_cmd (w : World) :
    Calls Tryz.prog 26 #[.int .i32 99] w fun e w' => e = .returned (.agg #[.func (.func 54) #[] #[], .func (.func 55) #[] #[]]) ∧ Below w.heap.size w w' := by
  obtain ⟨U, hU⟩ : ∃ U, U = w.alloc (.cells #[.nilFunc, .nilFunc] 71) := ⟨_, rfl⟩
  have BU : Hid (Below w.heap.size w U) := by rw [hU]; exact (Below.refl _ _).alloc (Nat.le_refl _) _
  have QU : Hid (Blk U w.heap.size [.nilFunc, .nilFunc]) := by rw [hU]; exact blk_new w 71 [.nilFunc, .nilFunc]
  have TH : Hid (U.there w.heap.size 0 2) := QU.out.there
  have R : Hid (Below w.heap.size w (U.setCells w.heap.size 0 [.func (.func 54) #[] #[], .func (.func 55) #[] #[]])) := below_cells (Nat.le_refl _) _ _ _ BU.out
  have RA : Hid ((U.setCells w.heap.size 0 [.func (.func 54) #[] #[], .func (.func 55) #[] #[]]).rangeAt w.heap.size 0 [.func (.func 54) #[] #[], .func (.func 55) #[] #[]]) := World.rangeAt_setCells_same _ _ _ _ TH.out
  go_enter Tryz.func26, Tryz.ntmps26
  go_upto_region 1 with fail
  rw [← hU]
  clear hU
  go_wp2_with (first | (refine wpList_store_mid rfl 71 _ _ rfl w.heap.size 0 #[.func (.func 54) #[] #[], .func (.func 55) #[] #[]] rfl rfl TH.out (by kernel_rfl) (by kernel_rfl) ?_))
  refine bodyPost_ret (results_cell_mid Tryz.results26 _ _ w.heap.size [.func (.func 54) #[] #[], .func (.func 55) #[] #[]] _ rfl RA.out Tryz.underlying71 rfl (by kernel_rfl)) rfl ⟨rfl, R.out⟩
set_option maxHeartbeats 4000000 in
set_option maxRecDepth 100000 in
theorem fieldOf_seq (w : World) :
    Calls Tryz.prog 26 #[.int .i32 113] w fun e w' => e = .returned (.agg #[.func (.func 56) #[] #[], .func (.func 57) #[] #[]]) ∧ Below w.heap.size w w' := by
  obtain ⟨U, hU⟩ : ∃ U, U = w.alloc (.cells #[.nilFunc, .nilFunc] 71) := ⟨_, rfl⟩
  have BU : Hid (Below w.heap.size w U) := by rw [hU]; exact (Below.refl _ _).alloc (Nat.le_refl _) _
  have QU : Hid (Blk U w.heap.size [.nilFunc, .nilFunc]) := by rw [hU]; exact blk_new w 71 [.nilFunc, .nilFunc]
  have TH : Hid (U.there w.heap.size 0 2) := QU.out.there
  have R : Hid (Below w.heap.size w (U.setCells w.heap.size 0 [.func (.func 56) #[] #[], .func (.func 57) #[] #[]])) := below_cells (Nat.le_refl _) _ _ _ BU.out
  have RA : Hid ((U.setCells w.heap.size 0 [.func (.func 56) #[] #[], .func (.func 57) #[] #[]]).rangeAt w.heap.size 0 [.func (.func 56) #[] #[], .func (.func 57) #[] #[]]) := World.rangeAt_setCells_same _ _ _ _ TH.out
  go_enter Tryz.func26, Tryz.ntmps26
  go_upto_region 1 with fail
  rw [← hU]
  clear hU
  go_wp2_with (first | (refine wpList_store_mid rfl 71 _ _ rfl w.heap.size 0 #[.func (.func 56) #[] #[], .func (.func 57) #[] #[]] rfl rfl TH.out (by kernel_rfl) (by kernel_rfl) ?_))
  refine bodyPost_ret (results_cell_mid Tryz.results26 _ _ w.heap.size [.func (.func 56) #[] #[], .func (.func 57) #[] #[]] _ rfl RA.out Tryz.underlying71 rfl (by kernel_rfl)) rfl ⟨rfl, R.out⟩
set_option maxHeartbeats 4000000 in
set_option maxRecDepth 100000 in
theorem fieldOf_deps (w : World) :
    Calls Tryz.prog 26 #[.int .i32 100] w fun e w' => e = .returned (.agg #[.func (.func 58) #[] #[], .func (.func 59) #[] #[]]) ∧ Below w.heap.size w w' := by
  obtain ⟨U, hU⟩ : ∃ U, U = w.alloc (.cells #[.nilFunc, .nilFunc] 71) := ⟨_, rfl⟩
  have BU : Hid (Below w.heap.size w U) := by rw [hU]; exact (Below.refl _ _).alloc (Nat.le_refl _) _
  have QU : Hid (Blk U w.heap.size [.nilFunc, .nilFunc]) := by rw [hU]; exact blk_new w 71 [.nilFunc, .nilFunc]
  have TH : Hid (U.there w.heap.size 0 2) := QU.out.there
  have R : Hid (Below w.heap.size w (U.setCells w.heap.size 0 [.func (.func 58) #[] #[], .func (.func 59) #[] #[]])) := below_cells (Nat.le_refl _) _ _ _ BU.out
  have RA : Hid ((U.setCells w.heap.size 0 [.func (.func 58) #[] #[], .func (.func 59) #[] #[]]).rangeAt w.heap.size 0 [.func (.func 58) #[] #[], .func (.func 59) #[] #[]]) := World.rangeAt_setCells_same _ _ _ _ TH.out
  go_enter Tryz.func26, Tryz.ntmps26
  go_upto_region 1 with fail
  rw [← hU]
  clear hU
  go_wp2_with (first | (refine wpList_store_mid rfl 71 _ _ rfl w.heap.size 0 #[.func (.func 58) #[] #[], .func (.func 59) #[] #[]] rfl rfl TH.out (by kernel_rfl) (by kernel_rfl) ?_))
  refine bodyPost_ret (results_cell_mid Tryz.results26 _ _ w.heap.size [.func (.func 58) #[] #[], .func (.func 59) #[] #[]] _ rfl RA.out Tryz.underlying71 rfl (by kernel_rfl)) rfl ⟨rfl, R.out⟩
theorem field_0 (f g : Value) (W : World) : (Instr.field 71 (.agg #[f, g]) 0).run Tryz.prog W = .ok f W := by kernel_rfl
end Go.Proofs.YtnogdjpbnhnmaaaGreatDoor
