/- Texts of the proof, joined. -/
import Derived.Test.YtnjihfbghaefoaaGreatDoorRows
import Derived.Test.YtnjihfbghaefoaaGreatDoorJ02
import Derived.WalkLawsBesides
import Derived.Deep.Cut
/- The contract of package record's fieldOf, a leaf a letter. -/
namespace Go.Proofs.YtnjihfbghaefoaaGreatDoor
open Go.RowKit Go.Wire1

set_option maxHeartbeats 4000000 in
set_option maxRecDepth 100000 in
theorem fieldOf_id (w : World) :
    Calls Tryz.prog 63 #[.int .i32 119] w fun e w' => e = .returned (.agg #[.func (.func 88) #[] #[], .func (.func 89) #[] #[]]) ∧ Below w.heap.size w w' := by
  obtain ⟨U, hU⟩ : ∃ U, U = w.alloc (.cells #[.nilFunc, .nilFunc] 117) := ⟨_, rfl⟩
  have BU : Hid (Below w.heap.size w U) := by rw [hU]; exact (Below.refl _ _).alloc (Nat.le_refl _) _
  have QU : Hid (Blk U w.heap.size [.nilFunc, .nilFunc]) := by rw [hU]; exact blk_new w 117 [.nilFunc, .nilFunc]
  have TH : Hid (U.there w.heap.size 0 2) := QU.out.there
  have R : Hid (Below w.heap.size w (U.setCells w.heap.size 0 [.func (.func 88) #[] #[], .func (.func 89) #[] #[]])) := below_cells (Nat.le_refl _) _ _ _ BU.out
  have RA : Hid ((U.setCells w.heap.size 0 [.func (.func 88) #[] #[], .func (.func 89) #[] #[]]).rangeAt w.heap.size 0 [.func (.func 88) #[] #[], .func (.func 89) #[] #[]]) := World.rangeAt_setCells_same _ _ _ _ TH.out
  go_enter Tryz.func63, Tryz.ntmps63
  go_upto_region 1 with fail
  rw [← hU]
  clear hU
  go_wp2_with (first | (refine wpList_store_mid rfl 117 _ _ rfl w.heap.size 0 #[.func (.func 88) #[] #[], .func (.func 89) #[] #[]] rfl rfl TH.out (by kernel_rfl) (by kernel_rfl) ?_))
  refine bodyPost_ret (results_cell_mid Tryz.results63 _ _ w.heap.size [.func (.func 88) #[] #[], .func (.func 89) #[] #[]] _ rfl RA.out Tryz.underlying117 rfl (by kernel_rfl)) rfl ⟨rfl, R.out⟩
set_option maxHeartbeats 4000000 in
set_option maxRecDepth 100000 in
theorem fieldOf_n (w : World) :
    Calls Tryz.prog 63 #[.int .i32 110] w fun e w' => e = .returned (.agg #[.func (.func 90) #[] #[], .func (.func 91) #[] #[]]) ∧ Below w.heap.size w w' := by
  obtain ⟨U, hU⟩ : ∃ U, U = w.alloc (.cells #[.nilFunc, .nilFunc] 117) := ⟨_, rfl⟩
  have BU : Hid (Below w.heap.size w U) := by rw [hU]; exact (Below.refl _ _).alloc (Nat.le_refl _) _
  have QU : Hid (Blk U w.heap.size [.nilFunc, .nilFunc]) := by rw [hU]; exact blk_new w 117 [.nilFunc, .nilFunc]
  have TH : Hid (U.there w.heap.size 0 2) := QU.out.there
  have R : Hid (Below w.heap.size w (U.setCells w.heap.size 0 [.func (.func 90) #[] #[], .func (.func 91) #[] #[]])) := below_cells (Nat.le_refl _) _ _ _ BU.out
  have RA : Hid ((U.setCells w.heap.size 0 [.func (.func 90) #[] #[], .func (.func 91) #[] #[]]).rangeAt w.heap.size 0 [.func (.func 90) #[] #[], .func (.func 91) #[] #[]]) := World.rangeAt_setCells_same _ _ _ _ TH.out
  go_enter Tryz.func63, Tryz.ntmps63
  go_upto_region 1 with fail
  rw [← hU]
  clear hU
  go_wp2_with (first | (refine wpList_store_mid rfl 117 _ _ rfl w.heap.size 0 #[.func (.func 90) #[] #[], .func (.func 91) #[] #[]] rfl rfl TH.out (by kernel_rfl) (by kernel_rfl) ?_))
  refine bodyPost_ret (results_cell_mid Tryz.results63 _ _ w.heap.size [.func (.func 90) #[] #[], .func (.func 91) #[] #[]] _ rfl RA.out Tryz.underlying117 rfl (by kernel_rfl)) rfl ⟨rfl, R.out⟩
set_option maxHeartbeats 4000000 in
set_option maxRecDepth 100000 in
theorem fieldOf_inst (w : World) :
    Calls Tryz.prog 63 #[.int .i32 105] w fun e w' => e = .returned (.agg #[.func (.func 92) #[] #[], .func (.func 93) #[] #[]]) ∧ Below w.heap.size w w' := by
  obtain ⟨U, hU⟩ : ∃ U, U = w.alloc (.cells #[.nilFunc, .nilFunc] 117) := ⟨_, rfl⟩
  have BU : Hid (Below w.heap.size w U) := by rw [hU]; exact (Below.refl _ _).alloc (Nat.le_refl _) _
  have QU : Hid (Blk U w.heap.size [.nilFunc, .nilFunc]) := by rw [hU]; exact blk_new w 117 [.nilFunc, .nilFunc]
  have TH : Hid (U.there w.heap.size 0 2) := QU.out.there
  have R : Hid (Below w.heap.size w (U.setCells w.heap.size 0 [.func (.func 92) #[] #[], .func (.func 93) #[] #[]])) := below_cells (Nat.le_refl _) _ _ _ BU.out
  have RA : Hid ((U.setCells w.heap.size 0 [.func (.func 92) #[] #[], .func (.func 93) #[] #[]]).rangeAt w.heap.size 0 [.func (.func 92) #[] #[], .func (.func 93) #[] #[]]) := World.rangeAt_setCells_same _ _ _ _ TH.out
  go_enter Tryz.func63, Tryz.ntmps63
  go_upto_region 1 with fail
  rw [← hU]
  clear hU
  go_wp2_with (first | (refine wpList_store_mid rfl 117 _ _ rfl w.heap.size 0 #[.func (.func 92) #[] #[], .func (.func 93) #[] #[]] rfl rfl TH.out (by kernel_rfl) (by kernel_rfl) ?_))
  refine bodyPost_ret (results_cell_mid Tryz.results63 _ _ w.heap.size [.func (.func 92) #[] #[], .func (.func 93) #[] #[]] _ rfl RA.out Tryz.underlying117 rfl (by kernel_rfl)) rfl ⟨rfl, R.out⟩
set_option maxHeartbeats 4000000 in
set_option maxRecDepth 100000 in
theorem fieldOf_bal (w : World) :
    Calls Tryz.prog 63 #[.int .i32 98] w fun e w' => e = .returned (.agg #[.func (.func 94) #[] #[], .func (.func 95) #[] #[]]) ∧ Below w.heap.size w w' := by
  obtain ⟨U, hU⟩ : ∃ U, U = w.alloc (.cells #[.nilFunc, .nilFunc] 117) := ⟨_, rfl⟩
  have BU : Hid (Below w.heap.size w U) := by rw [hU]; exact (Below.refl _ _).alloc (Nat.le_refl _) _
  have QU : Hid (Blk U w.heap.size [.nilFunc, .nilFunc]) := by rw [hU]; exact blk_new w 117 [.nilFunc, .nilFunc]
  have TH : Hid (U.there w.heap.size 0 2) := QU.out.there
  have R : Hid (Below w.heap.size w (U.setCells w.heap.size 0 [.func (.func 94) #[] #[], .func (.func 95) #[] #[]])) := below_cells (Nat.le_refl _) _ _ _ BU.out
  have RA : Hid ((U.setCells w.heap.size 0 [.func (.func 94) #[] #[], .func (.func 95) #[] #[]]).rangeAt w.heap.size 0 [.func (.func 94) #[] #[], .func (.func 95) #[] #[]]) := World.rangeAt_setCells_same _ _ _ _ TH.out
  go_enter Tryz.func63, Tryz.ntmps63
  go_upto_region 1 with fail
  rw [← hU]
  clear hU
  go_wp2_with (first | (refine wpList_store_mid rfl 117 _ _ rfl w.heap.size 0 #[.func (.func 94) #[] #[], .func (.func 95) #[] #[]] rfl rfl TH.out (by kernel_rfl) (by kernel_rfl) ?_))
  refine bodyPost_ret (results_cell_mid Tryz.results63 _ _ w.heap.size [.func (.func 94) #[] #[], .func (.func 95) #[] #[]] _ rfl RA.out Tryz.underlying117 rfl (by kernel_rfl)) rfl ⟨rfl, R.out⟩
set_option maxHeartbeats 4000000 in
set_option maxRecDepth 100000 in
theorem fieldOf_same (w : World) :
    Calls Tryz.prog 63 #[.int .i32 115] w fun e w' => e = .returned (.agg #[.func (.func 96) #[] #[], .func (.func 97) #[] #[]]) ∧ Below w.heap.size w w' := by
  obtain ⟨U, hU⟩ : ∃ U, U = w.alloc (.cells #[.nilFunc, .nilFunc] 117) := ⟨_, rfl⟩
  have BU : Hid (Below w.heap.size w U) := by rw [hU]; exact (Below.refl _ _).alloc (Nat.le_refl _) _
  have QU : Hid (Blk U w.heap.size [.nilFunc, .nilFunc]) := by rw [hU]; exact blk_new w 117 [.nilFunc, .nilFunc]
  have TH : Hid (U.there w.heap.size 0 2) := QU.out.there
  have R : Hid (Below w.heap.size w (U.setCells w.heap.size 0 [.func (.func 96) #[] #[], .func (.func 97) #[] #[]])) := below_cells (Nat.le_refl _) _ _ _ BU.out
  have RA : Hid ((U.setCells w.heap.size 0 [.func (.func 96) #[] #[], .func (.func 97) #[] #[]]).rangeAt w.heap.size 0 [.func (.func 96) #[] #[], .func (.func 97) #[] #[]]) := World.rangeAt_setCells_same _ _ _ _ TH.out
  go_enter Tryz.func63, Tryz.ntmps63
  go_upto_region 1 with fail
  rw [← hU]
  clear hU
  go_wp2_with (first | (refine wpList_store_mid rfl 117 _ _ rfl w.heap.size 0 #[.func (.func 96) #[] #[], .func (.func 97) #[] #[]] rfl rfl TH.out (by kernel_rfl) (by kernel_rfl) ?_))
  refine bodyPost_ret (results_cell_mid Tryz.results63 _ _ w.heap.size [.func (.func 96) #[] #[], .func (.func 97) #[] #[]] _ rfl RA.out Tryz.underlying117 rfl (by kernel_rfl)) rfl ⟨rfl, R.out⟩
set_option maxHeartbeats 4000000 in
set_option maxRecDepth 100000 in
theorem fieldOf_cmd (w : World) :
    Calls Tryz.prog 63 #[.int .i32 99] w fun e w' => e = .returned (.agg #[.func (.func 98) #[] #[], .func (.func 99) #[] #[]]) ∧ Below w.heap.size w w' := by
  obtain ⟨U, hU⟩ : ∃ U, U = w.alloc (.cells #[.nilFunc, .nilFunc] 117) := ⟨_, rfl⟩
  have BU : Hid (Below w.heap.size w U) := by rw [hU]; exact (Below.refl _ _).alloc (Nat.le_refl _) _
  have QU : Hid (Blk U w.heap.size [.nilFunc, .nilFunc]) := by rw [hU]; exact blk_new w 117 [.nilFunc, .nilFunc]
  have TH : Hid (U.there w.heap.size 0 2) := QU.out.there
  have R : Hid (Below w.heap.size w (U.setCells w.heap.size 0 [.func (.func 98) #[] #[], .func (.func 99) #[] #[]])) := below_cells (Nat.le_refl _) _ _ _ BU.out
  have RA : Hid ((U.setCells w.heap.size 0 [.func (.func 98) #[] #[], .func (.func 99) #[] #[]]).rangeAt w.heap.size 0 [.func (.func 98) #[] #[], .func (.func 99) #[] #[]]) := World.rangeAt_setCells_same _ _ _ _ TH.out
  go_enter Tryz.func63, Tryz.ntmps63
  go_upto_region 1 with fail
  rw [← hU]
  clear hU
  go_wp2_with (first | (refine wpList_store_mid rfl 117 _ _ rfl w.heap.size 0 #[.func (.func 98) #[] #[], .func (.func 99) #[] #[]] rfl rfl TH.out (by kernel_rfl) (by kernel_rfl) ?_))
  refine bodyPost_ret (results_cell_mid Tryz.results63 _ _ w.heap.size [.func (.func 98) #[] #[], .func (.func 99) #[] #[]] _ rfl RA.out Tryz.underlying117 rfl (by kernel_rfl)) rfl ⟨rfl, R.out⟩
set_option maxHeartbeats 4000000 in
set_option maxRecDepth 100000 in
theorem fieldOf_seq (w : World) :
    Calls Tryz.prog 63 #[.int .i32 113] w fun e w' => e = .returned (.agg #[.func (.func 100) #[] #[], .func (.func 101) #[] #[]]) ∧ Below w.heap.size w w' := by
  obtain ⟨U, hU⟩ : ∃ U, U = w.alloc (.cells #[.nilFunc, .nilFunc] 117) := ⟨_, rfl⟩
  have BU : Hid (Below w.heap.size w U) := by rw [hU]; exact (Below.refl _ _).alloc (Nat.le_refl _) _
  have QU : Hid (Blk U w.heap.size [.nilFunc, .nilFunc]) := by rw [hU]; exact blk_new w 117 [.nilFunc, .nilFunc]
  have TH : Hid (U.there w.heap.size 0 2) := QU.out.there
  have R : Hid (Below w.heap.size w (U.setCells w.heap.size 0 [.func (.func 100) #[] #[], .func (.func 101) #[] #[]])) := below_cells (Nat.le_refl _) _ _ _ BU.out
  have RA : Hid ((U.setCells w.heap.size 0 [.func (.func 100) #[] #[], .func (.func 101) #[] #[]]).rangeAt w.heap.size 0 [.func (.func 100) #[] #[], .func (.func 101) #[] #[]]) := World.rangeAt_setCells_same _ _ _ _ TH.out
  go_enter Tryz.func63, Tryz.ntmps63
  go_upto_region 1 with fail
  rw [← hU]
  clear hU
  go_wp2_with (first | (refine wpList_store_mid rfl 117 _ _ rfl w.heap.size 0 #[.func (.func 100) #[] #[], .func (.func 101) #[] #[]] rfl rfl TH.out (by kernel_rfl) (by kernel_rfl) ?_))
  refine bodyPost_ret (results_cell_mid Tryz.results63 _ _ w.heap.size [.func (.func 100) #[] #[], .func (.func 101) #[] #[]] _ rfl RA.out Tryz.underlying117 rfl (by kernel_rfl)) rfl ⟨rfl, R.out⟩
set_option maxHeartbeats 4000000 in
set_option maxRecDepth 100000 in
theorem fieldOf_deps (w : World) :
    Calls Tryz.prog 63 #[.int .i32 100] w fun e w' => e = .returned (.agg #[.func (.func 102) #[] #[], .func (.func 103) #[] #[]]) ∧ Below w.heap.size w w' := by
  obtain ⟨U, hU⟩ : ∃ U, U = w.alloc (.cells #[.nilFunc, .nilFunc] 117) := ⟨_, rfl⟩
  have BU : Hid (Below w.heap.size w U) := by rw [hU]; exact (Below.refl _ _).alloc (Nat.le_refl _) _
  have QU : Hid (Blk U w.heap.size [.nilFunc, .nilFunc]) := by rw [hU]; exact blk_new w 117 [.nilFunc, .nilFunc]
  have TH : Hid (U.there w.heap.size 0 2) := QU.out.there
  have R : Hid (Below w.heap.size w (U.setCells w.heap.size 0 [.func (.func 102) #[] #[], .func (.func 103) #[] #[]])) := below_cells (Nat.le_refl _) _ _ _ BU.out
  have RA : Hid ((U.setCells w.heap.size 0 [.func (.func 102) #[] #[], .func (.func 103) #[] #[]]).rangeAt w.heap.size 0 [.func (.func 102) #[] #[], .func (.func 103) #[] #[]]) := World.rangeAt_setCells_same _ _ _ _ TH.out
  go_enter Tryz.func63, Tryz.ntmps63
  go_upto_region 1 with fail
  rw [← hU]
  clear hU
  go_wp2_with (first | (refine wpList_store_mid rfl 117 _ _ rfl w.heap.size 0 #[.func (.func 102) #[] #[], .func (.func 103) #[] #[]] rfl rfl TH.out (by kernel_rfl) (by kernel_rfl) ?_))
  refine bodyPost_ret (results_cell_mid Tryz.results63 _ _ w.heap.size [.func (.func 102) #[] #[], .func (.func 103) #[] #[]] _ rfl RA.out Tryz.underlying117 rfl (by kernel_rfl)) rfl ⟨rfl, R.out⟩
theorem field_0 (f g : Value) (W : World) : (Instr.field 117 (.agg #[f, g]) 0).run Tryz.prog W = .ok f W := by kernel_rfl
end Go.Proofs.YtnjihfbghaefoaaGreatDoor
