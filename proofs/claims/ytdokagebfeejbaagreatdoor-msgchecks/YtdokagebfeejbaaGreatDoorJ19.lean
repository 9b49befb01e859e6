/- Texts of the proof, joined. -/
import Derived.Test.YtdokagebfeejbaaGreatDoorJ17
import Derived.Deep.Cut
import Derived.Deep.MidRow
/- The contract of msgOf: a leaf for each shape. -/
namespace Go.Proofs.YtdokagebfeejbaaGreatDoor
open Go.RowKit Go.Wire1

set_option maxHeartbeats 4000000 in
set_option maxRecDepth 100000 in
theorem msgOf_bare (k row num : Int) (w : World) :
    Calls Tryz.prog 41 #[.iface 107 (.agg #[.int .i64 k, .int .i64 row, .int .i64 num])] w fun r w' => r = .returned (.agg #[.int .i64 k, .int .i64 row, .int .i64 num, .int .i64 0, .int .i64 0, .int .i64 0, .int .i64 0, .int .i64 0, .bool false, .int .i64 0, .int .i64 0, .int .i64 0, .string ⟨#[]⟩, .string ⟨#[]⟩, .string ⟨#[]⟩, .string ⟨#[]⟩, .int .i64 0, .int .i64 0, .slice none 0 0]) ∧ Below w.heap.size w w' := by
  have ta_bare : ∀ (z : Value) (w : World), (Instr.typeAssert (.iface 107 z) 54 107 true).run Tryz.prog w = .ok (.tuple #[z, .bool true]) w := fun _ _ => by kernel_rfl
  go_enter Tryz.func41, Tryz.ntmps41
  go_upto_region 4 with fail
  obtain ⟨U, hU⟩ : ∃ U, U = w.alloc (.cells #[.int .i64 0, .int .i64 0, .int .i64 0, .int .i64 0, .int .i64 0, .int .i64 0, .int .i64 0, .int .i64 0, .bool false, .int .i64 0, .int .i64 0, .int .i64 0, .string ⟨#[]⟩, .string ⟨#[]⟩, .string ⟨#[]⟩, .string ⟨#[]⟩, .int .i64 0, .int .i64 0, .slice none 0 0] 30) := ⟨_, rfl⟩
  obtain ⟨W, hW⟩ : ∃ W, W = U.alloc (.cells #[.int .i64 k, .int .i64 row, .int .i64 num] 107) := ⟨_, rfl⟩
  have hs : U.heap.size = w.heap.size + 1 := by rw [hU]; simp
  have BW : Hid (Below w.heap.size w W) := by rw [hW, hU]; exact ((Below.refl _ w).alloc (Nat.le_refl _) _).alloc (by simp) _
  have QM : Hid (Blk W w.heap.size [.int .i64 0, .int .i64 0, .int .i64 0, .int .i64 0, .int .i64 0, .int .i64 0, .int .i64 0, .int .i64 0, .bool false, .int .i64 0, .int .i64 0, .int .i64 0, .string ⟨#[]⟩, .string ⟨#[]⟩, .string ⟨#[]⟩, .string ⟨#[]⟩, .int .i64 0, .int .i64 0, .slice none 0 0]) := by rw [hW, hU]; exact (blk_new w 30 [.int .i64 0, .int .i64 0, .int .i64 0, .int .i64 0, .int .i64 0, .int .i64 0, .int .i64 0, .int .i64 0, .bool false, .int .i64 0, .int .i64 0, .int .i64 0, .string ⟨#[]⟩, .string ⟨#[]⟩, .string ⟨#[]⟩, .string ⟨#[]⟩, .int .i64 0, .int .i64 0, .slice none 0 0]).on ((Below.refl _ _).alloc (Nat.le_refl _) _)
  have QB : Hid (Blk W (w.heap.size + 1) [.int .i64 k, .int .i64 row, .int .i64 num]) := by rw [hW, ← hs]; exact blk_new U 107 [.int .i64 k, .int .i64 row, .int .i64 num]
  rw [← hU, ← hW]
  clear hU hW hs
  have b0 := QB.out.cell 0 _ rfl
  have b1 := QB.out.cell 1 _ rfl
  have b2 := QB.out.cell 2 _ rfl
  have TH : Hid (W.there w.heap.size 0 19) := QM.out.there
  have R : Hid (Below w.heap.size w (W.setCells w.heap.size 0 [.int .i64 k, .int .i64 row, .int .i64 num, .int .i64 0, .int .i64 0, .int .i64 0, .int .i64 0, .int .i64 0, .bool false, .int .i64 0, .int .i64 0, .int .i64 0, .string ⟨#[]⟩, .string ⟨#[]⟩, .string ⟨#[]⟩, .string ⟨#[]⟩, .int .i64 0, .int .i64 0, .slice none 0 0])) := below_cells (Nat.le_refl _) _ _ _ BW.out
  have RA : Hid ((W.setCells w.heap.size 0 [.int .i64 k, .int .i64 row, .int .i64 num, .int .i64 0, .int .i64 0, .int .i64 0, .int .i64 0, .int .i64 0, .bool false, .int .i64 0, .int .i64 0, .int .i64 0, .string ⟨#[]⟩, .string ⟨#[]⟩, .string ⟨#[]⟩, .string ⟨#[]⟩, .int .i64 0, .int .i64 0, .slice none 0 0]).rangeAt w.heap.size 0 [.int .i64 k, .int .i64 row, .int .i64 num, .int .i64 0, .int .i64 0, .int .i64 0, .int .i64 0, .int .i64 0, .bool false, .int .i64 0, .int .i64 0, .int .i64 0, .string ⟨#[]⟩, .string ⟨#[]⟩, .string ⟨#[]⟩, .string ⟨#[]⟩, .int .i64 0, .int .i64 0, .slice none 0 0]) := World.rangeAt_setCells_same _ _ _ _ TH.out
  go_wp2_with (first | (refine wpList_store_mid rfl 30 _ _ rfl w.heap.size 0 #[.int .i64 k, .int .i64 row, .int .i64 num, .int .i64 0, .int .i64 0, .int .i64 0, .int .i64 0, .int .i64 0, .bool false, .int .i64 0, .int .i64 0, .int .i64 0, .string ⟨#[]⟩, .string ⟨#[]⟩, .string ⟨#[]⟩, .string ⟨#[]⟩, .int .i64 0, .int .i64 0, .slice none 0 0] rfl rfl TH.out (by kernel_rfl) (by kernel_rfl) ?_))
  generalize W.setCells w.heap.size 0 [.int .i64 k, .int .i64 row, .int .i64 num, .int .i64 0, .int .i64 0, .int .i64 0, .int .i64 0, .int .i64 0, .bool false, .int .i64 0, .int .i64 0, .int .i64 0, .string ⟨#[]⟩, .string ⟨#[]⟩, .string ⟨#[]⟩, .string ⟨#[]⟩, .int .i64 0, .int .i64 0, .slice none 0 0] = W2 at *
  refine bodyPost_ret (results_cell_mid Tryz.results41 _ _ w.heap.size [.int .i64 k, .int .i64 row, .int .i64 num, .int .i64 0, .int .i64 0, .int .i64 0, .int .i64 0, .int .i64 0, .bool false, .int .i64 0, .int .i64 0, .int .i64 0, .string ⟨#[]⟩, .string ⟨#[]⟩, .string ⟨#[]⟩, .string ⟨#[]⟩, .int .i64 0, .int .i64 0, .slice none 0 0] _ rfl RA.out Tryz.underlying30 rfl (by kernel_rfl)) rfl ⟨rfl, R.out⟩
set_option maxHeartbeats 4000000 in
set_option maxRecDepth 100000 in
theorem msgOf_balloted (k row num : Int) (x y : Int) (w : World) :
    Calls Tryz.prog 41 #[.iface 98 (.agg #[.int .i64 k, .int .i64 row, .int .i64 num, .int .i64 x, .int .i64 y])] w fun r w' => r = .returned (.agg #[.int .i64 k, .int .i64 row, .int .i64 num, .int .i64 x, .int .i64 y, .int .i64 0, .int .i64 0, .int .i64 0, .bool false, .int .i64 0, .int .i64 0, .int .i64 0, .string ⟨#[]⟩, .string ⟨#[]⟩, .string ⟨#[]⟩, .string ⟨#[]⟩, .int .i64 0, .int .i64 0, .slice none 0 0]) ∧ Below w.heap.size w w' := by
  have ta_bare : ∀ (z : Value) (w : World), (Instr.typeAssert (.iface 98 z) 54 107 true).run Tryz.prog w = .ok (.tuple #[.agg #[.int .i64 0, .int .i64 0, .int .i64 0], .bool false]) w := fun _ _ => by kernel_rfl
  have ta_balloted : ∀ (z : Value) (w : World), (Instr.typeAssert (.iface 98 z) 54 98 true).run Tryz.prog w = .ok (.tuple #[z, .bool true]) w := fun _ _ => by kernel_rfl
  go_enter Tryz.func41, Tryz.ntmps41
  go_upto_region 7 with fail
  obtain ⟨U, hU⟩ : ∃ U, U = w.alloc (.cells #[.int .i64 0, .int .i64 0, .int .i64 0, .int .i64 0, .int .i64 0, .int .i64 0, .int .i64 0, .int .i64 0, .bool false, .int .i64 0, .int .i64 0, .int .i64 0, .string ⟨#[]⟩, .string ⟨#[]⟩, .string ⟨#[]⟩, .string ⟨#[]⟩, .int .i64 0, .int .i64 0, .slice none 0 0] 30) := ⟨_, rfl⟩
  obtain ⟨W, hW⟩ : ∃ W, W = U.alloc (.cells #[.int .i64 k, .int .i64 row, .int .i64 num, .int .i64 x, .int .i64 y] 98) := ⟨_, rfl⟩
  have hs : U.heap.size = w.heap.size + 1 := by rw [hU]; simp
  have BW : Hid (Below w.heap.size w W) := by rw [hW, hU]; exact ((Below.refl _ w).alloc (Nat.le_refl _) _).alloc (by simp) _
  have QM : Hid (Blk W w.heap.size [.int .i64 0, .int .i64 0, .int .i64 0, .int .i64 0, .int .i64 0, .int .i64 0, .int .i64 0, .int .i64 0, .bool false, .int .i64 0, .int .i64 0, .int .i64 0, .string ⟨#[]⟩, .string ⟨#[]⟩, .string ⟨#[]⟩, .string ⟨#[]⟩, .int .i64 0, .int .i64 0, .slice none 0 0]) := by rw [hW, hU]; exact (blk_new w 30 [.int .i64 0, .int .i64 0, .int .i64 0, .int .i64 0, .int .i64 0, .int .i64 0, .int .i64 0, .int .i64 0, .bool false, .int .i64 0, .int .i64 0, .int .i64 0, .string ⟨#[]⟩, .string ⟨#[]⟩, .string ⟨#[]⟩, .string ⟨#[]⟩, .int .i64 0, .int .i64 0, .slice none 0 0]).on ((Below.refl _ _).alloc (Nat.le_refl _) _)
  have QB : Hid (Blk W (w.heap.size + 1) [.int .i64 k, .int .i64 row, .int .i64 num, .int .i64 x, .int .i64 y]) := by rw [hW, ← hs]; exact blk_new U 98 [.int .i64 k, .int .i64 row, .int .i64 num, .int .i64 x, .int .i64 y]
  rw [← hU, ← hW]
  clear hU hW hs
  have b0 := QB.out.cell 0 _ rfl
  have b1 := QB.out.cell 1 _ rfl
  have b2 := QB.out.cell 2 _ rfl
  have b3 := QB.out.cell 3 _ rfl
  have b4 := QB.out.cell 4 _ rfl
  have TH : Hid (W.there w.heap.size 0 19) := QM.out.there
  have R : Hid (Below w.heap.size w (W.setCells w.heap.size 0 [.int .i64 k, .int .i64 row, .int .i64 num, .int .i64 x, .int .i64 y, .int .i64 0, .int .i64 0, .int .i64 0, .bool false, .int .i64 0, .int .i64 0, .int .i64 0, .string ⟨#[]⟩, .string ⟨#[]⟩, .string ⟨#[]⟩, .string ⟨#[]⟩, .int .i64 0, .int .i64 0, .slice none 0 0])) := below_cells (Nat.le_refl _) _ _ _ BW.out
  have RA : Hid ((W.setCells w.heap.size 0 [.int .i64 k, .int .i64 row, .int .i64 num, .int .i64 x, .int .i64 y, .int .i64 0, .int .i64 0, .int .i64 0, .bool false, .int .i64 0, .int .i64 0, .int .i64 0, .string ⟨#[]⟩, .string ⟨#[]⟩, .string ⟨#[]⟩, .string ⟨#[]⟩, .int .i64 0, .int .i64 0, .slice none 0 0]).rangeAt w.heap.size 0 [.int .i64 k, .int .i64 row, .int .i64 num, .int .i64 x, .int .i64 y, .int .i64 0, .int .i64 0, .int .i64 0, .bool false, .int .i64 0, .int .i64 0, .int .i64 0, .string ⟨#[]⟩, .string ⟨#[]⟩, .string ⟨#[]⟩, .string ⟨#[]⟩, .int .i64 0, .int .i64 0, .slice none 0 0]) := World.rangeAt_setCells_same _ _ _ _ TH.out
  go_wp2_with (first | (refine wpList_store_mid rfl 30 _ _ rfl w.heap.size 0 #[.int .i64 k, .int .i64 row, .int .i64 num, .int .i64 x, .int .i64 y, .int .i64 0, .int .i64 0, .int .i64 0, .bool false, .int .i64 0, .int .i64 0, .int .i64 0, .string ⟨#[]⟩, .string ⟨#[]⟩, .string ⟨#[]⟩, .string ⟨#[]⟩, .int .i64 0, .int .i64 0, .slice none 0 0] rfl rfl TH.out (by kernel_rfl) (by kernel_rfl) ?_))
  generalize W.setCells w.heap.size 0 [.int .i64 k, .int .i64 row, .int .i64 num, .int .i64 x, .int .i64 y, .int .i64 0, .int .i64 0, .int .i64 0, .bool false, .int .i64 0, .int .i64 0, .int .i64 0, .string ⟨#[]⟩, .string ⟨#[]⟩, .string ⟨#[]⟩, .string ⟨#[]⟩, .int .i64 0, .int .i64 0, .slice none 0 0] = W2 at *
  refine bodyPost_ret (results_cell_mid Tryz.results41 _ _ w.heap.size [.int .i64 k, .int .i64 row, .int .i64 num, .int .i64 x, .int .i64 y, .int .i64 0, .int .i64 0, .int .i64 0, .bool false, .int .i64 0, .int .i64 0, .int .i64 0, .string ⟨#[]⟩, .string ⟨#[]⟩, .string ⟨#[]⟩, .string ⟨#[]⟩, .int .i64 0, .int .i64 0, .slice none 0 0] _ rfl RA.out Tryz.underlying30 rfl (by kernel_rfl)) rfl ⟨rfl, R.out⟩
set_option maxHeartbeats 4000000 in
set_option maxRecDepth 100000 in
theorem msgOf_estimate (k row num : Int) (x y sq : Int) (ua : Option Addr) (uk uc : Nat) (w : World) :
    Calls Tryz.prog 41 #[.iface 96 (.agg #[.int .i64 k, .int .i64 row, .int .i64 num, .int .i64 x, .int .i64 y, .int .i64 sq, .slice ua uk uc])] w fun r w' => r = .returned (.agg #[.int .i64 k, .int .i64 row, .int .i64 num, .int .i64 x, .int .i64 y, .int .i64 0, .int .i64 0, .int .i64 0, .bool false, .int .i64 0, .int .i64 0, .int .i64 0, .string ⟨#[]⟩, .string ⟨#[]⟩, .string ⟨#[]⟩, .string ⟨#[]⟩, .int .i64 0, .int .i64 sq, .slice ua uk uc]) ∧ Below w.heap.size w w' := by
  have ta_bare : ∀ (z : Value) (w : World), (Instr.typeAssert (.iface 96 z) 54 107 true).run Tryz.prog w = .ok (.tuple #[.agg #[.int .i64 0, .int .i64 0, .int .i64 0], .bool false]) w := fun _ _ => by kernel_rfl
  have ta_balloted : ∀ (z : Value) (w : World), (Instr.typeAssert (.iface 96 z) 54 98 true).run Tryz.prog w = .ok (.tuple #[.agg #[.int .i64 0, .int .i64 0, .int .i64 0, .int .i64 0, .int .i64 0], .bool false]) w := fun _ _ => by kernel_rfl
  have ta_estimate : ∀ (z : Value) (w : World), (Instr.typeAssert (.iface 96 z) 54 96 true).run Tryz.prog w = .ok (.tuple #[z, .bool true]) w := fun _ _ => by kernel_rfl
  go_enter Tryz.func41, Tryz.ntmps41
  go_upto_region 10 with fail
  obtain ⟨U, hU⟩ : ∃ U, U = w.alloc (.cells #[.int .i64 0, .int .i64 0, .int .i64 0, .int .i64 0, .int .i64 0, .int .i64 0, .int .i64 0, .int .i64 0, .bool false, .int .i64 0, .int .i64 0, .int .i64 0, .string ⟨#[]⟩, .string ⟨#[]⟩, .string ⟨#[]⟩, .string ⟨#[]⟩, .int .i64 0, .int .i64 0, .slice none 0 0] 30) := ⟨_, rfl⟩
  obtain ⟨W, hW⟩ : ∃ W, W = U.alloc (.cells #[.int .i64 k, .int .i64 row, .int .i64 num, .int .i64 x, .int .i64 y, .int .i64 sq, .slice ua uk uc] 96) := ⟨_, rfl⟩
  have hs : U.heap.size = w.heap.size + 1 := by rw [hU]; simp
  have BW : Hid (Below w.heap.size w W) := by rw [hW, hU]; exact ((Below.refl _ w).alloc (Nat.le_refl _) _).alloc (by simp) _
  have QM : Hid (Blk W w.heap.size [.int .i64 0, .int .i64 0, .int .i64 0, .int .i64 0, .int .i64 0, .int .i64 0, .int .i64 0, .int .i64 0, .bool false, .int .i64 0, .int .i64 0, .int .i64 0, .string ⟨#[]⟩, .string ⟨#[]⟩, .string ⟨#[]⟩, .string ⟨#[]⟩, .int .i64 0, .int .i64 0, .slice none 0 0]) := by rw [hW, hU]; exact (blk_new w 30 [.int .i64 0, .int .i64 0, .int .i64 0, .int .i64 0, .int .i64 0, .int .i64 0, .int .i64 0, .int .i64 0, .bool false, .int .i64 0, .int .i64 0, .int .i64 0, .string ⟨#[]⟩, .string ⟨#[]⟩, .string ⟨#[]⟩, .string ⟨#[]⟩, .int .i64 0, .int .i64 0, .slice none 0 0]).on ((Below.refl _ _).alloc (Nat.le_refl _) _)
  have QB : Hid (Blk W (w.heap.size + 1) [.int .i64 k, .int .i64 row, .int .i64 num, .int .i64 x, .int .i64 y, .int .i64 sq, .slice ua uk uc]) := by rw [hW, ← hs]; exact blk_new U 96 [.int .i64 k, .int .i64 row, .int .i64 num, .int .i64 x, .int .i64 y, .int .i64 sq, .slice ua uk uc]
  rw [← hU, ← hW]
  clear hU hW hs
  have b0 := QB.out.cell 0 _ rfl
  have b1 := QB.out.cell 1 _ rfl
  have b2 := QB.out.cell 2 _ rfl
  have b3 := QB.out.cell 3 _ rfl
  have b4 := QB.out.cell 4 _ rfl
  have b5 := QB.out.cell 5 _ rfl
  have b6 := QB.out.cell 6 _ rfl
  have TH : Hid (W.there w.heap.size 0 19) := QM.out.there
  have R : Hid (Below w.heap.size w (W.setCells w.heap.size 0 [.int .i64 k, .int .i64 row, .int .i64 num, .int .i64 x, .int .i64 y, .int .i64 0, .int .i64 0, .int .i64 0, .bool false, .int .i64 0, .int .i64 0, .int .i64 0, .string ⟨#[]⟩, .string ⟨#[]⟩, .string ⟨#[]⟩, .string ⟨#[]⟩, .int .i64 0, .int .i64 sq, .slice ua uk uc])) := below_cells (Nat.le_refl _) _ _ _ BW.out
  have RA : Hid ((W.setCells w.heap.size 0 [.int .i64 k, .int .i64 row, .int .i64 num, .int .i64 x, .int .i64 y, .int .i64 0, .int .i64 0, .int .i64 0, .bool false, .int .i64 0, .int .i64 0, .int .i64 0, .string ⟨#[]⟩, .string ⟨#[]⟩, .string ⟨#[]⟩, .string ⟨#[]⟩, .int .i64 0, .int .i64 sq, .slice ua uk uc]).rangeAt w.heap.size 0 [.int .i64 k, .int .i64 row, .int .i64 num, .int .i64 x, .int .i64 y, .int .i64 0, .int .i64 0, .int .i64 0, .bool false, .int .i64 0, .int .i64 0, .int .i64 0, .string ⟨#[]⟩, .string ⟨#[]⟩, .string ⟨#[]⟩, .string ⟨#[]⟩, .int .i64 0, .int .i64 sq, .slice ua uk uc]) := World.rangeAt_setCells_same _ _ _ _ TH.out
  go_wp2_with (first | (refine wpList_store_mid rfl 30 _ _ rfl w.heap.size 0 #[.int .i64 k, .int .i64 row, .int .i64 num, .int .i64 x, .int .i64 y, .int .i64 0, .int .i64 0, .int .i64 0, .bool false, .int .i64 0, .int .i64 0, .int .i64 0, .string ⟨#[]⟩, .string ⟨#[]⟩, .string ⟨#[]⟩, .string ⟨#[]⟩, .int .i64 0, .int .i64 sq, .slice ua uk uc] rfl rfl TH.out (by kernel_rfl) (by kernel_rfl) ?_))
  generalize W.setCells w.heap.size 0 [.int .i64 k, .int .i64 row, .int .i64 num, .int .i64 x, .int .i64 y, .int .i64 0, .int .i64 0, .int .i64 0, .bool false, .int .i64 0, .int .i64 0, .int .i64 0, .string ⟨#[]⟩, .string ⟨#[]⟩, .string ⟨#[]⟩, .string ⟨#[]⟩, .int .i64 0, .int .i64 sq, .slice ua uk uc] = W2 at *
  refine bodyPost_ret (results_cell_mid Tryz.results41 _ _ w.heap.size [.int .i64 k, .int .i64 row, .int .i64 num, .int .i64 x, .int .i64 y, .int .i64 0, .int .i64 0, .int .i64 0, .bool false, .int .i64 0, .int .i64 0, .int .i64 0, .string ⟨#[]⟩, .string ⟨#[]⟩, .string ⟨#[]⟩, .string ⟨#[]⟩, .int .i64 0, .int .i64 sq, .slice ua uk uc] _ rfl RA.out Tryz.underlying30 rfl (by kernel_rfl)) rfl ⟨rfl, R.out⟩
set_option maxHeartbeats 4000000 in
set_option maxRecDepth 100000 in
theorem msgOf_proposal (k row num : Int) (x y : Int) (c : Cm) (sq : Int) (ua : Option Addr) (uk uc : Nat) (w : World) :
    Calls Tryz.prog 41 #[.iface 94 (.agg #[.int .i64 k, .int .i64 row, .int .i64 num, .int .i64 x, .int .i64 y, .int .i64 c.kind, .int .i64 c.client, .int .i64 c.req, .string c.key, .string c.key2, .string c.val, .string c.old, .int .i64 c.n, .int .i64 sq, .slice ua uk uc])] w fun r w' => r = .returned (.agg #[.int .i64 k, .int .i64 row, .int .i64 num, .int .i64 x, .int .i64 y, .int .i64 0, .int .i64 0, .int .i64 0, .bool false, .int .i64 c.kind, .int .i64 c.client, .int .i64 c.req, .string c.key, .string c.key2, .string c.val, .string c.old, .int .i64 c.n, .int .i64 sq, .slice ua uk uc]) ∧ Below w.heap.size w w' := by
  have ta_bare : ∀ (z : Value) (w : World), (Instr.typeAssert (.iface 94 z) 54 107 true).run Tryz.prog w = .ok (.tuple #[.agg #[.int .i64 0, .int .i64 0, .int .i64 0], .bool false]) w := fun _ _ => by kernel_rfl
  have ta_balloted : ∀ (z : Value) (w : World), (Instr.typeAssert (.iface 94 z) 54 98 true).run Tryz.prog w = .ok (.tuple #[.agg #[.int .i64 0, .int .i64 0, .int .i64 0, .int .i64 0, .int .i64 0], .bool false]) w := fun _ _ => by kernel_rfl
  have ta_estimate : ∀ (z : Value) (w : World), (Instr.typeAssert (.iface 94 z) 54 96 true).run Tryz.prog w = .ok (.tuple #[.agg #[.int .i64 0, .int .i64 0, .int .i64 0, .int .i64 0, .int .i64 0, .int .i64 0, .slice none 0 0], .bool false]) w := fun _ _ => by kernel_rfl
  have ta_proposal : ∀ (z : Value) (w : World), (Instr.typeAssert (.iface 94 z) 54 94 true).run Tryz.prog w = .ok (.tuple #[z, .bool true]) w := fun _ _ => by kernel_rfl
  go_enter Tryz.func41, Tryz.ntmps41
  go_upto_region 13 with fail
  obtain ⟨U, hU⟩ : ∃ U, U = w.alloc (.cells #[.int .i64 0, .int .i64 0, .int .i64 0, .int .i64 0, .int .i64 0, .int .i64 0, .int .i64 0, .int .i64 0, .bool false, .int .i64 0, .int .i64 0, .int .i64 0, .string ⟨#[]⟩, .string ⟨#[]⟩, .string ⟨#[]⟩, .string ⟨#[]⟩, .int .i64 0, .int .i64 0, .slice none 0 0] 30) := ⟨_, rfl⟩
  obtain ⟨W, hW⟩ : ∃ W, W = U.alloc (.cells #[.int .i64 k, .int .i64 row, .int .i64 num, .int .i64 x, .int .i64 y, .int .i64 c.kind, .int .i64 c.client, .int .i64 c.req, .string c.key, .string c.key2, .string c.val, .string c.old, .int .i64 c.n, .int .i64 sq, .slice ua uk uc] 94) := ⟨_, rfl⟩
  have hs : U.heap.size = w.heap.size + 1 := by rw [hU]; simp
  have BW : Hid (Below w.heap.size w W) := by rw [hW, hU]; exact ((Below.refl _ w).alloc (Nat.le_refl _) _).alloc (by simp) _
  have QM : Hid (Blk W w.heap.size [.int .i64 0, .int .i64 0, .int .i64 0, .int .i64 0, .int .i64 0, .int .i64 0, .int .i64 0, .int .i64 0, .bool false, .int .i64 0, .int .i64 0, .int .i64 0, .string ⟨#[]⟩, .string ⟨#[]⟩, .string ⟨#[]⟩, .string ⟨#[]⟩, .int .i64 0, .int .i64 0, .slice none 0 0]) := by rw [hW, hU]; exact (blk_new w 30 [.int .i64 0, .int .i64 0, .int .i64 0, .int .i64 0, .int .i64 0, .int .i64 0, .int .i64 0, .int .i64 0, .bool false, .int .i64 0, .int .i64 0, .int .i64 0, .string ⟨#[]⟩, .string ⟨#[]⟩, .string ⟨#[]⟩, .string ⟨#[]⟩, .int .i64 0, .int .i64 0, .slice none 0 0]).on ((Below.refl _ _).alloc (Nat.le_refl _) _)
  have QB : Hid (Blk W (w.heap.size + 1) [.int .i64 k, .int .i64 row, .int .i64 num, .int .i64 x, .int .i64 y, .int .i64 c.kind, .int .i64 c.client, .int .i64 c.req, .string c.key, .string c.key2, .string c.val, .string c.old, .int .i64 c.n, .int .i64 sq, .slice ua uk uc]) := by rw [hW, ← hs]; exact blk_new U 94 [.int .i64 k, .int .i64 row, .int .i64 num, .int .i64 x, .int .i64 y, .int .i64 c.kind, .int .i64 c.client, .int .i64 c.req, .string c.key, .string c.key2, .string c.val, .string c.old, .int .i64 c.n, .int .i64 sq, .slice ua uk uc]
  rw [← hU, ← hW]
  clear hU hW hs
  have b0 := QB.out.cell 0 _ rfl
  have b1 := QB.out.cell 1 _ rfl
  have b2 := QB.out.cell 2 _ rfl
  have b3 := QB.out.cell 3 _ rfl
  have b4 := QB.out.cell 4 _ rfl
  have b5 := QB.out.cell 5 _ rfl
  have b6 := QB.out.cell 6 _ rfl
  have b7 := QB.out.cell 7 _ rfl
  have b8 := QB.out.cell 8 _ rfl
  have b9 := QB.out.cell 9 _ rfl
  have b10 := QB.out.cell 10 _ rfl
  have b11 := QB.out.cell 11 _ rfl
  have b12 := QB.out.cell 12 _ rfl
  have b13 := QB.out.cell 13 _ rfl
  have b14 := QB.out.cell 14 _ rfl
  have TH : Hid (W.there w.heap.size 0 19) := QM.out.there
  have R : Hid (Below w.heap.size w (W.setCells w.heap.size 0 [.int .i64 k, .int .i64 row, .int .i64 num, .int .i64 x, .int .i64 y, .int .i64 0, .int .i64 0, .int .i64 0, .bool false, .int .i64 c.kind, .int .i64 c.client, .int .i64 c.req, .string c.key, .string c.key2, .string c.val, .string c.old, .int .i64 c.n, .int .i64 sq, .slice ua uk uc])) := below_cells (Nat.le_refl _) _ _ _ BW.out
  have RA : Hid ((W.setCells w.heap.size 0 [.int .i64 k, .int .i64 row, .int .i64 num, .int .i64 x, .int .i64 y, .int .i64 0, .int .i64 0, .int .i64 0, .bool false, .int .i64 c.kind, .int .i64 c.client, .int .i64 c.req, .string c.key, .string c.key2, .string c.val, .string c.old, .int .i64 c.n, .int .i64 sq, .slice ua uk uc]).rangeAt w.heap.size 0 [.int .i64 k, .int .i64 row, .int .i64 num, .int .i64 x, .int .i64 y, .int .i64 0, .int .i64 0, .int .i64 0, .bool false, .int .i64 c.kind, .int .i64 c.client, .int .i64 c.req, .string c.key, .string c.key2, .string c.val, .string c.old, .int .i64 c.n, .int .i64 sq, .slice ua uk uc]) := World.rangeAt_setCells_same _ _ _ _ TH.out
  go_wp2_with (first | (refine wpList_store_mid rfl 30 _ _ rfl w.heap.size 0 #[.int .i64 k, .int .i64 row, .int .i64 num, .int .i64 x, .int .i64 y, .int .i64 0, .int .i64 0, .int .i64 0, .bool false, .int .i64 c.kind, .int .i64 c.client, .int .i64 c.req, .string c.key, .string c.key2, .string c.val, .string c.old, .int .i64 c.n, .int .i64 sq, .slice ua uk uc] rfl rfl TH.out (by kernel_rfl) (by kernel_rfl) ?_))
  generalize W.setCells w.heap.size 0 [.int .i64 k, .int .i64 row, .int .i64 num, .int .i64 x, .int .i64 y, .int .i64 0, .int .i64 0, .int .i64 0, .bool false, .int .i64 c.kind, .int .i64 c.client, .int .i64 c.req, .string c.key, .string c.key2, .string c.val, .string c.old, .int .i64 c.n, .int .i64 sq, .slice ua uk uc] = W2 at *
  refine bodyPost_ret (results_cell_mid Tryz.results41 _ _ w.heap.size [.int .i64 k, .int .i64 row, .int .i64 num, .int .i64 x, .int .i64 y, .int .i64 0, .int .i64 0, .int .i64 0, .bool false, .int .i64 c.kind, .int .i64 c.client, .int .i64 c.req, .string c.key, .string c.key2, .string c.val, .string c.old, .int .i64 c.n, .int .i64 sq, .slice ua uk uc] _ rfl RA.out Tryz.underlying30 rfl (by kernel_rfl)) rfl ⟨rfl, R.out⟩
set_option maxHeartbeats 4000000 in
set_option maxRecDepth 100000 in
theorem msgOf_commit (k row num : Int) (c : Cm) (sq : Int) (ua : Option Addr) (uk uc : Nat) (w : World) :
    Calls Tryz.prog 41 #[.iface 100 (.agg #[.int .i64 k, .int .i64 row, .int .i64 num, .int .i64 c.kind, .int .i64 c.client, .int .i64 c.req, .string c.key, .string c.key2, .string c.val, .string c.old, .int .i64 c.n, .int .i64 sq, .slice ua uk uc])] w fun r w' => r = .returned (.agg #[.int .i64 k, .int .i64 row, .int .i64 num, .int .i64 0, .int .i64 0, .int .i64 0, .int .i64 0, .int .i64 0, .bool false, .int .i64 c.kind, .int .i64 c.client, .int .i64 c.req, .string c.key, .string c.key2, .string c.val, .string c.old, .int .i64 c.n, .int .i64 sq, .slice ua uk uc]) ∧ Below w.heap.size w w' := by
  have ta_bare : ∀ (z : Value) (w : World), (Instr.typeAssert (.iface 100 z) 54 107 true).run Tryz.prog w = .ok (.tuple #[.agg #[.int .i64 0, .int .i64 0, .int .i64 0], .bool false]) w := fun _ _ => by kernel_rfl
  have ta_balloted : ∀ (z : Value) (w : World), (Instr.typeAssert (.iface 100 z) 54 98 true).run Tryz.prog w = .ok (.tuple #[.agg #[.int .i64 0, .int .i64 0, .int .i64 0, .int .i64 0, .int .i64 0], .bool false]) w := fun _ _ => by kernel_rfl
  have ta_estimate : ∀ (z : Value) (w : World), (Instr.typeAssert (.iface 100 z) 54 96 true).run Tryz.prog w = .ok (.tuple #[.agg #[.int .i64 0, .int .i64 0, .int .i64 0, .int .i64 0, .int .i64 0, .int .i64 0, .slice none 0 0], .bool false]) w := fun _ _ => by kernel_rfl
  have ta_proposal : ∀ (z : Value) (w : World), (Instr.typeAssert (.iface 100 z) 54 94 true).run Tryz.prog w = .ok (.tuple #[.agg #[.int .i64 0, .int .i64 0, .int .i64 0, .int .i64 0, .int .i64 0, .int .i64 0, .int .i64 0, .int .i64 0, .string ⟨#[]⟩, .string ⟨#[]⟩, .string ⟨#[]⟩, .string ⟨#[]⟩, .int .i64 0, .int .i64 0, .slice none 0 0], .bool false]) w := fun _ _ => by kernel_rfl
  have ta_commit : ∀ (z : Value) (w : World), (Instr.typeAssert (.iface 100 z) 54 100 true).run Tryz.prog w = .ok (.tuple #[z, .bool true]) w := fun _ _ => by kernel_rfl
  go_enter Tryz.func41, Tryz.ntmps41
  go_upto_region 16 with fail
  obtain ⟨U, hU⟩ : ∃ U, U = w.alloc (.cells #[.int .i64 0, .int .i64 0, .int .i64 0, .int .i64 0, .int .i64 0, .int .i64 0, .int .i64 0, .int .i64 0, .bool false, .int .i64 0, .int .i64 0, .int .i64 0, .string ⟨#[]⟩, .string ⟨#[]⟩, .string ⟨#[]⟩, .string ⟨#[]⟩, .int .i64 0, .int .i64 0, .slice none 0 0] 30) := ⟨_, rfl⟩
  obtain ⟨W, hW⟩ : ∃ W, W = U.alloc (.cells #[.int .i64 k, .int .i64 row, .int .i64 num, .int .i64 c.kind, .int .i64 c.client, .int .i64 c.req, .string c.key, .string c.key2, .string c.val, .string c.old, .int .i64 c.n, .int .i64 sq, .slice ua uk uc] 100) := ⟨_, rfl⟩
  have hs : U.heap.size = w.heap.size + 1 := by rw [hU]; simp
  have BW : Hid (Below w.heap.size w W) := by rw [hW, hU]; exact ((Below.refl _ w).alloc (Nat.le_refl _) _).alloc (by simp) _
  have QM : Hid (Blk W w.heap.size [.int .i64 0, .int .i64 0, .int .i64 0, .int .i64 0, .int .i64 0, .int .i64 0, .int .i64 0, .int .i64 0, .bool false, .int .i64 0, .int .i64 0, .int .i64 0, .string ⟨#[]⟩, .string ⟨#[]⟩, .string ⟨#[]⟩, .string ⟨#[]⟩, .int .i64 0, .int .i64 0, .slice none 0 0]) := by rw [hW, hU]; exact (blk_new w 30 [.int .i64 0, .int .i64 0, .int .i64 0, .int .i64 0, .int .i64 0, .int .i64 0, .int .i64 0, .int .i64 0, .bool false, .int .i64 0, .int .i64 0, .int .i64 0, .string ⟨#[]⟩, .string ⟨#[]⟩, .string ⟨#[]⟩, .string ⟨#[]⟩, .int .i64 0, .int .i64 0, .slice none 0 0]).on ((Below.refl _ _).alloc (Nat.le_refl _) _)
  have QB : Hid (Blk W (w.heap.size + 1) [.int .i64 k, .int .i64 row, .int .i64 num, .int .i64 c.kind, .int .i64 c.client, .int .i64 c.req, .string c.key, .string c.key2, .string c.val, .string c.old, .int .i64 c.n, .int .i64 sq, .slice ua uk uc]) := by rw [hW, ← hs]; exact blk_new U 100 [.int .i64 k, .int .i64 row, .int .i64 num, .int .i64 c.kind, .int .i64 c.client, .int .i64 c.req, .string c.key, .string c.key2, .string c.val, .string c.old, .int .i64 c.n, .int .i64 sq, .slice ua uk uc]
  rw [← hU, ← hW]
  clear hU hW hs
  have b0 := QB.out.cell 0 _ rfl
  have b1 := QB.out.cell 1 _ rfl
  have b2 := QB.out.cell 2 _ rfl
  have b3 := QB.out.cell 3 _ rfl
  have b4 := QB.out.cell 4 _ rfl
  have b5 := QB.out.cell 5 _ rfl
  have b6 := QB.out.cell 6 _ rfl
  have b7 := QB.out.cell 7 _ rfl
  have b8 := QB.out.cell 8 _ rfl
  have b9 := QB.out.cell 9 _ rfl
  have b10 := QB.out.cell 10 _ rfl
  have b11 := QB.out.cell 11 _ rfl
  have b12 := QB.out.cell 12 _ rfl
  have TH : Hid (W.there w.heap.size 0 19) := QM.out.there
  have R : Hid (Below w.heap.size w (W.setCells w.heap.size 0 [.int .i64 k, .int .i64 row, .int .i64 num, .int .i64 0, .int .i64 0, .int .i64 0, .int .i64 0, .int .i64 0, .bool false, .int .i64 c.kind, .int .i64 c.client, .int .i64 c.req, .string c.key, .string c.key2, .string c.val, .string c.old, .int .i64 c.n, .int .i64 sq, .slice ua uk uc])) := below_cells (Nat.le_refl _) _ _ _ BW.out
  have RA : Hid ((W.setCells w.heap.size 0 [.int .i64 k, .int .i64 row, .int .i64 num, .int .i64 0, .int .i64 0, .int .i64 0, .int .i64 0, .int .i64 0, .bool false, .int .i64 c.kind, .int .i64 c.client, .int .i64 c.req, .string c.key, .string c.key2, .string c.val, .string c.old, .int .i64 c.n, .int .i64 sq, .slice ua uk uc]).rangeAt w.heap.size 0 [.int .i64 k, .int .i64 row, .int .i64 num, .int .i64 0, .int .i64 0, .int .i64 0, .int .i64 0, .int .i64 0, .bool false, .int .i64 c.kind, .int .i64 c.client, .int .i64 c.req, .string c.key, .string c.key2, .string c.val, .string c.old, .int .i64 c.n, .int .i64 sq, .slice ua uk uc]) := World.rangeAt_setCells_same _ _ _ _ TH.out
  go_wp2_with (first | (refine wpList_store_mid rfl 30 _ _ rfl w.heap.size 0 #[.int .i64 k, .int .i64 row, .int .i64 num, .int .i64 0, .int .i64 0, .int .i64 0, .int .i64 0, .int .i64 0, .bool false, .int .i64 c.kind, .int .i64 c.client, .int .i64 c.req, .string c.key, .string c.key2, .string c.val, .string c.old, .int .i64 c.n, .int .i64 sq, .slice ua uk uc] rfl rfl TH.out (by kernel_rfl) (by kernel_rfl) ?_))
  generalize W.setCells w.heap.size 0 [.int .i64 k, .int .i64 row, .int .i64 num, .int .i64 0, .int .i64 0, .int .i64 0, .int .i64 0, .int .i64 0, .bool false, .int .i64 c.kind, .int .i64 c.client, .int .i64 c.req, .string c.key, .string c.key2, .string c.val, .string c.old, .int .i64 c.n, .int .i64 sq, .slice ua uk uc] = W2 at *
  refine bodyPost_ret (results_cell_mid Tryz.results41 _ _ w.heap.size [.int .i64 k, .int .i64 row, .int .i64 num, .int .i64 0, .int .i64 0, .int .i64 0, .int .i64 0, .int .i64 0, .bool false, .int .i64 c.kind, .int .i64 c.client, .int .i64 c.req, .string c.key, .string c.key2, .string c.val, .string c.old, .int .i64 c.n, .int .i64 sq, .slice ua uk uc] _ rfl RA.out Tryz.underlying30 rfl (by kernel_rfl)) rfl ⟨rfl, R.out⟩
set_option maxHeartbeats 4000000 in
set_option maxRecDepth 100000 in
theorem msgOf_noVote (k row num : Int) (x y : Int) (w : World) :
    Calls Tryz.prog 41 #[.iface 101 (.agg #[.int .i64 k, .int .i64 row, .int .i64 num, .int .i64 x, .int .i64 y])] w fun r w' => r = .returned (.agg #[.int .i64 k, .int .i64 row, .int .i64 num, .int .i64 x, .int .i64 y, .int .i64 0, .int .i64 0, .int .i64 0, .bool false, .int .i64 0, .int .i64 0, .int .i64 0, .string ⟨#[]⟩, .string ⟨#[]⟩, .string ⟨#[]⟩, .string ⟨#[]⟩, .int .i64 0, .int .i64 0, .slice none 0 0]) ∧ Below w.heap.size w w' := by
  have ta_bare : ∀ (z : Value) (w : World), (Instr.typeAssert (.iface 101 z) 54 107 true).run Tryz.prog w = .ok (.tuple #[.agg #[.int .i64 0, .int .i64 0, .int .i64 0], .bool false]) w := fun _ _ => by kernel_rfl
  have ta_balloted : ∀ (z : Value) (w : World), (Instr.typeAssert (.iface 101 z) 54 98 true).run Tryz.prog w = .ok (.tuple #[.agg #[.int .i64 0, .int .i64 0, .int .i64 0, .int .i64 0, .int .i64 0], .bool false]) w := fun _ _ => by kernel_rfl
  have ta_estimate : ∀ (z : Value) (w : World), (Instr.typeAssert (.iface 101 z) 54 96 true).run Tryz.prog w = .ok (.tuple #[.agg #[.int .i64 0, .int .i64 0, .int .i64 0, .int .i64 0, .int .i64 0, .int .i64 0, .slice none 0 0], .bool false]) w := fun _ _ => by kernel_rfl
  have ta_proposal : ∀ (z : Value) (w : World), (Instr.typeAssert (.iface 101 z) 54 94 true).run Tryz.prog w = .ok (.tuple #[.agg #[.int .i64 0, .int .i64 0, .int .i64 0, .int .i64 0, .int .i64 0, .int .i64 0, .int .i64 0, .int .i64 0, .string ⟨#[]⟩, .string ⟨#[]⟩, .string ⟨#[]⟩, .string ⟨#[]⟩, .int .i64 0, .int .i64 0, .slice none 0 0], .bool false]) w := fun _ _ => by kernel_rfl
  have ta_commit : ∀ (z : Value) (w : World), (Instr.typeAssert (.iface 101 z) 54 100 true).run Tryz.prog w = .ok (.tuple #[.agg #[.int .i64 0, .int .i64 0, .int .i64 0, .int .i64 0, .int .i64 0, .int .i64 0, .string ⟨#[]⟩, .string ⟨#[]⟩, .string ⟨#[]⟩, .string ⟨#[]⟩, .int .i64 0, .int .i64 0, .slice none 0 0], .bool false]) w := fun _ _ => by kernel_rfl
  have ta_noVote : ∀ (z : Value) (w : World), (Instr.typeAssert (.iface 101 z) 54 101 true).run Tryz.prog w = .ok (.tuple #[z, .bool true]) w := fun _ _ => by kernel_rfl
  go_enter Tryz.func41, Tryz.ntmps41
  go_upto_region 19 with fail
  obtain ⟨U, hU⟩ : ∃ U, U = w.alloc (.cells #[.int .i64 0, .int .i64 0, .int .i64 0, .int .i64 0, .int .i64 0, .int .i64 0, .int .i64 0, .int .i64 0, .bool false, .int .i64 0, .int .i64 0, .int .i64 0, .string ⟨#[]⟩, .string ⟨#[]⟩, .string ⟨#[]⟩, .string ⟨#[]⟩, .int .i64 0, .int .i64 0, .slice none 0 0] 30) := ⟨_, rfl⟩
  obtain ⟨W, hW⟩ : ∃ W, W = U.alloc (.cells #[.int .i64 k, .int .i64 row, .int .i64 num, .int .i64 x, .int .i64 y] 101) := ⟨_, rfl⟩
  have hs : U.heap.size = w.heap.size + 1 := by rw [hU]; simp
  have BW : Hid (Below w.heap.size w W) := by rw [hW, hU]; exact ((Below.refl _ w).alloc (Nat.le_refl _) _).alloc (by simp) _
  have QM : Hid (Blk W w.heap.size [.int .i64 0, .int .i64 0, .int .i64 0, .int .i64 0, .int .i64 0, .int .i64 0, .int .i64 0, .int .i64 0, .bool false, .int .i64 0, .int .i64 0, .int .i64 0, .string ⟨#[]⟩, .string ⟨#[]⟩, .string ⟨#[]⟩, .string ⟨#[]⟩, .int .i64 0, .int .i64 0, .slice none 0 0]) := by rw [hW, hU]; exact (blk_new w 30 [.int .i64 0, .int .i64 0, .int .i64 0, .int .i64 0, .int .i64 0, .int .i64 0, .int .i64 0, .int .i64 0, .bool false, .int .i64 0, .int .i64 0, .int .i64 0, .string ⟨#[]⟩, .string ⟨#[]⟩, .string ⟨#[]⟩, .string ⟨#[]⟩, .int .i64 0, .int .i64 0, .slice none 0 0]).on ((Below.refl _ _).alloc (Nat.le_refl _) _)
  have QB : Hid (Blk W (w.heap.size + 1) [.int .i64 k, .int .i64 row, .int .i64 num, .int .i64 x, .int .i64 y]) := by rw [hW, ← hs]; exact blk_new U 101 [.int .i64 k, .int .i64 row, .int .i64 num, .int .i64 x, .int .i64 y]
  rw [← hU, ← hW]
  clear hU hW hs
  have b0 := QB.out.cell 0 _ rfl
  have b1 := QB.out.cell 1 _ rfl
  have b2 := QB.out.cell 2 _ rfl
  have b3 := QB.out.cell 3 _ rfl
  have b4 := QB.out.cell 4 _ rfl
  have TH : Hid (W.there w.heap.size 0 19) := QM.out.there
  have R : Hid (Below w.heap.size w (W.setCells w.heap.size 0 [.int .i64 k, .int .i64 row, .int .i64 num, .int .i64 x, .int .i64 y, .int .i64 0, .int .i64 0, .int .i64 0, .bool false, .int .i64 0, .int .i64 0, .int .i64 0, .string ⟨#[]⟩, .string ⟨#[]⟩, .string ⟨#[]⟩, .string ⟨#[]⟩, .int .i64 0, .int .i64 0, .slice none 0 0])) := below_cells (Nat.le_refl _) _ _ _ BW.out
  have RA : Hid ((W.setCells w.heap.size 0 [.int .i64 k, .int .i64 row, .int .i64 num, .int .i64 x, .int .i64 y, .int .i64 0, .int .i64 0, .int .i64 0, .bool false, .int .i64 0, .int .i64 0, .int .i64 0, .string ⟨#[]⟩, .string ⟨#[]⟩, .string ⟨#[]⟩, .string ⟨#[]⟩, .int .i64 0, .int .i64 0, .slice none 0 0]).rangeAt w.heap.size 0 [.int .i64 k, .int .i64 row, .int .i64 num, .int .i64 x, .int .i64 y, .int .i64 0, .int .i64 0, .int .i64 0, .bool false, .int .i64 0, .int .i64 0, .int .i64 0, .string ⟨#[]⟩, .string ⟨#[]⟩, .string ⟨#[]⟩, .string ⟨#[]⟩, .int .i64 0, .int .i64 0, .slice none 0 0]) := World.rangeAt_setCells_same _ _ _ _ TH.out
  go_wp2_with (first | (refine wpList_store_mid rfl 30 _ _ rfl w.heap.size 0 #[.int .i64 k, .int .i64 row, .int .i64 num, .int .i64 x, .int .i64 y, .int .i64 0, .int .i64 0, .int .i64 0, .bool false, .int .i64 0, .int .i64 0, .int .i64 0, .string ⟨#[]⟩, .string ⟨#[]⟩, .string ⟨#[]⟩, .string ⟨#[]⟩, .int .i64 0, .int .i64 0, .slice none 0 0] rfl rfl TH.out (by kernel_rfl) (by kernel_rfl) ?_))
  generalize W.setCells w.heap.size 0 [.int .i64 k, .int .i64 row, .int .i64 num, .int .i64 x, .int .i64 y, .int .i64 0, .int .i64 0, .int .i64 0, .bool false, .int .i64 0, .int .i64 0, .int .i64 0, .string ⟨#[]⟩, .string ⟨#[]⟩, .string ⟨#[]⟩, .string ⟨#[]⟩, .int .i64 0, .int .i64 0, .slice none 0 0] = W2 at *
  refine bodyPost_ret (results_cell_mid Tryz.results41 _ _ w.heap.size [.int .i64 k, .int .i64 row, .int .i64 num, .int .i64 x, .int .i64 y, .int .i64 0, .int .i64 0, .int .i64 0, .bool false, .int .i64 0, .int .i64 0, .int .i64 0, .string ⟨#[]⟩, .string ⟨#[]⟩, .string ⟨#[]⟩, .string ⟨#[]⟩, .int .i64 0, .int .i64 0, .slice none 0 0] _ rfl RA.out Tryz.underlying30 rfl (by kernel_rfl)) rfl ⟨rfl, R.out⟩
set_option maxHeartbeats 4000000 in
set_option maxRecDepth 100000 in
theorem msgOf_nack (k row num : Int) (x y p q : Int) (w : World) :
    Calls Tryz.prog 41 #[.iface 105 (.agg #[.int .i64 k, .int .i64 row, .int .i64 num, .int .i64 x, .int .i64 y, .int .i64 p, .int .i64 q])] w fun r w' => r = .returned (.agg #[.int .i64 k, .int .i64 row, .int .i64 num, .int .i64 x, .int .i64 y, .int .i64 p, .int .i64 q, .int .i64 0, .bool false, .int .i64 0, .int .i64 0, .int .i64 0, .string ⟨#[]⟩, .string ⟨#[]⟩, .string ⟨#[]⟩, .string ⟨#[]⟩, .int .i64 0, .int .i64 0, .slice none 0 0]) ∧ Below w.heap.size w w' := by
  have ta_bare : ∀ (z : Value) (w : World), (Instr.typeAssert (.iface 105 z) 54 107 true).run Tryz.prog w = .ok (.tuple #[.agg #[.int .i64 0, .int .i64 0, .int .i64 0], .bool false]) w := fun _ _ => by kernel_rfl
  have ta_balloted : ∀ (z : Value) (w : World), (Instr.typeAssert (.iface 105 z) 54 98 true).run Tryz.prog w = .ok (.tuple #[.agg #[.int .i64 0, .int .i64 0, .int .i64 0, .int .i64 0, .int .i64 0], .bool false]) w := fun _ _ => by kernel_rfl
  have ta_estimate : ∀ (z : Value) (w : World), (Instr.typeAssert (.iface 105 z) 54 96 true).run Tryz.prog w = .ok (.tuple #[.agg #[.int .i64 0, .int .i64 0, .int .i64 0, .int .i64 0, .int .i64 0, .int .i64 0, .slice none 0 0], .bool false]) w := fun _ _ => by kernel_rfl
  have ta_proposal : ∀ (z : Value) (w : World), (Instr.typeAssert (.iface 105 z) 54 94 true).run Tryz.prog w = .ok (.tuple #[.agg #[.int .i64 0, .int .i64 0, .int .i64 0, .int .i64 0, .int .i64 0, .int .i64 0, .int .i64 0, .int .i64 0, .string ⟨#[]⟩, .string ⟨#[]⟩, .string ⟨#[]⟩, .string ⟨#[]⟩, .int .i64 0, .int .i64 0, .slice none 0 0], .bool false]) w := fun _ _ => by kernel_rfl
  have ta_commit : ∀ (z : Value) (w : World), (Instr.typeAssert (.iface 105 z) 54 100 true).run Tryz.prog w = .ok (.tuple #[.agg #[.int .i64 0, .int .i64 0, .int .i64 0, .int .i64 0, .int .i64 0, .int .i64 0, .string ⟨#[]⟩, .string ⟨#[]⟩, .string ⟨#[]⟩, .string ⟨#[]⟩, .int .i64 0, .int .i64 0, .slice none 0 0], .bool false]) w := fun _ _ => by kernel_rfl
  have ta_noVote : ∀ (z : Value) (w : World), (Instr.typeAssert (.iface 105 z) 54 101 true).run Tryz.prog w = .ok (.tuple #[.agg #[.int .i64 0, .int .i64 0, .int .i64 0, .int .i64 0, .int .i64 0], .bool false]) w := fun _ _ => by kernel_rfl
  have ta_vote : ∀ (z : Value) (w : World), (Instr.typeAssert (.iface 105 z) 54 103 true).run Tryz.prog w = .ok (.tuple #[.agg #[.int .i64 0, .int .i64 0, .int .i64 0, .int .i64 0, .int .i64 0, .int .i64 0, .bool false, .int .i64 0, .int .i64 0, .int .i64 0, .int .i64 0, .int .i64 0, .string ⟨#[]⟩, .string ⟨#[]⟩, .string ⟨#[]⟩, .string ⟨#[]⟩, .int .i64 0, .int .i64 0, .slice none 0 0], .bool false]) w := fun _ _ => by kernel_rfl
  have ta_nack : ∀ (z : Value) (w : World), (Instr.typeAssert (.iface 105 z) 54 105 true).run Tryz.prog w = .ok (.tuple #[z, .bool true]) w := fun _ _ => by kernel_rfl
  go_enter Tryz.func41, Tryz.ntmps41
  go_upto_region 25 with fail
  obtain ⟨U, hU⟩ : ∃ U, U = w.alloc (.cells #[.int .i64 0, .int .i64 0, .int .i64 0, .int .i64 0, .int .i64 0, .int .i64 0, .int .i64 0, .int .i64 0, .bool false, .int .i64 0, .int .i64 0, .int .i64 0, .string ⟨#[]⟩, .string ⟨#[]⟩, .string ⟨#[]⟩, .string ⟨#[]⟩, .int .i64 0, .int .i64 0, .slice none 0 0] 30) := ⟨_, rfl⟩
  obtain ⟨W, hW⟩ : ∃ W, W = U.alloc (.cells #[.int .i64 k, .int .i64 row, .int .i64 num, .int .i64 x, .int .i64 y, .int .i64 p, .int .i64 q] 105) := ⟨_, rfl⟩
  have hs : U.heap.size = w.heap.size + 1 := by rw [hU]; simp
  have BW : Hid (Below w.heap.size w W) := by rw [hW, hU]; exact ((Below.refl _ w).alloc (Nat.le_refl _) _).alloc (by simp) _
  have QM : Hid (Blk W w.heap.size [.int .i64 0, .int .i64 0, .int .i64 0, .int .i64 0, .int .i64 0, .int .i64 0, .int .i64 0, .int .i64 0, .bool false, .int .i64 0, .int .i64 0, .int .i64 0, .string ⟨#[]⟩, .string ⟨#[]⟩, .string ⟨#[]⟩, .string ⟨#[]⟩, .int .i64 0, .int .i64 0, .slice none 0 0]) := by rw [hW, hU]; exact (blk_new w 30 [.int .i64 0, .int .i64 0, .int .i64 0, .int .i64 0, .int .i64 0, .int .i64 0, .int .i64 0, .int .i64 0, .bool false, .int .i64 0, .int .i64 0, .int .i64 0, .string ⟨#[]⟩, .string ⟨#[]⟩, .string ⟨#[]⟩, .string ⟨#[]⟩, .int .i64 0, .int .i64 0, .slice none 0 0]).on ((Below.refl _ _).alloc (Nat.le_refl _) _)
  have QB : Hid (Blk W (w.heap.size + 1) [.int .i64 k, .int .i64 row, .int .i64 num, .int .i64 x, .int .i64 y, .int .i64 p, .int .i64 q]) := by rw [hW, ← hs]; exact blk_new U 105 [.int .i64 k, .int .i64 row, .int .i64 num, .int .i64 x, .int .i64 y, .int .i64 p, .int .i64 q]
  rw [← hU, ← hW]
  clear hU hW hs
  have b0 := QB.out.cell 0 _ rfl
  have b1 := QB.out.cell 1 _ rfl
  have b2 := QB.out.cell 2 _ rfl
  have b3 := QB.out.cell 3 _ rfl
  have b4 := QB.out.cell 4 _ rfl
  have b5 := QB.out.cell 5 _ rfl
  have b6 := QB.out.cell 6 _ rfl
  have TH : Hid (W.there w.heap.size 0 19) := QM.out.there
  have R : Hid (Below w.heap.size w (W.setCells w.heap.size 0 [.int .i64 k, .int .i64 row, .int .i64 num, .int .i64 x, .int .i64 y, .int .i64 p, .int .i64 q, .int .i64 0, .bool false, .int .i64 0, .int .i64 0, .int .i64 0, .string ⟨#[]⟩, .string ⟨#[]⟩, .string ⟨#[]⟩, .string ⟨#[]⟩, .int .i64 0, .int .i64 0, .slice none 0 0])) := below_cells (Nat.le_refl _) _ _ _ BW.out
  have RA : Hid ((W.setCells w.heap.size 0 [.int .i64 k, .int .i64 row, .int .i64 num, .int .i64 x, .int .i64 y, .int .i64 p, .int .i64 q, .int .i64 0, .bool false, .int .i64 0, .int .i64 0, .int .i64 0, .string ⟨#[]⟩, .string ⟨#[]⟩, .string ⟨#[]⟩, .string ⟨#[]⟩, .int .i64 0, .int .i64 0, .slice none 0 0]).rangeAt w.heap.size 0 [.int .i64 k, .int .i64 row, .int .i64 num, .int .i64 x, .int .i64 y, .int .i64 p, .int .i64 q, .int .i64 0, .bool false, .int .i64 0, .int .i64 0, .int .i64 0, .string ⟨#[]⟩, .string ⟨#[]⟩, .string ⟨#[]⟩, .string ⟨#[]⟩, .int .i64 0, .int .i64 0, .slice none 0 0]) := World.rangeAt_setCells_same _ _ _ _ TH.out
  go_wp2_with (first | (refine wpList_store_mid rfl 30 _ _ rfl w.heap.size 0 #[.int .i64 k, .int .i64 row, .int .i64 num, .int .i64 x, .int .i64 y, .int .i64 p, .int .i64 q, .int .i64 0, .bool false, .int .i64 0, .int .i64 0, .int .i64 0, .string ⟨#[]⟩, .string ⟨#[]⟩, .string ⟨#[]⟩, .string ⟨#[]⟩, .int .i64 0, .int .i64 0, .slice none 0 0] rfl rfl TH.out (by kernel_rfl) (by kernel_rfl) ?_))
  generalize W.setCells w.heap.size 0 [.int .i64 k, .int .i64 row, .int .i64 num, .int .i64 x, .int .i64 y, .int .i64 p, .int .i64 q, .int .i64 0, .bool false, .int .i64 0, .int .i64 0, .int .i64 0, .string ⟨#[]⟩, .string ⟨#[]⟩, .string ⟨#[]⟩, .string ⟨#[]⟩, .int .i64 0, .int .i64 0, .slice none 0 0] = W2 at *
  refine bodyPost_ret (results_cell_mid Tryz.results41 _ _ w.heap.size [.int .i64 k, .int .i64 row, .int .i64 num, .int .i64 x, .int .i64 y, .int .i64 p, .int .i64 q, .int .i64 0, .bool false, .int .i64 0, .int .i64 0, .int .i64 0, .string ⟨#[]⟩, .string ⟨#[]⟩, .string ⟨#[]⟩, .string ⟨#[]⟩, .int .i64 0, .int .i64 0, .slice none 0 0] _ rfl RA.out Tryz.underlying30 rfl (by kernel_rfl)) rfl ⟨rfl, R.out⟩
end Go.Proofs.YtdokagebfeejbaaGreatDoor
