import Derived.Deep.Cut
import Derived.Deep.MidRow
import Derived.Test.YtibfdoggolkljaaGreatDoorJ22
set_option maxHeartbeats 4000000
set_option maxRecDepth 100000
namespace Go.Proofs.YtibfdoggolkljaaGreatDoor
open Go.RowKit Go.Wire1
theorem msgOf_bare (k row num : Int) (w : World) :
  Calls Tryz.prog 22 #[.iface 91 (.agg #[.int .i64 k, .int .i64 row, .int .i64 num])] w fun r w' => r = .returned (.agg #[.int .i64 k, .int .i64 row, .int .i64 num, .int .i64 0, .int .i64 0, .int .i64 0, .int .i64 0, .int .i64 0, .bool false, .int .i64 0, .int .i64 0, .int .i64 0, .string ⟨#[]⟩, .string ⟨#[]⟩, .string ⟨#[]⟩, .string ⟨#[]⟩, .int .i64 0, .int .i64 0, .slice none 0 0]) ∧ Below w.heap.size w w' := by
 have ta_bare : ∀ (z : Value) (w : World), (Instr.typeAssert (.iface 91 z) 45 91 true).run Tryz.prog w = .ok (.tuple #[z, .bool true]) w := fun _ _ => by kernel_rfl
 go_enter Tryz.func22, Tryz.ntmps22
 go_upto_region 4 with fail
 obtain ⟨U, hU⟩ : ∃ U, U = w.alloc (.cells #[.int .i64 0, .int .i64 0, .int .i64 0, .int .i64 0, .int .i64 0, .int .i64 0, .int .i64 0, .int .i64 0, .bool false, .int .i64 0, .int .i64 0, .int .i64 0, .string ⟨#[]⟩, .string ⟨#[]⟩, .string ⟨#[]⟩, .string ⟨#[]⟩, .int .i64 0, .int .i64 0, .slice none 0 0] 30) := ⟨_, rfl⟩
 obtain ⟨W, hW⟩ : ∃ W, W = U.alloc (.cells #[.int .i64 k, .int .i64 row, .int .i64 num] 91) := ⟨_, rfl⟩
 have hs : U.heap.size = w.heap.size + 1 := by rw [hU]; simp
 have BW : Hid (Below w.heap.size w W) := by rw [hW, hU]; exact ((Below.refl _ w).alloc zN _).alloc (by simp) _
 have QM : Hid (Blk W w.heap.size [.int .i64 0, .int .i64 0, .int .i64 0, .int .i64 0, .int .i64 0, .int .i64 0, .int .i64 0, .int .i64 0, .bool false, .int .i64 0, .int .i64 0, .int .i64 0, .string ⟨#[]⟩, .string ⟨#[]⟩, .string ⟨#[]⟩, .string ⟨#[]⟩, .int .i64 0, .int .i64 0, .slice none 0 0]) := by rw [hW, hU]; exact (blk_new w 30 [.int .i64 0, .int .i64 0, .int .i64 0, .int .i64 0, .int .i64 0, .int .i64 0, .int .i64 0, .int .i64 0, .bool false, .int .i64 0, .int .i64 0, .int .i64 0, .string ⟨#[]⟩, .string ⟨#[]⟩, .string ⟨#[]⟩, .string ⟨#[]⟩, .int .i64 0, .int .i64 0, .slice none 0 0]).on ((Below.refl _ _).alloc zN _)
 have QB : Hid (Blk W (w.heap.size + 1) [.int .i64 k, .int .i64 row, .int .i64 num]) := by rw [hW, ← hs]; exact blk_new U 91 [.int .i64 k, .int .i64 row, .int .i64 num]
 rw [← hU, ← hW]
 clear hU hW hs
 have b0 := QB.out.cell 0 _ rfl
 have b1 := QB.out.cell 1 _ rfl
 have b2 := QB.out.cell 2 _ rfl
 have TH : Hid (W.there w.heap.size 0 19) := QM.out.there
 have R : Hid (Below w.heap.size w (W.setCells w.heap.size 0 [.int .i64 k, .int .i64 row, .int .i64 num, .int .i64 0, .int .i64 0, .int .i64 0, .int .i64 0, .int .i64 0, .bool false, .int .i64 0, .int .i64 0, .int .i64 0, .string ⟨#[]⟩, .string ⟨#[]⟩, .string ⟨#[]⟩, .string ⟨#[]⟩, .int .i64 0, .int .i64 0, .slice none 0 0])) := below_cells zN _ _ _ BW.out
 have RA : Hid ((W.setCells w.heap.size 0 [.int .i64 k, .int .i64 row, .int .i64 num, .int .i64 0, .int .i64 0, .int .i64 0, .int .i64 0, .int .i64 0, .bool false, .int .i64 0, .int .i64 0, .int .i64 0, .string ⟨#[]⟩, .string ⟨#[]⟩, .string ⟨#[]⟩, .string ⟨#[]⟩, .int .i64 0, .int .i64 0, .slice none 0 0]).rangeAt w.heap.size 0 [.int .i64 k, .int .i64 row, .int .i64 num, .int .i64 0, .int .i64 0, .int .i64 0, .int .i64 0, .int .i64 0, .bool false, .int .i64 0, .int .i64 0, .int .i64 0, .string ⟨#[]⟩, .string ⟨#[]⟩, .string ⟨#[]⟩, .string ⟨#[]⟩, .int .i64 0, .int .i64 0, .slice none 0 0]) := World.rangeAt_setCells_same _ _ _ _ TH.out
 go_wp2_with (first | (refine wpList_store_mid rfl 30 _ _ rfl w.heap.size 0 #[.int .i64 k, .int .i64 row, .int .i64 num, .int .i64 0, .int .i64 0, .int .i64 0, .int .i64 0, .int .i64 0, .bool false, .int .i64 0, .int .i64 0, .int .i64 0, .string ⟨#[]⟩, .string ⟨#[]⟩, .string ⟨#[]⟩, .string ⟨#[]⟩, .int .i64 0, .int .i64 0, .slice none 0 0] rfl rfl TH.out (by kernel_rfl) (by kernel_rfl) ?_))
 generalize W.setCells w.heap.size 0 [.int .i64 k, .int .i64 row, .int .i64 num, .int .i64 0, .int .i64 0, .int .i64 0, .int .i64 0, .int .i64 0, .bool false, .int .i64 0, .int .i64 0, .int .i64 0, .string ⟨#[]⟩, .string ⟨#[]⟩, .string ⟨#[]⟩, .string ⟨#[]⟩, .int .i64 0, .int .i64 0, .slice none 0 0] = W2 at *
 refine bodyPost_ret (results_cell_mid Tryz.results22 _ _ w.heap.size [.int .i64 k, .int .i64 row, .int .i64 num, .int .i64 0, .int .i64 0, .int .i64 0, .int .i64 0, .int .i64 0, .bool false, .int .i64 0, .int .i64 0, .int .i64 0, .string ⟨#[]⟩, .string ⟨#[]⟩, .string ⟨#[]⟩, .string ⟨#[]⟩, .int .i64 0, .int .i64 0, .slice none 0 0] _ rfl RA.out Tryz.underlying30 rfl (by kernel_rfl)) rfl ⟨rfl, R.out⟩
theorem msgOf_balloted (k row num : Int) (x y : Int) (w : World) :
  Calls Tryz.prog 22 #[.iface 82 (.agg #[.int .i64 k, .int .i64 row, .int .i64 num, .int .i64 x, .int .i64 y])] w fun r w' => r = .returned (.agg #[.int .i64 k, .int .i64 row, .int .i64 num, .int .i64 x, .int .i64 y, .int .i64 0, .int .i64 0, .int .i64 0, .bool false, .int .i64 0, .int .i64 0, .int .i64 0, .string ⟨#[]⟩, .string ⟨#[]⟩, .string ⟨#[]⟩, .string ⟨#[]⟩, .int .i64 0, .int .i64 0, .slice none 0 0]) ∧ Below w.heap.size w w' := by
 have ta_bare : ∀ (z : Value) (w : World), (Instr.typeAssert (.iface 82 z) 45 91 true).run Tryz.prog w = .ok (.tuple #[.agg #[.int .i64 0, .int .i64 0, .int .i64 0], .bool false]) w := fun _ _ => by kernel_rfl
 have ta_balloted : ∀ (z : Value) (w : World), (Instr.typeAssert (.iface 82 z) 45 82 true).run Tryz.prog w = .ok (.tuple #[z, .bool true]) w := fun _ _ => by kernel_rfl
 go_enter Tryz.func22, Tryz.ntmps22
 go_upto_region 7 with fail
 obtain ⟨U, hU⟩ : ∃ U, U = w.alloc (.cells #[.int .i64 0, .int .i64 0, .int .i64 0, .int .i64 0, .int .i64 0, .int .i64 0, .int .i64 0, .int .i64 0, .bool false, .int .i64 0, .int .i64 0, .int .i64 0, .string ⟨#[]⟩, .string ⟨#[]⟩, .string ⟨#[]⟩, .string ⟨#[]⟩, .int .i64 0, .int .i64 0, .slice none 0 0] 30) := ⟨_, rfl⟩
 obtain ⟨W, hW⟩ : ∃ W, W = U.alloc (.cells #[.int .i64 k, .int .i64 row, .int .i64 num, .int .i64 x, .int .i64 y] 82) := ⟨_, rfl⟩
 have hs : U.heap.size = w.heap.size + 1 := by rw [hU]; simp
 have BW : Hid (Below w.heap.size w W) := by rw [hW, hU]; exact ((Below.refl _ w).alloc zN _).alloc (by simp) _
 have QM : Hid (Blk W w.heap.size [.int .i64 0, .int .i64 0, .int .i64 0, .int .i64 0, .int .i64 0, .int .i64 0, .int .i64 0, .int .i64 0, .bool false, .int .i64 0, .int .i64 0, .int .i64 0, .string ⟨#[]⟩, .string ⟨#[]⟩, .string ⟨#[]⟩, .string ⟨#[]⟩, .int .i64 0, .int .i64 0, .slice none 0 0]) := by rw [hW, hU]; exact (blk_new w 30 [.int .i64 0, .int .i64 0, .int .i64 0, .int .i64 0, .int .i64 0, .int .i64 0, .int .i64 0, .int .i64 0, .bool false, .int .i64 0, .int .i64 0, .int .i64 0, .string ⟨#[]⟩, .string ⟨#[]⟩, .string ⟨#[]⟩, .string ⟨#[]⟩, .int .i64 0, .int .i64 0, .slice none 0 0]).on ((Below.refl _ _).alloc zN _)
 have QB : Hid (Blk W (w.heap.size + 1) [.int .i64 k, .int .i64 row, .int .i64 num, .int .i64 x, .int .i64 y]) := by rw [hW, ← hs]; exact blk_new U 82 [.int .i64 k, .int .i64 row, .int .i64 num, .int .i64 x, .int .i64 y]
 rw [← hU, ← hW]
 clear hU hW hs
 have b0 := QB.out.cell 0 _ rfl
 have b1 := QB.out.cell 1 _ rfl
 have b2 := QB.out.cell 2 _ rfl
 have b3 := QB.out.cell 3 _ rfl
 have b4 := QB.out.cell 4 _ rfl
 have TH : Hid (W.there w.heap.size 0 19) := QM.out.there
 have R : Hid (Below w.heap.size w (W.setCells w.heap.size 0 [.int .i64 k, .int .i64 row, .int .i64 num, .int .i64 x, .int .i64 y, .int .i64 0, .int .i64 0, .int .i64 0, .bool false, .int .i64 0, .int .i64 0, .int .i64 0, .string ⟨#[]⟩, .string ⟨#[]⟩, .string ⟨#[]⟩, .string ⟨#[]⟩, .int .i64 0, .int .i64 0, .slice none 0 0])) := below_cells zN _ _ _ BW.out
 have RA : Hid ((W.setCells w.heap.size 0 [.int .i64 k, .int .i64 row, .int .i64 num, .int .i64 x, .int .i64 y, .int .i64 0, .int .i64 0, .int .i64 0, .bool false, .int .i64 0, .int .i64 0, .int .i64 0, .string ⟨#[]⟩, .string ⟨#[]⟩, .string ⟨#[]⟩, .string ⟨#[]⟩, .int .i64 0, .int .i64 0, .slice none 0 0]).rangeAt w.heap.size 0 [.int .i64 k, .int .i64 row, .int .i64 num, .int .i64 x, .int .i64 y, .int .i64 0, .int .i64 0, .int .i64 0, .bool false, .int .i64 0, .int .i64 0, .int .i64 0, .string ⟨#[]⟩, .string ⟨#[]⟩, .string ⟨#[]⟩, .string ⟨#[]⟩, .int .i64 0, .int .i64 0, .slice none 0 0]) := World.rangeAt_setCells_same _ _ _ _ TH.out
 go_wp2_with (first | (refine wpList_store_mid rfl 30 _ _ rfl w.heap.size 0 #[.int .i64 k, .int .i64 row, .int .i64 num, .int .i64 x, .int .i64 y, .int .i64 0, .int .i64 0, .int .i64 0, .bool false, .int .i64 0, .int .i64 0, .int .i64 0, .string ⟨#[]⟩, .string ⟨#[]⟩, .string ⟨#[]⟩, .string ⟨#[]⟩, .int .i64 0, .int .i64 0, .slice none 0 0] rfl rfl TH.out (by kernel_rfl) (by kernel_rfl) ?_))
 generalize W.setCells w.heap.size 0 [.int .i64 k, .int .i64 row, .int .i64 num, .int .i64 x, .int .i64 y, .int .i64 0, .int .i64 0, .int .i64 0, .bool false, .int .i64 0, .int .i64 0, .int .i64 0, .string ⟨#[]⟩, .string ⟨#[]⟩, .string ⟨#[]⟩, .string ⟨#[]⟩, .int .i64 0, .int .i64 0, .slice none 0 0] = W2 at *
 refine bodyPost_ret (results_cell_mid Tryz.results22 _ _ w.heap.size [.int .i64 k, .int .i64 row, .int .i64 num, .int .i64 x, .int .i64 y, .int .i64 0, .int .i64 0, .int .i64 0, .bool false, .int .i64 0, .int .i64 0, .int .i64 0, .string ⟨#[]⟩, .string ⟨#[]⟩, .string ⟨#[]⟩, .string ⟨#[]⟩, .int .i64 0, .int .i64 0, .slice none 0 0] _ rfl RA.out Tryz.underlying30 rfl (by kernel_rfl)) rfl ⟨rfl, R.out⟩
theorem msgOf_estimate (k row num : Int) (x y sq : Int) (ua : Option Addr) (uk uc : Nat) (w : World) :
  Calls Tryz.prog 22 #[.iface 80 (.agg #[.int .i64 k, .int .i64 row, .int .i64 num, .int .i64 x, .int .i64 y, .int .i64 sq, .slice ua uk uc])] w fun r w' => r = .returned (.agg #[.int .i64 k, .int .i64 row, .int .i64 num, .int .i64 x, .int .i64 y, .int .i64 0, .int .i64 0, .int .i64 0, .bool false, .int .i64 0, .int .i64 0, .int .i64 0, .string ⟨#[]⟩, .string ⟨#[]⟩, .string ⟨#[]⟩, .string ⟨#[]⟩, .int .i64 0, .int .i64 sq, .slice ua uk uc]) ∧ Below w.heap.size w w' := by
 have ta_bare : ∀ (z : Value) (w : World), (Instr.typeAssert (.iface 80 z) 45 91 true).run Tryz.prog w = .ok (.tuple #[.agg #[.int .i64 0, .int .i64 0, .int .i64 0], .bool false]) w := fun _ _ => by kernel_rfl
 have ta_balloted : ∀ (z : Value) (w : World), (Instr.typeAssert (.iface 80 z) 45 82 true).run Tryz.prog w = .ok (.tuple #[.agg #[.int .i64 0, .int .i64 0, .int .i64 0, .int .i64 0, .int .i64 0], .bool false]) w := fun _ _ => by kernel_rfl
 have ta_estimate : ∀ (z : Value) (w : World), (Instr.typeAssert (.iface 80 z) 45 80 true).run Tryz.prog w = .ok (.tuple #[z, .bool true]) w := fun _ _ => by kernel_rfl
 go_enter Tryz.func22, Tryz.ntmps22
 go_upto_region 10 with fail
 obtain ⟨U, hU⟩ : ∃ U, U = w.alloc (.cells #[.int .i64 0, .int .i64 0, .int .i64 0, .int .i64 0, .int .i64 0, .int .i64 0, .int .i64 0, .int .i64 0, .bool false, .int .i64 0, .int .i64 0, .int .i64 0, .string ⟨#[]⟩, .string ⟨#[]⟩, .string ⟨#[]⟩, .string ⟨#[]⟩, .int .i64 0, .int .i64 0, .slice none 0 0] 30) := ⟨_, rfl⟩
 obtain ⟨W, hW⟩ : ∃ W, W = U.alloc (.cells #[.int .i64 k, .int .i64 row, .int .i64 num, .int .i64 x, .int .i64 y, .int .i64 sq, .slice ua uk uc] 80) := ⟨_, rfl⟩
 have hs : U.heap.size = w.heap.size + 1 := by rw [hU]; simp
 have BW : Hid (Below w.heap.size w W) := by rw [hW, hU]; exact ((Below.refl _ w).alloc zN _).alloc (by simp) _
 have QM : Hid (Blk W w.heap.size [.int .i64 0, .int .i64 0, .int .i64 0, .int .i64 0, .int .i64 0, .int .i64 0, .int .i64 0, .int .i64 0, .bool false, .int .i64 0, .int .i64 0, .int .i64 0, .string ⟨#[]⟩, .string ⟨#[]⟩, .string ⟨#[]⟩, .string ⟨#[]⟩, .int .i64 0, .int .i64 0, .slice none 0 0]) := by rw [hW, hU]; exact (blk_new w 30 [.int .i64 0, .int .i64 0, .int .i64 0, .int .i64 0, .int .i64 0, .int .i64 0, .int .i64 0, .int .i64 0, .bool false, .int .i64 0, .int .i64 0, .int .i64 0, .string ⟨#[]⟩, .string ⟨#[]⟩, .string ⟨#[]⟩, .string ⟨#[]⟩, .int .i64 0, .int .i64 0, .slice none 0 0]).on ((Below.refl _ _).alloc zN _)
 have QB : Hid (Blk W (w.heap.size + 1) [.int .i64 k, .int .i64 row, .int .i64 num, .int .i64 x, .int .i64 y, .int .i64 sq, .slice ua uk uc]) := by rw [hW, ← hs]; exact blk_new U 80 [.int .i64 k, .int .i64 row, .int .i64 num, .int .i64 x, .int .i64 y, .int .i64 sq, .slice ua uk uc]
 rw [← hU, ← hW]
 clear hU hW hs
 have b0 := QB.out.cell 0 _ rfl
 have b1 := QB.out.cell 1 _ rfl
 have b2 := QB.out.cell 2 _ rfl
 have b3 := QB.out.cell 3 _ rfl
 have b4 := QB.out.cell 4 _ rfl
 have b5 := QB.out.cell 5 _ rfl
 have b6 := QB.out.cell 6 _ rfl
 have TH : Hid (W.there w.heap.size 0 19) := QM.out.there
 have R : Hid (Below w.heap.size w (W.setCells w.heap.size 0 [.int .i64 k, .int .i64 row, .int .i64 num, .int .i64 x, .int .i64 y, .int .i64 0, .int .i64 0, .int .i64 0, .bool false, .int .i64 0, .int .i64 0, .int .i64 0, .string ⟨#[]⟩, .string ⟨#[]⟩, .string ⟨#[]⟩, .string ⟨#[]⟩, .int .i64 0, .int .i64 sq, .slice ua uk uc])) := below_cells zN _ _ _ BW.out
 have RA : Hid ((W.setCells w.heap.size 0 [.int .i64 k, .int .i64 row, .int .i64 num, .int .i64 x, .int .i64 y, .int .i64 0, .int .i64 0, .int .i64 0, .bool false, .int .i64 0, .int .i64 0, .int .i64 0, .string ⟨#[]⟩, .string ⟨#[]⟩, .string ⟨#[]⟩, .string ⟨#[]⟩, .int .i64 0, .int .i64 sq, .slice ua uk uc]).rangeAt w.heap.size 0 [.int .i64 k, .int .i64 row, .int .i64 num, .int .i64 x, .int .i64 y, .int .i64 0, .int .i64 0, .int .i64 0, .bool false, .int .i64 0, .int .i64 0, .int .i64 0, .string ⟨#[]⟩, .string ⟨#[]⟩, .string ⟨#[]⟩, .string ⟨#[]⟩, .int .i64 0, .int .i64 sq, .slice ua uk uc]) := World.rangeAt_setCells_same _ _ _ _ TH.out
 go_wp2_with (first | (refine wpList_store_mid rfl 30 _ _ rfl w.heap.size 0 #[.int .i64 k, .int .i64 row, .int .i64 num, .int .i64 x, .int .i64 y, .int .i64 0, .int .i64 0, .int .i64 0, .bool false, .int .i64 0, .int .i64 0, .int .i64 0, .string ⟨#[]⟩, .string ⟨#[]⟩, .string ⟨#[]⟩, .string ⟨#[]⟩, .int .i64 0, .int .i64 sq, .slice ua uk uc] rfl rfl TH.out (by kernel_rfl) (by kernel_rfl) ?_))
 generalize W.setCells w.heap.size 0 [.int .i64 k, .int .i64 row, .int .i64 num, .int .i64 x, .int .i64 y, .int .i64 0, .int .i64 0, .int .i64 0, .bool false, .int .i64 0, .int .i64 0, .int .i64 0, .string ⟨#[]⟩, .string ⟨#[]⟩, .string ⟨#[]⟩, .string ⟨#[]⟩, .int .i64 0, .int .i64 sq, .slice ua uk uc] = W2 at *
 refine bodyPost_ret (results_cell_mid Tryz.results22 _ _ w.heap.size [.int .i64 k, .int .i64 row, .int .i64 num, .int .i64 x, .int .i64 y, .int .i64 0, .int .i64 0, .int .i64 0, .bool false, .int .i64 0, .int .i64 0, .int .i64 0, .string ⟨#[]⟩, .string ⟨#[]⟩, .string ⟨#[]⟩, .string ⟨#[]⟩, .int .i64 0, .int .i64 sq, .slice ua uk uc] _ rfl RA.out Tryz.underlying30 rfl (by kernel_rfl)) rfl ⟨rfl, R.out⟩
theorem msgOf_proposal (k row num : Int) (x y : Int) (c : Cm) (sq : Int) (ua : Option Addr) (uk uc : Nat) (w : World) :
  Calls Tryz.prog 22 #[.iface 78 (.agg #[.int .i64 k, .int .i64 row, .int .i64 num, .int .i64 x, .int .i64 y, .int .i64 c.kind, .int .i64 c.client, .int .i64 c.req, .string c.key, .string c.key2, .string c.val, .string c.old, .int .i64 c.n, .int .i64 sq, .slice ua uk uc])] w fun r w' => r = .returned (.agg #[.int .i64 k, .int .i64 row, .int .i64 num, .int .i64 x, .int .i64 y, .int .i64 0, .int .i64 0, .int .i64 0, .bool false, .int .i64 c.kind, .int .i64 c.client, .int .i64 c.req, .string c.key, .string c.key2, .string c.val, .string c.old, .int .i64 c.n, .int .i64 sq, .slice ua uk uc]) ∧ Below w.heap.size w w' := by
 have ta_bare : ∀ (z : Value) (w : World), (Instr.typeAssert (.iface 78 z) 45 91 true).run Tryz.prog w = .ok (.tuple #[.agg #[.int .i64 0, .int .i64 0, .int .i64 0], .bool false]) w := fun _ _ => by kernel_rfl
 have ta_balloted : ∀ (z : Value) (w : World), (Instr.typeAssert (.iface 78 z) 45 82 true).run Tryz.prog w = .ok (.tuple #[.agg #[.int .i64 0, .int .i64 0, .int .i64 0, .int .i64 0, .int .i64 0], .bool false]) w := fun _ _ => by kernel_rfl
 have ta_estimate : ∀ (z : Value) (w : World), (Instr.typeAssert (.iface 78 z) 45 80 true).run Tryz.prog w = .ok (.tuple #[.agg #[.int .i64 0, .int .i64 0, .int .i64 0, .int .i64 0, .int .i64 0, .int .i64 0, .slice none 0 0], .bool false]) w := fun _ _ => by kernel_rfl
 have ta_proposal : ∀ (z : Value) (w : World), (Instr.typeAssert (.iface 78 z) 45 78 true).run Tryz.prog w = .ok (.tuple #[z, .bool true]) w := fun _ _ => by kernel_rfl
 go_enter Tryz.func22, Tryz.ntmps22
 go_upto_region 13 with fail
 obtain ⟨U, hU⟩ : ∃ U, U = w.alloc (.cells #[.int .i64 0, .int .i64 0, .int .i64 0, .int .i64 0, .int .i64 0, .int .i64 0, .int .i64 0, .int .i64 0, .bool false, .int .i64 0, .int .i64 0, .int .i64 0, .string ⟨#[]⟩, .string ⟨#[]⟩, .string ⟨#[]⟩, .string ⟨#[]⟩, .int .i64 0, .int .i64 0, .slice none 0 0] 30) := ⟨_, rfl⟩
 obtain ⟨W, hW⟩ : ∃ W, W = U.alloc (.cells #[.int .i64 k, .int .i64 row, .int .i64 num, .int .i64 x, .int .i64 y, .int .i64 c.kind, .int .i64 c.client, .int .i64 c.req, .string c.key, .string c.key2, .string c.val, .string c.old, .int .i64 c.n, .int .i64 sq, .slice ua uk uc] 78) := ⟨_, rfl⟩
 have hs : U.heap.size = w.heap.size + 1 := by rw [hU]; simp
 have BW : Hid (Below w.heap.size w W) := by rw [hW, hU]; exact ((Below.refl _ w).alloc zN _).alloc (by simp) _
 have QM : Hid (Blk W w.heap.size [.int .i64 0, .int .i64 0, .int .i64 0, .int .i64 0, .int .i64 0, .int .i64 0, .int .i64 0, .int .i64 0, .bool false, .int .i64 0, .int .i64 0, .int .i64 0, .string ⟨#[]⟩, .string ⟨#[]⟩, .string ⟨#[]⟩, .string ⟨#[]⟩, .int .i64 0, .int .i64 0, .slice none 0 0]) := by rw [hW, hU]; exact (blk_new w 30 [.int .i64 0, .int .i64 0, .int .i64 0, .int .i64 0, .int .i64 0, .int .i64 0, .int .i64 0, .int .i64 0, .bool false, .int .i64 0, .int .i64 0, .int .i64 0, .string ⟨#[]⟩, .string ⟨#[]⟩, .string ⟨#[]⟩, .string ⟨#[]⟩, .int .i64 0, .int .i64 0, .slice none 0 0]).on ((Below.refl _ _).alloc zN _)
 have QB : Hid (Blk W (w.heap.size + 1) [.int .i64 k, .int .i64 row, .int .i64 num, .int .i64 x, .int .i64 y, .int .i64 c.kind, .int .i64 c.client, .int .i64 c.req, .string c.key, .string c.key2, .string c.val, .string c.old, .int .i64 c.n, .int .i64 sq, .slice ua uk uc]) := by rw [hW, ← hs]; exact blk_new U 78 [.int .i64 k, .int .i64 row, .int .i64 num, .int .i64 x, .int .i64 y, .int .i64 c.kind, .int .i64 c.client, .int .i64 c.req, .string c.key, .string c.key2, .string c.val, .string c.old, .int .i64 c.n, .int .i64 sq, .slice ua uk uc]
 rw [← hU, ← hW]
 clear hU hW hs
 have b0 := QB.out.cell 0 _ rfl
 have b1 := QB.out.cell 1 _ rfl
 have b2 := QB.out.cell 2 _ rfl
 have b3 := QB.out.cell 3 _ rfl
 have b4 := QB.out.cell 4 _ rfl
 have b5 := QB.out.cell 5 _ rfl
 have b6 := QB.out.cell 6 _ rfl
 have b7 := QB.out.cell 7 _ rfl
 have b8 := QB.out.cell 8 _ rfl
 have b9 := QB.out.cell 9 _ rfl
 have b10 := QB.out.cell 10 _ rfl
 have b11 := QB.out.cell 11 _ rfl
 have b12 := QB.out.cell 12 _ rfl
 have b13 := QB.out.cell 13 _ rfl
 have b14 := QB.out.cell 14 _ rfl
 have TH : Hid (W.there w.heap.size 0 19) := QM.out.there
 have R : Hid (Below w.heap.size w (W.setCells w.heap.size 0 [.int .i64 k, .int .i64 row, .int .i64 num, .int .i64 x, .int .i64 y, .int .i64 0, .int .i64 0, .int .i64 0, .bool false, .int .i64 c.kind, .int .i64 c.client, .int .i64 c.req, .string c.key, .string c.key2, .string c.val, .string c.old, .int .i64 c.n, .int .i64 sq, .slice ua uk uc])) := below_cells zN _ _ _ BW.out
 have RA : Hid ((W.setCells w.heap.size 0 [.int .i64 k, .int .i64 row, .int .i64 num, .int .i64 x, .int .i64 y, .int .i64 0, .int .i64 0, .int .i64 0, .bool false, .int .i64 c.kind, .int .i64 c.client, .int .i64 c.req, .string c.key, .string c.key2, .string c.val, .string c.old, .int .i64 c.n, .int .i64 sq, .slice ua uk uc]).rangeAt w.heap.size 0 [.int .i64 k, .int .i64 row, .int .i64 num, .int .i64 x, .int .i64 y, .int .i64 0, .int .i64 0, .int .i64 0, .bool false, .int .i64 c.kind, .int .i64 c.client, .int .i64 c.req, .string c.key, .string c.key2, .string c.val, .string c.old, .int .i64 c.n, .int .i64 sq, .slice ua uk uc]) := World.rangeAt_setCells_same _ _ _ _ TH.out
 go_wp2_with (first | (refine wpList_store_mid rfl 30 _ _ rfl w.heap.size 0 #[.int .i64 k, .int .i64 row, .int .i64 num, .int .i64 x, .int .i64 y, .int .i64 0, .int .i64 0, .int .i64 0, .bool false, .int .i64 c.kind, .int .i64 c.client, .int .i64 c.req, .string c.key, .string c.key2, .string c.val, .string c.old, .int .i64 c.n, .int .i64 sq, .slice ua uk uc] rfl rfl TH.out (by kernel_rfl) (by kernel_rfl) ?_))
 generalize W.setCells w.heap.size 0 [.int .i64 k, .int .i64 row, .int .i64 num, .int .i64 x, .int .i64 y, .int .i64 0, .int .i64 0, .int .i64 0, .bool false, .int .i64 c.kind, .int .i64 c.client, .int .i64 c.req, .string c.key, .string c.key2, .string c.val, .string c.old, .int .i64 c.n, .int .i64 sq, .slice ua uk uc] = W2 at *
 refine bodyPost_ret (results_cell_mid Tryz.results22 _ _ w.heap.size [.int .i64 k, .int .i64 row, .int .i64 num, .int .i64 x, .int .i64 y, .int .i64 0, .int .i64 0, .int .i64 0, .bool false, .int .i64 c.kind, .int .i64 c.client, .int .i64 c.req, .string c.key, .string c.key2, .string c.val, .string c.old, .int .i64 c.n, .int .i64 sq, .slice ua uk uc] _ rfl RA.out Tryz.underlying30 rfl (by kernel_rfl)) rfl ⟨rfl, R.out⟩
theorem msgOf_commit (k row num : Int) (c : Cm) (sq : Int) (ua : Option Addr) (uk uc : Nat) (w : World) :
  Calls Tryz.prog 22 #[.iface 84 (.agg #[.int .i64 k, .int .i64 row, .int .i64 num, .int .i64 c.kind, .int .i64 c.client, .int .i64 c.req, .string c.key, .string c.key2, .string c.val, .string c.old, .int .i64 c.n, .int .i64 sq, .slice ua uk uc])] w fun r w' => r = .returned (.agg #[.int .i64 k, .int .i64 row, .int .i64 num, .int .i64 0, .int .i64 0, .int .i64 0, .int .i64 0, .int .i64 0, .bool false, .int .i64 c.kind, .int .i64 c.client, .int .i64 c.req, .string c.key, .string c.key2, .string c.val, .string c.old, .int .i64 c.n, .int .i64 sq, .slice ua uk uc]) ∧ Below w.heap.size w w' := by
 have ta_bare : ∀ (z : Value) (w : World), (Instr.typeAssert (.iface 84 z) 45 91 true).run Tryz.prog w = .ok (.tuple #[.agg #[.int .i64 0, .int .i64 0, .int .i64 0], .bool false]) w := fun _ _ => by kernel_rfl
 have ta_balloted : ∀ (z : Value) (w : World), (Instr.typeAssert (.iface 84 z) 45 82 true).run Tryz.prog w = .ok (.tuple #[.agg #[.int .i64 0, .int .i64 0, .int .i64 0, .int .i64 0, .int .i64 0], .bool false]) w := fun _ _ => by kernel_rfl
 have ta_estimate : ∀ (z : Value) (w : World), (Instr.typeAssert (.iface 84 z) 45 80 true).run Tryz.prog w = .ok (.tuple #[.agg #[.int .i64 0, .int .i64 0, .int .i64 0, .int .i64 0, .int .i64 0, .int .i64 0, .slice none 0 0], .bool false]) w := fun _ _ => by kernel_rfl
 have ta_proposal : ∀ (z : Value) (w : World), (Instr.typeAssert (.iface 84 z) 45 78 true).run Tryz.prog w = .ok (.tuple #[.agg #[.int .i64 0, .int .i64 0, .int .i64 0, .int .i64 0, .int .i64 0, .int .i64 0, .int .i64 0, .int .i64 0, .string ⟨#[]⟩, .string ⟨#[]⟩, .string ⟨#[]⟩, .string ⟨#[]⟩, .int .i64 0, .int .i64 0, .slice none 0 0], .bool false]) w := fun _ _ => by kernel_rfl
 have ta_commit : ∀ (z : Value) (w : World), (Instr.typeAssert (.iface 84 z) 45 84 true).run Tryz.prog w = .ok (.tuple #[z, .bool true]) w := fun _ _ => by kernel_rfl
 go_enter Tryz.func22, Tryz.ntmps22
 go_upto_region 16 with fail
 obtain ⟨U, hU⟩ : ∃ U, U = w.alloc (.cells #[.int .i64 0, .int .i64 0, .int .i64 0, .int .i64 0, .int .i64 0, .int .i64 0, .int .i64 0, .int .i64 0, .bool false, .int .i64 0, .int .i64 0, .int .i64 0, .string ⟨#[]⟩, .string ⟨#[]⟩, .string ⟨#[]⟩, .string ⟨#[]⟩, .int .i64 0, .int .i64 0, .slice none 0 0] 30) := ⟨_, rfl⟩
 obtain ⟨W, hW⟩ : ∃ W, W = U.alloc (.cells #[.int .i64 k, .int .i64 row, .int .i64 num, .int .i64 c.kind, .int .i64 c.client, .int .i64 c.req, .string c.key, .string c.key2, .string c.val, .string c.old, .int .i64 c.n, .int .i64 sq, .slice ua uk uc] 84) := ⟨_, rfl⟩
 have hs : U.heap.size = w.heap.size + 1 := by rw [hU]; simp
 have BW : Hid (Below w.heap.size w W) := by rw [hW, hU]; exact ((Below.refl _ w).alloc zN _).alloc (by simp) _
 have QM : Hid (Blk W w.heap.size [.int .i64 0, .int .i64 0, .int .i64 0, .int .i64 0, .int .i64 0, .int .i64 0, .int .i64 0, .int .i64 0, .bool false, .int .i64 0, .int .i64 0, .int .i64 0, .string ⟨#[]⟩, .string ⟨#[]⟩, .string ⟨#[]⟩, .string ⟨#[]⟩, .int .i64 0, .int .i64 0, .slice none 0 0]) := by rw [hW, hU]; exact (blk_new w 30 [.int .i64 0, .int .i64 0, .int .i64 0, .int .i64 0, .int .i64 0, .int .i64 0, .int .i64 0, .int .i64 0, .bool false, .int .i64 0, .int .i64 0, .int .i64 0, .string ⟨#[]⟩, .string ⟨#[]⟩, .string ⟨#[]⟩, .string ⟨#[]⟩, .int .i64 0, .int .i64 0, .slice none 0 0]).on ((Below.refl _ _).alloc zN _)
 have QB : Hid (Blk W (w.heap.size + 1) [.int .i64 k, .int .i64 row, .int .i64 num, .int .i64 c.kind, .int .i64 c.client, .int .i64 c.req, .string c.key, .string c.key2, .string c.val, .string c.old, .int .i64 c.n, .int .i64 sq, .slice ua uk uc]) := by rw [hW, ← hs]; exact blk_new U 84 [.int .i64 k, .int .i64 row, .int .i64 num, .int .i64 c.kind, .int .i64 c.client, .int .i64 c.req, .string c.key, .string c.key2, .string c.val, .string c.old, .int .i64 c.n, .int .i64 sq, .slice ua uk uc]
 rw [← hU, ← hW]
 clear hU hW hs
 have b0 := QB.out.cell 0 _ rfl
 have b1 := QB.out.cell 1 _ rfl
 have b2 := QB.out.cell 2 _ rfl
 have b3 := QB.out.cell 3 _ rfl
 have b4 := QB.out.cell 4 _ rfl
 have b5 := QB.out.cell 5 _ rfl
 have b6 := QB.out.cell 6 _ rfl
 have b7 := QB.out.cell 7 _ rfl
 have b8 := QB.out.cell 8 _ rfl
 have b9 := QB.out.cell 9 _ rfl
 have b10 := QB.out.cell 10 _ rfl
 have b11 := QB.out.cell 11 _ rfl
 have b12 := QB.out.cell 12 _ rfl
 have TH : Hid (W.there w.heap.size 0 19) := QM.out.there
 have R : Hid (Below w.heap.size w (W.setCells w.heap.size 0 [.int .i64 k, .int .i64 row, .int .i64 num, .int .i64 0, .int .i64 0, .int .i64 0, .int .i64 0, .int .i64 0, .bool false, .int .i64 c.kind, .int .i64 c.client, .int .i64 c.req, .string c.key, .string c.key2, .string c.val, .string c.old, .int .i64 c.n, .int .i64 sq, .slice ua uk uc])) := below_cells zN _ _ _ BW.out
 have RA : Hid ((W.setCells w.heap.size 0 [.int .i64 k, .int .i64 row, .int .i64 num, .int .i64 0, .int .i64 0, .int .i64 0, .int .i64 0, .int .i64 0, .bool false, .int .i64 c.kind, .int .i64 c.client, .int .i64 c.req, .string c.key, .string c.key2, .string c.val, .string c.old, .int .i64 c.n, .int .i64 sq, .slice ua uk uc]).rangeAt w.heap.size 0 [.int .i64 k, .int .i64 row, .int .i64 num, .int .i64 0, .int .i64 0, .int .i64 0, .int .i64 0, .int .i64 0, .bool false, .int .i64 c.kind, .int .i64 c.client, .int .i64 c.req, .string c.key, .string c.key2, .string c.val, .string c.old, .int .i64 c.n, .int .i64 sq, .slice ua uk uc]) := World.rangeAt_setCells_same _ _ _ _ TH.out
 go_wp2_with (first | (refine wpList_store_mid rfl 30 _ _ rfl w.heap.size 0 #[.int .i64 k, .int .i64 row, .int .i64 num, .int .i64 0, .int .i64 0, .int .i64 0, .int .i64 0, .int .i64 0, .bool false, .int .i64 c.kind, .int .i64 c.client, .int .i64 c.req, .string c.key, .string c.key2, .string c.val, .string c.old, .int .i64 c.n, .int .i64 sq, .slice ua uk uc] rfl rfl TH.out (by kernel_rfl) (by kernel_rfl) ?_))
 generalize W.setCells w.heap.size 0 [.int .i64 k, .int .i64 row, .int .i64 num, .int .i64 0, .int .i64 0, .int .i64 0, .int .i64 0, .int .i64 0, .bool false, .int .i64 c.kind, .int .i64 c.client, .int .i64 c.req, .string c.key, .string c.key2, .string c.val, .string c.old, .int .i64 c.n, .int .i64 sq, .slice ua uk uc] = W2 at *
 refine bodyPost_ret (results_cell_mid Tryz.results22 _ _ w.heap.size [.int .i64 k, .int .i64 row, .int .i64 num, .int .i64 0, .int .i64 0, .int .i64 0, .int .i64 0, .int .i64 0, .bool false, .int .i64 c.kind, .int .i64 c.client, .int .i64 c.req, .string c.key, .string c.key2, .string c.val, .string c.old, .int .i64 c.n, .int .i64 sq, .slice ua uk uc] _ rfl RA.out Tryz.underlying30 rfl (by kernel_rfl)) rfl ⟨rfl, R.out⟩
theorem msgOf_noVote (k row num : Int) (x y : Int) (w : World) :
  Calls Tryz.prog 22 #[.iface 85 (.agg #[.int .i64 k, .int .i64 row, .int .i64 num, .int .i64 x, .int .i64 y])] w fun r w' => r = .returned (.agg #[.int .i64 k, .int .i64 row, .int .i64 num, .int .i64 x, .int .i64 y, .int .i64 0, .int .i64 0, .int .i64 0, .bool false, .int .i64 0, .int .i64 0, .int .i64 0, .string ⟨#[]⟩, .string ⟨#[]⟩, .string ⟨#[]⟩, .string ⟨#[]⟩, .int .i64 0, .int .i64 0, .slice none 0 0]) ∧ Below w.heap.size w w' := by
 have ta_bare : ∀ (z : Value) (w : World), (Instr.typeAssert (.iface 85 z) 45 91 true).run Tryz.prog w = .ok (.tuple #[.agg #[.int .i64 0, .int .i64 0, .int .i64 0], .bool false]) w := fun _ _ => by kernel_rfl
 have ta_balloted : ∀ (z : Value) (w : World), (Instr.typeAssert (.iface 85 z) 45 82 true).run Tryz.prog w = .ok (.tuple #[.agg #[.int .i64 0, .int .i64 0, .int .i64 0, .int .i64 0, .int .i64 0], .bool false]) w := fun _ _ => by kernel_rfl
 have ta_estimate : ∀ (z : Value) (w : World), (Instr.typeAssert (.iface 85 z) 45 80 true).run Tryz.prog w = .ok (.tuple #[.agg #[.int .i64 0, .int .i64 0, .int .i64 0, .int .i64 0, .int .i64 0, .int .i64 0, .slice none 0 0], .bool false]) w := fun _ _ => by kernel_rfl
 have ta_proposal : ∀ (z : Value) (w : World), (Instr.typeAssert (.iface 85 z) 45 78 true).run Tryz.prog w = .ok (.tuple #[.agg #[.int .i64 0, .int .i64 0, .int .i64 0, .int .i64 0, .int .i64 0, .int .i64 0, .int .i64 0, .int .i64 0, .string ⟨#[]⟩, .string ⟨#[]⟩, .string ⟨#[]⟩, .string ⟨#[]⟩, .int .i64 0, .int .i64 0, .slice none 0 0], .bool false]) w := fun _ _ => by kernel_rfl
 have ta_commit : ∀ (z : Value) (w : World), (Instr.typeAssert (.iface 85 z) 45 84 true).run Tryz.prog w = .ok (.tuple #[.agg #[.int .i64 0, .int .i64 0, .int .i64 0, .int .i64 0, .int .i64 0, .int .i64 0, .string ⟨#[]⟩, .string ⟨#[]⟩, .string ⟨#[]⟩, .string ⟨#[]⟩, .int .i64 0, .int .i64 0, .slice none 0 0], .bool false]) w := fun _ _ => by kernel_rfl
 have ta_noVote : ∀ (z : Value) (w : World), (Instr.typeAssert (.iface 85 z) 45 85 true).run Tryz.prog w = .ok (.tuple #[z, .bool true]) w := fun _ _ => by kernel_rfl
 go_enter Tryz.func22, Tryz.ntmps22
 go_upto_region 19 with fail
 obtain ⟨U, hU⟩ : ∃ U, U = w.alloc (.cells #[.int .i64 0, .int .i64 0, .int .i64 0, .int .i64 0, .int .i64 0, .int .i64 0, .int .i64 0, .int .i64 0, .bool false, .int .i64 0, .int .i64 0, .int .i64 0, .string ⟨#[]⟩, .string ⟨#[]⟩, .string ⟨#[]⟩, .string ⟨#[]⟩, .int .i64 0, .int .i64 0, .slice none 0 0] 30) := ⟨_, rfl⟩
 obtain ⟨W, hW⟩ : ∃ W, W = U.alloc (.cells #[.int .i64 k, .int .i64 row, .int .i64 num, .int .i64 x, .int .i64 y] 85) := ⟨_, rfl⟩
 have hs : U.heap.size = w.heap.size + 1 := by rw [hU]; simp
 have BW : Hid (Below w.heap.size w W) := by rw [hW, hU]; exact ((Below.refl _ w).alloc zN _).alloc (by simp) _
 have QM : Hid (Blk W w.heap.size [.int .i64 0, .int .i64 0, .int .i64 0, .int .i64 0, .int .i64 0, .int .i64 0, .int .i64 0, .int .i64 0, .bool false, .int .i64 0, .int .i64 0, .int .i64 0, .string ⟨#[]⟩, .string ⟨#[]⟩, .string ⟨#[]⟩, .string ⟨#[]⟩, .int .i64 0, .int .i64 0, .slice none 0 0]) := by rw [hW, hU]; exact (blk_new w 30 [.int .i64 0, .int .i64 0, .int .i64 0, .int .i64 0, .int .i64 0, .int .i64 0, .int .i64 0, .int .i64 0, .bool false, .int .i64 0, .int .i64 0, .int .i64 0, .string ⟨#[]⟩, .string ⟨#[]⟩, .string ⟨#[]⟩, .string ⟨#[]⟩, .int .i64 0, .int .i64 0, .slice none 0 0]).on ((Below.refl _ _).alloc zN _)
 have QB : Hid (Blk W (w.heap.size + 1) [.int .i64 k, .int .i64 row, .int .i64 num, .int .i64 x, .int .i64 y]) := by rw [hW, ← hs]; exact blk_new U 85 [.int .i64 k, .int .i64 row, .int .i64 num, .int .i64 x, .int .i64 y]
 rw [← hU, ← hW]
 clear hU hW hs
 have b0 := QB.out.cell 0 _ rfl
 have b1 := QB.out.cell 1 _ rfl
 have b2 := QB.out.cell 2 _ rfl
 have b3 := QB.out.cell 3 _ rfl
 have b4 := QB.out.cell 4 _ rfl
 have TH : Hid (W.there w.heap.size 0 19) := QM.out.there
 have R : Hid (Below w.heap.size w (W.setCells w.heap.size 0 [.int .i64 k, .int .i64 row, .int .i64 num, .int .i64 x, .int .i64 y, .int .i64 0, .int .i64 0, .int .i64 0, .bool false, .int .i64 0, .int .i64 0, .int .i64 0, .string ⟨#[]⟩, .string ⟨#[]⟩, .string ⟨#[]⟩, .string ⟨#[]⟩, .int .i64 0, .int .i64 0, .slice none 0 0])) := below_cells zN _ _ _ BW.out
 have RA : Hid ((W.setCells w.heap.size 0 [.int .i64 k, .int .i64 row, .int .i64 num, .int .i64 x, .int .i64 y, .int .i64 0, .int .i64 0, .int .i64 0, .bool false, .int .i64 0, .int .i64 0, .int .i64 0, .string ⟨#[]⟩, .string ⟨#[]⟩, .string ⟨#[]⟩, .string ⟨#[]⟩, .int .i64 0, .int .i64 0, .slice none 0 0]).rangeAt w.heap.size 0 [.int .i64 k, .int .i64 row, .int .i64 num, .int .i64 x, .int .i64 y, .int .i64 0, .int .i64 0, .int .i64 0, .bool false, .int .i64 0, .int .i64 0, .int .i64 0, .string ⟨#[]⟩, .string ⟨#[]⟩, .string ⟨#[]⟩, .string ⟨#[]⟩, .int .i64 0, .int .i64 0, .slice none 0 0]) := World.rangeAt_setCells_same _ _ _ _ TH.out
 go_wp2_with (first | (refine wpList_store_mid rfl 30 _ _ rfl w.heap.size 0 #[.int .i64 k, .int .i64 row, .int .i64 num, .int .i64 x, .int .i64 y, .int .i64 0, .int .i64 0, .int .i64 0, .bool false, .int .i64 0, .int .i64 0, .int .i64 0, .string ⟨#[]⟩, .string ⟨#[]⟩, .string ⟨#[]⟩, .string ⟨#[]⟩, .int .i64 0, .int .i64 0, .slice none 0 0] rfl rfl TH.out (by kernel_rfl) (by kernel_rfl) ?_))
 generalize W.setCells w.heap.size 0 [.int .i64 k, .int .i64 row, .int .i64 num, .int .i64 x, .int .i64 y, .int .i64 0, .int .i64 0, .int .i64 0, .bool false, .int .i64 0, .int .i64 0, .int .i64 0, .string ⟨#[]⟩, .string ⟨#[]⟩, .string ⟨#[]⟩, .string ⟨#[]⟩, .int .i64 0, .int .i64 0, .slice none 0 0] = W2 at *
 refine bodyPost_ret (results_cell_mid Tryz.results22 _ _ w.heap.size [.int .i64 k, .int .i64 row, .int .i64 num, .int .i64 x, .int .i64 y, .int .i64 0, .int .i64 0, .int .i64 0, .bool false, .int .i64 0, .int .i64 0, .int .i64 0, .string ⟨#[]⟩, .string ⟨#[]⟩, .string ⟨#[]⟩, .string ⟨#[]⟩, .int .i64 0, .int .i64 0, .slice none 0 0] _ rfl RA.out Tryz.underlying30 rfl (by kernel_rfl)) rfl ⟨rfl, R.out⟩
theorem msgOf_nack (k row num : Int) (x y p q : Int) (w : World) :
  Calls Tryz.prog 22 #[.iface 89 (.agg #[.int .i64 k, .int .i64 row, .int .i64 num, .int .i64 x, .int .i64 y, .int .i64 p, .int .i64 q])] w fun r w' => r = .returned (.agg #[.int .i64 k, .int .i64 row, .int .i64 num, .int .i64 x, .int .i64 y, .int .i64 p, .int .i64 q, .int .i64 0, .bool false, .int .i64 0, .int .i64 0, .int .i64 0, .string ⟨#[]⟩, .string ⟨#[]⟩, .string ⟨#[]⟩, .string ⟨#[]⟩, .int .i64 0, .int .i64 0, .slice none 0 0]) ∧ Below w.heap.size w w' := by
 have ta_bare : ∀ (z : Value) (w : World), (Instr.typeAssert (.iface 89 z) 45 91 true).run Tryz.prog w = .ok (.tuple #[.agg #[.int .i64 0, .int .i64 0, .int .i64 0], .bool false]) w := fun _ _ => by kernel_rfl
 have ta_balloted : ∀ (z : Value) (w : World), (Instr.typeAssert (.iface 89 z) 45 82 true).run Tryz.prog w = .ok (.tuple #[.agg #[.int .i64 0, .int .i64 0, .int .i64 0, .int .i64 0, .int .i64 0], .bool false]) w := fun _ _ => by kernel_rfl
 have ta_estimate : ∀ (z : Value) (w : World), (Instr.typeAssert (.iface 89 z) 45 80 true).run Tryz.prog w = .ok (.tuple #[.agg #[.int .i64 0, .int .i64 0, .int .i64 0, .int .i64 0, .int .i64 0, .int .i64 0, .slice none 0 0], .bool false]) w := fun _ _ => by kernel_rfl
 have ta_proposal : ∀ (z : Value) (w : World), (Instr.typeAssert (.iface 89 z) 45 78 true).run Tryz.prog w = .ok (.tuple #[.agg #[.int .i64 0, .int .i64 0, .int .i64 0, .int .i64 0, .int .i64 0, .int .i64 0, .int .i64 0, .int .i64 0, .string ⟨#[]⟩, .string ⟨#[]⟩, .string ⟨#[]⟩, .string ⟨#[]⟩, .int .i64 0, .int .i64 0, .slice none 0 0], .bool false]) w := fun _ _ => by kernel_rfl
 have ta_commit : ∀ (z : Value) (w : World), (Instr.typeAssert (.iface 89 z) 45 84 true).run Tryz.prog w = .ok (.tuple #[.agg #[.int .i64 0, .int .i64 0, .int .i64 0, .int .i64 0, .int .i64 0, .int .i64 0, .string ⟨#[]⟩, .string ⟨#[]⟩, .string ⟨#[]⟩, .string ⟨#[]⟩, .int .i64 0, .int .i64 0, .slice none 0 0], .bool false]) w := fun _ _ => by kernel_rfl
 have ta_noVote : ∀ (z : Value) (w : World), (Instr.typeAssert (.iface 89 z) 45 85 true).run Tryz.prog w = .ok (.tuple #[.agg #[.int .i64 0, .int .i64 0, .int .i64 0, .int .i64 0, .int .i64 0], .bool false]) w := fun _ _ => by kernel_rfl
 have ta_vote : ∀ (z : Value) (w : World), (Instr.typeAssert (.iface 89 z) 45 87 true).run Tryz.prog w = .ok (.tuple #[.agg #[.int .i64 0, .int .i64 0, .int .i64 0, .int .i64 0, .int .i64 0, .int .i64 0, .bool false, .int .i64 0, .int .i64 0, .int .i64 0, .int .i64 0, .int .i64 0, .string ⟨#[]⟩, .string ⟨#[]⟩, .string ⟨#[]⟩, .string ⟨#[]⟩, .int .i64 0, .int .i64 0, .slice none 0 0], .bool false]) w := fun _ _ => by kernel_rfl
 have ta_nack : ∀ (z : Value) (w : World), (Instr.typeAssert (.iface 89 z) 45 89 true).run Tryz.prog w = .ok (.tuple #[z, .bool true]) w := fun _ _ => by kernel_rfl
 go_enter Tryz.func22, Tryz.ntmps22
 go_upto_region 25 with fail
 obtain ⟨U, hU⟩ : ∃ U, U = w.alloc (.cells #[.int .i64 0, .int .i64 0, .int .i64 0, .int .i64 0, .int .i64 0, .int .i64 0, .int .i64 0, .int .i64 0, .bool false, .int .i64 0, .int .i64 0, .int .i64 0, .string ⟨#[]⟩, .string ⟨#[]⟩, .string ⟨#[]⟩, .string ⟨#[]⟩, .int .i64 0, .int .i64 0, .slice none 0 0] 30) := ⟨_, rfl⟩
 obtain ⟨W, hW⟩ : ∃ W, W = U.alloc (.cells #[.int .i64 k, .int .i64 row, .int .i64 num, .int .i64 x, .int .i64 y, .int .i64 p, .int .i64 q] 89) := ⟨_, rfl⟩
 have hs : U.heap.size = w.heap.size + 1 := by rw [hU]; simp
 have BW : Hid (Below w.heap.size w W) := by rw [hW, hU]; exact ((Below.refl _ w).alloc zN _).alloc (by simp) _
 have QM : Hid (Blk W w.heap.size [.int .i64 0, .int .i64 0, .int .i64 0, .int .i64 0, .int .i64 0, .int .i64 0, .int .i64 0, .int .i64 0, .bool false, .int .i64 0, .int .i64 0, .int .i64 0, .string ⟨#[]⟩, .string ⟨#[]⟩, .string ⟨#[]⟩, .string ⟨#[]⟩, .int .i64 0, .int .i64 0, .slice none 0 0]) := by rw [hW, hU]; exact (blk_new w 30 [.int .i64 0, .int .i64 0, .int .i64 0, .int .i64 0, .int .i64 0, .int .i64 0, .int .i64 0, .int .i64 0, .bool false, .int .i64 0, .int .i64 0, .int .i64 0, .string ⟨#[]⟩, .string ⟨#[]⟩, .string ⟨#[]⟩, .string ⟨#[]⟩, .int .i64 0, .int .i64 0, .slice none 0 0]).on ((Below.refl _ _).alloc zN _)
 have QB : Hid (Blk W (w.heap.size + 1) [.int .i64 k, .int .i64 row, .int .i64 num, .int .i64 x, .int .i64 y, .int .i64 p, .int .i64 q]) := by rw [hW, ← hs]; exact blk_new U 89 [.int .i64 k, .int .i64 row, .int .i64 num, .int .i64 x, .int .i64 y, .int .i64 p, .int .i64 q]
 rw [← hU, ← hW]
 clear hU hW hs
 have b0 := QB.out.cell 0 _ rfl
 have b1 := QB.out.cell 1 _ rfl
 have b2 := QB.out.cell 2 _ rfl
 have b3 := QB.out.cell 3 _ rfl
 have b4 := QB.out.cell 4 _ rfl
 have b5 := QB.out.cell 5 _ rfl
 have b6 := QB.out.cell 6 _ rfl
 have TH : Hid (W.there w.heap.size 0 19) := QM.out.there
 have R : Hid (Below w.heap.size w (W.setCells w.heap.size 0 [.int .i64 k, .int .i64 row, .int .i64 num, .int .i64 x, .int .i64 y, .int .i64 p, .int .i64 q, .int .i64 0, .bool false, .int .i64 0, .int .i64 0, .int .i64 0, .string ⟨#[]⟩, .string ⟨#[]⟩, .string ⟨#[]⟩, .string ⟨#[]⟩, .int .i64 0, .int .i64 0, .slice none 0 0])) := below_cells zN _ _ _ BW.out
 have RA : Hid ((W.setCells w.heap.size 0 [.int .i64 k, .int .i64 row, .int .i64 num, .int .i64 x, .int .i64 y, .int .i64 p, .int .i64 q, .int .i64 0, .bool false, .int .i64 0, .int .i64 0, .int .i64 0, .string ⟨#[]⟩, .string ⟨#[]⟩, .string ⟨#[]⟩, .string ⟨#[]⟩, .int .i64 0, .int .i64 0, .slice none 0 0]).rangeAt w.heap.size 0 [.int .i64 k, .int .i64 row, .int .i64 num, .int .i64 x, .int .i64 y, .int .i64 p, .int .i64 q, .int .i64 0, .bool false, .int .i64 0, .int .i64 0, .int .i64 0, .string ⟨#[]⟩, .string ⟨#[]⟩, .string ⟨#[]⟩, .string ⟨#[]⟩, .int .i64 0, .int .i64 0, .slice none 0 0]) := World.rangeAt_setCells_same _ _ _ _ TH.out
 go_wp2_with (first | (refine wpList_store_mid rfl 30 _ _ rfl w.heap.size 0 #[.int .i64 k, .int .i64 row, .int .i64 num, .int .i64 x, .int .i64 y, .int .i64 p, .int .i64 q, .int .i64 0, .bool false, .int .i64 0, .int .i64 0, .int .i64 0, .string ⟨#[]⟩, .string ⟨#[]⟩, .string ⟨#[]⟩, .string ⟨#[]⟩, .int .i64 0, .int .i64 0, .slice none 0 0] rfl rfl TH.out (by kernel_rfl) (by kernel_rfl) ?_))
 generalize W.setCells w.heap.size 0 [.int .i64 k, .int .i64 row, .int .i64 num, .int .i64 x, .int .i64 y, .int .i64 p, .int .i64 q, .int .i64 0, .bool false, .int .i64 0, .int .i64 0, .int .i64 0, .string ⟨#[]⟩, .string ⟨#[]⟩, .string ⟨#[]⟩, .string ⟨#[]⟩, .int .i64 0, .int .i64 0, .slice none 0 0] = W2 at *
 refine bodyPost_ret (results_cell_mid Tryz.results22 _ _ w.heap.size [.int .i64 k, .int .i64 row, .int .i64 num, .int .i64 x, .int .i64 y, .int .i64 p, .int .i64 q, .int .i64 0, .bool false, .int .i64 0, .int .i64 0, .int .i64 0, .string ⟨#[]⟩, .string ⟨#[]⟩, .string ⟨#[]⟩, .string ⟨#[]⟩, .int .i64 0, .int .i64 0, .slice none 0 0] _ rfl RA.out Tryz.underlying30 rfl (by kernel_rfl)) rfl ⟨rfl, R.out⟩
end Go.Proofs.YtibfdoggolkljaaGreatDoor
