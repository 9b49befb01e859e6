/- The contract of mootref.SameRecord at two records that are alike. -/
import Derived.Test.YtjpggmenbnkbbaaGreatDoorRPred
import Derived.Test.YtjpggmenbnkbbaaGreatDoorSameC
import Derived.Test.YtjpggmenbnkbbaaGreatDoorSameI
import Derived.Deep.Cut
namespace Go.Proofs.YtjpggmenbnkbbaaGreatDoor
open Go.RowKit Go.Wire1

theorem sameC_self (c : Cm) : sameC c c = true := by simp [sameC, teq]
theorem sameB_self (l : List Int) : sameB l l = true := by
  unfold sameB
  simp
set_option maxHeartbeats 1000000 in
set_option maxRecDepth 100000 in
theorem sameInst_same (x y : Int) (w : World) : Calls Tryz.prog 23 #[.agg #[.int .i64 x, .int .i64 y], .agg #[.int .i64 x, .int .i64 y]] w fun e w' => e = .returned (.bool true) ∧ Below w.heap.size w w' := by
  have BB : ∀ o p, Hid (Below w.heap.size w ((w.alloc o).alloc p)) := fun o p => ((Below.refl _ w).alloc (Nat.le_refl _) _).alloc (by simp) _
  go_enter Tryz.func23, Tryz.ntmps23
  go_wp2
  go_ret
  exact ⟨rfl, (BB _ _).out⟩
set_option maxHeartbeats 1000000 in
set_option maxRecDepth 100000 in
theorem sameBallot_same (x y : Int) (w : World) : Calls Tryz.prog 24 #[.agg #[.int .i64 x, .int .i64 y], .agg #[.int .i64 x, .int .i64 y]] w fun e w' => e = .returned (.bool true) ∧ Below w.heap.size w w' := by
  have BB : ∀ o p, Hid (Below w.heap.size w ((w.alloc o).alloc p)) := fun o p => ((Below.refl _ w).alloc (Nat.le_refl _) _).alloc (by simp) _
  go_enter Tryz.func24, Tryz.ntmps24
  go_wp2
  go_ret
  exact ⟨rfl, (BB _ _).out⟩
set_option maxHeartbeats 2000000 in
set_option maxRecDepth 100000 in
theorem sameRec_lay (r : Rc) (a : Option Addr) (d c : Nat) (w : World) (h1 : SegI w r.da r.dn r.deps) (h2 : SegI w a d r.deps) :
    Calls Tryz.prog 13 #[.agg (rcs r).toArray, .agg (rcs ({ r with da := a, dn := d, dc := c })).toArray] w fun e w' => e = .returned (.bool true) ∧ Below w.heap.size w w' := by
  obtain ⟨V, hV⟩ : ∃ V, V = (w.alloc (.cells (rcs r).toArray 30)).alloc (.cells (rcs ({ r with da := a, dn := d, dc := c })).toArray 30) := ⟨_, rfl⟩
  have BV : Hid (Below w.heap.size w V) := by rw [hV]; exact ((Below.refl _ w).alloc (Nat.le_refl _) _).alloc (by simp) _
  have QV : Hid (Blk V w.heap.size (rcs r) ∧ Blk V (w.heap.size + 1) (rcs ({ r with da := a, dn := d, dc := c }))) := by
    rw [hV]
    refine ⟨(blk_new w 30 (rcs r)).on ((Below.refl _ _).alloc (Nat.le_refl _) _), ?_⟩
    have := blk_new (w.alloc (.cells (rcs r).toArray 30)) 30 (rcs ({ r with da := a, dn := d, dc := c }))
    rwa [show (w.alloc (.cells (rcs r).toArray 30)).heap.size = w.heap.size + 1 by simp] at this
  have H1 := hide h1
  have H2 := hide h2
  clear h1 h2
  have Vp0 : V.cell? ⟨w.heap.size, 0, none⟩ = some (.int .i64 r.kind) := QV.out.1.cell 0 _ rfl
  have Vq0 : V.cell? ⟨w.heap.size + 1, 0, none⟩ = some (.int .i64 r.kind) := QV.out.2.cell 0 _ rfl
  have Vp5 : V.cell? ⟨w.heap.size, 5, none⟩ = some (.bool r.same) := QV.out.1.cell 5 _ rfl
  have Vq5 : V.cell? ⟨w.heap.size + 1, 5, none⟩ = some (.bool r.same) := QV.out.2.cell 5 _ rfl
  have Vp14 : V.cell? ⟨w.heap.size, 14, none⟩ = some (.int .i64 r.seq) := QV.out.1.cell 14 _ rfl
  have Vq14 : V.cell? ⟨w.heap.size + 1, 14, none⟩ = some (.int .i64 r.seq) := QV.out.2.cell 14 _ rfl
  have Vp16 : V.cell? ⟨w.heap.size, 16, none⟩ = some (.int .i64 r.id) := QV.out.1.cell 16 _ rfl
  have Vq16 : V.cell? ⟨w.heap.size + 1, 16, none⟩ = some (.int .i64 r.id) := QV.out.2.cell 16 _ rfl
  have Vp17 : V.cell? ⟨w.heap.size, 17, none⟩ = some (.int .i64 r.n) := QV.out.1.cell 17 _ rfl
  have Vq17 : V.cell? ⟨w.heap.size + 1, 17, none⟩ = some (.int .i64 r.n) := QV.out.2.cell 17 _ rfl
  have Vp1 : V.cell? ⟨w.heap.size, 1, none⟩ = some (.int .i64 r.row) := QV.out.1.cell 1 _ rfl
  have Vq1 : V.cell? ⟨w.heap.size + 1, 1, none⟩ = some (.int .i64 r.row) := QV.out.2.cell 1 _ rfl
  have Vp2 : V.cell? ⟨w.heap.size, 2, none⟩ = some (.int .i64 r.num) := QV.out.1.cell 2 _ rfl
  have Vq2 : V.cell? ⟨w.heap.size + 1, 2, none⟩ = some (.int .i64 r.num) := QV.out.2.cell 2 _ rfl
  go_enter Tryz.func13, Tryz.ntmps13
  go_upto_region 1 with fail
  rw [← hV]
  clear hV
  go_wp2_with fail
  refine (sameInst_same r.row r.num _).mono ?_
  rintro e W ⟨rfl, h⟩
  have BW : Hid (Below w.heap.size w W) := BV.out.trans (h.mono BV.out.size)
  have QW : Hid (Blk W w.heap.size (rcs r) ∧ Blk W (w.heap.size + 1) (rcs ({ r with da := a, dn := d, dc := c }))) := ⟨QV.out.1.on h, QV.out.2.on h⟩
  clear h
  have Wp3 : W.cell? ⟨w.heap.size, 3, none⟩ = some (.int .i64 r.round) := QW.out.1.cell 3 _ rfl
  have Wq3 : W.cell? ⟨w.heap.size + 1, 3, none⟩ = some (.int .i64 r.round) := QW.out.2.cell 3 _ rfl
  have Wp4 : W.cell? ⟨w.heap.size, 4, none⟩ = some (.int .i64 r.who) := QW.out.1.cell 4 _ rfl
  have Wq4 : W.cell? ⟨w.heap.size + 1, 4, none⟩ = some (.int .i64 r.who) := QW.out.2.cell 4 _ rfl
  go_wp2_with fail
  refine (sameBallot_same r.round r.who _).mono ?_
  rintro e X ⟨rfl, h⟩
  have BX : Hid (Below w.heap.size w X) := BW.out.trans (h.mono BW.out.size)
  have QX : Hid (Blk X w.heap.size (rcs r) ∧ Blk X (w.heap.size + 1) (rcs ({ r with da := a, dn := d, dc := c }))) := ⟨QW.out.1.on h, QW.out.2.on h⟩
  clear h
  have Xp6 : X.cell? ⟨w.heap.size, 6, none⟩ = some (.int .i64 r.c.kind) := QX.out.1.cell 6 _ rfl
  have Xq6 : X.cell? ⟨w.heap.size + 1, 6, none⟩ = some (.int .i64 r.c.kind) := QX.out.2.cell 6 _ rfl
  have Xp7 : X.cell? ⟨w.heap.size, 7, none⟩ = some (.int .i64 r.c.client) := QX.out.1.cell 7 _ rfl
  have Xq7 : X.cell? ⟨w.heap.size + 1, 7, none⟩ = some (.int .i64 r.c.client) := QX.out.2.cell 7 _ rfl
  have Xp8 : X.cell? ⟨w.heap.size, 8, none⟩ = some (.int .i64 r.c.req) := QX.out.1.cell 8 _ rfl
  have Xq8 : X.cell? ⟨w.heap.size + 1, 8, none⟩ = some (.int .i64 r.c.req) := QX.out.2.cell 8 _ rfl
  have Xp9 : X.cell? ⟨w.heap.size, 9, none⟩ = some (.string r.c.key) := QX.out.1.cell 9 _ rfl
  have Xq9 : X.cell? ⟨w.heap.size + 1, 9, none⟩ = some (.string r.c.key) := QX.out.2.cell 9 _ rfl
  have Xp10 : X.cell? ⟨w.heap.size, 10, none⟩ = some (.string r.c.key2) := QX.out.1.cell 10 _ rfl
  have Xq10 : X.cell? ⟨w.heap.size + 1, 10, none⟩ = some (.string r.c.key2) := QX.out.2.cell 10 _ rfl
  have Xp11 : X.cell? ⟨w.heap.size, 11, none⟩ = some (.string r.c.val) := QX.out.1.cell 11 _ rfl
  have Xq11 : X.cell? ⟨w.heap.size + 1, 11, none⟩ = some (.string r.c.val) := QX.out.2.cell 11 _ rfl
  have Xp12 : X.cell? ⟨w.heap.size, 12, none⟩ = some (.string r.c.old) := QX.out.1.cell 12 _ rfl
  have Xq12 : X.cell? ⟨w.heap.size + 1, 12, none⟩ = some (.string r.c.old) := QX.out.2.cell 12 _ rfl
  have Xp13 : X.cell? ⟨w.heap.size, 13, none⟩ = some (.int .i64 r.c.n) := QX.out.1.cell 13 _ rfl
  have Xq13 : X.cell? ⟨w.heap.size + 1, 13, none⟩ = some (.int .i64 r.c.n) := QX.out.2.cell 13 _ rfl
  go_wp2_with fail
  refine (sameCmd_any r.c r.c _).mono ?_
  rintro e Y ⟨rfl, h⟩
  rw [sameC_self]
  have BY : Hid (Below w.heap.size w Y) := BX.out.trans (h.mono BX.out.size)
  have QY : Hid (Blk Y w.heap.size (rcs r) ∧ Blk Y (w.heap.size + 1) (rcs ({ r with da := a, dn := d, dc := c }))) := ⟨QX.out.1.on h, QX.out.2.on h⟩
  clear h
  have Yp15 : Y.cell? ⟨w.heap.size, 15, none⟩ = some (.slice r.da r.dn r.dc) := QY.out.1.cell 15 _ rfl
  have Yq15 : Y.cell? ⟨w.heap.size + 1, 15, none⟩ = some (.slice a d c) := QY.out.2.cell 15 _ rfl
  go_wp2_with fail
  refine (sameI_any _ _ _ _ _ _ _ _ _ (H1.out.below BY.out (Nat.le_refl _)) (H2.out.below BY.out (Nat.le_refl _))).mono ?_
  rintro e Z ⟨rfl, q, rfl⟩
  rw [sameB_self]
  go_wp2
  go_ret
  exact ⟨rfl, ⟨BY.out.1, BY.out.2, BY.out.3, BY.out.4, BY.out.5⟩⟩
end Go.Proofs.YtjpggmenbnkbbaaGreatDoor
