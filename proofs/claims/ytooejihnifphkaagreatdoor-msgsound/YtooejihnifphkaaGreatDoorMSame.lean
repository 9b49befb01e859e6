/- The contract of mootref.SameMsg at two messages that are alike. -/
import Derived.Test.YtooejihnifphkaaGreatDoorMBack2
import Derived.Test.YtooejihnifphkaaGreatDoorSameC
import Derived.Test.YtooejihnifphkaaGreatDoorSameI
import Derived.Deep.Cut
namespace Go.Proofs.YtooejihnifphkaaGreatDoor
open Go.RowKit Go.Wire1

theorem sameC_self (c : Cm) : sameC c c = true := by simp [sameC, teq]
theorem sameB_self (l : List Int) : sameB l l = true := by
  unfold sameB
  simp
set_option maxHeartbeats 1000000 in
set_option maxRecDepth 100000 in
theorem sameInst_same (x y : Int) (w : World) : Calls Tryz.prog 28 #[.agg #[.int .i64 x, .int .i64 y], .agg #[.int .i64 x, .int .i64 y]] w fun e w' => e = .returned (.bool true) ∧ Below w.heap.size w w' := by
  have BB : ∀ o p, Hid (Below w.heap.size w ((w.alloc o).alloc p)) := fun o p => ((Below.refl _ w).alloc (Nat.le_refl _) _).alloc (by simp) _
  go_enter Tryz.func28, Tryz.ntmps28
  go_wp2
  go_ret
  exact ⟨rfl, (BB _ _).out⟩
set_option maxHeartbeats 1000000 in
set_option maxRecDepth 100000 in
theorem sameBallot_same (x y : Int) (w : World) : Calls Tryz.prog 29 #[.agg #[.int .i64 x, .int .i64 y], .agg #[.int .i64 x, .int .i64 y]] w fun e w' => e = .returned (.bool true) ∧ Below w.heap.size w w' := by
  have BB : ∀ o p, Hid (Below w.heap.size w ((w.alloc o).alloc p)) := fun o p => ((Below.refl _ w).alloc (Nat.le_refl _) _).alloc (by simp) _
  go_enter Tryz.func29, Tryz.ntmps29
  go_wp2
  go_ret
  exact ⟨rfl, (BB _ _).out⟩
set_option maxHeartbeats 2000000 in
set_option maxRecDepth 100000 in
theorem sameMsg_same (m : Ms) (ua va : Option Addr) (uk uc vk vc : Nat) (w : World) (h1 : SegI w ua uk m.dl) (h2 : SegI w va vk m.dl) :
    Calls Tryz.prog 14 #[.agg (mgc m (.slice ua uk uc)).toArray, .agg (mgc m (.slice va vk vc)).toArray] w fun e w' => e = .returned (.bool true) ∧ Below w.heap.size w w' := by
  obtain ⟨V, hV⟩ : ∃ V, V = (w.alloc (.cells (mgc m (.slice ua uk uc)).toArray 30)).alloc (.cells (mgc m (.slice va vk vc)).toArray 30) := ⟨_, rfl⟩
  have BV : Hid (Below w.heap.size w V) := by rw [hV]; exact ((Below.refl _ w).alloc (Nat.le_refl _) _).alloc (by simp) _
  have QV : Hid (Blk V w.heap.size (mgc m (.slice ua uk uc)) ∧ Blk V (w.heap.size + 1) (mgc m (.slice va vk vc))) := by
    rw [hV]
    refine ⟨(blk_new w 30 (mgc m (.slice ua uk uc))).on ((Below.refl _ _).alloc (Nat.le_refl _) _), ?_⟩
    have := blk_new (w.alloc (.cells (mgc m (.slice ua uk uc)).toArray 30)) 30 (mgc m (.slice va vk vc))
    rwa [show (w.alloc (.cells (mgc m (.slice ua uk uc)).toArray 30)).heap.size = w.heap.size + 1 by simp] at this
  have H1 := hide h1
  have H2 := hide h2
  clear h1 h2
  have Vp0 : V.cell? ⟨w.heap.size, 0, none⟩ = some (.int .i64 m.kind) := QV.out.1.cell 0 _ rfl
  have Vq0 : V.cell? ⟨w.heap.size + 1, 0, none⟩ = some (.int .i64 m.kind) := QV.out.2.cell 0 _ rfl
  have Vp7 : V.cell? ⟨w.heap.size, 7, none⟩ = some (.int .i64 m.st) := QV.out.1.cell 7 _ rfl
  have Vq7 : V.cell? ⟨w.heap.size + 1, 7, none⟩ = some (.int .i64 m.st) := QV.out.2.cell 7 _ rfl
  have Vp8 : V.cell? ⟨w.heap.size, 8, none⟩ = some (.bool m.sm) := QV.out.1.cell 8 _ rfl
  have Vq8 : V.cell? ⟨w.heap.size + 1, 8, none⟩ = some (.bool m.sm) := QV.out.2.cell 8 _ rfl
  have Vp17 : V.cell? ⟨w.heap.size, 17, none⟩ = some (.int .i64 m.sq) := QV.out.1.cell 17 _ rfl
  have Vq17 : V.cell? ⟨w.heap.size + 1, 17, none⟩ = some (.int .i64 m.sq) := QV.out.2.cell 17 _ rfl
  have Vp1 : V.cell? ⟨w.heap.size, 1, none⟩ = some (.int .i64 m.row) := QV.out.1.cell 1 _ rfl
  have Vq1 : V.cell? ⟨w.heap.size + 1, 1, none⟩ = some (.int .i64 m.row) := QV.out.2.cell 1 _ rfl
  have Vp2 : V.cell? ⟨w.heap.size, 2, none⟩ = some (.int .i64 m.num) := QV.out.1.cell 2 _ rfl
  have Vq2 : V.cell? ⟨w.heap.size + 1, 2, none⟩ = some (.int .i64 m.num) := QV.out.2.cell 2 _ rfl
  go_enter Tryz.func14, Tryz.ntmps14
  go_upto_region 1 with fail
  rw [← hV]
  clear hV
  go_wp2_with fail
  refine (sameInst_same m.row m.num _).mono ?_
  rintro e W ⟨rfl, h⟩
  have BW : Hid (Below w.heap.size w W) := BV.out.trans (h.mono BV.out.size)
  have QW : Hid (Blk W w.heap.size (mgc m (.slice ua uk uc)) ∧ Blk W (w.heap.size + 1) (mgc m (.slice va vk vc))) := ⟨QV.out.1.on h, QV.out.2.on h⟩
  clear h
  have Wp3 : W.cell? ⟨w.heap.size, 3, none⟩ = some (.int .i64 m.x) := QW.out.1.cell 3 _ rfl
  have Wq3 : W.cell? ⟨w.heap.size + 1, 3, none⟩ = some (.int .i64 m.x) := QW.out.2.cell 3 _ rfl
  have Wp4 : W.cell? ⟨w.heap.size, 4, none⟩ = some (.int .i64 m.y) := QW.out.1.cell 4 _ rfl
  have Wq4 : W.cell? ⟨w.heap.size + 1, 4, none⟩ = some (.int .i64 m.y) := QW.out.2.cell 4 _ rfl
  go_wp2_with fail
  refine (sameBallot_same m.x m.y _).mono ?_
  rintro e X ⟨rfl, h⟩
  have BX : Hid (Below w.heap.size w X) := BW.out.trans (h.mono BW.out.size)
  have QX : Hid (Blk X w.heap.size (mgc m (.slice ua uk uc)) ∧ Blk X (w.heap.size + 1) (mgc m (.slice va vk vc))) := ⟨QW.out.1.on h, QW.out.2.on h⟩
  clear h
  have Xp5 : X.cell? ⟨w.heap.size, 5, none⟩ = some (.int .i64 m.p) := QX.out.1.cell 5 _ rfl
  have Xq5 : X.cell? ⟨w.heap.size + 1, 5, none⟩ = some (.int .i64 m.p) := QX.out.2.cell 5 _ rfl
  have Xp6 : X.cell? ⟨w.heap.size, 6, none⟩ = some (.int .i64 m.q) := QX.out.1.cell 6 _ rfl
  have Xq6 : X.cell? ⟨w.heap.size + 1, 6, none⟩ = some (.int .i64 m.q) := QX.out.2.cell 6 _ rfl
  go_wp2_with fail
  refine (sameBallot_same m.p m.q _).mono ?_
  rintro e X2 ⟨rfl, h⟩
  have BX2 : Hid (Below w.heap.size w X2) := BX.out.trans (h.mono BX.out.size)
  have QX2 : Hid (Blk X2 w.heap.size (mgc m (.slice ua uk uc)) ∧ Blk X2 (w.heap.size + 1) (mgc m (.slice va vk vc))) := ⟨QX.out.1.on h, QX.out.2.on h⟩
  clear h
  have X2p9 : X2.cell? ⟨w.heap.size, 9, none⟩ = some (.int .i64 m.c.kind) := QX2.out.1.cell 9 _ rfl
  have X2q9 : X2.cell? ⟨w.heap.size + 1, 9, none⟩ = some (.int .i64 m.c.kind) := QX2.out.2.cell 9 _ rfl
  have X2p10 : X2.cell? ⟨w.heap.size, 10, none⟩ = some (.int .i64 m.c.client) := QX2.out.1.cell 10 _ rfl
  have X2q10 : X2.cell? ⟨w.heap.size + 1, 10, none⟩ = some (.int .i64 m.c.client) := QX2.out.2.cell 10 _ rfl
  have X2p11 : X2.cell? ⟨w.heap.size, 11, none⟩ = some (.int .i64 m.c.req) := QX2.out.1.cell 11 _ rfl
  have X2q11 : X2.cell? ⟨w.heap.size + 1, 11, none⟩ = some (.int .i64 m.c.req) := QX2.out.2.cell 11 _ rfl
  have X2p12 : X2.cell? ⟨w.heap.size, 12, none⟩ = some (.string m.c.key) := QX2.out.1.cell 12 _ rfl
  have X2q12 : X2.cell? ⟨w.heap.size + 1, 12, none⟩ = some (.string m.c.key) := QX2.out.2.cell 12 _ rfl
  have X2p13 : X2.cell? ⟨w.heap.size, 13, none⟩ = some (.string m.c.key2) := QX2.out.1.cell 13 _ rfl
  have X2q13 : X2.cell? ⟨w.heap.size + 1, 13, none⟩ = some (.string m.c.key2) := QX2.out.2.cell 13 _ rfl
  have X2p14 : X2.cell? ⟨w.heap.size, 14, none⟩ = some (.string m.c.val) := QX2.out.1.cell 14 _ rfl
  have X2q14 : X2.cell? ⟨w.heap.size + 1, 14, none⟩ = some (.string m.c.val) := QX2.out.2.cell 14 _ rfl
  have X2p15 : X2.cell? ⟨w.heap.size, 15, none⟩ = some (.string m.c.old) := QX2.out.1.cell 15 _ rfl
  have X2q15 : X2.cell? ⟨w.heap.size + 1, 15, none⟩ = some (.string m.c.old) := QX2.out.2.cell 15 _ rfl
  have X2p16 : X2.cell? ⟨w.heap.size, 16, none⟩ = some (.int .i64 m.c.n) := QX2.out.1.cell 16 _ rfl
  have X2q16 : X2.cell? ⟨w.heap.size + 1, 16, none⟩ = some (.int .i64 m.c.n) := QX2.out.2.cell 16 _ rfl
  go_wp2_with fail
  refine (sameCmd_any m.c m.c _).mono ?_
  rintro e Y ⟨rfl, h⟩
  rw [sameC_self]
  have BY : Hid (Below w.heap.size w Y) := BX2.out.trans (h.mono BX2.out.size)
  have QY : Hid (Blk Y w.heap.size (mgc m (.slice ua uk uc)) ∧ Blk Y (w.heap.size + 1) (mgc m (.slice va vk vc))) := ⟨QX2.out.1.on h, QX2.out.2.on h⟩
  clear h

  have Yp18 : Y.cell? ⟨w.heap.size, 18, none⟩ = some (.slice ua uk uc) := QY.out.1.cell 18 _ rfl
  have Yq18 : Y.cell? ⟨w.heap.size + 1, 18, none⟩ = some (.slice va vk vc) := QY.out.2.cell 18 _ rfl
  go_wp2_with fail
  refine (sameI_any _ _ _ _ _ _ _ _ _ (H1.out.below BY.out (Nat.le_refl _)) (H2.out.below BY.out (Nat.le_refl _))).mono ?_
  rintro e Z ⟨rfl, q, rfl⟩
  rw [sameB_self]
  go_wp2
  go_ret
  exact ⟨rfl, ⟨BY.out.1, BY.out.2, BY.out.3, BY.out.4, BY.out.5⟩⟩
end Go.Proofs.YtooejihnifphkaaGreatDoor
