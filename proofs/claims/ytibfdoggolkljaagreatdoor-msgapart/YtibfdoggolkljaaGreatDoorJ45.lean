import Derived.Test.YtibfdoggolkljaaGreatDoorJ42
set_option maxHeartbeats 2000000
set_option maxRecDepth 100000
namespace Go.Proofs.YtibfdoggolkljaaGreatDoor
open Go.RowKit Go.Wire1
def sameIB (x y x' y' : Int) : Bool := (x == x') && (y == y')
theorem sameIB_iff {x y x' y' : Int} : sameIB x y x' y' = true ↔ x = x' ∧ y = y' := by simp [sameIB]
theorem sameInst_any (x y x' y' : Int) (w : World) : Calls Tryz.prog 15 #[.agg #[.int .i64 x, .int .i64 y], .agg #[.int .i64 x', .int .i64 y']] w fun e w' => e = .returned (.bool (sameIB x y x' y')) ∧ Below w.heap.size w w' := by
 have BB : ∀ o p, Hid (Below w.heap.size w ((w.alloc o).alloc p)) := fun o p => ((Below.refl _ w).alloc zN _).alloc (by simp) _
 obtain ⟨r, hr⟩ : ∃ r, Hid (sameIB x y x' y' = r) := ⟨_, rfl⟩
 rw [hr.out]
 by_cases h0 : x = x'
 ·by_cases h1 : y = y'
  ·have e : Hid (r = true) := by rw [← hr.out]; simp [Hid, sameIB, h0, h1]
   rw [e.out]
   clear hr e
   go_enter Tryz.func15, Tryz.ntmps15
   go_wp2
   go_ret
   exact ⟨rfl, (BB _ _).out⟩
  ·have e : Hid (r = false) := by rw [← hr.out]; simp [Hid, sameIB, h0, h1]
   have g1 : (y == y') = false := beq_eq_false_iff_ne.2 h1
   rw [e.out]
   clear hr e
   go_enter Tryz.func15, Tryz.ntmps15
   go_wp2
   go_ret
   exact ⟨rfl, (BB _ _).out⟩
 ·have e : Hid (r = false) := by rw [← hr.out]; simp [Hid, sameIB, h0]
  rw [e.out]
  clear hr e
  go_enter Tryz.func15, Tryz.ntmps15
  go_wp2
  go_ret
  exact ⟨rfl, (BB _ _).out⟩
theorem sameBallot_any (x y x' y' : Int) (w : World) : Calls Tryz.prog 16 #[.agg #[.int .i64 x, .int .i64 y], .agg #[.int .i64 x', .int .i64 y']] w fun e w' => e = .returned (.bool (sameIB x y x' y')) ∧ Below w.heap.size w w' := by
 have BB : ∀ o p, Hid (Below w.heap.size w ((w.alloc o).alloc p)) := fun o p => ((Below.refl _ w).alloc zN _).alloc (by simp) _
 obtain ⟨r, hr⟩ : ∃ r, Hid (sameIB x y x' y' = r) := ⟨_, rfl⟩
 rw [hr.out]
 by_cases h0 : x = x'
 ·by_cases h1 : y = y'
  ·have e : Hid (r = true) := by rw [← hr.out]; simp [Hid, sameIB, h0, h1]
   rw [e.out]
   clear hr e
   go_enter Tryz.func16, Tryz.ntmps16
   go_wp2
   go_ret
   exact ⟨rfl, (BB _ _).out⟩
  ·have e : Hid (r = false) := by rw [← hr.out]; simp [Hid, sameIB, h0, h1]
   have g1 : (y == y') = false := beq_eq_false_iff_ne.2 h1
   rw [e.out]
   clear hr e
   go_enter Tryz.func16, Tryz.ntmps16
   go_wp2
   go_ret
   exact ⟨rfl, (BB _ _).out⟩
 ·have e : Hid (r = false) := by rw [← hr.out]; simp [Hid, sameIB, h0]
  rw [e.out]
  clear hr e
  go_enter Tryz.func16, Tryz.ntmps16
  go_wp2
  go_ret
  exact ⟨rfl, (BB _ _).out⟩
theorem sameMsg_ne0 (l m : Ms) (ua va : Option Addr) (uk uc vk vc : Nat) (w : World)  (h : l.kind ≠ m.kind) :
  Calls Tryz.prog 7 #[.agg (mgc l (.slice ua uk uc)).toArray, .agg (mgc m (.slice va vk vc)).toArray] w fun e w' => e = .returned (.bool false) ∧ Below w.heap.size w w' := by
 obtain ⟨V, hV⟩ : ∃ V, V = (w.alloc (.cells (mgc l (.slice ua uk uc)).toArray 30)).alloc (.cells (mgc m (.slice va vk vc)).toArray 30) := ⟨_, rfl⟩
 have BV : Hid (Below w.heap.size w V) := by rw [hV]; exact ((Below.refl _ w).alloc zN _).alloc (by simp) _
 have QV : Hid (Blk V w.heap.size (mgc l (.slice ua uk uc)) ∧ Blk V (w.heap.size + 1) (mgc m (.slice va vk vc))) := by
  rw [hV]
  refine ⟨(blk_new w 30 (mgc l (.slice ua uk uc))).on ((Below.refl _ _).alloc zN _), ?_⟩
  have := blk_new (w.alloc (.cells (mgc l (.slice ua uk uc)).toArray 30)) 30 (mgc m (.slice va vk vc))
  rwa [show (w.alloc (.cells (mgc l (.slice ua uk uc)).toArray 30)).heap.size = w.heap.size + 1 by simp] at this
 have Vp0 : V.cell? ⟨w.heap.size, 0, none⟩ = some (.int .i64 l.kind) := QV.out.1.cell 0 _ rfl
 have Vq0 : V.cell? ⟨w.heap.size + 1, 0, none⟩ = some (.int .i64 m.kind) := QV.out.2.cell 0 _ rfl
 go_enter Tryz.func7, Tryz.ntmps7
 go_upto_region 1 with fail
 rw [← hV]
 clear hV
 go_wp2
 go_ret
 exact ⟨rfl, BV.out⟩
theorem sameMsg_ne7 (l m : Ms) (ua va : Option Addr) (uk uc vk vc : Nat) (w : World) (e0 : l.kind = m.kind) (h : l.st ≠ m.st) :
  Calls Tryz.prog 7 #[.agg (mgc l (.slice ua uk uc)).toArray, .agg (mgc m (.slice va vk vc)).toArray] w fun e w' => e = .returned (.bool false) ∧ Below w.heap.size w w' := by
 obtain ⟨V, hV⟩ : ∃ V, V = (w.alloc (.cells (mgc l (.slice ua uk uc)).toArray 30)).alloc (.cells (mgc m (.slice va vk vc)).toArray 30) := ⟨_, rfl⟩
 have BV : Hid (Below w.heap.size w V) := by rw [hV]; exact ((Below.refl _ w).alloc zN _).alloc (by simp) _
 have QV : Hid (Blk V w.heap.size (mgc l (.slice ua uk uc)) ∧ Blk V (w.heap.size + 1) (mgc m (.slice va vk vc))) := by
  rw [hV]
  refine ⟨(blk_new w 30 (mgc l (.slice ua uk uc))).on ((Below.refl _ _).alloc zN _), ?_⟩
  have := blk_new (w.alloc (.cells (mgc l (.slice ua uk uc)).toArray 30)) 30 (mgc m (.slice va vk vc))
  rwa [show (w.alloc (.cells (mgc l (.slice ua uk uc)).toArray 30)).heap.size = w.heap.size + 1 by simp] at this
 have E0 := hide e0
 clear e0
 have Vp0 : V.cell? ⟨w.heap.size, 0, none⟩ = some (.int .i64 l.kind) := QV.out.1.cell 0 _ rfl
 have Vq0 : V.cell? ⟨w.heap.size + 1, 0, none⟩ = some (.int .i64 l.kind) := by rw [E0.out]; exact QV.out.2.cell 0 _ rfl
 have Vp7 : V.cell? ⟨w.heap.size, 7, none⟩ = some (.int .i64 l.st) := QV.out.1.cell 7 _ rfl
 have Vq7 : V.cell? ⟨w.heap.size + 1, 7, none⟩ = some (.int .i64 m.st) := QV.out.2.cell 7 _ rfl
 go_enter Tryz.func7, Tryz.ntmps7
 go_upto_region 1 with fail
 rw [← hV]
 clear hV
 go_wp2
 go_ret
 exact ⟨rfl, BV.out⟩
theorem sameMsg_ne8a (l m : Ms) (ua va : Option Addr) (uk uc vk vc : Nat) (w : World) (e0 : l.kind = m.kind) (e7 : l.st = m.st) (ha : l.sm = true) (hb : m.sm = false) :
  Calls Tryz.prog 7 #[.agg (mgc l (.slice ua uk uc)).toArray, .agg (mgc m (.slice va vk vc)).toArray] w fun e w' => e = .returned (.bool false) ∧ Below w.heap.size w w' := by
 obtain ⟨V, hV⟩ : ∃ V, V = (w.alloc (.cells (mgc l (.slice ua uk uc)).toArray 30)).alloc (.cells (mgc m (.slice va vk vc)).toArray 30) := ⟨_, rfl⟩
 have BV : Hid (Below w.heap.size w V) := by rw [hV]; exact ((Below.refl _ w).alloc zN _).alloc (by simp) _
 have QV : Hid (Blk V w.heap.size (mgc l (.slice ua uk uc)) ∧ Blk V (w.heap.size + 1) (mgc m (.slice va vk vc))) := by
  rw [hV]
  refine ⟨(blk_new w 30 (mgc l (.slice ua uk uc))).on ((Below.refl _ _).alloc zN _), ?_⟩
  have := blk_new (w.alloc (.cells (mgc l (.slice ua uk uc)).toArray 30)) 30 (mgc m (.slice va vk vc))
  rwa [show (w.alloc (.cells (mgc l (.slice ua uk uc)).toArray 30)).heap.size = w.heap.size + 1 by simp] at this
 have E0 := hide e0
 have E7 := hide e7
 clear e0 e7
 have Vp0 : V.cell? ⟨w.heap.size, 0, none⟩ = some (.int .i64 l.kind) := QV.out.1.cell 0 _ rfl
 have Vq0 : V.cell? ⟨w.heap.size + 1, 0, none⟩ = some (.int .i64 l.kind) := by rw [E0.out]; exact QV.out.2.cell 0 _ rfl
 have Vp7 : V.cell? ⟨w.heap.size, 7, none⟩ = some (.int .i64 l.st) := QV.out.1.cell 7 _ rfl
 have Vq7 : V.cell? ⟨w.heap.size + 1, 7, none⟩ = some (.int .i64 l.st) := by rw [E7.out]; exact QV.out.2.cell 7 _ rfl
 have Vp8 : V.cell? ⟨w.heap.size, 8, none⟩ = some (.bool l.sm) := QV.out.1.cell 8 _ rfl
 have Vq8 : V.cell? ⟨w.heap.size + 1, 8, none⟩ = some (.bool m.sm) := QV.out.2.cell 8 _ rfl
 rw [ha] at Vp8
 rw [hb] at Vq8
 clear ha hb
 go_enter Tryz.func7, Tryz.ntmps7
 go_upto_region 1 with fail
 rw [← hV]
 clear hV
 go_wp2
 go_ret
 exact ⟨rfl, BV.out⟩
theorem sameMsg_ne8b (l m : Ms) (ua va : Option Addr) (uk uc vk vc : Nat) (w : World) (e0 : l.kind = m.kind) (e7 : l.st = m.st) (ha : l.sm = false) (hb : m.sm = true) :
  Calls Tryz.prog 7 #[.agg (mgc l (.slice ua uk uc)).toArray, .agg (mgc m (.slice va vk vc)).toArray] w fun e w' => e = .returned (.bool false) ∧ Below w.heap.size w w' := by
 obtain ⟨V, hV⟩ : ∃ V, V = (w.alloc (.cells (mgc l (.slice ua uk uc)).toArray 30)).alloc (.cells (mgc m (.slice va vk vc)).toArray 30) := ⟨_, rfl⟩
 have BV : Hid (Below w.heap.size w V) := by rw [hV]; exact ((Below.refl _ w).alloc zN _).alloc (by simp) _
 have QV : Hid (Blk V w.heap.size (mgc l (.slice ua uk uc)) ∧ Blk V (w.heap.size + 1) (mgc m (.slice va vk vc))) := by
  rw [hV]
  refine ⟨(blk_new w 30 (mgc l (.slice ua uk uc))).on ((Below.refl _ _).alloc zN _), ?_⟩
  have := blk_new (w.alloc (.cells (mgc l (.slice ua uk uc)).toArray 30)) 30 (mgc m (.slice va vk vc))
  rwa [show (w.alloc (.cells (mgc l (.slice ua uk uc)).toArray 30)).heap.size = w.heap.size + 1 by simp] at this
 have E0 := hide e0
 have E7 := hide e7
 clear e0 e7
 have Vp0 : V.cell? ⟨w.heap.size, 0, none⟩ = some (.int .i64 l.kind) := QV.out.1.cell 0 _ rfl
 have Vq0 : V.cell? ⟨w.heap.size + 1, 0, none⟩ = some (.int .i64 l.kind) := by rw [E0.out]; exact QV.out.2.cell 0 _ rfl
 have Vp7 : V.cell? ⟨w.heap.size, 7, none⟩ = some (.int .i64 l.st) := QV.out.1.cell 7 _ rfl
 have Vq7 : V.cell? ⟨w.heap.size + 1, 7, none⟩ = some (.int .i64 l.st) := by rw [E7.out]; exact QV.out.2.cell 7 _ rfl
 have Vp8 : V.cell? ⟨w.heap.size, 8, none⟩ = some (.bool l.sm) := QV.out.1.cell 8 _ rfl
 have Vq8 : V.cell? ⟨w.heap.size + 1, 8, none⟩ = some (.bool m.sm) := QV.out.2.cell 8 _ rfl
 rw [ha] at Vp8
 rw [hb] at Vq8
 clear ha hb
 go_enter Tryz.func7, Tryz.ntmps7
 go_upto_region 1 with fail
 rw [← hV]
 clear hV
 go_wp2
 go_ret
 exact ⟨rfl, BV.out⟩
theorem sameMsg_ne17 (l m : Ms) (ua va : Option Addr) (uk uc vk vc : Nat) (w : World) (e0 : l.kind = m.kind) (e7 : l.st = m.st) (e8 : l.sm = m.sm) (h : l.sq ≠ m.sq) :
  Calls Tryz.prog 7 #[.agg (mgc l (.slice ua uk uc)).toArray, .agg (mgc m (.slice va vk vc)).toArray] w fun e w' => e = .returned (.bool false) ∧ Below w.heap.size w w' := by
 obtain ⟨V, hV⟩ : ∃ V, V = (w.alloc (.cells (mgc l (.slice ua uk uc)).toArray 30)).alloc (.cells (mgc m (.slice va vk vc)).toArray 30) := ⟨_, rfl⟩
 have BV : Hid (Below w.heap.size w V) := by rw [hV]; exact ((Below.refl _ w).alloc zN _).alloc (by simp) _
 have QV : Hid (Blk V w.heap.size (mgc l (.slice ua uk uc)) ∧ Blk V (w.heap.size + 1) (mgc m (.slice va vk vc))) := by
  rw [hV]
  refine ⟨(blk_new w 30 (mgc l (.slice ua uk uc))).on ((Below.refl _ _).alloc zN _), ?_⟩
  have := blk_new (w.alloc (.cells (mgc l (.slice ua uk uc)).toArray 30)) 30 (mgc m (.slice va vk vc))
  rwa [show (w.alloc (.cells (mgc l (.slice ua uk uc)).toArray 30)).heap.size = w.heap.size + 1 by simp] at this
 have E0 := hide e0
 have E7 := hide e7
 have E8 := hide e8
 clear e0 e7 e8
 have Vp0 : V.cell? ⟨w.heap.size, 0, none⟩ = some (.int .i64 l.kind) := QV.out.1.cell 0 _ rfl
 have Vq0 : V.cell? ⟨w.heap.size + 1, 0, none⟩ = some (.int .i64 l.kind) := by rw [E0.out]; exact QV.out.2.cell 0 _ rfl
 have Vp7 : V.cell? ⟨w.heap.size, 7, none⟩ = some (.int .i64 l.st) := QV.out.1.cell 7 _ rfl
 have Vq7 : V.cell? ⟨w.heap.size + 1, 7, none⟩ = some (.int .i64 l.st) := by rw [E7.out]; exact QV.out.2.cell 7 _ rfl
 have Vp8 : V.cell? ⟨w.heap.size, 8, none⟩ = some (.bool l.sm) := QV.out.1.cell 8 _ rfl
 have Vq8 : V.cell? ⟨w.heap.size + 1, 8, none⟩ = some (.bool l.sm) := by rw [E8.out]; exact QV.out.2.cell 8 _ rfl
 have Vp17 : V.cell? ⟨w.heap.size, 17, none⟩ = some (.int .i64 l.sq) := QV.out.1.cell 17 _ rfl
 have Vq17 : V.cell? ⟨w.heap.size + 1, 17, none⟩ = some (.int .i64 m.sq) := QV.out.2.cell 17 _ rfl
 go_enter Tryz.func7, Tryz.ntmps7
 go_upto_region 1 with fail
 rw [← hV]
 clear hV
 go_wp2
 go_ret
 exact ⟨rfl, BV.out⟩
theorem sameMsg_rest (l m : Ms) (ua va : Option Addr) (uk uc vk vc : Nat) (w : World) (h1 : SegI w ua uk l.dl) (h2 : SegI w va vk m.dl) (e0 : l.kind = m.kind) (e7 : l.st = m.st) (e8 : l.sm = m.sm) (e17 : l.sq = m.sq) :
  Calls Tryz.prog 7 #[.agg (mgc l (.slice ua uk uc)).toArray, .agg (mgc m (.slice va vk vc)).toArray] w fun e w' => e = .returned (.bool (sameIB l.row l.num m.row m.num && sameIB l.x l.y m.x m.y && sameIB l.p l.q m.p m.q && sameC l.c m.c && sameB l.dl m.dl)) ∧ Below w.heap.size w w' := by
 obtain ⟨V, hV⟩ : ∃ V, V = (w.alloc (.cells (mgc l (.slice ua uk uc)).toArray 30)).alloc (.cells (mgc m (.slice va vk vc)).toArray 30) := ⟨_, rfl⟩
 have BV : Hid (Below w.heap.size w V) := by rw [hV]; exact ((Below.refl _ w).alloc zN _).alloc (by simp) _
 have QV : Hid (Blk V w.heap.size (mgc l (.slice ua uk uc)) ∧ Blk V (w.heap.size + 1) (mgc m (.slice va vk vc))) := by
  rw [hV]
  refine ⟨(blk_new w 30 (mgc l (.slice ua uk uc))).on ((Below.refl _ _).alloc zN _), ?_⟩
  have := blk_new (w.alloc (.cells (mgc l (.slice ua uk uc)).toArray 30)) 30 (mgc m (.slice va vk vc))
  rwa [show (w.alloc (.cells (mgc l (.slice ua uk uc)).toArray 30)).heap.size = w.heap.size + 1 by simp] at this
 have E0 := hide e0
 have E7 := hide e7
 have E8 := hide e8
 have E17 := hide e17
 have H1 := hide h1
 have H2 := hide h2
 clear h1 h2 e0 e7 e8 e17
 have Vp0 : V.cell? ⟨w.heap.size, 0, none⟩ = some (.int .i64 l.kind) := QV.out.1.cell 0 _ rfl
 have Vq0 : V.cell? ⟨w.heap.size + 1, 0, none⟩ = some (.int .i64 l.kind) := by rw [E0.out]; exact QV.out.2.cell 0 _ rfl
 have Vp7 : V.cell? ⟨w.heap.size, 7, none⟩ = some (.int .i64 l.st) := QV.out.1.cell 7 _ rfl
 have Vq7 : V.cell? ⟨w.heap.size + 1, 7, none⟩ = some (.int .i64 l.st) := by rw [E7.out]; exact QV.out.2.cell 7 _ rfl
 have Vp8 : V.cell? ⟨w.heap.size, 8, none⟩ = some (.bool l.sm) := QV.out.1.cell 8 _ rfl
 have Vq8 : V.cell? ⟨w.heap.size + 1, 8, none⟩ = some (.bool l.sm) := by rw [E8.out]; exact QV.out.2.cell 8 _ rfl
 have Vp17 : V.cell? ⟨w.heap.size, 17, none⟩ = some (.int .i64 l.sq) := QV.out.1.cell 17 _ rfl
 have Vq17 : V.cell? ⟨w.heap.size + 1, 17, none⟩ = some (.int .i64 l.sq) := by rw [E17.out]; exact QV.out.2.cell 17 _ rfl
 have Vp1 : V.cell? ⟨w.heap.size, 1, none⟩ = some (.int .i64 l.row) := QV.out.1.cell 1 _ rfl
 have Vq1 : V.cell? ⟨w.heap.size + 1, 1, none⟩ = some (.int .i64 m.row) := QV.out.2.cell 1 _ rfl
 have Vp2 : V.cell? ⟨w.heap.size, 2, none⟩ = some (.int .i64 l.num) := QV.out.1.cell 2 _ rfl
 have Vq2 : V.cell? ⟨w.heap.size + 1, 2, none⟩ = some (.int .i64 m.num) := QV.out.2.cell 2 _ rfl
 obtain ⟨b1, hb1⟩ : ∃ b1, Hid (sameIB l.row l.num m.row m.num = b1) := ⟨_, rfl⟩
 rw [hb1.out]
 obtain ⟨b2, hb2⟩ : ∃ b2, Hid (sameIB l.x l.y m.x m.y = b2) := ⟨_, rfl⟩
 rw [hb2.out]
 obtain ⟨b3, hb3⟩ : ∃ b3, Hid (sameIB l.p l.q m.p m.q = b3) := ⟨_, rfl⟩
 rw [hb3.out]
 obtain ⟨b4, hb4⟩ : ∃ b4, Hid (sameC l.c m.c = b4) := ⟨_, rfl⟩
 rw [hb4.out]
 obtain ⟨b5, hb5⟩ : ∃ b5, Hid (sameB l.dl m.dl = b5) := ⟨_, rfl⟩
 rw [hb5.out]
 go_enter Tryz.func7, Tryz.ntmps7
 go_upto_region 1 with fail
 rw [← hV]
 clear hV
 go_wp2_with fail
 refine (sameInst_any l.row l.num m.row m.num _).mono ?_
 rintro e W ⟨rfl, h⟩
 have BW : Hid (Below w.heap.size w W) := BV.out.trans (h.mono BV.out.size)
 have QW : Hid (Blk W w.heap.size (mgc l (.slice ua uk uc)) ∧ Blk W (w.heap.size + 1) (mgc m (.slice va vk vc))) := ⟨QV.out.1.on h, QV.out.2.on h⟩
 clear h
 have Wp3 : W.cell? ⟨w.heap.size, 3, none⟩ = some (.int .i64 l.x) := QW.out.1.cell 3 _ rfl
 have Wq3 : W.cell? ⟨w.heap.size + 1, 3, none⟩ = some (.int .i64 m.x) := QW.out.2.cell 3 _ rfl
 have Wp4 : W.cell? ⟨w.heap.size, 4, none⟩ = some (.int .i64 l.y) := QW.out.1.cell 4 _ rfl
 have Wq4 : W.cell? ⟨w.heap.size + 1, 4, none⟩ = some (.int .i64 m.y) := QW.out.2.cell 4 _ rfl
 rw [hb1.out]
 go_wp2_with fail
 refine (sameBallot_any l.x l.y m.x m.y _).mono ?_
 rintro e X ⟨rfl, h⟩
 have BX : Hid (Below w.heap.size w X) := BW.out.trans (h.mono BW.out.size)
 have QX : Hid (Blk X w.heap.size (mgc l (.slice ua uk uc)) ∧ Blk X (w.heap.size + 1) (mgc m (.slice va vk vc))) := ⟨QW.out.1.on h, QW.out.2.on h⟩
 clear h
 have Xp5 : X.cell? ⟨w.heap.size, 5, none⟩ = some (.int .i64 l.p) := QX.out.1.cell 5 _ rfl
 have Xq5 : X.cell? ⟨w.heap.size + 1, 5, none⟩ = some (.int .i64 m.p) := QX.out.2.cell 5 _ rfl
 have Xp6 : X.cell? ⟨w.heap.size, 6, none⟩ = some (.int .i64 l.q) := QX.out.1.cell 6 _ rfl
 have Xq6 : X.cell? ⟨w.heap.size + 1, 6, none⟩ = some (.int .i64 m.q) := QX.out.2.cell 6 _ rfl
 rw [hb2.out]
 go_wp2_with fail
 refine (sameBallot_any l.p l.q m.p m.q _).mono ?_
 rintro e X2 ⟨rfl, h⟩
 have BX2 : Hid (Below w.heap.size w X2) := BX.out.trans (h.mono BX.out.size)
 have QX2 : Hid (Blk X2 w.heap.size (mgc l (.slice ua uk uc)) ∧ Blk X2 (w.heap.size + 1) (mgc m (.slice va vk vc))) := ⟨QX.out.1.on h, QX.out.2.on h⟩
 clear h
 have X2p9 : X2.cell? ⟨w.heap.size, 9, none⟩ = some (.int .i64 l.c.kind) := QX2.out.1.cell 9 _ rfl
 have X2q9 : X2.cell? ⟨w.heap.size + 1, 9, none⟩ = some (.int .i64 m.c.kind) := QX2.out.2.cell 9 _ rfl
 have X2p10 : X2.cell? ⟨w.heap.size, 10, none⟩ = some (.int .i64 l.c.client) := QX2.out.1.cell 10 _ rfl
 have X2q10 : X2.cell? ⟨w.heap.size + 1, 10, none⟩ = some (.int .i64 m.c.client) := QX2.out.2.cell 10 _ rfl
 have X2p11 : X2.cell? ⟨w.heap.size, 11, none⟩ = some (.int .i64 l.c.req) := QX2.out.1.cell 11 _ rfl
 have X2q11 : X2.cell? ⟨w.heap.size + 1, 11, none⟩ = some (.int .i64 m.c.req) := QX2.out.2.cell 11 _ rfl
 have X2p12 : X2.cell? ⟨w.heap.size, 12, none⟩ = some (.string l.c.key) := QX2.out.1.cell 12 _ rfl
 have X2q12 : X2.cell? ⟨w.heap.size + 1, 12, none⟩ = some (.string m.c.key) := QX2.out.2.cell 12 _ rfl
 have X2p13 : X2.cell? ⟨w.heap.size, 13, none⟩ = some (.string l.c.key2) := QX2.out.1.cell 13 _ rfl
 have X2q13 : X2.cell? ⟨w.heap.size + 1, 13, none⟩ = some (.string m.c.key2) := QX2.out.2.cell 13 _ rfl
 have X2p14 : X2.cell? ⟨w.heap.size, 14, none⟩ = some (.string l.c.val) := QX2.out.1.cell 14 _ rfl
 have X2q14 : X2.cell? ⟨w.heap.size + 1, 14, none⟩ = some (.string m.c.val) := QX2.out.2.cell 14 _ rfl
 have X2p15 : X2.cell? ⟨w.heap.size, 15, none⟩ = some (.string l.c.old) := QX2.out.1.cell 15 _ rfl
 have X2q15 : X2.cell? ⟨w.heap.size + 1, 15, none⟩ = some (.string m.c.old) := QX2.out.2.cell 15 _ rfl
 have X2p16 : X2.cell? ⟨w.heap.size, 16, none⟩ = some (.int .i64 l.c.n) := QX2.out.1.cell 16 _ rfl
 have X2q16 : X2.cell? ⟨w.heap.size + 1, 16, none⟩ = some (.int .i64 m.c.n) := QX2.out.2.cell 16 _ rfl
 rw [hb3.out]
 go_wp2_with fail
 refine (sameCmd_any l.c m.c _).mono ?_
 rintro e Y ⟨rfl, h⟩
 have BY : Hid (Below w.heap.size w Y) := BX2.out.trans (h.mono BX2.out.size)
 have QY : Hid (Blk Y w.heap.size (mgc l (.slice ua uk uc)) ∧ Blk Y (w.heap.size + 1) (mgc m (.slice va vk vc))) := ⟨QX2.out.1.on h, QX2.out.2.on h⟩
 clear h
 rw [hb4.out]
 have Yp18 : Y.cell? ⟨w.heap.size, 18, none⟩ = some (.slice ua uk uc) := QY.out.1.cell 18 _ rfl
 have Yq18 : Y.cell? ⟨w.heap.size + 1, 18, none⟩ = some (.slice va vk vc) := QY.out.2.cell 18 _ rfl
 go_wp2_with fail
 refine (sameI_any _ _ _ _ _ _ _ _ _ (H1.out.below BY.out zN) (H2.out.below BY.out zN)).mono ?_
 rintro e Z ⟨rfl, q, rfl⟩
 rw [hb5.out]
 have BZ : Hid (Below w.heap.size w (Y.drewN q)) := ⟨BY.out.1, BY.out.2, BY.out.3, BY.out.4, BY.out.5⟩
 clear hb1 hb2 hb3 hb4 hb5
 cases b1 with
 | false => go_wp2; go_ret; exact ⟨rfl, BZ.out⟩
 | true =>
  cases b2 with
  | false => go_wp2; go_ret; exact ⟨rfl, BZ.out⟩
  | true =>
   cases b3 with
   | false => go_wp2; go_ret; exact ⟨rfl, BZ.out⟩
   | true =>
    cases b4 with
    | false => go_wp2; go_ret; exact ⟨rfl, BZ.out⟩
    | true => cases b5 <;> (go_wp2; go_ret; exact ⟨rfl, BZ.out⟩)
theorem sameB_eq {xs ys : List Int} (h : sameB xs ys = true) : xs = ys := by simpa [sameB] using h
theorem msameC_eq {c d : Cm} (h : sameC c d = true) : c = d := by
 simp only [sameC, Bool.and_eq_true, beq_iff_eq, teq_iff] at h
 cases c; cases d; simp_all
theorem same_all {l m : Ms} (e0 : l.kind = m.kind) (e7 : l.st = m.st) (e8 : l.sm = m.sm) (e17 : l.sq = m.sq)
  (h : (sameIB l.row l.num m.row m.num && sameIB l.x l.y m.x m.y && sameIB l.p l.q m.p m.q && sameC l.c m.c && sameB l.dl m.dl) = true) : l = m := by
 simp only [Bool.and_eq_true, sameIB_iff] at h
 obtain ⟨⟨⟨⟨⟨a1, a2⟩, a3, a4⟩, a5, a6⟩, a7⟩, a8⟩ := h
 have a7 := msameC_eq a7
 have a8 := sameB_eq a8
 cases l; cases m; simp_all
theorem sameMsg_diff (l m : Ms) (ua va : Option Addr) (uk uc vk vc : Nat) (w : World) (h1 : SegI w ua uk l.dl) (h2 : SegI w va vk m.dl) (h : l ≠ m) :
  Calls Tryz.prog 7 #[.agg (mgc l (.slice ua uk uc)).toArray, .agg (mgc m (.slice va vk vc)).toArray] w fun e w' => e = .returned (.bool false) ∧ Below w.heap.size w w' := by
 rcases Decidable.em (l.kind = m.kind) with e0 | e0
 ·rcases Decidable.em (l.st = m.st) with e7 | e7
  ·cases ha : l.sm with
   | true =>
    cases hb : m.sm with
    | false => exact sameMsg_ne8a l m ua va uk uc vk vc w e0 e7 ha hb
    | true =>
     rcases Decidable.em (l.sq = m.sq) with e17 | e17
     ·refine (sameMsg_rest l m ua va uk uc vk vc w h1 h2 e0 e7 (ha.trans hb.symm) e17).mono fun e w' h => ?_
      cases hr : (sameIB l.row l.num m.row m.num && sameIB l.x l.y m.x m.y && sameIB l.p l.q m.p m.q && sameC l.c m.c && sameB l.dl m.dl) with
      | false => rw [hr] at h; exact h
      | true => exact absurd (same_all e0 e7 (ha.trans hb.symm) e17 hr) ‹l ≠ m›
     ·exact sameMsg_ne17 l m ua va uk uc vk vc w e0 e7 (ha.trans hb.symm) e17
   | false =>
    cases hb : m.sm with
    | true => exact sameMsg_ne8b l m ua va uk uc vk vc w e0 e7 ha hb
    | false =>
     rcases Decidable.em (l.sq = m.sq) with e17 | e17
     ·refine (sameMsg_rest l m ua va uk uc vk vc w h1 h2 e0 e7 (ha.trans hb.symm) e17).mono fun e w' h => ?_
      cases hr : (sameIB l.row l.num m.row m.num && sameIB l.x l.y m.x m.y && sameIB l.p l.q m.p m.q && sameC l.c m.c && sameB l.dl m.dl) with
      | false => rw [hr] at h; exact h
      | true => exact absurd (same_all e0 e7 (ha.trans hb.symm) e17 hr) ‹l ≠ m›
     ·exact sameMsg_ne17 l m ua va uk uc vk vc w e0 e7 (ha.trans hb.symm) e17
  ·exact sameMsg_ne7 l m ua va uk uc vk vc w e0 e7
 ·exact sameMsg_ne0 l m ua va uk uc vk vc w e0
open Go.RowKit Go.Wire1
open Go.RowKit Go.Wire1
theorem ba_inj {s t : ByteArray} (h : s.toList = t.toList) : s = t := by
 rw [Lib.toList_data, Lib.toList_data] at h
 apply ByteArray.ext
 exact Array.toList_inj.1 h
theorem cm_ext {c d : Cm} (h1 : c.kind = d.kind) (h2 : c.client = d.client) (h3 : c.req = d.req) (h4 : c.key.toList = d.key.toList) (h5 : c.key2.toList = d.key2.toList) (h6 : c.val.toList = d.val.toList) (h7 : c.old.toList = d.old.toList) (h8 : c.n = d.n) : c = d := by
 obtain ⟨_, _, _, _, _, _, _, _⟩ := c
 obtain ⟨_, _, _, _, _, _, _, _⟩ := d
 simp only at h1 h2 h3 h4 h5 h6 h7 h8
 rw [h1, h2, h3, ba_inj h4, ba_inj h5, ba_inj h6, ba_inj h7, h8]
theorem only_head (m : Ms) (k : Nat) : (only m k).kind = m.kind ∧ (only m k).row = m.row ∧ (only m k).num = m.num := by
 unfold only
 split <;> exact ⟨rfl, rfl, rfl⟩
theorem only_self {m : Ms} (h : extraM m = false) : only m (shK m) = m := by
 unfold extraM at h
 rw [decide_eq_false_iff_not, Classical.not_not] at h
 have hd := only_dl m (shK m)
 have hh := only_head m (shK m)
 generalize only m (shK m) = o at h hd hh
 obtain ⟨a1, a2, a3, a4, a5, a6, a7, a8, a9, a10, a11, a12, a13, a14, a15, a16⟩ := h
 have hc := cm_ext a7 a8 a9 a10 a11 a12 a13 a14
 have hl : o.dl = m.dl := by
  rw [hd] at a16 ⊢
  split at a16
  ·rename_i h; rw [if_pos h]
  ·rename_i h
   rw [if_neg h]
   exact (List.eq_nil_of_length_eq_zero (by simpa using a16)).symm
 obtain ⟨_, _, _, _, _, _, _, _, _, _, _, _⟩ := m
 obtain ⟨_, _, _, _, _, _, _, _, _, _, _, _⟩ := o
 simp only at *
 obtain ⟨b1, b2, b3⟩ := hh
 subst b1 b2 b3 a1 a2 a3 a4 a5 a6 a15 hc hl
 rfl
section
variable {v n : Int} {m : Ms} (h0 : chkM v n m = 0) (hn1 : -9223372036854775808 ≤ m.c.n) (hn2 : m.c.n ≤ 9223372036854775807)
include h0 hn1 hn2
theorem msB_full (r : List Int) : rdMsg v n (msB v m ++ r) 0 = (m, r, 0) := by
 have := (msB_rds h0 hn1 hn2).full r
 rwa [only_self (val_msg h0).2.2.1] at this
theorem decM_back : decM v n (msB v m) = (m, 0) := by
 have := msB_full h0 hn1 hn2 []
 rw [List.append_nil] at this
 unfold decM
 rw [this, if_pos (val_msg h0).1]
 rfl
theorem decM_rest {r : List Int} (hr : r ≠ []) : decM v n (msB v m ++ r) = (zeroM, 59) := by
 have := msB_full h0 hn1 hn2 r
 unfold decM
 rw [this, if_pos (val_msg h0).1]
 have e : endF r 0 = 59 := by unfold endF; rw [if_neg hr]; rfl
 simp only [e]
 rfl
end
end Go.Proofs.YtibfdoggolkljaaGreatDoor
