/- Proved: for every n and message MsgRises answers true: what version 1 takes version 2 takes, Lowest says where, and both carry one message. Conditions: the two tables of kinds and the five sentinels of package wire start as the program's text lays them (the card ties them). -/
import Derived.Deep.DeepHandedRow
import Derived.Deep.DeepWitnessRowRef
import Derived.Test.YtppocmgcfeelhaaGreatDoorJ41
import Derived.Test.YtppocmgcfeelhaaGreatDoorJ45
import Derived.Test.YtppocmgcfeelhaaGreatDoorTie
import Derived.Test.YtppocmgcfeelhaaGreatDoorCards
set_option maxHeartbeats 8000000
set_option maxRecDepth 100000
namespace Go.Proofs.YtppocmgcfeelhaaGreatDoor
namespace msgRises
open Go.ChangeShapes Go.WideShapes Go.ChangeAt Go.RowKit Go.Wire1
theorem walk (n : Int) (m : Ms) (ua : Option Addr) (uk uc : Nat) (a : Nat → Addr) (w : World) (hKc : Knd w) (hK : Kmd w) (he : Errs w a) (hk1 : m.c.key.size ≤ 140737488351232) (hk2 : m.c.key2.size ≤ 140737488351232) (hn1 : -9223372036854775808 ≤ m.c.n) (hn2 : m.c.n ≤ 9223372036854775807) (hI : SegI w ua uk m.dl) :
  Calls Tryz.prog 6 #[.int .i64 n, .agg (mgc m (.slice ua uk uc)).toArray] w fun e w' => e = .returned (.bool true) ∧ Below w.heap.size w w' := by
 obtain ⟨w0, hV⟩ : ∃ V, V = w.alloc (.cells (mgc m (.slice ua uk uc)).toArray 30) := ⟨_, rfl⟩
 have Q0 : Hid (Blk w0 w.heap.size (mgc m (.slice ua uk uc))) := by rw [hV]; exact blk_new w 30 (mgc m (.slice ua uk uc))
 have B0 : Hid (Below w.heap.size w w0) := by rw [hV]; exact (Below.refl _ _).alloc zN _
 have z0 : w.heap.size < w0.heap.size := Q0.out.lt
 have HhKc := hide hKc
 have HhK := hide hK
 have Hhe := hide he
 have Hhk1 := hide hk1
 have Hhk2 := hide hk2
 have Hhn1 := hide hn1
 have Hhn2 := hide hn2
 have HhI := hide hI
 clear hKc hK he hk1 hk2 hn1 hn2 hI
 by_cases hz : chkM 1 n m = 0
 ·have HZ1 := hide hz
  have HZ2 := hide (chkM_rise hz)
  have HL : Hid (lowM n m = 1) := by show _ = _; unfold lowM; rw [if_pos hz]
  have BYT1 := hide (byt_msB hz)
  have BACK1 := hide (decM_back hz Hhn1.out Hhn2.out)
  have BYT2 := hide (byt_msB (chkM_rise hz))
  have BACK2 := hide (decM_back (chkM_rise hz) Hhn1.out Hhn2.out)
  clear hz
  go_enter Tryz.func6, Tryz.ntmps6
  go_upto_region 1 with fail
  rw [← hV]
  clear hV
  go_wp2_with fail
  refine (known5_any a _ (HhKc.out.below B0.out zN) (HhK.out.below B0.out zN) (Hhe.out.below B0.out zN)).mono ?_
  rintro e w1 ⟨rfl, hb⟩
  have B1 : Hid (Below w.heap.size w w1) := B0.out.trans (hb.mono (by omega))
  have Q1 : Hid (Blk w1 w.heap.size (mgc m (.slice ua uk uc))) := Q0.out.on hb
  have z1 : w.heap.size < w1.heap.size := Nat.lt_of_lt_of_le z0 (by have := hb.size; omega)
  clear hb
  go_wp2_with (first | (refine wpList_load_mid rfl 30 _ rfl w.heap.size 0 rfl (mgc m (.slice ua uk uc)) _ (Q1.out.range) Tryz.underlying30 rfl (by kernel_rfl) ?_))
  refine (mcheck_any 1 n m ua uk uc _ (HhKc.out.below B1.out zN) (HhK.out.below B1.out zN) Hhk1.out Hhk2.out (HhI.out.below B1.out zN)).mono ?_
  rintro e w2 ⟨rfl, hb⟩
  rw [HZ1.out]
  have B2 : Hid (Below w.heap.size w w2) := B1.out.trans (hb.mono (by omega))
  have Q2 : Hid (Blk w2 w.heap.size (mgc m (.slice ua uk uc))) := Q1.out.on hb
  have z2 : w.heap.size < w2.heap.size := Nat.lt_of_lt_of_le z1 (by have := hb.size; omega)
  clear hb
  go_wp2_with (first | (refine wpList_load_mid rfl 30 _ rfl w.heap.size 0 rfl (mgc m (.slice ua uk uc)) _ (Q2.out.range) Tryz.underlying30 rfl (by kernel_rfl) ?_))
  refine (mcheck_any 2 n m ua uk uc _ (HhKc.out.below B2.out zN) (HhK.out.below B2.out zN) Hhk1.out Hhk2.out (HhI.out.below B2.out zN)).mono ?_
  rintro e w3 ⟨rfl, hb⟩
  rw [HZ2.out]
  have B3 : Hid (Below w.heap.size w w3) := B2.out.trans (hb.mono (by omega))
  have Q3 : Hid (Blk w3 w.heap.size (mgc m (.slice ua uk uc))) := Q2.out.on hb
  have z3 : w.heap.size < w3.heap.size := Nat.lt_of_lt_of_le z2 (by have := hb.size; omega)
  clear hb
  go_wp2_with (first | (refine wpList_load_mid rfl 30 _ rfl w.heap.size 0 rfl (mgc m (.slice ua uk uc)) _ (Q3.out.range) Tryz.underlying30 rfl (by kernel_rfl) ?_))
  refine (lowest_any n m ua uk uc _ (HhKc.out.below B3.out zN) (HhK.out.below B3.out zN) Hhk1.out Hhk2.out (HhI.out.below B3.out zN)).mono ?_
  rintro e w4 ⟨rfl, hb⟩
  rw [HL.out]
  have B4 : Hid (Below w.heap.size w w4) := B3.out.trans (hb.mono (by omega))
  have Q4 : Hid (Blk w4 w.heap.size (mgc m (.slice ua uk uc))) := Q3.out.on hb
  have z4 : w.heap.size < w4.heap.size := Nat.lt_of_lt_of_le z3 (by have := hb.size; omega)
  clear hb
  go_wp2_with (first | (go_at_call 10; refine (num5_any _ _).mono ?_; rintro e w' ⟨rfl, rfl⟩) | (refine wpList_load_mid rfl 30 _ rfl w.heap.size 0 rfl (mgc m (.slice ua uk uc)) _ (Q4.out.range) Tryz.underlying30 rfl (by kernel_rfl) ?_))
  refine (mencode_any 1 n m ua uk uc _ (HhKc.out.below B4.out zN) (HhK.out.below B4.out zN) Hhk1.out Hhk2.out Hhn1.out Hhn2.out (HhI.out.below B4.out zN)).mono ?_
  rintro e w5 ⟨u, rfl, ho, hb⟩
  rw [HZ1.out, if_pos rfl] at ho
  rw [HZ1.out]
  obtain ⟨sa1, cap1, rfl, hsrc, hseg⟩ := mown_src ho
  have SRC1 := hide hsrc
  have SEG1 : Hid (Seg w5 sa1 (msB 1 m).length (msB 1 m)) := hseg
  clear ho hsrc hseg
  have B5 : Hid (Below w.heap.size w w5) := B4.out.trans (hb.mono (by omega))
  have Q5 : Hid (Blk w5 w.heap.size (mgc m (.slice ua uk uc))) := Q4.out.on hb
  have z5 : w.heap.size < w5.heap.size := Nat.lt_of_lt_of_le z4 (by have := hb.size; omega)
  clear hb
  obtain ⟨L1, hL⟩ : ∃ L, Hid (msB 1 m = L) := ⟨_, rfl⟩
  rw [hL.out] at BYT1 BACK1 SRC1 SEG1 ⊢
  clear hL
  go_wp2_with (first | (go_at_call 10; refine (num5_any _ _).mono ?_; rintro e w' ⟨rfl, rfl⟩) | (refine wpList_load_mid rfl 30 _ rfl w.heap.size 0 rfl (mgc m (.slice ua uk uc)) _ (Q5.out.range) Tryz.underlying30 rfl (by kernel_rfl) ?_))
  refine (mencode_any 2 n m ua uk uc _ (HhKc.out.below B5.out zN) (HhK.out.below B5.out zN) Hhk1.out Hhk2.out Hhn1.out Hhn2.out (HhI.out.below B5.out zN)).mono ?_
  rintro e w6 ⟨u, rfl, ho, hb⟩
  rw [HZ2.out, if_pos rfl] at ho
  rw [HZ2.out]
  obtain ⟨sa2, cap2, rfl, hsrc, hseg⟩ := mown_src ho
  have SRC2 := hide hsrc
  have SEG2 : Hid (Seg w6 sa2 (msB 2 m).length (msB 2 m)) := hseg
  clear ho hsrc hseg
  have SEG16 : Hid (Seg w6 sa1 L1.length L1) := SEG1.out.below hb zN
  have B6 : Hid (Below w.heap.size w w6) := B5.out.trans (hb.mono (by omega))
  have Q6 : Hid (Blk w6 w.heap.size (mgc m (.slice ua uk uc))) := Q5.out.on hb
  have z6 : w.heap.size < w6.heap.size := Nat.lt_of_lt_of_le z5 (by have := hb.size; omega)
  clear hb
  obtain ⟨L2, hL⟩ : ∃ L, Hid (msB 2 m = L) := ⟨_, rfl⟩
  rw [hL.out] at BYT2 BACK2 SRC2 SEG2 ⊢
  clear hL
  go_wp2_with (first | (go_at_call 10; refine (num5_any _ _).mono ?_; rintro e w' ⟨rfl, rfl⟩))
  refine (mdecode_any 1 n _ _ _ L1 a _ SEG16.out SRC1.out BYT1.out (Hhe.out.below B6.out zN) (HhKc.out.below B6.out zN) (HhK.out.below B6.out zN)).mono ?_
  rintro e w7 ⟨u, rfl, D, hb⟩
  rw [BACK1.out] at D ⊢
  obtain ⟨ua3, uk3, uc3, rfl, hI, -⟩ := D
  have T17 : Hid (SegI w7 ua3 uk3 m.dl) := hI
  clear hI
  have SEG27 : Hid (Seg w7 sa2 L2.length L2) := SEG2.out.below hb zN
  have B7 : Hid (Below w.heap.size w w7) := B6.out.trans (hb.mono (by omega))
  have Q7 : Hid (Blk w7 w.heap.size (mgc m (.slice ua uk uc))) := Q6.out.on hb
  have z7 : w.heap.size < w7.heap.size := Nat.lt_of_lt_of_le z6 (by have := hb.size; omega)
  clear hb
  obtain ⟨U1, hU1⟩ : ∃ W, W = w7.alloc (.cells zeroL.toArray 30) := ⟨_, rfl⟩
  have BU1 : Hid (Below w7.heap.size w7 U1) := by rw [hU1]; exact (Below.refl _ _).alloc zN _
  have QU1 : Hid (Blk U1 w7.heap.size zeroL) := by rw [hU1]; exact blk_new w7 30 zeroL
  have TH1 : Hid (U1.there w7.heap.size 0 19) := QU1.out.there
  obtain ⟨w8, hX1⟩ : ∃ X, X = U1.setCells w7.heap.size 0 (mgc m (.slice ua3 uk3 uc3)) := ⟨_, rfl⟩
  have RX1 := hide (mbox_stored (w := w7) QU1.out (by rfl) BU1.out zN hX1)
  have hb := RX1.out.2
  have B8 : Hid (Below w.heap.size w w8) := B7.out.trans (hb.mono (by omega))
  have Q8 : Hid (Blk w8 w.heap.size (mgc m (.slice ua uk uc))) := Q7.out.on hb
  have SEG28 : Hid (Seg w8 sa2 L2.length L2) := SEG27.out.below hb zN
  have T18 : Hid (SegI w8 ua3 uk3 m.dl) := T17.out.below hb zN
  have z8 : w.heap.size < w8.heap.size := Nat.lt_of_lt_of_le z7 (by have := hb.size; omega)
  clear hb
  have HU1 := hide hU1
  have HX1 := hide hX1
  clear hU1 hX1
  have eU1 : w7.alloc (.cells #[.int .i64 0, .int .i64 0, .int .i64 0, .int .i64 0, .int .i64 0, .int .i64 0, .int .i64 0, .int .i64 0, .bool false, .int .i64 0, .int .i64 0, .int .i64 0, .string ⟨#[]⟩, .string ⟨#[]⟩, .string ⟨#[]⟩, .string ⟨#[]⟩, .int .i64 0, .int .i64 0, .slice none 0 0] 30) = U1 := HU1.out.symm
  have R8 : Hid (Blk w8 w7.heap.size (mgc m (.slice ua3 uk3 uc3))) := RX1.out.1
  go_upto_region 15 with (first | (refine wpList_store_mid rfl 30 _ _ rfl w7.heap.size 0 (mgc m (.slice ua3 uk3 uc3)).toArray rfl rfl (by first | exact TH1.out | (rw [eU1]; exact TH1.out)) (by kernel_rfl) (by kernel_rfl) ?_; first | rw [← HX1.out] | (rw [eU1, ← HX1.out])))
  clear eU1
  go_wp2_with fail
  refine (mdecode_any 2 n _ _ _ L2 a _ SEG28.out SRC2.out BYT2.out (Hhe.out.below B8.out zN) (HhKc.out.below B8.out zN) (HhK.out.below B8.out zN)).mono ?_
  rintro e w9 ⟨u, rfl, D, hb⟩
  rw [BACK2.out] at D ⊢
  obtain ⟨ua4, uk4, uc4, rfl, hI, -⟩ := D
  have T29 : Hid (SegI w9 ua4 uk4 m.dl) := hI
  clear hI
  have B9 : Hid (Below w.heap.size w w9) := B8.out.trans (hb.mono (by omega))
  have Q9 : Hid (Blk w9 w.heap.size (mgc m (.slice ua uk uc))) := Q8.out.on hb
  have R9 : Hid (Blk w9 w7.heap.size (mgc m (.slice ua3 uk3 uc3))) := R8.out.on hb
  have T19 : Hid (SegI w9 ua3 uk3 m.dl) := T18.out.below hb zN
  have z9 : w.heap.size < w9.heap.size := Nat.lt_of_lt_of_le z8 (by have := hb.size; omega)
  clear hb
  obtain ⟨U2, hU2⟩ : ∃ W, W = w9.alloc (.cells zeroL.toArray 30) := ⟨_, rfl⟩
  have BU2 : Hid (Below w9.heap.size w9 U2) := by rw [hU2]; exact (Below.refl _ _).alloc zN _
  have QU2 : Hid (Blk U2 w9.heap.size zeroL) := by rw [hU2]; exact blk_new w9 30 zeroL
  have TH2 : Hid (U2.there w9.heap.size 0 19) := QU2.out.there
  obtain ⟨w10, hX2⟩ : ∃ X, X = U2.setCells w9.heap.size 0 (mgc m (.slice ua4 uk4 uc4)) := ⟨_, rfl⟩
  have RX2 := hide (mbox_stored (w := w9) QU2.out (by rfl) BU2.out zN hX2)
  have hb := RX2.out.2
  have B10 : Hid (Below w.heap.size w w10) := B9.out.trans (hb.mono (by omega))
  have Q10 : Hid (Blk w10 w.heap.size (mgc m (.slice ua uk uc))) := Q9.out.on hb
  have R10 : Hid (Blk w10 w7.heap.size (mgc m (.slice ua3 uk3 uc3))) := R9.out.on hb
  have T110 : Hid (SegI w10 ua3 uk3 m.dl) := T19.out.below hb zN
  have T210 : Hid (SegI w10 ua4 uk4 m.dl) := T29.out.below hb zN
  have z10 : w.heap.size < w10.heap.size := Nat.lt_of_lt_of_le z9 (by have := hb.size; omega)
  clear hb
  have HU2 := hide hU2
  have HX2 := hide hX2
  clear hU2 hX2
  have eU2 : w9.alloc (.cells #[.int .i64 0, .int .i64 0, .int .i64 0, .int .i64 0, .int .i64 0, .int .i64 0, .int .i64 0, .int .i64 0, .bool false, .int .i64 0, .int .i64 0, .int .i64 0, .string ⟨#[]⟩, .string ⟨#[]⟩, .string ⟨#[]⟩, .string ⟨#[]⟩, .int .i64 0, .int .i64 0, .slice none 0 0] 30) = U2 := HU2.out.symm
  go_upto_region 16 with (first | (refine wpList_store_mid rfl 30 _ _ rfl w9.heap.size 0 (mgc m (.slice ua4 uk4 uc4)).toArray rfl rfl (by first | exact TH2.out | (rw [eU2]; exact TH2.out)) (by kernel_rfl) (by kernel_rfl) ?_; first | rw [← HX2.out] | (rw [eU2, ← HX2.out])))
  clear eU2
  go_wp2_with (first | (go_at_call 10; refine (num5_any _ _).mono ?_; rintro e w' ⟨rfl, rfl⟩) | (refine wpList_load_want (by rfl) 30 _ rfl w7.heap.size 0 rfl (mgc m (.slice ua3 uk3 uc3)) _ (R10.out.range) Tryz.underlying30 rfl (by kernel_rfl) ?_) | (refine wpList_load_want (by rfl) 30 _ rfl w9.heap.size 0 rfl (mgc m (.slice ua4 uk4 uc4)) _ (RX2.out.1.range) Tryz.underlying30 rfl (by kernel_rfl) ?_))
  refine (sameMsg_same m _ _ _ _ _ _ _ T110.out T210.out).mono ?_
  rintro e w11 ⟨rfl, hb⟩
  have B11 : Hid (Below w.heap.size w w11) := B10.out.trans (hb.mono (by omega))
  have Q11 : Hid (Blk w11 w.heap.size (mgc m (.slice ua uk uc))) := Q10.out.on hb
  have R11 : Hid (Blk w11 w7.heap.size (mgc m (.slice ua3 uk3 uc3))) := R10.out.on hb
  have T111 : Hid (SegI w11 ua3 uk3 m.dl) := T110.out.below hb zN
  have z11 : w.heap.size < w11.heap.size := Nat.lt_of_lt_of_le z10 (by have := hb.size; omega)
  clear hb
  go_wp2_with (first | (refine wpList_load_want (by rfl) 30 _ rfl w7.heap.size 0 rfl (mgc m (.slice ua3 uk3 uc3)) _ (R11.out.range) Tryz.underlying30 rfl (by kernel_rfl) ?_) | (refine wpList_load_want (by rfl) 30 _ rfl w.heap.size 0 rfl (mgc m (.slice ua uk uc)) _ (Q11.out.range) Tryz.underlying30 rfl (by kernel_rfl) ?_))
  refine (sameMsg_same m _ _ _ _ _ _ _ T111.out (HhI.out.below B11.out zN)).mono ?_
  rintro e w12 ⟨rfl, hb⟩
  have B12 : Hid (Below w.heap.size w w12) := B11.out.trans (hb.mono (by omega))
  clear hb
  go_wp2
  go_ret
  exact ⟨rfl, B12.out⟩
 ·obtain ⟨c1, e1⟩ : ∃ z, Hid (chkM 1 n m = z) := ⟨_, rfl⟩
  have g1 : (c1 != 0) = true := by rw [bne_iff_ne]; intro h; exact hz (e1.out.trans h)
  by_cases hy : chkM 2 n m = 0
  ·have HZ2 := hide hy
   have HL : Hid (lowM n m = 2) := by show _ = _; unfold lowM; rw [if_neg hz, if_pos hy]
   clear hz hy
   go_enter Tryz.func6, Tryz.ntmps6
   go_upto_region 1 with fail
   rw [← hV]
   clear hV
   go_wp2_with fail
   refine (known5_any a _ (HhKc.out.below B0.out zN) (HhK.out.below B0.out zN) (Hhe.out.below B0.out zN)).mono ?_
   rintro e w1 ⟨rfl, hb⟩
   have B1 : Hid (Below w.heap.size w w1) := B0.out.trans (hb.mono (by omega))
   have Q1 : Hid (Blk w1 w.heap.size (mgc m (.slice ua uk uc))) := Q0.out.on hb
   have z1 : w.heap.size < w1.heap.size := Nat.lt_of_lt_of_le z0 (by have := hb.size; omega)
   clear hb
   go_wp2_with (first | (refine wpList_load_mid rfl 30 _ rfl w.heap.size 0 rfl (mgc m (.slice ua uk uc)) _ (Q1.out.range) Tryz.underlying30 rfl (by kernel_rfl) ?_))
   refine (mcheck_any 1 n m ua uk uc _ (HhKc.out.below B1.out zN) (HhK.out.below B1.out zN) Hhk1.out Hhk2.out (HhI.out.below B1.out zN)).mono ?_
   rintro e w2 ⟨rfl, hb⟩
   rw [e1.out]
   have B2 : Hid (Below w.heap.size w w2) := B1.out.trans (hb.mono (by omega))
   have Q2 : Hid (Blk w2 w.heap.size (mgc m (.slice ua uk uc))) := Q1.out.on hb
   have z2 : w.heap.size < w2.heap.size := Nat.lt_of_lt_of_le z1 (by have := hb.size; omega)
   clear hb
   go_wp2_with (first | (refine wpList_load_mid rfl 30 _ rfl w.heap.size 0 rfl (mgc m (.slice ua uk uc)) _ (Q2.out.range) Tryz.underlying30 rfl (by kernel_rfl) ?_))
   refine (mcheck_any 2 n m ua uk uc _ (HhKc.out.below B2.out zN) (HhK.out.below B2.out zN) Hhk1.out Hhk2.out (HhI.out.below B2.out zN)).mono ?_
   rintro e w3 ⟨rfl, hb⟩
   rw [HZ2.out]
   have B3 : Hid (Below w.heap.size w w3) := B2.out.trans (hb.mono (by omega))
   have Q3 : Hid (Blk w3 w.heap.size (mgc m (.slice ua uk uc))) := Q2.out.on hb
   have z3 : w.heap.size < w3.heap.size := Nat.lt_of_lt_of_le z2 (by have := hb.size; omega)
   clear hb
   go_wp2_with (first | (refine wpList_load_mid rfl 30 _ rfl w.heap.size 0 rfl (mgc m (.slice ua uk uc)) _ (Q3.out.range) Tryz.underlying30 rfl (by kernel_rfl) ?_))
   refine (lowest_any n m ua uk uc _ (HhKc.out.below B3.out zN) (HhK.out.below B3.out zN) Hhk1.out Hhk2.out (HhI.out.below B3.out zN)).mono ?_
   rintro e w4 ⟨rfl, hb⟩
   rw [HL.out]
   have B4 : Hid (Below w.heap.size w w4) := B3.out.trans (hb.mono (by omega))
   have Q4 : Hid (Blk w4 w.heap.size (mgc m (.slice ua uk uc))) := Q3.out.on hb
   have z4 : w.heap.size < w4.heap.size := Nat.lt_of_lt_of_le z3 (by have := hb.size; omega)
   clear hb
   go_wp2_with (first | (go_at_call 10; refine (num5_any _ _).mono ?_; rintro e w' ⟨rfl, rfl⟩))
   go_ret
   exact ⟨rfl, B4.out⟩
  ·obtain ⟨c2, e2⟩ : ∃ z, Hid (chkM 2 n m = z) := ⟨_, rfl⟩
   have g2 : (c2 != 0) = true := by rw [bne_iff_ne]; intro h; exact hy (e2.out.trans h)
   have HL : Hid (lowM n m = 0) := by show _ = _; unfold lowM; rw [if_neg hz, if_neg hy]
   clear hz hy
   go_enter Tryz.func6, Tryz.ntmps6
   go_upto_region 1 with fail
   rw [← hV]
   clear hV
   go_wp2_with fail
   refine (known5_any a _ (HhKc.out.below B0.out zN) (HhK.out.below B0.out zN) (Hhe.out.below B0.out zN)).mono ?_
   rintro e w1 ⟨rfl, hb⟩
   have B1 : Hid (Below w.heap.size w w1) := B0.out.trans (hb.mono (by omega))
   have Q1 : Hid (Blk w1 w.heap.size (mgc m (.slice ua uk uc))) := Q0.out.on hb
   have z1 : w.heap.size < w1.heap.size := Nat.lt_of_lt_of_le z0 (by have := hb.size; omega)
   clear hb
   go_wp2_with (first | (refine wpList_load_mid rfl 30 _ rfl w.heap.size 0 rfl (mgc m (.slice ua uk uc)) _ (Q1.out.range) Tryz.underlying30 rfl (by kernel_rfl) ?_))
   refine (mcheck_any 1 n m ua uk uc _ (HhKc.out.below B1.out zN) (HhK.out.below B1.out zN) Hhk1.out Hhk2.out (HhI.out.below B1.out zN)).mono ?_
   rintro e w2 ⟨rfl, hb⟩
   rw [e1.out]
   have B2 : Hid (Below w.heap.size w w2) := B1.out.trans (hb.mono (by omega))
   have Q2 : Hid (Blk w2 w.heap.size (mgc m (.slice ua uk uc))) := Q1.out.on hb
   have z2 : w.heap.size < w2.heap.size := Nat.lt_of_lt_of_le z1 (by have := hb.size; omega)
   clear hb
   go_wp2_with (first | (refine wpList_load_mid rfl 30 _ rfl w.heap.size 0 rfl (mgc m (.slice ua uk uc)) _ (Q2.out.range) Tryz.underlying30 rfl (by kernel_rfl) ?_))
   refine (mcheck_any 2 n m ua uk uc _ (HhKc.out.below B2.out zN) (HhK.out.below B2.out zN) Hhk1.out Hhk2.out (HhI.out.below B2.out zN)).mono ?_
   rintro e w3 ⟨rfl, hb⟩
   rw [e2.out]
   have B3 : Hid (Below w.heap.size w w3) := B2.out.trans (hb.mono (by omega))
   have Q3 : Hid (Blk w3 w.heap.size (mgc m (.slice ua uk uc))) := Q2.out.on hb
   have z3 : w.heap.size < w3.heap.size := Nat.lt_of_lt_of_le z2 (by have := hb.size; omega)
   clear hb
   go_wp2_with (first | (refine wpList_load_mid rfl 30 _ rfl w.heap.size 0 rfl (mgc m (.slice ua uk uc)) _ (Q3.out.range) Tryz.underlying30 rfl (by kernel_rfl) ?_))
   refine (lowest_any n m ua uk uc _ (HhKc.out.below B3.out zN) (HhK.out.below B3.out zN) Hhk1.out Hhk2.out (HhI.out.below B3.out zN)).mono ?_
   rintro e w4 ⟨rfl, hb⟩
   rw [HL.out]
   have B4 : Hid (Below w.heap.size w w4) := B3.out.trans (hb.mono (by omega))
   have Q4 : Hid (Blk w4 w.heap.size (mgc m (.slice ua uk uc))) := Q3.out.on hb
   have z4 : w.heap.size < w4.heap.size := Nat.lt_of_lt_of_le z3 (by have := hb.size; omega)
   clear hb
   go_wp2_with (first | (go_at_call 10; refine (num5_any _ _).mono ?_; rintro e w' ⟨rfl, rfl⟩))
   go_ret
   exact ⟨rfl, B4.out⟩
theorem contract (H : Type) (enc : TypeId × Value → H) (W : World) (base : Nat) (args : Array Value) (ds gs : List (DataW H)) (before : List MemPlace)
  (hval : ∀ (j : Nat) t v, Tryz.f6.params[j]? = some t → args[j]? = some v → Value.okWide Tryz.prog W .any base t v)
  (hW : DataW.Whole enc Tryz.prog Tryz.f6.params.toList Rows.msgRisesSpec.vars false W args.toList ds gs before)
  (hsz : (DataW.weightsEach Tryz.prog (Tryz.f6.params.toList ++ (OpenSpec.ofChange Rows.msgRisesSpec).bare.plain.varTypes Tryz.prog) (ds ++ gs)).all (· ≤ reachBytes) = true)
  (hL : laidMetH Tryz.prog Rows.msgRisesRow.laid W) :
  Calls Tryz.prog 6 args W fun e W' => ∃ v, e = .returned v ∧ Rows.msgRisesSpec.post enc Tryz.prog Tryz.f6 false true false false W args v W' := by
 have hW' := hW
 obtain ⟨p, q, hA0, hV, rfl, hfz, hnd⟩ := hW
 have hA : DataW.TrodAll enc Tryz.prog W 0 (fun _ => true) true Tryz.f6.params.toList args.toList ds p := hA0
 rw [Tryz.params6] at hA hval hsz
 obtain ⟨v0, vs0, d0, ds0, p0, q0, hargs, rfl, rfl, h0, tr0⟩ := trodAll_cons hA
 obtain ⟨v1, vs1, d1, ds1, p1, q1, rfl, rfl, rfl, h1, tr1⟩ := trodAll_cons tr0
 obtain ⟨rfl, rfl, rfl⟩ := trodAll_nil tr1
 obtain rfl : args = #[v0, v1] := by cases args; simp_all
 obtain ⟨rfl, rfl⟩ := trodVars_none hV
 obtain ⟨y0, rfl, rfl, rfl, w0⟩ := open_int Tryz.underlying3 (hval 0 3 v0 rfl rfl) h0
 have b0 := bounds_i64 w0
 have k1 := h1
 have lt1 : ∀ x ∈ p1, x.block < W.heap.size := by obtain ⟨m, hm⟩ := k1; exact DataW.trod_lt m _ _ _ hm
 obtain ⟨m1, ua1, uk1, uc1, dI1, dB1, dV1, dd1, rfl, hd1, hseg1, hcap1, b1⟩ := mopen_msg (hval 1 30 v1 rfl rfl) h1
 have sz1 := msized hsz (j := 1) (m := m1) (dI := dI1) (dB := dB1) (dV := dV1) (dd := dd1) rfl (by rw [show d1 = _ from hd1]; rfl)
 have hE := errs_of_laid hL
 clear hA0
 obtain ⟨aa, haa⟩ := hE
 refine (walk y0 m1 ua1 uk1 uc1 aa W (knd_of_laid hL) (kmd_of_laid hL) haa sz1.1 sz1.2 b1.cmd.2.2.2.1 b1.cmd.2.2.2.2 hseg1).mono fun e W' ⟨he, bel⟩ => ?_
 subst he
 exact ⟨_, rfl, _, _, _, [], _, [], hW', trodAll_mk1 (shut_bool Tryz.underlying4 _), (trodAll_cons_mk (shut_int Tryz.underlying3 w0) (trodAll_cons_mk (Below.trod claid (by kernel_rfl) (of_decide_eq_true (by kernel_rfl)) k1 bel lt1) trodAll_mk0)), rfl, bel.frame _, fun h => by cases h⟩
theorem reads (os : Os) {H : Type} (enc : TypeId × Value → H) : ∃ places, DataW.whole enc Tryz.prog ((World.doorLaid Tryz.prog 400 os).forCall (fun _ _ => 0) ⟨#[], #[.int .i64 0, .agg #[.int .i64 0, .int .i64 0, .int .i64 0, .int .i64 0, .int .i64 0, .int .i64 0, .int .i64 0, .int .i64 0, .bool false, .int .i64 0, .int .i64 0, .int .i64 0, .string ⟨#[]⟩, .string ⟨#[]⟩, .string ⟨#[]⟩, .string ⟨#[]⟩, .int .i64 0, .int .i64 0, .slice none 0 0]], []⟩).memory Tryz.f6.params.toList Rows.msgRisesSpec.vars false (#[Value.int .i64 0, .agg #[.int .i64 0, .int .i64 0, .int .i64 0, .int .i64 0, .int .i64 0, .int .i64 0, .int .i64 0, .int .i64 0, .bool false, .int .i64 0, .int .i64 0, .int .i64 0, .string ⟨#[]⟩, .string ⟨#[]⟩, .string ⟨#[]⟩, .string ⟨#[]⟩, .int .i64 0, .int .i64 0, .slice none 0 0]] : Array Value).toList 8 = some ([.lit (.int .i64 0), .agg [.lit (.int .i64 0), .agg [.lit (.int .i64 0), .lit (.int .i64 0)], .agg [.lit (.int .i64 0), .lit (.int .i64 0)], .agg [.lit (.int .i64 0), .lit (.int .i64 0)], .lit (.int .i64 0), .lit (.bool false), .agg [.lit (.int .i64 0), .lit (.int .i64 0), .lit (.int .i64 0), .lit (.string []), .lit (.string []), .lit (.string []), .lit (.string []), .lit (.int .i64 0)], .lit (.int .i64 0), .nil]], [], places) :=
 ⟨[], by kernel_rfl⟩
theorem lifted (os : Os) (started : os.Started) (H : Type) (enc : TypeId × Value → H) (F : Stop.Interp) :
  ReturnsInHanded {} Tryz.checked os 6 .any ((OpenSpec.ofChange Rows.msgRisesSpec).preRow enc Tryz.prog Tryz.f6 Rows.msgRisesRow.domain false Rows.msgRisesRow.laid) (((OpenSpec.ofChange Rows.msgRisesSpec).at F).post enc Tryz.prog Tryz.f6 false true false false) := by
 obtain ⟨places, hx⟩ := reads os enc
 refine returnsInHanded_of_row (C := Tryz.checked) (s := (OpenSpec.ofChange Rows.msgRisesSpec)) cown started (by kernel_rfl) Tryz.func6
  (witness_row_atRef (enc := enc) (C := Tryz.checked) false (World.doorLaid Tryz.prog 400 os) #[.int .i64 0, .agg #[.int .i64 0, .int .i64 0, .int .i64 0, .int .i64 0, .int .i64 0, .int .i64 0, .int .i64 0, .int .i64 0, .bool false, .int .i64 0, .int .i64 0, .int .i64 0, .string ⟨#[]⟩, .string ⟨#[]⟩, .string ⟨#[]⟩, .string ⟨#[]⟩, .int .i64 0, .int .i64 0, .slice none 0 0]] rfl (by kernel_rfl) (by kernel_rfl) (by kernel_rfl)
   (OpenSpec.preRow_of_cond 8 hx (by kernel_rfl) (fun k hk => by cases hk) (by kernel_rfl) (door_met os _))) ?_
 intro W base args ds gs before hval hW _ hcond hsz hL _ _
 exact contract H enc W base args ds gs before hval hW hsz hL
theorem said : Rows.MsgRisesSaid :=
 OpenClaim.holds_of_cond 6 Tryz.f6 rfl rfl rfl rfl rfl rfl rfl ⟨rfl, rfl, rfl, rfl, rfl⟩ rfl rfl rfl rfl rfl (by kernel_rfl) Tryz.func6 (by kernel_rfl)
  (of_decide_eq_true (by kernel_rfl)) (by unfold Func.isWrapper; first | (rw [if_pos (by decide +kernel)]; kernel_rfl) | (rw [if_neg (by decide +kernel)]; exact ⟨rfl, rfl⟩))
  (fun os started H enc _ F => by rw [OpenClaim.pre_eq_preRow]; exact lifted os started H enc F)
theorem plain (f : FuncId) (fn : Func) (hf : Tryz.pinned.checked.prog.funcNamed "moot/mootlaw5.MsgRises" = some f) (hfn : Tryz.pinned.checked.prog.funcs[f]? = some fn) :
  true = Tryz.pinned.checked.prog.looks [] ∧ ∀ (j : Nat) t, fn.params[j]? = some t → Tryz.pinned.checked.prog.wantsStandIn t = false := by
 obtain rfl : f = 6 := Option.some.inj ((show Tryz.prog.funcNamed "moot/mootlaw5.MsgRises" = some 6 by kernel_rfl).symm.trans hf) |>.symm
 obtain rfl : fn = Tryz.f6 := (Option.some.inj (Tryz.func6.symm.trans hfn)).symm
 refine ⟨by kernel_rfl, fun j t ht => ?_⟩
 rw [Tryz.params6] at ht
 have hm : t ∈ [3, 30] := by simpa using Array.mem_of_getElem? ht
 have hall : ([3, 30].all fun u => !Tryz.prog.wantsStandIn u) = true := by kernel_rfl
 exact (show Tryz.prog.wantsStandIn t = false by simpa using List.all_eq_true.1 hall t hm)
end msgRises
theorem msgRises_proved : Rows.MsgRisesCardSaid :=
 Claim7.holds_tied_plain_at .later [] _ _ _ _ msgRises.said (fun _ h => by cases h) (by kernel_rfl) (fun _ h => by cases h) msgRises_row_tie rfl ⟨rfl, rfl⟩ (by kernel_rfl) rfl msgRises.plain (by kernel_rfl)
#print axioms msgRises_proved
end Go.Proofs.YtppocmgcfeelhaaGreatDoor
