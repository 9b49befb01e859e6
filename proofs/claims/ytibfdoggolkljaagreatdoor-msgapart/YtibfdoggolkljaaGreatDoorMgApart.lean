/- Proved: for every version, n and two messages MsgApart answers true: two messages that Encode takes have the same bytes if they are the same, and else neither's bytes begin with the other's. Conditions: the two tables of kinds and the five sentinels of package wire start as the program's text lays them (the card ties them). -/
import Derived.Deep.DeepHandedRow
import Derived.Deep.DeepWitnessRowRef
import Derived.Test.YtibfdoggolkljaaGreatDoorJ44
import Derived.Test.YtibfdoggolkljaaGreatDoorJ45
import Derived.Test.YtibfdoggolkljaaGreatDoorTie
import Derived.Test.YtibfdoggolkljaaGreatDoorCards
set_option maxHeartbeats 4000000
set_option maxRecDepth 100000
namespace Go.Proofs.YtibfdoggolkljaaGreatDoor
namespace msgApart
open Go.ChangeShapes Go.WideShapes Go.ChangeAt Go.RowKit Go.Wire1
theorem begins_any (x y : Option Addr) (p q cp cq : Nat) (xs ys : List Int) (w : World) (hx : Seg w x p xs) (hy : Seg w y q ys) (hc : p ≤ cp) (hb : sameB (xs.take q) ys = false) :
  Calls Tryz.prog 9 #[.slice x p cp, .slice y q cq] w fun e w' => e = .returned (.bool false) ∧ ∃ k, w' = w.drewN k := by
 have HX := hide hx
 have HY := hide hy
 have HB := hide hb
 clear hx hy hb
 by_cases hlt : p < q
 ·have d1 : decide ((p : Int) < (q : Int)) = true := decide_eq_true (by omega)
  go_enter Tryz.func9, Tryz.ntmps9
  go_wp2
  go_ret
  exact ⟨rfl, 0, rfl⟩
 ·have d1 : decide ((p : Int) < (q : Int)) = false := decide_eq_false (by omega)
  have hqc : q ≤ cp := by omega
  have hqp : q ≤ p := by omega
  go_enter Tryz.func9, Tryz.ntmps9
  go_wp2_with fail
  refine (same_any _ _ _ _ _ _ (xs.take q) ys _ (HX.out.take hqp) HY.out).mono ?_
  rintro e w1 ⟨rfl, k, rfl⟩
  rw [HB.out]
  go_wp2
  go_ret
  exact ⟨rfl, k, rfl⟩
theorem same_m {l m : Ms} (h : l = m) (la ua : Option Addr) (lk lc uk uc : Nat) (w : World) (h1 : SegI w la lk l.dl) (h2 : SegI w ua uk m.dl) :
  Calls Tryz.prog 7 #[.agg (mgc l (.slice la lk lc)).toArray, .agg (mgc m (.slice ua uk uc)).toArray] w fun e w' => e = .returned (.bool true) ∧ Below w.heap.size w w' := by
 subst h
 exact sameMsg_same l la ua lk lc uk uc w h1 h2
theorem apart {v n : Int} {l m : Ms} (h1 : chkM v n l = 0) (h2 : chkM v n m = 0) (a1 : -9223372036854775808 ≤ l.c.n) (a2 : l.c.n ≤ 9223372036854775807) (b1 : -9223372036854775808 ≤ m.c.n) (b2 : m.c.n ≤ 9223372036854775807) (hd : l ≠ m) : sameB ((msB v l).take (msB v m).length) (msB v m) = false := by
 cases h : sameB ((msB v l).take (msB v m).length) (msB v m) with
 | false => rfl
 | true =>
  exfalso
  have e : (msB v l).take (msB v m).length = msB v m := sameB_eq h
  have e2 : msB v l = msB v m ++ (msB v l).drop (msB v m).length := by
   have := List.take_append_drop (msB v m).length (msB v l)
   rw [e] at this; exact this.symm
  have L := decM_back h1 a1 a2
  by_cases hr : (msB v l).drop (msB v m).length = []
  ·rw [hr, List.append_nil] at e2
   rw [e2, decM_back h2 b1 b2] at L
   exact hd (congrArg Prod.fst L).symm
  ·have R := decM_rest h2 b1 b2 hr
   rw [← e2, L] at R
   exact absurd (congrArg Prod.snd R) (by show ¬ (0 : Int) = 59; decide)
theorem walk (v n : Int) (l m : Ms) (la ua : Option Addr) (lk lc uk uc : Nat) (a : Nat → Addr) (w : World) (hKc : Knd w) (hK : Kmd w) (he : Errs w a) (hk1 : l.c.key.size ≤ 140737488351232) (hk2 : l.c.key2.size ≤ 140737488351232) (hn1 : -9223372036854775808 ≤ l.c.n) (hn2 : l.c.n ≤ 9223372036854775807) (hI1 : SegI w la lk l.dl) (gk1 : m.c.key.size ≤ 140737488351232) (gk2 : m.c.key2.size ≤ 140737488351232) (gn1 : -9223372036854775808 ≤ m.c.n) (gn2 : m.c.n ≤ 9223372036854775807) (hI2 : SegI w ua uk m.dl) :
  Calls Tryz.prog 3 #[.int .i64 v, .int .i64 n, .agg (mgc l (.slice la lk lc)).toArray, .agg (mgc m (.slice ua uk uc)).toArray] w fun e w' => e = .returned (.bool true) ∧ Below w.heap.size w w' := by
 obtain ⟨w0, hV⟩ : ∃ V, V = (w.alloc (.cells (mgc l (.slice la lk lc)).toArray 30)).alloc (.cells (mgc m (.slice ua uk uc)).toArray 30) := ⟨_, rfl⟩
 have B0 : Hid (Below w.heap.size w w0) := by rw [hV]; exact ((Below.refl _ w).alloc zN _).alloc (by simp) _
 have QP : Hid (Blk w0 w.heap.size (mgc l (.slice la lk lc)) ∧ Blk w0 (w.heap.size + 1) (mgc m (.slice ua uk uc))) := by
  rw [hV]
  refine ⟨(blk_new w 30 (mgc l (.slice la lk lc))).on ((Below.refl _ _).alloc zN _), ?_⟩
  have := blk_new (w.alloc (.cells (mgc l (.slice la lk lc)).toArray 30)) 30 (mgc m (.slice ua uk uc))
  rwa [show (w.alloc (.cells (mgc l (.slice la lk lc)).toArray 30)).heap.size = w.heap.size + 1 by simp] at this
 have Q0 : Hid (Blk w0 w.heap.size (mgc l (.slice la lk lc))) := QP.out.1
 have P0 : Hid (Blk w0 (w.heap.size + 1) (mgc m (.slice ua uk uc))) := QP.out.2
 have z0 : w.heap.size < w0.heap.size := Q0.out.lt
 have HhKc := hide hKc
 have HhK := hide hK
 have Hhe := hide he
 have Hk1 := hide hk1
 have Hk2 := hide hk2
 have Hn1 := hide hn1
 have Hn2 := hide hn2
 have HI1 := hide hI1
 have Gk1 := hide gk1
 have Gk2 := hide gk2
 have Gn1 := hide gn1
 have Gn2 := hide gn2
 have HI2 := hide hI2
 clear hKc hK he hk1 hk2 hn1 hn2 hI1 gk1 gk2 gn1 gn2 hI2 QP
 obtain ⟨A, hA⟩ : ∃ A : List Int, Hid ((if chkM v n l = 0 then msB v l else []) = A) := ⟨_, rfl⟩
 obtain ⟨C, hC⟩ : ∃ C : List Int, Hid ((if chkM v n m = 0 then msB v m else []) = C) := ⟨_, rfl⟩
 obtain ⟨z, hz⟩ : ∃ z, Hid (chkM v n l = z) := ⟨_, rfl⟩
 obtain ⟨y, hy⟩ : ∃ y, Hid (chkM v n m = y) := ⟨_, rfl⟩
 by_cases g : z = 0
 rotate_left
 ·have g1 : (z != 0) = true := by rw [bne_iff_ne]; exact g
  clear g
  go_enter Tryz.func3, Tryz.ntmps3
  go_upto_region 1 with fail
  rw [← hV]
  clear hV
  go_wp2_with fail
  refine (known5_any a _ (HhKc.out.below B0.out zN) (HhK.out.below B0.out zN) (Hhe.out.below B0.out zN)).mono ?_
  rintro e w1 ⟨rfl, hb⟩
  have B1 : Hid (Below w.heap.size w w1) := B0.out.trans (hb.mono (by omega))
  have Q1 : Hid (Blk w1 w.heap.size (mgc l (.slice la lk lc))) := Q0.out.on hb
  have P1 : Hid (Blk w1 (w.heap.size + 1) (mgc m (.slice ua uk uc))) := P0.out.on hb
  have z1 : w.heap.size < w1.heap.size := Nat.lt_of_lt_of_le z0 (by have := hb.size; omega)
  clear hb
  go_wp2_with (first | (refine wpList_load_mid rfl 30 _ rfl w.heap.size 0 rfl (mgc l (.slice la lk lc)) _ (Q1.out.range) Tryz.underlying30 rfl (by kernel_rfl) ?_))
  refine (mencode_any v n l la lk lc _ (HhKc.out.below B1.out zN) (HhK.out.below B1.out zN) Hk1.out Hk2.out Hn1.out Hn2.out (HI1.out.below B1.out zN)).mono ?_
  rintro e w2 ⟨u, rfl, ho, hb⟩
  rw [hA.out] at ho
  rw [hz.out]
  obtain ⟨sa, cap, rfl, hsrc, hseg⟩ := mown_src ho
  have SRC := hide hsrc
  have SEG := hide hseg
  clear ho hsrc hseg
  have B2 : Hid (Below w.heap.size w w2) := B1.out.trans (hb.mono (by omega))
  have Q2 : Hid (Blk w2 w.heap.size (mgc l (.slice la lk lc))) := Q1.out.on hb
  have P2 : Hid (Blk w2 (w.heap.size + 1) (mgc m (.slice ua uk uc))) := P1.out.on hb
  have z2 : w.heap.size < w2.heap.size := Nat.lt_of_lt_of_le z1 (by have := hb.size; omega)
  clear hb
  go_wp2_with (first | (refine wpList_load_mid rfl 30 _ rfl (w.heap.size + 1) 0 rfl (mgc m (.slice ua uk uc)) _ (P2.out.range) Tryz.underlying30 rfl (by kernel_rfl) ?_))
  refine (mencode_any v n m ua uk uc _ (HhKc.out.below B2.out zN) (HhK.out.below B2.out zN) Gk1.out Gk2.out Gn1.out Gn2.out (HI2.out.below B2.out zN)).mono ?_
  rintro e w3 ⟨u, rfl, ho, hb⟩
  rw [hC.out] at ho
  rw [hy.out]
  obtain ⟨sb, cap2, rfl, hsrc, hseg⟩ := mown_src ho
  have SRC2 := hide hsrc
  have SEG2 := hide hseg
  have SEG3 := hide (SEG.out.below hb zN)
  clear ho hsrc hseg SEG
  have B3 : Hid (Below w.heap.size w w3) := B2.out.trans (hb.mono (by omega))
  have Q3 : Hid (Blk w3 w.heap.size (mgc l (.slice la lk lc))) := Q2.out.on hb
  have P3 : Hid (Blk w3 (w.heap.size + 1) (mgc m (.slice ua uk uc))) := P2.out.on hb
  have z3 : w.heap.size < w3.heap.size := Nat.lt_of_lt_of_le z2 (by have := hb.size; omega)
  clear hb
  go_wp2_with (first | (go_at_call 6; refine (num5_any _ _).mono ?_; rintro e w' ⟨rfl, rfl⟩))
  go_ret
  exact ⟨rfl, B3.out⟩
 by_cases g' : y = 0
 rotate_left
 ·have g1 : (y != 0) = true := by rw [bne_iff_ne]; exact g'
  subst g
  clear g'
  go_enter Tryz.func3, Tryz.ntmps3
  go_upto_region 1 with fail
  rw [← hV]
  clear hV
  go_wp2_with fail
  refine (known5_any a _ (HhKc.out.below B0.out zN) (HhK.out.below B0.out zN) (Hhe.out.below B0.out zN)).mono ?_
  rintro e w1 ⟨rfl, hb⟩
  have B1 : Hid (Below w.heap.size w w1) := B0.out.trans (hb.mono (by omega))
  have Q1 : Hid (Blk w1 w.heap.size (mgc l (.slice la lk lc))) := Q0.out.on hb
  have P1 : Hid (Blk w1 (w.heap.size + 1) (mgc m (.slice ua uk uc))) := P0.out.on hb
  have z1 : w.heap.size < w1.heap.size := Nat.lt_of_lt_of_le z0 (by have := hb.size; omega)
  clear hb
  go_wp2_with (first | (refine wpList_load_mid rfl 30 _ rfl w.heap.size 0 rfl (mgc l (.slice la lk lc)) _ (Q1.out.range) Tryz.underlying30 rfl (by kernel_rfl) ?_))
  refine (mencode_any v n l la lk lc _ (HhKc.out.below B1.out zN) (HhK.out.below B1.out zN) Hk1.out Hk2.out Hn1.out Hn2.out (HI1.out.below B1.out zN)).mono ?_
  rintro e w2 ⟨u, rfl, ho, hb⟩
  rw [hA.out] at ho
  rw [hz.out]
  obtain ⟨sa, cap, rfl, hsrc, hseg⟩ := mown_src ho
  have SRC := hide hsrc
  have SEG := hide hseg
  clear ho hsrc hseg
  have B2 : Hid (Below w.heap.size w w2) := B1.out.trans (hb.mono (by omega))
  have Q2 : Hid (Blk w2 w.heap.size (mgc l (.slice la lk lc))) := Q1.out.on hb
  have P2 : Hid (Blk w2 (w.heap.size + 1) (mgc m (.slice ua uk uc))) := P1.out.on hb
  have z2 : w.heap.size < w2.heap.size := Nat.lt_of_lt_of_le z1 (by have := hb.size; omega)
  clear hb
  go_wp2_with (first | (refine wpList_load_mid rfl 30 _ rfl (w.heap.size + 1) 0 rfl (mgc m (.slice ua uk uc)) _ (P2.out.range) Tryz.underlying30 rfl (by kernel_rfl) ?_))
  refine (mencode_any v n m ua uk uc _ (HhKc.out.below B2.out zN) (HhK.out.below B2.out zN) Gk1.out Gk2.out Gn1.out Gn2.out (HI2.out.below B2.out zN)).mono ?_
  rintro e w3 ⟨u, rfl, ho, hb⟩
  rw [hC.out] at ho
  rw [hy.out]
  obtain ⟨sb, cap2, rfl, hsrc, hseg⟩ := mown_src ho
  have SRC2 := hide hsrc
  have SEG2 := hide hseg
  have SEG3 := hide (SEG.out.below hb zN)
  clear ho hsrc hseg SEG
  have B3 : Hid (Below w.heap.size w w3) := B2.out.trans (hb.mono (by omega))
  have Q3 : Hid (Blk w3 w.heap.size (mgc l (.slice la lk lc))) := Q2.out.on hb
  have P3 : Hid (Blk w3 (w.heap.size + 1) (mgc m (.slice ua uk uc))) := P2.out.on hb
  have z3 : w.heap.size < w3.heap.size := Nat.lt_of_lt_of_le z2 (by have := hb.size; omega)
  clear hb
  go_wp2_with (first | (go_at_call 6; refine (num5_any _ _).mono ?_; rintro e w' ⟨rfl, rfl⟩))
  go_ret
  exact ⟨rfl, B3.out⟩
 ·subst g
  subst g'
  have EA : Hid (msB v l = A) := by rw [← hA.out, if_pos hz.out]; rfl
  have EC : Hid (msB v m = C) := by rw [← hC.out, if_pos hy.out]; rfl
  by_cases hlm : l = m
  ·have eAC : Hid (A = C) := by rw [← EA.out, ← EC.out, hlm]; rfl
   have HLM := hide hlm
   clear hlm
   go_enter Tryz.func3, Tryz.ntmps3
   go_upto_region 1 with fail
   rw [← hV]
   clear hV
   go_wp2_with fail
   refine (known5_any a _ (HhKc.out.below B0.out zN) (HhK.out.below B0.out zN) (Hhe.out.below B0.out zN)).mono ?_
   rintro e w1 ⟨rfl, hb⟩
   have B1 : Hid (Below w.heap.size w w1) := B0.out.trans (hb.mono (by omega))
   have Q1 : Hid (Blk w1 w.heap.size (mgc l (.slice la lk lc))) := Q0.out.on hb
   have P1 : Hid (Blk w1 (w.heap.size + 1) (mgc m (.slice ua uk uc))) := P0.out.on hb
   have z1 : w.heap.size < w1.heap.size := Nat.lt_of_lt_of_le z0 (by have := hb.size; omega)
   clear hb
   go_wp2_with (first | (refine wpList_load_mid rfl 30 _ rfl w.heap.size 0 rfl (mgc l (.slice la lk lc)) _ (Q1.out.range) Tryz.underlying30 rfl (by kernel_rfl) ?_))
   refine (mencode_any v n l la lk lc _ (HhKc.out.below B1.out zN) (HhK.out.below B1.out zN) Hk1.out Hk2.out Hn1.out Hn2.out (HI1.out.below B1.out zN)).mono ?_
   rintro e w2 ⟨u, rfl, ho, hb⟩
   rw [hA.out] at ho
   rw [hz.out]
   obtain ⟨sa, cap, rfl, hsrc, hseg⟩ := mown_src ho
   have SRC := hide hsrc
   have SEG := hide hseg
   clear ho hsrc hseg
   have B2 : Hid (Below w.heap.size w w2) := B1.out.trans (hb.mono (by omega))
   have Q2 : Hid (Blk w2 w.heap.size (mgc l (.slice la lk lc))) := Q1.out.on hb
   have P2 : Hid (Blk w2 (w.heap.size + 1) (mgc m (.slice ua uk uc))) := P1.out.on hb
   have z2 : w.heap.size < w2.heap.size := Nat.lt_of_lt_of_le z1 (by have := hb.size; omega)
   clear hb
   go_wp2_with (first | (refine wpList_load_mid rfl 30 _ rfl (w.heap.size + 1) 0 rfl (mgc m (.slice ua uk uc)) _ (P2.out.range) Tryz.underlying30 rfl (by kernel_rfl) ?_))
   refine (mencode_any v n m ua uk uc _ (HhKc.out.below B2.out zN) (HhK.out.below B2.out zN) Gk1.out Gk2.out Gn1.out Gn2.out (HI2.out.below B2.out zN)).mono ?_
   rintro e w3 ⟨u, rfl, ho, hb⟩
   rw [hC.out] at ho
   rw [hy.out]
   obtain ⟨sb, cap2, rfl, hsrc, hseg⟩ := mown_src ho
   have SRC2 := hide hsrc
   have SEG2 := hide hseg
   have SEG3 := hide (SEG.out.below hb zN)
   clear ho hsrc hseg SEG
   have B3 : Hid (Below w.heap.size w w3) := B2.out.trans (hb.mono (by omega))
   have Q3 : Hid (Blk w3 w.heap.size (mgc l (.slice la lk lc))) := Q2.out.on hb
   have P3 : Hid (Blk w3 (w.heap.size + 1) (mgc m (.slice ua uk uc))) := P2.out.on hb
   have z3 : w.heap.size < w3.heap.size := Nat.lt_of_lt_of_le z2 (by have := hb.size; omega)
   clear hb
   go_wp2_with (first | (go_at_call 6; refine (num5_any _ _).mono ?_; rintro e w' ⟨rfl, rfl⟩) | (refine wpList_load_mid rfl 30 _ rfl w.heap.size 0 rfl (mgc l (.slice la lk lc)) _ (Q3.out.range) Tryz.underlying30 rfl (by kernel_rfl) ?_) | (refine wpList_load_mid rfl 30 _ rfl (w.heap.size + 1) 0 rfl (mgc m (.slice ua uk uc)) _ (P3.out.range) Tryz.underlying30 rfl (by kernel_rfl) ?_))
   refine (same_m HLM.out la ua lk lc uk uc _ (HI1.out.below B3.out zN) (HI2.out.below B3.out zN)).mono ?_
   rintro e w4 ⟨rfl, hb⟩
   have B4 : Hid (Below w.heap.size w w4) := B3.out.trans (hb.mono (by omega))
   have SEG4 := hide (SEG3.out.below hb zN)
   have SEG5 := hide (SEG2.out.below hb zN)
   clear hb SEG2 SEG3
   go_wp2_with fail
   refine (same_any _ _ _ _ _ _ A C _ SEG4.out SEG5.out).mono ?_
   rintro e w5 ⟨rfl, k, rfl⟩
   rw [show sameB A C = true from same_yes eAC.out]
   go_wp2
   go_ret
   exact ⟨rfl, B4.out.os, B4.out.tape, B4.out.output, B4.out.size, B4.out.block⟩
  ·have AP1 : Hid (sameB (A.take C.length) C = false) := by rw [← EA.out, ← EC.out]; exact apart hz.out hy.out Hn1.out Hn2.out Gn1.out Gn2.out hlm
   have AP2 : Hid (sameB (C.take A.length) A = false) := by rw [← EA.out, ← EC.out]; exact apart hy.out hz.out Gn1.out Gn2.out Hn1.out Hn2.out (fun e => hlm e.symm)
   have HLM := hide hlm
   clear hlm
   go_enter Tryz.func3, Tryz.ntmps3
   go_upto_region 1 with fail
   rw [← hV]
   clear hV
   go_wp2_with fail
   refine (known5_any a _ (HhKc.out.below B0.out zN) (HhK.out.below B0.out zN) (Hhe.out.below B0.out zN)).mono ?_
   rintro e w1 ⟨rfl, hb⟩
   have B1 : Hid (Below w.heap.size w w1) := B0.out.trans (hb.mono (by omega))
   have Q1 : Hid (Blk w1 w.heap.size (mgc l (.slice la lk lc))) := Q0.out.on hb
   have P1 : Hid (Blk w1 (w.heap.size + 1) (mgc m (.slice ua uk uc))) := P0.out.on hb
   have z1 : w.heap.size < w1.heap.size := Nat.lt_of_lt_of_le z0 (by have := hb.size; omega)
   clear hb
   go_wp2_with (first | (refine wpList_load_mid rfl 30 _ rfl w.heap.size 0 rfl (mgc l (.slice la lk lc)) _ (Q1.out.range) Tryz.underlying30 rfl (by kernel_rfl) ?_))
   refine (mencode_any v n l la lk lc _ (HhKc.out.below B1.out zN) (HhK.out.below B1.out zN) Hk1.out Hk2.out Hn1.out Hn2.out (HI1.out.below B1.out zN)).mono ?_
   rintro e w2 ⟨u, rfl, ho, hb⟩
   rw [hA.out] at ho
   rw [hz.out]
   obtain ⟨sa, cap, rfl, hsrc, hseg⟩ := mown_src ho
   have SRC := hide hsrc
   have SEG := hide hseg
   clear ho hsrc hseg
   have B2 : Hid (Below w.heap.size w w2) := B1.out.trans (hb.mono (by omega))
   have Q2 : Hid (Blk w2 w.heap.size (mgc l (.slice la lk lc))) := Q1.out.on hb
   have P2 : Hid (Blk w2 (w.heap.size + 1) (mgc m (.slice ua uk uc))) := P1.out.on hb
   have z2 : w.heap.size < w2.heap.size := Nat.lt_of_lt_of_le z1 (by have := hb.size; omega)
   clear hb
   go_wp2_with (first | (refine wpList_load_mid rfl 30 _ rfl (w.heap.size + 1) 0 rfl (mgc m (.slice ua uk uc)) _ (P2.out.range) Tryz.underlying30 rfl (by kernel_rfl) ?_))
   refine (mencode_any v n m ua uk uc _ (HhKc.out.below B2.out zN) (HhK.out.below B2.out zN) Gk1.out Gk2.out Gn1.out Gn2.out (HI2.out.below B2.out zN)).mono ?_
   rintro e w3 ⟨u, rfl, ho, hb⟩
   rw [hC.out] at ho
   rw [hy.out]
   obtain ⟨sb, cap2, rfl, hsrc, hseg⟩ := mown_src ho
   have SRC2 := hide hsrc
   have SEG2 := hide hseg
   have SEG3 := hide (SEG.out.below hb zN)
   clear ho hsrc hseg SEG
   have B3 : Hid (Below w.heap.size w w3) := B2.out.trans (hb.mono (by omega))
   have Q3 : Hid (Blk w3 w.heap.size (mgc l (.slice la lk lc))) := Q2.out.on hb
   have P3 : Hid (Blk w3 (w.heap.size + 1) (mgc m (.slice ua uk uc))) := P2.out.on hb
   have z3 : w.heap.size < w3.heap.size := Nat.lt_of_lt_of_le z2 (by have := hb.size; omega)
   clear hb
   go_wp2_with (first | (go_at_call 6; refine (num5_any _ _).mono ?_; rintro e w' ⟨rfl, rfl⟩) | (refine wpList_load_mid rfl 30 _ rfl w.heap.size 0 rfl (mgc l (.slice la lk lc)) _ (Q3.out.range) Tryz.underlying30 rfl (by kernel_rfl) ?_) | (refine wpList_load_mid rfl 30 _ rfl (w.heap.size + 1) 0 rfl (mgc m (.slice ua uk uc)) _ (P3.out.range) Tryz.underlying30 rfl (by kernel_rfl) ?_))
   refine (sameMsg_diff l m _ _ _ _ _ _ _ (HI1.out.below B3.out zN) (HI2.out.below B3.out zN) HLM.out).mono ?_
   rintro e w4 ⟨rfl, hb⟩
   have B4 : Hid (Below w.heap.size w w4) := B3.out.trans (hb.mono (by omega))
   have SEG4 := hide (SEG3.out.below hb zN)
   have SEG5 := hide (SEG2.out.below hb zN)
   have c1 : A.length ≤ cap := by rcases SRC.out with ⟨h, h2⟩ | ⟨-, h, -⟩ <;> omega
   have c2 : C.length ≤ cap2 := by rcases SRC2.out with ⟨h, h2⟩ | ⟨-, h, -⟩ <;> omega
   clear hb SEG2 SEG3
   go_wp2_with fail
   refine (begins_any _ _ _ _ _ _ A C _ SEG4.out SEG5.out c1 AP1.out).mono ?_
   rintro e w5 ⟨rfl, k, rfl⟩
   go_wp2_with fail
   refine (begins_any _ _ _ _ _ _ C A _ (SEG5.out.drewN _) (SEG4.out.drewN _) c2 AP2.out).mono ?_
   rintro e w5 ⟨rfl, k2, rfl⟩
   go_wp2
   go_ret
   exact ⟨rfl, B4.out.os, B4.out.tape, B4.out.output, B4.out.size, B4.out.block⟩
theorem contract (H : Type) (enc : TypeId × Value → H) (W : World) (base : Nat) (args : Array Value) (ds gs : List (DataW H)) (before : List MemPlace)
  (hval : ∀ (j : Nat) t v, Tryz.f3.params[j]? = some t → args[j]? = some v → Value.okWide Tryz.prog W .any base t v)
  (hW : DataW.Whole enc Tryz.prog Tryz.f3.params.toList Rows.msgApartSpec.vars false W args.toList ds gs before)
  (hsz : (DataW.weightsEach Tryz.prog (Tryz.f3.params.toList ++ (OpenSpec.ofChange Rows.msgApartSpec).bare.plain.varTypes Tryz.prog) (ds ++ gs)).all (· ≤ reachBytes) = true)
  (hL : laidMetH Tryz.prog Rows.msgApartRow.laid W) :
  Calls Tryz.prog 3 args W fun e W' => ∃ v, e = .returned v ∧ Rows.msgApartSpec.post enc Tryz.prog Tryz.f3 false true false false W args v W' := by
 have hW' := hW
 obtain ⟨p, q, hA0, hV, rfl, hfz, hnd⟩ := hW
 have hA : DataW.TrodAll enc Tryz.prog W 0 (fun _ => true) true Tryz.f3.params.toList args.toList ds p := hA0
 rw [Tryz.params3] at hA hval hsz
 obtain ⟨v0, vs0, d0, ds0, p0, q0, hargs, rfl, rfl, h0, tr0⟩ := trodAll_cons hA
 obtain ⟨v1, vs1, d1, ds1, p1, q1, rfl, rfl, rfl, h1, tr1⟩ := trodAll_cons tr0
 obtain ⟨v2, vs2, d2, ds2, p2, q2, rfl, rfl, rfl, h2, tr2⟩ := trodAll_cons tr1
 obtain ⟨v3, vs3, d3, ds3, p3, q3, rfl, rfl, rfl, h3, tr3⟩ := trodAll_cons tr2
 obtain ⟨rfl, rfl, rfl⟩ := trodAll_nil tr3
 obtain rfl : args = #[v0, v1, v2, v3] := by cases args; simp_all
 obtain ⟨rfl, rfl⟩ := trodVars_none hV
 obtain ⟨y0, rfl, rfl, rfl, w0⟩ := open_int Tryz.underlying3 (hval 0 3 v0 rfl rfl) h0
 have b0 := bounds_i64 w0
 obtain ⟨y1, rfl, rfl, rfl, w1⟩ := open_int Tryz.underlying3 (hval 1 3 v1 rfl rfl) h1
 have b1 := bounds_i64 w1
 have k2 := h2
 have lt2 : ∀ x ∈ p2, x.block < W.heap.size := by obtain ⟨m, hm⟩ := k2; exact DataW.trod_lt m _ _ _ hm
 obtain ⟨m2, ua2, uk2, uc2, dI2, dB2, dV2, dd2, rfl, hd2, hseg2, hcap2, b2⟩ := mopen_msg (hval 2 30 v2 rfl rfl) h2
 have k3 := h3
 have lt3 : ∀ x ∈ p3, x.block < W.heap.size := by obtain ⟨m, hm⟩ := k3; exact DataW.trod_lt m _ _ _ hm
 obtain ⟨m3, ua3, uk3, uc3, dI3, dB3, dV3, dd3, rfl, hd3, hseg3, hcap3, b3⟩ := mopen_msg (hval 3 30 v3 rfl rfl) h3
 have sz2 := msized hsz (j := 2) (m := m2) (dI := dI2) (dB := dB2) (dV := dV2) (dd := dd2) rfl (by rw [show d2 = _ from hd2]; rfl)
 have sz3 := msized hsz (j := 3) (m := m3) (dI := dI3) (dB := dB3) (dV := dV3) (dd := dd3) rfl (by rw [show d3 = _ from hd3]; rfl)
 have hE := errs_of_laid hL
 clear hA0
 obtain ⟨aa, haa⟩ := hE
 refine (walk y0 y1 m2 m3 ua2 ua3 uk2 uc2 uk3 uc3 aa W (knd_of_laid hL) (kmd_of_laid hL) haa sz2.1 sz2.2 b2.cmd.2.2.2.1 b2.cmd.2.2.2.2 hseg2 sz3.1 sz3.2 b3.cmd.2.2.2.1 b3.cmd.2.2.2.2 hseg3).mono fun e W' ⟨he, bel⟩ => ?_
 subst he
 exact ⟨_, rfl, _, _, _, [], _, [], hW', trodAll_mk1 (shut_bool Tryz.underlying4 _), (trodAll_cons_mk (shut_int Tryz.underlying3 w0) (trodAll_cons_mk (shut_int Tryz.underlying3 w1) (trodAll_cons_mk (Below.trod claid (by kernel_rfl) (of_decide_eq_true (by kernel_rfl)) k2 bel lt2) (trodAll_cons_mk (Below.trod claid (by kernel_rfl) (of_decide_eq_true (by kernel_rfl)) k3 bel lt3) trodAll_mk0)))), rfl, bel.frame _, fun h => by cases h⟩
theorem reads (os : Os) {H : Type} (enc : TypeId × Value → H) : ∃ places, DataW.whole enc Tryz.prog ((World.doorLaid Tryz.prog 400 os).forCall (fun _ _ => 0) ⟨#[], #[.int .i64 0, .int .i64 0, .agg #[.int .i64 0, .int .i64 0, .int .i64 0, .int .i64 0, .int .i64 0, .int .i64 0, .int .i64 0, .int .i64 0, .bool false, .int .i64 0, .int .i64 0, .int .i64 0, .string ⟨#[]⟩, .string ⟨#[]⟩, .string ⟨#[]⟩, .string ⟨#[]⟩, .int .i64 0, .int .i64 0, .slice none 0 0], .agg #[.int .i64 0, .int .i64 0, .int .i64 0, .int .i64 0, .int .i64 0, .int .i64 0, .int .i64 0, .int .i64 0, .bool false, .int .i64 0, .int .i64 0, .int .i64 0, .string ⟨#[]⟩, .string ⟨#[]⟩, .string ⟨#[]⟩, .string ⟨#[]⟩, .int .i64 0, .int .i64 0, .slice none 0 0]], []⟩).memory Tryz.f3.params.toList Rows.msgApartSpec.vars false (#[Value.int .i64 0, .int .i64 0, .agg #[.int .i64 0, .int .i64 0, .int .i64 0, .int .i64 0, .int .i64 0, .int .i64 0, .int .i64 0, .int .i64 0, .bool false, .int .i64 0, .int .i64 0, .int .i64 0, .string ⟨#[]⟩, .string ⟨#[]⟩, .string ⟨#[]⟩, .string ⟨#[]⟩, .int .i64 0, .int .i64 0, .slice none 0 0], .agg #[.int .i64 0, .int .i64 0, .int .i64 0, .int .i64 0, .int .i64 0, .int .i64 0, .int .i64 0, .int .i64 0, .bool false, .int .i64 0, .int .i64 0, .int .i64 0, .string ⟨#[]⟩, .string ⟨#[]⟩, .string ⟨#[]⟩, .string ⟨#[]⟩, .int .i64 0, .int .i64 0, .slice none 0 0]] : Array Value).toList 8 = some ([.lit (.int .i64 0), .lit (.int .i64 0), .agg [.lit (.int .i64 0), .agg [.lit (.int .i64 0), .lit (.int .i64 0)], .agg [.lit (.int .i64 0), .lit (.int .i64 0)], .agg [.lit (.int .i64 0), .lit (.int .i64 0)], .lit (.int .i64 0), .lit (.bool false), .agg [.lit (.int .i64 0), .lit (.int .i64 0), .lit (.int .i64 0), .lit (.string []), .lit (.string []), .lit (.string []), .lit (.string []), .lit (.int .i64 0)], .lit (.int .i64 0), .nil], .agg [.lit (.int .i64 0), .agg [.lit (.int .i64 0), .lit (.int .i64 0)], .agg [.lit (.int .i64 0), .lit (.int .i64 0)], .agg [.lit (.int .i64 0), .lit (.int .i64 0)], .lit (.int .i64 0), .lit (.bool false), .agg [.lit (.int .i64 0), .lit (.int .i64 0), .lit (.int .i64 0), .lit (.string []), .lit (.string []), .lit (.string []), .lit (.string []), .lit (.int .i64 0)], .lit (.int .i64 0), .nil]], [], places) :=
 ⟨[], by kernel_rfl⟩
theorem lifted (os : Os) (started : os.Started) (H : Type) (enc : TypeId × Value → H) (F : Stop.Interp) :
  ReturnsInHanded {} Tryz.checked os 3 .any ((OpenSpec.ofChange Rows.msgApartSpec).preRow enc Tryz.prog Tryz.f3 Rows.msgApartRow.domain false Rows.msgApartRow.laid) (((OpenSpec.ofChange Rows.msgApartSpec).at F).post enc Tryz.prog Tryz.f3 false true false false) := by
 obtain ⟨places, hx⟩ := reads os enc
 refine returnsInHanded_of_row (C := Tryz.checked) (s := (OpenSpec.ofChange Rows.msgApartSpec)) cown started (by kernel_rfl) Tryz.func3
  (witness_row_atRef (enc := enc) (C := Tryz.checked) false (World.doorLaid Tryz.prog 400 os) #[.int .i64 0, .int .i64 0, .agg #[.int .i64 0, .int .i64 0, .int .i64 0, .int .i64 0, .int .i64 0, .int .i64 0, .int .i64 0, .int .i64 0, .bool false, .int .i64 0, .int .i64 0, .int .i64 0, .string ⟨#[]⟩, .string ⟨#[]⟩, .string ⟨#[]⟩, .string ⟨#[]⟩, .int .i64 0, .int .i64 0, .slice none 0 0], .agg #[.int .i64 0, .int .i64 0, .int .i64 0, .int .i64 0, .int .i64 0, .int .i64 0, .int .i64 0, .int .i64 0, .bool false, .int .i64 0, .int .i64 0, .int .i64 0, .string ⟨#[]⟩, .string ⟨#[]⟩, .string ⟨#[]⟩, .string ⟨#[]⟩, .int .i64 0, .int .i64 0, .slice none 0 0]] rfl (by kernel_rfl) (by kernel_rfl) (by kernel_rfl)
   (OpenSpec.preRow_of_cond 8 hx (by kernel_rfl) (fun k hk => by cases hk) (by kernel_rfl) (door_met os _))) ?_
 intro W base args ds gs before hval hW _ hcond hsz hL _ _
 exact contract H enc W base args ds gs before hval hW hsz hL
theorem said : Rows.MsgApartSaid :=
 OpenClaim.holds_of_cond 3 Tryz.f3 rfl rfl rfl rfl rfl rfl rfl ⟨rfl, rfl, rfl, rfl, rfl⟩ rfl rfl rfl rfl rfl (by kernel_rfl) Tryz.func3 (by kernel_rfl)
  (of_decide_eq_true (by kernel_rfl)) (by unfold Func.isWrapper; first | (rw [if_pos (by decide +kernel)]; kernel_rfl) | (rw [if_neg (by decide +kernel)]; exact ⟨rfl, rfl⟩))
  (fun os started H enc _ F => by rw [OpenClaim.pre_eq_preRow]; exact lifted os started H enc F)
theorem plain (f : FuncId) (fn : Func) (hf : Tryz.pinned.checked.prog.funcNamed "moot/mootlaw5.MsgApart" = some f) (hfn : Tryz.pinned.checked.prog.funcs[f]? = some fn) :
  true = Tryz.pinned.checked.prog.looks [] ∧ ∀ (j : Nat) t, fn.params[j]? = some t → Tryz.pinned.checked.prog.wantsStandIn t = false := by
 obtain rfl : f = 3 := Option.some.inj ((show Tryz.prog.funcNamed "moot/mootlaw5.MsgApart" = some 3 by kernel_rfl).symm.trans hf) |>.symm
 obtain rfl : fn = Tryz.f3 := (Option.some.inj (Tryz.func3.symm.trans hfn)).symm
 refine ⟨by kernel_rfl, fun j t ht => ?_⟩
 rw [Tryz.params3] at ht
 have hm : t ∈ [3, 3, 30, 30] := by simpa using Array.mem_of_getElem? ht
 have hall : ([3, 3, 30, 30].all fun u => !Tryz.prog.wantsStandIn u) = true := by kernel_rfl
 exact (show Tryz.prog.wantsStandIn t = false by simpa using List.all_eq_true.1 hall t hm)
end msgApart
theorem msgApart_proved : Rows.MsgApartCardSaid :=
 Claim7.holds_tied_plain_at .later [] _ _ _ _ msgApart.said (fun _ h => by cases h) (by kernel_rfl) (fun _ h => by cases h) msgApart_row_tie rfl ⟨rfl, rfl⟩ (by kernel_rfl) rfl msgApart.plain (by kernel_rfl)
#print axioms msgApart_proved
end Go.Proofs.YtibfdoggolkljaaGreatDoor
