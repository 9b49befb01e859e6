/- Proved: for every version, n, message, length and list of bytes MsgEnds answers true: each beginning of a message's bytes is too short, with anything behind them they are too long. Conditions: the two tables of kinds and the five sentinels of package wire start as the program's text lays them (the card ties them). -/
import Derived.Deep.DeepHandedRow
import Derived.Deep.DeepWitnessRowRef
import Derived.Test.YtppocmgcfeelhaaGreatDoorJ41
import Derived.Test.YtppocmgcfeelhaaGreatDoorJ44
import Derived.Test.YtppocmgcfeelhaaGreatDoorJ42
import Derived.Test.YtppocmgcfeelhaaGreatDoorTie
import Derived.Test.YtppocmgcfeelhaaGreatDoorCards
set_option maxHeartbeats 16000000
set_option maxRecDepth 100000
namespace Go.Proofs.YtppocmgcfeelhaaGreatDoor
namespace msgEnds
open Go.ChangeShapes Go.WideShapes Go.ChangeAt Go.RowKit Go.Wire1
theorem own_some {w : World} {B : Nat} {v : Value} {l : List Int} (h : w.ownsRow B 5 1 v l.length (l.map (Value.int .u8))) (h0 : 0 < l.length) : ∃ g cap, v = .slice (some ⟨g, 0, none⟩) l.length cap ∧ l.length ≤ cap ∧ cap ≤ maxLen := by
 rcases h.2 with ⟨e, h1⟩ | ⟨g, cap, cur, e, _, _, h2, h3, _⟩
 ·omega
 ·exact ⟨g, cap, e, h2, h3⟩
theorem walk (v n : Int) (m : Ms) (ua : Option Addr) (uk uc : Nat) (kk : Int) (ta : Option Addr) (tn tcap : Nat) (tl : List Int) (a : Nat → Addr) (w : World) (hKc : Knd w) (hK : Kmd w) (he : Errs w a) (hk1 : m.c.key.size ≤ 140737488351232) (hk2 : m.c.key2.size ≤ 140737488351232) (hn1 : -9223372036854775808 ≤ m.c.n) (hn2 : m.c.n ≤ 9223372036854775807) (hI : SegI w ua uk m.dl) (ht : Seg w ta tn tl) (hty : Byt tl) (hreach : tn ≤ 140737488351232) :
  Calls Tryz.prog 5 #[.int .i64 v, .int .i64 n, .agg (mgc m (.slice ua uk uc)).toArray, .int .i64 kk, .slice ta tn tcap] w fun e w' => e = .returned (.bool true) ∧ Below w.heap.size w w' := by
 obtain ⟨i0, hi, hz0, hz1, hz2⟩ := info_parts Tryz.info5
 obtain ⟨w0, hV⟩ : ∃ V, V = w.alloc (.cells (mgc m (.slice ua uk uc)).toArray 30) := ⟨_, rfl⟩
 have Q0 : Hid (Blk w0 w.heap.size (mgc m (.slice ua uk uc))) := by rw [hV]; exact blk_new w 30 (mgc m (.slice ua uk uc))
 have B0 : Hid (Below w.heap.size w w0) := by rw [hV]; exact (Below.refl _ _).alloc zN _
 have z0 : w.heap.size < w0.heap.size := Q0.out.lt
 have HhKc := hide hKc
 have HhK := hide hK
 have Hhe := hide he
 have Hhk1 := hide hk1
 have Hhk2 := hide hk2
 have Hhn1 := hide hn1
 have Hhn2 := hide hn2
 have HhI := hide hI
 have HT := hide ht
 have HTY := hide hty
 have HRE := hide hreach
 clear hKc hK he hk1 hk2 hn1 hn2 hI ht hty hreach
 go_enter Tryz.func5, Tryz.ntmps5
 go_upto_region 1 with fail
 rw [← hV]
 clear hV
 go_wp2_with fail
 refine (known5_any a _ (HhKc.out.below B0.out zN) (HhK.out.below B0.out zN) (Hhe.out.below B0.out zN)).mono ?_
 rintro e w1 ⟨rfl, hb⟩
 have B1 : Hid (Below w.heap.size w w1) := B0.out.trans (hb.mono (by omega))
 have Q1 : Hid (Blk w1 w.heap.size (mgc m (.slice ua uk uc))) := Q0.out.on hb
 have z1 : w.heap.size < w1.heap.size := Nat.lt_of_lt_of_le z0 (by have := hb.size; omega)
 clear hb
 go_wp2_with (first | (refine wpList_load_mid rfl 30 _ rfl w.heap.size 0 rfl (mgc m (.slice ua uk uc)) _ (Q1.out.range) Tryz.underlying30 rfl (by kernel_rfl) ?_))
 refine (mencode_any v n m ua uk uc _ (HhKc.out.below B1.out zN) (HhK.out.below B1.out zN) Hhk1.out Hhk2.out Hhn1.out Hhn2.out (HhI.out.below B1.out zN)).mono ?_
 rintro e w2 ⟨u, rfl, ho, hb⟩
 by_cases hz : chkM v n m = 0
 ·have HZ := hide hz
  have LEN := hide (msB_len hz)
  have BYT := hide (byt_msB hz)
  have BACK := hide (decM_back hz Hhn1.out Hhn2.out)
  have CUT : Hid (∀ k, k < (msB v m).length → decM v n ((msB v m).take k) = (zeroM, 11)) := fun k hk => decM_cut hz Hhn1.out Hhn2.out hk
  have REST : Hid (∀ t, t ≠ [] → decM v n (msB v m ++ t) = (zeroM, 59)) := fun t ht => decM_rest hz Hhn1.out Hhn2.out ht
  rw [HZ.out, if_pos rfl] at ho
  rw [HZ.out]
  clear hz
  obtain ⟨L, hL⟩ : ∃ L, Hid (msB v m = L) := ⟨_, rfl⟩
  rw [hL.out] at LEN BYT BACK CUT REST ho
  have l1 : 2 ≤ L.length := LEN.out.1
  have l2 : L.length ≤ 1048576 := LEN.out.2
  obtain ⟨pb, c2, rfl, hc2, hc2m⟩ := own_some ho (by omega)
  obtain ⟨sa, cap, hv, hsrc, hseg⟩ := mown_src ho
  injection hv with hv1 hv2 hv3
  subst hv1
  have SG2 : Hid (Seg w2 (some ⟨pb, 0, none⟩) L.length L) := hseg
  unfold maxLen at hc2m
  clear ho hsrc hseg hv2 hv3 LEN hL
  have B2 : Hid (Below w.heap.size w w2) := B1.out.trans (hb.mono (by omega))
  have Q2 : Hid (Blk w2 w.heap.size (mgc m (.slice ua uk uc))) := Q1.out.on hb
  have z2 : w.heap.size < w2.heap.size := Nat.lt_of_lt_of_le z1 (by have := hb.size; omega)
  clear hb
  by_cases hin : 0 ≤ kk ∧ kk < (L.length : Int)
  ·obtain ⟨k, rfl⟩ := zI hin.1
   have hk : k < L.length := by omega
   have g1 : (k : Int) ≥ 0 := by omega
   have g2 : (k : Int) < (L.length : Int) := hin.2
   have ik : (k : Int) ≤ (c2 : Int) := by omega
   have SK : Hid (Seg w2 (some ⟨pb, 0, none⟩) k (L.take k)) := SG2.out.take (by omega)
   have YK : Hid (Byt (L.take k)) := byt_take BYT.out k
   have CK : Hid (Src (some ⟨pb, 0, none⟩) k c2) := .inr ⟨⟨pb, 0, rfl⟩, by omega, by unfold maxLen; omega⟩
   have DK : Hid (decM v n (L.take k) = (zeroM, 11)) := CUT.out k hk
   clear hin
   go_wp2_with (first | (go_at_call 10; refine (num5_any _ _).mono ?_; rintro e w' ⟨rfl, rfl⟩))
   refine (mdecode_any v n _ _ _ (L.take k) a _ SK.out CK.out YK.out (Hhe.out.below B2.out zN) (HhKc.out.below B2.out zN) (HhK.out.below B2.out zN)).mono ?_
   rintro e w3 ⟨u, rfl, D, hb⟩
   rw [DK.out] at D ⊢
   obtain ⟨ua5, uk5, uc5, rfl, hI5, -⟩ := D
   have T3 : Hid (SegI w3 ua5 uk5 zeroM.dl) := hI5
   clear hI5 SK YK CK DK
   have B3 : Hid (Below w.heap.size w w3) := B2.out.trans (hb.mono (by omega))
   have Q3 : Hid (Blk w3 w.heap.size (mgc m (.slice ua uk uc))) := Q2.out.on hb
   have SG3 : Hid (Seg w3 (some ⟨pb, 0, none⟩) L.length L) := SG2.out.below hb zN
   have z3 : w.heap.size < w3.heap.size := Nat.lt_of_lt_of_le z2 (by have := hb.size; omega)
   clear hb
   obtain ⟨U5, hU5⟩ : ∃ W, W = w3.alloc (.cells zeroL.toArray 30) := ⟨_, rfl⟩
   have BU5 : Hid (Below w3.heap.size w3 U5) := by rw [hU5]; exact (Below.refl _ _).alloc zN _
   have QU5 : Hid (Blk U5 w3.heap.size zeroL) := by rw [hU5]; exact blk_new w3 30 zeroL
   have TH5 : Hid (U5.there w3.heap.size 0 19) := QU5.out.there
   obtain ⟨w4, hX5⟩ : ∃ X, X = U5.setCells w3.heap.size 0 (mgc zeroM (.slice ua5 uk5 uc5)) := ⟨_, rfl⟩
   have RX5 := hide (mbox_stored (w := w3) QU5.out (by rfl) BU5.out zN hX5)
   have hb := RX5.out.2
   have B4 : Hid (Below w.heap.size w w4) := B3.out.trans (hb.mono (by omega))
   have Q4 : Hid (Blk w4 w.heap.size (mgc m (.slice ua uk uc))) := Q3.out.on hb
   have SG4 : Hid (Seg w4 (some ⟨pb, 0, none⟩) L.length L) := SG3.out.below hb zN
   have T4 : Hid (SegI w4 ua5 uk5 zeroM.dl) := T3.out.below hb zN
   have z4 : w.heap.size < w4.heap.size := Nat.lt_of_lt_of_le z3 (by have := hb.size; omega)
   clear hb
   have HU5 := hide hU5
   have HX5 := hide hX5
   clear hU5 hX5
   have eU5 : w3.alloc (.cells #[.int .i64 0, .int .i64 0, .int .i64 0, .int .i64 0, .int .i64 0, .int .i64 0, .int .i64 0, .int .i64 0, .bool false, .int .i64 0, .int .i64 0, .int .i64 0, .string ⟨#[]⟩, .string ⟨#[]⟩, .string ⟨#[]⟩, .string ⟨#[]⟩, .int .i64 0, .int .i64 0, .slice none 0 0] 30) = U5 := HU5.out.symm
   go_upto_region 8 with (first | (refine wpList_store_mid rfl 30 _ _ rfl w3.heap.size 0 (mgc zeroM (.slice ua5 uk5 uc5)).toArray rfl rfl (by first | exact TH5.out | (rw [eU5]; exact TH5.out)) (by kernel_rfl) (by kernel_rfl) ?_; first | rw [← HX5.out] | (rw [eU5, ← HX5.out])))
   clear eU5
   go_wp2_with (first | (go_at_call 10; refine (num5_any _ _).mono ?_; rintro e w' ⟨rfl, rfl⟩) | (refine wpList_load_want (by rfl) 30 _ rfl w3.heap.size 0 rfl (mgc zeroM (.slice ua5 uk5 uc5)) _ (RX5.out.1.range) Tryz.underlying30 rfl (by kernel_rfl) ?_))
   refine (sameMsg_same zeroM _ none _ _ 0 0 _ T4.out (segI_nil _)).mono ?_
   rintro e w5 ⟨rfl, hb⟩
   have B5 : Hid (Below w.heap.size w w5) := B4.out.trans (hb.mono (by omega))
   have Q5 : Hid (Blk w5 w.heap.size (mgc m (.slice ua uk uc))) := Q4.out.on hb
   have SG5 : Hid (Seg w5 (some ⟨pb, 0, none⟩) L.length L) := SG4.out.below hb zN
   have z5 : w.heap.size < w5.heap.size := Nat.lt_of_lt_of_le z4 (by have := hb.size; omega)
   clear hb
   have zB : w.heap.size < w5.heap.size := z5
   obtain ⟨WB, hWB⟩ : ∃ W, W = w5 := ⟨_, rfl⟩
   rw [← hWB] at B5 Q5 SG5 zB
   clear z5
   go_wp2_with fail
   rw [← hWB]
   clear hWB
   refine (bytes_any (some ⟨pb, 0, none⟩) _ c2 L _ SG5.out (by omega)).mono ?_
   rintro e w8 ⟨v8, rfl, ho, hb⟩
   have HB8 : Hid (Below WB.heap.size WB w8) := hb
   have OW8 := hide ho
   clear hb ho
   go_wp2_with fail
   go_loopw [15, 16] (fun x c wr => ∃ j : Nat, c = .int .i64 j ∧ j ≤ tn ∧ Hid (wr.ownsRow WB.heap.size 5 1 x (L ++ tl.take j).length ((L ++ tl.take j).map (Value.int .u8))) ∧ Hid (Below WB.heap.size WB wr)) (fun _ c _ => tn - (intOf c).toNat)
   case atStart => exact ⟨0, rfl, Nat.zero_le _, (by rw [List.take_zero, List.append_nil]; exact OW8.out), HB8⟩
   case round =>
    obtain ⟨j, rfl, hj, HOW, HB⟩ := hrel
    clear OW8 HB8
    have hsz := HB.out.size
    have hre := HRE.out
    have Bc0 : Hid (Below w.heap.size w wr) := B5.out.trans (HB.out.mono (by omega))
    have tll : Hid (tl.length = tn) := HT.out.1
    by_cases hlt : j < tn
    ·obtain ⟨ba, oa, rfl, hca⟩ := (HT.out.below Bc0.out zN).2.2 (by omega)
     have ca : wr.cell? ⟨ba, oa + j, none⟩ = some (.int .u8 (tl.getD j 0)) := hca j hlt
     have HTK : Hid (L ++ tl.take (j + 1) = (L ++ tl.take j) ++ [tl.getD j 0]) := by
      have : tl.take (j + 1) = tl.take j ++ [tl.getD j 0] := take_next (by rw [tll.out]; exact hlt)
      show _ = _
      rw [this, List.append_assoc]
     have hpl : Hid ((L ++ tl.take j).length = L.length + j) := by
      show _ = _
      rw [zL, List.length_take, tll.out]; omega
     have l0 : 0 < (L ++ tl.take j).length := by rw [hpl.out]; omega
     have l9 : (L ++ tl.take j).length + 1 ≤ 140737505132544 := by rw [hpl.out]; have := HRE.out; omega
     have hown := HOW.out
     have hbel := HB.out
     clear hca hpl HOW HB
     generalize tl.getD j 0 = z at *
     generalize L ++ tl.take j = pre at *
     go_wp2_with (first
      | (at_builtin; refine wpList_append_wide2 rfl _ _ 34 rfl WB.heap.size 5 i0 (.int .u8 0) Tryz.underlying34 hi hz0 hz1 hz2 rfl _ _ _ rfl (hown.alloc _) l0 ⟨wr.heap.size, 0, none⟩ 1 1 [.int .u8 z] rfl rfl ?c1 ?c2 l9 ?c5 ?_))
     case c1 =>
      intro j u hj
      match j, hj with
      | 0, hj => simp at hj; subst hj; simp [Addr.add]
     case c2 => intro u hu; simp at hu; subst hu; rfl
     case c5 => simp; omega
     intro v' w1 hown' hgrow
     have R := hide (push hsz hown hbel hown' hgrow)
     clear hown' hgrow hown hbel
     go_wp2
     go_roundw
     case rel => exact ⟨j + 1, by go_num, by omega, (by rw [HTK.out]; exact R.out.1), R.out.2⟩
     case measure => simp [intOf]; omega
    ·have HTE : Hid (tl.take j = tl) := List.take_of_length_le (by have := tll.out; omega)
     rw [HTE.out] at HOW
     obtain ⟨wc, hwc⟩ : ∃ W, W = wr := ⟨_, rfl⟩
     rw [← hwc] at HOW HB Bc0 hsz
     have Qc : Hid (Blk wc w.heap.size (mgc m (.slice ua uk uc))) := Q5.out.on HB.out
     have zc : w.heap.size < wc.heap.size := by omega
     have Bc : Hid (Below w.heap.size w wc) := Bc0
     obtain ⟨saM, capM, rfl, hsrcM, hsegM⟩ := mown_src HOW.out
     have SRCM := hide hsrcM
     have SEGM := hide hsegM
     have YTM : Hid (Byt (L ++ tl)) := byt_app BYT.out HTY.out
     clear hsrcM hsegM HOW HTE HB Bc0
     by_cases ht0 : tn = 0
     ·have hnil : tl = [] := List.eq_nil_of_length_eq_zero (tll.out.trans ht0)
      have DK : Hid (decM v n (L ++ tl) = (m, 0)) := by show _ = _; rw [hnil, List.append_nil]; exact BACK.out
      clear hnil
      subst ht0
      generalize L ++ tl = MB at *
      rw [hwc.symm]
      clear hwc
      go_wp2_with fail
      refine (mdecode_any v n _ _ _ MB a _ SEGM.out SRCM.out YTM.out (Hhe.out.below Bc.out zN) (HhKc.out.below Bc.out zN) (HhK.out.below Bc.out zN)).mono ?_
      rintro e wd ⟨u, rfl, D, hb⟩
      rw [DK.out] at D ⊢
      obtain ⟨ua9, uk9, uc9, rfl, hI9, -⟩ := D
      have Td : Hid (SegI wd ua9 uk9 m.dl) := hI9
      clear hI9
      have Bd : Hid (Below w.heap.size w wd) := Bc.out.trans (hb.mono (by omega))
      have Qd : Hid (Blk wd w.heap.size (mgc m (.slice ua uk uc))) := Qc.out.on hb
      have zd : w.heap.size < wd.heap.size := Nat.lt_of_lt_of_le zc (by have := hb.size; omega)
      clear hb
      obtain ⟨U9, hU9⟩ : ∃ W, W = wd.alloc (.cells zeroL.toArray 30) := ⟨_, rfl⟩
      have BU9 : Hid (Below wd.heap.size wd U9) := by rw [hU9]; exact (Below.refl _ _).alloc zN _
      have QU9 : Hid (Blk U9 wd.heap.size zeroL) := by rw [hU9]; exact blk_new wd 30 zeroL
      have TH9 : Hid (U9.there wd.heap.size 0 19) := QU9.out.there
      obtain ⟨we, hX9⟩ : ∃ X, X = U9.setCells wd.heap.size 0 (mgc m (.slice ua9 uk9 uc9)) := ⟨_, rfl⟩
      have RX9 := hide (mbox_stored (w := wd) QU9.out (by rfl) BU9.out zN hX9)
      have hb := RX9.out.2
      have Be : Hid (Below w.heap.size w we) := Bd.out.trans (hb.mono (by omega))
      have Qe : Hid (Blk we w.heap.size (mgc m (.slice ua uk uc))) := Qd.out.on hb
      have Te : Hid (SegI we ua9 uk9 m.dl) := Td.out.below hb zN
      have ze : w.heap.size < we.heap.size := Nat.lt_of_lt_of_le zd (by have := hb.size; omega)
      clear hb
      have HU9 := hide hU9
      have HX9 := hide hX9
      clear hU9 hX9
      have eU9 : wd.alloc (.cells #[.int .i64 0, .int .i64 0, .int .i64 0, .int .i64 0, .int .i64 0, .int .i64 0, .int .i64 0, .int .i64 0, .bool false, .int .i64 0, .int .i64 0, .int .i64 0, .string ⟨#[]⟩, .string ⟨#[]⟩, .string ⟨#[]⟩, .string ⟨#[]⟩, .int .i64 0, .int .i64 0, .slice none 0 0] 30) = U9 := HU9.out.symm
      go_upto_region 16 with (first | (refine wpList_store_mid rfl 30 _ _ rfl wd.heap.size 0 (mgc m (.slice ua9 uk9 uc9)).toArray rfl rfl (by first | exact TH9.out | (rw [eU9]; exact TH9.out)) (by kernel_rfl) (by kernel_rfl) ?_; first | rw [← HX9.out] | (rw [eU9, ← HX9.out])))
      clear eU9
      go_wp2_with (first | (go_at_call 10; refine (num5_any _ _).mono ?_; rintro e w' ⟨rfl, rfl⟩) | (refine wpList_load_want (by rfl) 30 _ rfl w.heap.size 0 rfl (mgc m (.slice ua uk uc)) _ (Qe.out.range) Tryz.underlying30 rfl (by kernel_rfl) ?_) | (refine wpList_load_want (by rfl) 30 _ rfl wd.heap.size 0 rfl (mgc m (.slice ua9 uk9 uc9)) _ (RX9.out.1.range) Tryz.underlying30 rfl (by kernel_rfl) ?_))
      refine (sameMsg_same m _ _ _ _ _ _ _ Te.out (HhI.out.below Be.out zN)).mono ?_
      rintro e wf ⟨rfl, hb⟩
      have Bf : Hid (Below w.heap.size w wf) := Be.out.trans (hb.mono (by omega))
      clear hb
      go_wp2
      go_ret
      exact ⟨rfl, Bf.out⟩
     ·have hne : tl ≠ [] := by intro q; have := tll.out; rw [q] at this; exact ht0 this.symm
      have DK := hide (REST.out tl hne)
      have g3 : ((tn : Int) == 0) = false := by rw [beq_eq_false_iff_ne]; omega
      clear hne
      generalize L ++ tl = MB at *
      rw [hwc.symm]
      clear hwc
      go_wp2_with fail
      refine (mdecode_any v n _ _ _ MB a _ SEGM.out SRCM.out YTM.out (Hhe.out.below Bc.out zN) (HhKc.out.below Bc.out zN) (HhK.out.below Bc.out zN)).mono ?_
      rintro e wd ⟨u, rfl, D, hb⟩
      rw [DK.out] at D ⊢
      obtain ⟨ua9, uk9, uc9, rfl, hI9, -⟩ := D
      have Td : Hid (SegI wd ua9 uk9 zeroM.dl) := hI9
      clear hI9
      have Bd : Hid (Below w.heap.size w wd) := Bc.out.trans (hb.mono (by omega))
      have Qd : Hid (Blk wd w.heap.size (mgc m (.slice ua uk uc))) := Qc.out.on hb
      have zd : w.heap.size < wd.heap.size := Nat.lt_of_lt_of_le zc (by have := hb.size; omega)
      clear hb
      obtain ⟨U9, hU9⟩ : ∃ W, W = wd.alloc (.cells zeroL.toArray 30) := ⟨_, rfl⟩
      have BU9 : Hid (Below wd.heap.size wd U9) := by rw [hU9]; exact (Below.refl _ _).alloc zN _
      have QU9 : Hid (Blk U9 wd.heap.size zeroL) := by rw [hU9]; exact blk_new wd 30 zeroL
      have TH9 : Hid (U9.there wd.heap.size 0 19) := QU9.out.there
      obtain ⟨we, hX9⟩ : ∃ X, X = U9.setCells wd.heap.size 0 (mgc zeroM (.slice ua9 uk9 uc9)) := ⟨_, rfl⟩
      have RX9 := hide (mbox_stored (w := wd) QU9.out (by rfl) BU9.out zN hX9)
      have hb := RX9.out.2
      have Be : Hid (Below w.heap.size w we) := Bd.out.trans (hb.mono (by omega))
      have Qe : Hid (Blk we w.heap.size (mgc m (.slice ua uk uc))) := Qd.out.on hb
      have Te : Hid (SegI we ua9 uk9 zeroM.dl) := Td.out.below hb zN
      have ze : w.heap.size < we.heap.size := Nat.lt_of_lt_of_le zd (by have := hb.size; omega)
      clear hb
      have HU9 := hide hU9
      have HX9 := hide hX9
      clear hU9 hX9
      have eU9 : wd.alloc (.cells #[.int .i64 0, .int .i64 0, .int .i64 0, .int .i64 0, .int .i64 0, .int .i64 0, .int .i64 0, .int .i64 0, .bool false, .int .i64 0, .int .i64 0, .int .i64 0, .string ⟨#[]⟩, .string ⟨#[]⟩, .string ⟨#[]⟩, .string ⟨#[]⟩, .int .i64 0, .int .i64 0, .slice none 0 0] 30) = U9 := HU9.out.symm
      go_upto_region 16 with (first | (refine wpList_store_mid rfl 30 _ _ rfl wd.heap.size 0 (mgc zeroM (.slice ua9 uk9 uc9)).toArray rfl rfl (by first | exact TH9.out | (rw [eU9]; exact TH9.out)) (by kernel_rfl) (by kernel_rfl) ?_; first | rw [← HX9.out] | (rw [eU9, ← HX9.out])))
      clear eU9
      go_wp2_with (first | (go_at_call 10; refine (num5_any _ _).mono ?_; rintro e w' ⟨rfl, rfl⟩) | (refine wpList_load_want (by rfl) 30 _ rfl wd.heap.size 0 rfl (mgc zeroM (.slice ua9 uk9 uc9)) _ (RX9.out.1.range) Tryz.underlying30 rfl (by kernel_rfl) ?_))
      refine (sameMsg_same zeroM _ none _ _ 0 0 _ Te.out (segI_nil _)).mono ?_
      rintro e wf ⟨rfl, hb⟩
      have Bf : Hid (Below w.heap.size w wf) := Be.out.trans (hb.mono (by omega))
      clear hb
      go_wp2
      go_ret
      exact ⟨rfl, Bf.out⟩
  ·have g2 : decide (kk ≥ 0) = false ∨ (decide (kk ≥ 0) = true ∧ decide (kk < (L.length : Int)) = false) := by
    by_cases h : kk ≥ 0
    ·exact .inr ⟨decide_eq_true h, decide_eq_false (fun h2 => hin ⟨h, h2⟩)⟩
    ·exact .inl (decide_eq_false h)
   clear hin
   rcases g2 with g2 | ⟨g2, g4⟩
   ·go_upto_region 10 with (first | (go_at_call 10; refine (num5_any _ _).mono ?_; rintro e w' ⟨rfl, rfl⟩))
    have zB : w.heap.size < w2.heap.size := z2
    obtain ⟨WB, hWB⟩ : ∃ W, W = w2 := ⟨_, rfl⟩
    rw [← hWB] at B2 Q2 SG2 zB
    clear z2
    go_wp2_with fail
    rw [← hWB]
    clear hWB
    refine (bytes_any (some ⟨pb, 0, none⟩) _ c2 L _ SG2.out (by omega)).mono ?_
    rintro e w8 ⟨v8, rfl, ho, hb⟩
    have HB8 : Hid (Below WB.heap.size WB w8) := hb
    have OW8 := hide ho
    clear hb ho
    go_wp2_with fail
    go_loopw [15, 16] (fun x c wr => ∃ j : Nat, c = .int .i64 j ∧ j ≤ tn ∧ Hid (wr.ownsRow WB.heap.size 5 1 x (L ++ tl.take j).length ((L ++ tl.take j).map (Value.int .u8))) ∧ Hid (Below WB.heap.size WB wr)) (fun _ c _ => tn - (intOf c).toNat)
    case atStart => exact ⟨0, rfl, Nat.zero_le _, (by rw [List.take_zero, List.append_nil]; exact OW8.out), HB8⟩
    case round =>
     obtain ⟨j, rfl, hj, HOW, HB⟩ := hrel
     clear OW8 HB8
     have hsz := HB.out.size
     have hre := HRE.out
     have Bc0 : Hid (Below w.heap.size w wr) := B2.out.trans (HB.out.mono (by omega))
     have tll : Hid (tl.length = tn) := HT.out.1
     by_cases hlt : j < tn
     ·obtain ⟨ba, oa, rfl, hca⟩ := (HT.out.below Bc0.out zN).2.2 (by omega)
      have ca : wr.cell? ⟨ba, oa + j, none⟩ = some (.int .u8 (tl.getD j 0)) := hca j hlt
      have HTK : Hid (L ++ tl.take (j + 1) = (L ++ tl.take j) ++ [tl.getD j 0]) := by
       have : tl.take (j + 1) = tl.take j ++ [tl.getD j 0] := take_next (by rw [tll.out]; exact hlt)
       show _ = _
       rw [this, List.append_assoc]
      have hpl : Hid ((L ++ tl.take j).length = L.length + j) := by
       show _ = _
       rw [zL, List.length_take, tll.out]; omega
      have l0 : 0 < (L ++ tl.take j).length := by rw [hpl.out]; omega
      have l9 : (L ++ tl.take j).length + 1 ≤ 140737505132544 := by rw [hpl.out]; have := HRE.out; omega
      have hown := HOW.out
      have hbel := HB.out
      clear hca hpl HOW HB
      generalize tl.getD j 0 = z at *
      generalize L ++ tl.take j = pre at *
      go_wp2_with (first
       | (at_builtin; refine wpList_append_wide2 rfl _ _ 34 rfl WB.heap.size 5 i0 (.int .u8 0) Tryz.underlying34 hi hz0 hz1 hz2 rfl _ _ _ rfl (hown.alloc _) l0 ⟨wr.heap.size, 0, none⟩ 1 1 [.int .u8 z] rfl rfl ?c1 ?c2 l9 ?c5 ?_))
      case c1 =>
       intro j u hj
       match j, hj with
       | 0, hj => simp at hj; subst hj; simp [Addr.add]
      case c2 => intro u hu; simp at hu; subst hu; rfl
      case c5 => simp; omega
      intro v' w1 hown' hgrow
      have R := hide (push hsz hown hbel hown' hgrow)
      clear hown' hgrow hown hbel
      go_wp2
      go_roundw
      case rel => exact ⟨j + 1, by go_num, by omega, (by rw [HTK.out]; exact R.out.1), R.out.2⟩
      case measure => simp [intOf]; omega
     ·have HTE : Hid (tl.take j = tl) := List.take_of_length_le (by have := tll.out; omega)
      rw [HTE.out] at HOW
      obtain ⟨wc, hwc⟩ : ∃ W, W = wr := ⟨_, rfl⟩
      rw [← hwc] at HOW HB Bc0 hsz
      have Qc : Hid (Blk wc w.heap.size (mgc m (.slice ua uk uc))) := Q2.out.on HB.out
      have zc : w.heap.size < wc.heap.size := by omega
      have Bc : Hid (Below w.heap.size w wc) := Bc0
      obtain ⟨saM, capM, rfl, hsrcM, hsegM⟩ := mown_src HOW.out
      have SRCM := hide hsrcM
      have SEGM := hide hsegM
      have YTM : Hid (Byt (L ++ tl)) := byt_app BYT.out HTY.out
      clear hsrcM hsegM HOW HTE HB Bc0
      by_cases ht0 : tn = 0
      ·have hnil : tl = [] := List.eq_nil_of_length_eq_zero (tll.out.trans ht0)
       have DK : Hid (decM v n (L ++ tl) = (m, 0)) := by show _ = _; rw [hnil, List.append_nil]; exact BACK.out
       clear hnil
       subst ht0
       generalize L ++ tl = MB at *
       rw [hwc.symm]
       clear hwc
       go_wp2_with fail
       refine (mdecode_any v n _ _ _ MB a _ SEGM.out SRCM.out YTM.out (Hhe.out.below Bc.out zN) (HhKc.out.below Bc.out zN) (HhK.out.below Bc.out zN)).mono ?_
       rintro e wd ⟨u, rfl, D, hb⟩
       rw [DK.out] at D ⊢
       obtain ⟨ua9, uk9, uc9, rfl, hI9, -⟩ := D
       have Td : Hid (SegI wd ua9 uk9 m.dl) := hI9
       clear hI9
       have Bd : Hid (Below w.heap.size w wd) := Bc.out.trans (hb.mono (by omega))
       have Qd : Hid (Blk wd w.heap.size (mgc m (.slice ua uk uc))) := Qc.out.on hb
       have zd : w.heap.size < wd.heap.size := Nat.lt_of_lt_of_le zc (by have := hb.size; omega)
       clear hb
       obtain ⟨U9, hU9⟩ : ∃ W, W = wd.alloc (.cells zeroL.toArray 30) := ⟨_, rfl⟩
       have BU9 : Hid (Below wd.heap.size wd U9) := by rw [hU9]; exact (Below.refl _ _).alloc zN _
       have QU9 : Hid (Blk U9 wd.heap.size zeroL) := by rw [hU9]; exact blk_new wd 30 zeroL
       have TH9 : Hid (U9.there wd.heap.size 0 19) := QU9.out.there
       obtain ⟨we, hX9⟩ : ∃ X, X = U9.setCells wd.heap.size 0 (mgc m (.slice ua9 uk9 uc9)) := ⟨_, rfl⟩
       have RX9 := hide (mbox_stored (w := wd) QU9.out (by rfl) BU9.out zN hX9)
       have hb := RX9.out.2
       have Be : Hid (Below w.heap.size w we) := Bd.out.trans (hb.mono (by omega))
       have Qe : Hid (Blk we w.heap.size (mgc m (.slice ua uk uc))) := Qd.out.on hb
       have Te : Hid (SegI we ua9 uk9 m.dl) := Td.out.below hb zN
       have ze : w.heap.size < we.heap.size := Nat.lt_of_lt_of_le zd (by have := hb.size; omega)
       clear hb
       have HU9 := hide hU9
       have HX9 := hide hX9
       clear hU9 hX9
       have eU9 : wd.alloc (.cells #[.int .i64 0, .int .i64 0, .int .i64 0, .int .i64 0, .int .i64 0, .int .i64 0, .int .i64 0, .int .i64 0, .bool false, .int .i64 0, .int .i64 0, .int .i64 0, .string ⟨#[]⟩, .string ⟨#[]⟩, .string ⟨#[]⟩, .string ⟨#[]⟩, .int .i64 0, .int .i64 0, .slice none 0 0] 30) = U9 := HU9.out.symm
       go_upto_region 16 with (first | (refine wpList_store_mid rfl 30 _ _ rfl wd.heap.size 0 (mgc m (.slice ua9 uk9 uc9)).toArray rfl rfl (by first | exact TH9.out | (rw [eU9]; exact TH9.out)) (by kernel_rfl) (by kernel_rfl) ?_; first | rw [← HX9.out] | (rw [eU9, ← HX9.out])))
       clear eU9
       go_wp2_with (first | (go_at_call 10; refine (num5_any _ _).mono ?_; rintro e w' ⟨rfl, rfl⟩) | (refine wpList_load_want (by rfl) 30 _ rfl w.heap.size 0 rfl (mgc m (.slice ua uk uc)) _ (Qe.out.range) Tryz.underlying30 rfl (by kernel_rfl) ?_) | (refine wpList_load_want (by rfl) 30 _ rfl wd.heap.size 0 rfl (mgc m (.slice ua9 uk9 uc9)) _ (RX9.out.1.range) Tryz.underlying30 rfl (by kernel_rfl) ?_))
       refine (sameMsg_same m _ _ _ _ _ _ _ Te.out (HhI.out.below Be.out zN)).mono ?_
       rintro e wf ⟨rfl, hb⟩
       have Bf : Hid (Below w.heap.size w wf) := Be.out.trans (hb.mono (by omega))
       clear hb
       go_wp2
       go_ret
       exact ⟨rfl, Bf.out⟩
      ·have hne : tl ≠ [] := by intro q; have := tll.out; rw [q] at this; exact ht0 this.symm
       have DK := hide (REST.out tl hne)
       have g3 : ((tn : Int) == 0) = false := by rw [beq_eq_false_iff_ne]; omega
       clear hne
       generalize L ++ tl = MB at *
       rw [hwc.symm]
       clear hwc
       go_wp2_with fail
       refine (mdecode_any v n _ _ _ MB a _ SEGM.out SRCM.out YTM.out (Hhe.out.below Bc.out zN) (HhKc.out.below Bc.out zN) (HhK.out.below Bc.out zN)).mono ?_
       rintro e wd ⟨u, rfl, D, hb⟩
       rw [DK.out] at D ⊢
       obtain ⟨ua9, uk9, uc9, rfl, hI9, -⟩ := D
       have Td : Hid (SegI wd ua9 uk9 zeroM.dl) := hI9
       clear hI9
       have Bd : Hid (Below w.heap.size w wd) := Bc.out.trans (hb.mono (by omega))
       have Qd : Hid (Blk wd w.heap.size (mgc m (.slice ua uk uc))) := Qc.out.on hb
       have zd : w.heap.size < wd.heap.size := Nat.lt_of_lt_of_le zc (by have := hb.size; omega)
       clear hb
       obtain ⟨U9, hU9⟩ : ∃ W, W = wd.alloc (.cells zeroL.toArray 30) := ⟨_, rfl⟩
       have BU9 : Hid (Below wd.heap.size wd U9) := by rw [hU9]; exact (Below.refl _ _).alloc zN _
       have QU9 : Hid (Blk U9 wd.heap.size zeroL) := by rw [hU9]; exact blk_new wd 30 zeroL
       have TH9 : Hid (U9.there wd.heap.size 0 19) := QU9.out.there
       obtain ⟨we, hX9⟩ : ∃ X, X = U9.setCells wd.heap.size 0 (mgc zeroM (.slice ua9 uk9 uc9)) := ⟨_, rfl⟩
       have RX9 := hide (mbox_stored (w := wd) QU9.out (by rfl) BU9.out zN hX9)
       have hb := RX9.out.2
       have Be : Hid (Below w.heap.size w we) := Bd.out.trans (hb.mono (by omega))
       have Qe : Hid (Blk we w.heap.size (mgc m (.slice ua uk uc))) := Qd.out.on hb
       have Te : Hid (SegI we ua9 uk9 zeroM.dl) := Td.out.below hb zN
       have ze : w.heap.size < we.heap.size := Nat.lt_of_lt_of_le zd (by have := hb.size; omega)
       clear hb
       have HU9 := hide hU9
       have HX9 := hide hX9
       clear hU9 hX9
       have eU9 : wd.alloc (.cells #[.int .i64 0, .int .i64 0, .int .i64 0, .int .i64 0, .int .i64 0, .int .i64 0, .int .i64 0, .int .i64 0, .bool false, .int .i64 0, .int .i64 0, .int .i64 0, .string ⟨#[]⟩, .string ⟨#[]⟩, .string ⟨#[]⟩, .string ⟨#[]⟩, .int .i64 0, .int .i64 0, .slice none 0 0] 30) = U9 := HU9.out.symm
       go_upto_region 16 with (first | (refine wpList_store_mid rfl 30 _ _ rfl wd.heap.size 0 (mgc zeroM (.slice ua9 uk9 uc9)).toArray rfl rfl (by first | exact TH9.out | (rw [eU9]; exact TH9.out)) (by kernel_rfl) (by kernel_rfl) ?_; first | rw [← HX9.out] | (rw [eU9, ← HX9.out])))
       clear eU9
       go_wp2_with (first | (go_at_call 10; refine (num5_any _ _).mono ?_; rintro e w' ⟨rfl, rfl⟩) | (refine wpList_load_want (by rfl) 30 _ rfl wd.heap.size 0 rfl (mgc zeroM (.slice ua9 uk9 uc9)) _ (RX9.out.1.range) Tryz.underlying30 rfl (by kernel_rfl) ?_))
       refine (sameMsg_same zeroM _ none _ _ 0 0 _ Te.out (segI_nil _)).mono ?_
       rintro e wf ⟨rfl, hb⟩
       have Bf : Hid (Below w.heap.size w wf) := Be.out.trans (hb.mono (by omega))
       clear hb
       go_wp2
       go_ret
       exact ⟨rfl, Bf.out⟩
   ·go_upto_region 10 with (first | (go_at_call 10; refine (num5_any _ _).mono ?_; rintro e w' ⟨rfl, rfl⟩))
    have zB : w.heap.size < w2.heap.size := z2
    obtain ⟨WB, hWB⟩ : ∃ W, W = w2 := ⟨_, rfl⟩
    rw [← hWB] at B2 Q2 SG2 zB
    clear z2
    go_wp2_with fail
    rw [← hWB]
    clear hWB
    refine (bytes_any (some ⟨pb, 0, none⟩) _ c2 L _ SG2.out (by omega)).mono ?_
    rintro e w8 ⟨v8, rfl, ho, hb⟩
    have HB8 : Hid (Below WB.heap.size WB w8) := hb
    have OW8 := hide ho
    clear hb ho
    go_wp2_with fail
    go_loopw [15, 16] (fun x c wr => ∃ j : Nat, c = .int .i64 j ∧ j ≤ tn ∧ Hid (wr.ownsRow WB.heap.size 5 1 x (L ++ tl.take j).length ((L ++ tl.take j).map (Value.int .u8))) ∧ Hid (Below WB.heap.size WB wr)) (fun _ c _ => tn - (intOf c).toNat)
    case atStart => exact ⟨0, rfl, Nat.zero_le _, (by rw [List.take_zero, List.append_nil]; exact OW8.out), HB8⟩
    case round =>
     obtain ⟨j, rfl, hj, HOW, HB⟩ := hrel
     clear OW8 HB8
     have hsz := HB.out.size
     have hre := HRE.out
     have Bc0 : Hid (Below w.heap.size w wr) := B2.out.trans (HB.out.mono (by omega))
     have tll : Hid (tl.length = tn) := HT.out.1
     by_cases hlt : j < tn
     ·obtain ⟨ba, oa, rfl, hca⟩ := (HT.out.below Bc0.out zN).2.2 (by omega)
      have ca : wr.cell? ⟨ba, oa + j, none⟩ = some (.int .u8 (tl.getD j 0)) := hca j hlt
      have HTK : Hid (L ++ tl.take (j + 1) = (L ++ tl.take j) ++ [tl.getD j 0]) := by
       have : tl.take (j + 1) = tl.take j ++ [tl.getD j 0] := take_next (by rw [tll.out]; exact hlt)
       show _ = _
       rw [this, List.append_assoc]
      have hpl : Hid ((L ++ tl.take j).length = L.length + j) := by
       show _ = _
       rw [zL, List.length_take, tll.out]; omega
      have l0 : 0 < (L ++ tl.take j).length := by rw [hpl.out]; omega
      have l9 : (L ++ tl.take j).length + 1 ≤ 140737505132544 := by rw [hpl.out]; have := HRE.out; omega
      have hown := HOW.out
      have hbel := HB.out
      clear hca hpl HOW HB
      generalize tl.getD j 0 = z at *
      generalize L ++ tl.take j = pre at *
      go_wp2_with (first
       | (at_builtin; refine wpList_append_wide2 rfl _ _ 34 rfl WB.heap.size 5 i0 (.int .u8 0) Tryz.underlying34 hi hz0 hz1 hz2 rfl _ _ _ rfl (hown.alloc _) l0 ⟨wr.heap.size, 0, none⟩ 1 1 [.int .u8 z] rfl rfl ?c1 ?c2 l9 ?c5 ?_))
      case c1 =>
       intro j u hj
       match j, hj with
       | 0, hj => simp at hj; subst hj; simp [Addr.add]
      case c2 => intro u hu; simp at hu; subst hu; rfl
      case c5 => simp; omega
      intro v' w1 hown' hgrow
      have R := hide (push hsz hown hbel hown' hgrow)
      clear hown' hgrow hown hbel
      go_wp2
      go_roundw
      case rel => exact ⟨j + 1, by go_num, by omega, (by rw [HTK.out]; exact R.out.1), R.out.2⟩
      case measure => simp [intOf]; omega
     ·have HTE : Hid (tl.take j = tl) := List.take_of_length_le (by have := tll.out; omega)
      rw [HTE.out] at HOW
      obtain ⟨wc, hwc⟩ : ∃ W, W = wr := ⟨_, rfl⟩
      rw [← hwc] at HOW HB Bc0 hsz
      have Qc : Hid (Blk wc w.heap.size (mgc m (.slice ua uk uc))) := Q2.out.on HB.out
      have zc : w.heap.size < wc.heap.size := by omega
      have Bc : Hid (Below w.heap.size w wc) := Bc0
      obtain ⟨saM, capM, rfl, hsrcM, hsegM⟩ := mown_src HOW.out
      have SRCM := hide hsrcM
      have SEGM := hide hsegM
      have YTM : Hid (Byt (L ++ tl)) := byt_app BYT.out HTY.out
      clear hsrcM hsegM HOW HTE HB Bc0
      by_cases ht0 : tn = 0
      ·have hnil : tl = [] := List.eq_nil_of_length_eq_zero (tll.out.trans ht0)
       have DK : Hid (decM v n (L ++ tl) = (m, 0)) := by show _ = _; rw [hnil, List.append_nil]; exact BACK.out
       clear hnil
       subst ht0
       generalize L ++ tl = MB at *
       rw [hwc.symm]
       clear hwc
       go_wp2_with fail
       refine (mdecode_any v n _ _ _ MB a _ SEGM.out SRCM.out YTM.out (Hhe.out.below Bc.out zN) (HhKc.out.below Bc.out zN) (HhK.out.below Bc.out zN)).mono ?_
       rintro e wd ⟨u, rfl, D, hb⟩
       rw [DK.out] at D ⊢
       obtain ⟨ua9, uk9, uc9, rfl, hI9, -⟩ := D
       have Td : Hid (SegI wd ua9 uk9 m.dl) := hI9
       clear hI9
       have Bd : Hid (Below w.heap.size w wd) := Bc.out.trans (hb.mono (by omega))
       have Qd : Hid (Blk wd w.heap.size (mgc m (.slice ua uk uc))) := Qc.out.on hb
       have zd : w.heap.size < wd.heap.size := Nat.lt_of_lt_of_le zc (by have := hb.size; omega)
       clear hb
       obtain ⟨U9, hU9⟩ : ∃ W, W = wd.alloc (.cells zeroL.toArray 30) := ⟨_, rfl⟩
       have BU9 : Hid (Below wd.heap.size wd U9) := by rw [hU9]; exact (Below.refl _ _).alloc zN _
       have QU9 : Hid (Blk U9 wd.heap.size zeroL) := by rw [hU9]; exact blk_new wd 30 zeroL
       have TH9 : Hid (U9.there wd.heap.size 0 19) := QU9.out.there
       obtain ⟨we, hX9⟩ : ∃ X, X = U9.setCells wd.heap.size 0 (mgc m (.slice ua9 uk9 uc9)) := ⟨_, rfl⟩
       have RX9 := hide (mbox_stored (w := wd) QU9.out (by rfl) BU9.out zN hX9)
       have hb := RX9.out.2
       have Be : Hid (Below w.heap.size w we) := Bd.out.trans (hb.mono (by omega))
       have Qe : Hid (Blk we w.heap.size (mgc m (.slice ua uk uc))) := Qd.out.on hb
       have Te : Hid (SegI we ua9 uk9 m.dl) := Td.out.below hb zN
       have ze : w.heap.size < we.heap.size := Nat.lt_of_lt_of_le zd (by have := hb.size; omega)
       clear hb
       have HU9 := hide hU9
       have HX9 := hide hX9
       clear hU9 hX9
       have eU9 : wd.alloc (.cells #[.int .i64 0, .int .i64 0, .int .i64 0, .int .i64 0, .int .i64 0, .int .i64 0, .int .i64 0, .int .i64 0, .bool false, .int .i64 0, .int .i64 0, .int .i64 0, .string ⟨#[]⟩, .string ⟨#[]⟩, .string ⟨#[]⟩, .string ⟨#[]⟩, .int .i64 0, .int .i64 0, .slice none 0 0] 30) = U9 := HU9.out.symm
       go_upto_region 16 with (first | (refine wpList_store_mid rfl 30 _ _ rfl wd.heap.size 0 (mgc m (.slice ua9 uk9 uc9)).toArray rfl rfl (by first | exact TH9.out | (rw [eU9]; exact TH9.out)) (by kernel_rfl) (by kernel_rfl) ?_; first | rw [← HX9.out] | (rw [eU9, ← HX9.out])))
       clear eU9
       go_wp2_with (first | (go_at_call 10; refine (num5_any _ _).mono ?_; rintro e w' ⟨rfl, rfl⟩) | (refine wpList_load_want (by rfl) 30 _ rfl w.heap.size 0 rfl (mgc m (.slice ua uk uc)) _ (Qe.out.range) Tryz.underlying30 rfl (by kernel_rfl) ?_) | (refine wpList_load_want (by rfl) 30 _ rfl wd.heap.size 0 rfl (mgc m (.slice ua9 uk9 uc9)) _ (RX9.out.1.range) Tryz.underlying30 rfl (by kernel_rfl) ?_))
       refine (sameMsg_same m _ _ _ _ _ _ _ Te.out (HhI.out.below Be.out zN)).mono ?_
       rintro e wf ⟨rfl, hb⟩
       have Bf : Hid (Below w.heap.size w wf) := Be.out.trans (hb.mono (by omega))
       clear hb
       go_wp2
       go_ret
       exact ⟨rfl, Bf.out⟩
      ·have hne : tl ≠ [] := by intro q; have := tll.out; rw [q] at this; exact ht0 this.symm
       have DK := hide (REST.out tl hne)
       have g3 : ((tn : Int) == 0) = false := by rw [beq_eq_false_iff_ne]; omega
       clear hne
       generalize L ++ tl = MB at *
       rw [hwc.symm]
       clear hwc
       go_wp2_with fail
       refine (mdecode_any v n _ _ _ MB a _ SEGM.out SRCM.out YTM.out (Hhe.out.below Bc.out zN) (HhKc.out.below Bc.out zN) (HhK.out.below Bc.out zN)).mono ?_
       rintro e wd ⟨u, rfl, D, hb⟩
       rw [DK.out] at D ⊢
       obtain ⟨ua9, uk9, uc9, rfl, hI9, -⟩ := D
       have Td : Hid (SegI wd ua9 uk9 zeroM.dl) := hI9
       clear hI9
       have Bd : Hid (Below w.heap.size w wd) := Bc.out.trans (hb.mono (by omega))
       have Qd : Hid (Blk wd w.heap.size (mgc m (.slice ua uk uc))) := Qc.out.on hb
       have zd : w.heap.size < wd.heap.size := Nat.lt_of_lt_of_le zc (by have := hb.size; omega)
       clear hb
       obtain ⟨U9, hU9⟩ : ∃ W, W = wd.alloc (.cells zeroL.toArray 30) := ⟨_, rfl⟩
       have BU9 : Hid (Below wd.heap.size wd U9) := by rw [hU9]; exact (Below.refl _ _).alloc zN _
       have QU9 : Hid (Blk U9 wd.heap.size zeroL) := by rw [hU9]; exact blk_new wd 30 zeroL
       have TH9 : Hid (U9.there wd.heap.size 0 19) := QU9.out.there
       obtain ⟨we, hX9⟩ : ∃ X, X = U9.setCells wd.heap.size 0 (mgc zeroM (.slice ua9 uk9 uc9)) := ⟨_, rfl⟩
       have RX9 := hide (mbox_stored (w := wd) QU9.out (by rfl) BU9.out zN hX9)
       have hb := RX9.out.2
       have Be : Hid (Below w.heap.size w we) := Bd.out.trans (hb.mono (by omega))
       have Qe : Hid (Blk we w.heap.size (mgc m (.slice ua uk uc))) := Qd.out.on hb
       have Te : Hid (SegI we ua9 uk9 zeroM.dl) := Td.out.below hb zN
       have ze : w.heap.size < we.heap.size := Nat.lt_of_lt_of_le zd (by have := hb.size; omega)
       clear hb
       have HU9 := hide hU9
       have HX9 := hide hX9
       clear hU9 hX9
       have eU9 : wd.alloc (.cells #[.int .i64 0, .int .i64 0, .int .i64 0, .int .i64 0, .int .i64 0, .int .i64 0, .int .i64 0, .int .i64 0, .bool false, .int .i64 0, .int .i64 0, .int .i64 0, .string ⟨#[]⟩, .string ⟨#[]⟩, .string ⟨#[]⟩, .string ⟨#[]⟩, .int .i64 0, .int .i64 0, .slice none 0 0] 30) = U9 := HU9.out.symm
       go_upto_region 16 with (first | (refine wpList_store_mid rfl 30 _ _ rfl wd.heap.size 0 (mgc zeroM (.slice ua9 uk9 uc9)).toArray rfl rfl (by first | exact TH9.out | (rw [eU9]; exact TH9.out)) (by kernel_rfl) (by kernel_rfl) ?_; first | rw [← HX9.out] | (rw [eU9, ← HX9.out])))
       clear eU9
       go_wp2_with (first | (go_at_call 10; refine (num5_any _ _).mono ?_; rintro e w' ⟨rfl, rfl⟩) | (refine wpList_load_want (by rfl) 30 _ rfl wd.heap.size 0 rfl (mgc zeroM (.slice ua9 uk9 uc9)) _ (RX9.out.1.range) Tryz.underlying30 rfl (by kernel_rfl) ?_))
       refine (sameMsg_same zeroM _ none _ _ 0 0 _ Te.out (segI_nil _)).mono ?_
       rintro e wf ⟨rfl, hb⟩
       have Bf : Hid (Below w.heap.size w wf) := Be.out.trans (hb.mono (by omega))
       clear hb
       go_wp2
       go_ret
       exact ⟨rfl, Bf.out⟩
 ·rw [if_neg hz] at ho
  obtain ⟨z, hzz⟩ : ∃ z, Hid (chkM v n m = z) := ⟨_, rfl⟩
  have g1 : (z != 0) = true := by rw [bne_iff_ne]; intro h; exact hz (hzz.out.trans h)
  rw [hzz.out]
  obtain ⟨sa, cap, rfl, -, -⟩ := mown_src ho
  have B2 : Hid (Below w.heap.size w w2) := B1.out.trans (hb.mono (by omega))
  clear hb ho hz
  go_wp2_with (first | (go_at_call 10; refine (num5_any _ _).mono ?_; rintro e w' ⟨rfl, rfl⟩))
  go_ret
  exact ⟨rfl, B2.out⟩
theorem contract (H : Type) (enc : TypeId × Value → H) (W : World) (base : Nat) (args : Array Value) (ds gs : List (DataW H)) (before : List MemPlace)
  (hval : ∀ (j : Nat) t v, Tryz.f5.params[j]? = some t → args[j]? = some v → Value.okWide Tryz.prog W .any base t v)
  (hW : DataW.Whole enc Tryz.prog Tryz.f5.params.toList Rows.msgEndsSpec.vars false W args.toList ds gs before)
  (hsz : (DataW.weightsEach Tryz.prog (Tryz.f5.params.toList ++ (OpenSpec.ofChange Rows.msgEndsSpec).bare.plain.varTypes Tryz.prog) (ds ++ gs)).all (· ≤ reachBytes) = true)
  (hL : laidMetH Tryz.prog Rows.msgEndsRow.laid W) :
  Calls Tryz.prog 5 args W fun e W' => ∃ v, e = .returned v ∧ Rows.msgEndsSpec.post enc Tryz.prog Tryz.f5 false true false false W args v W' := by
 have hW' := hW
 obtain ⟨p, q, hA0, hV, rfl, hfz, hnd⟩ := hW
 have hA : DataW.TrodAll enc Tryz.prog W 0 (fun _ => true) true Tryz.f5.params.toList args.toList ds p := hA0
 rw [Tryz.params5] at hA hval hsz
 obtain ⟨v0, vs0, d0, ds0, p0, q0, hargs, rfl, rfl, h0, tr0⟩ := trodAll_cons hA
 obtain ⟨v1, vs1, d1, ds1, p1, q1, rfl, rfl, rfl, h1, tr1⟩ := trodAll_cons tr0
 obtain ⟨v2, vs2, d2, ds2, p2, q2, rfl, rfl, rfl, h2, tr2⟩ := trodAll_cons tr1
 obtain ⟨v3, vs3, d3, ds3, p3, q3, rfl, rfl, rfl, h3, tr3⟩ := trodAll_cons tr2
 obtain ⟨v4, vs4, d4, ds4, p4, q4, rfl, rfl, rfl, h4, tr4⟩ := trodAll_cons tr3
 obtain ⟨rfl, rfl, rfl⟩ := trodAll_nil tr4
 obtain rfl : args = #[v0, v1, v2, v3, v4] := by cases args; simp_all
 obtain ⟨rfl, rfl⟩ := trodVars_none hV
 obtain ⟨y0, rfl, rfl, rfl, w0⟩ := open_int Tryz.underlying3 (hval 0 3 v0 rfl rfl) h0
 have b0 := bounds_i64 w0
 obtain ⟨y1, rfl, rfl, rfl, w1⟩ := open_int Tryz.underlying3 (hval 1 3 v1 rfl rfl) h1
 have b1 := bounds_i64 w1
 have k2 := h2
 have lt2 : ∀ x ∈ p2, x.block < W.heap.size := by obtain ⟨m, hm⟩ := k2; exact DataW.trod_lt m _ _ _ hm
 obtain ⟨m2, ua2, uk2, uc2, dI2, dB2, dV2, dd2, rfl, hd2, hseg2, hcap2, b2⟩ := mopen_msg (hval 2 30 v2 rfl rfl) h2
 obtain ⟨y3, rfl, rfl, rfl, w3⟩ := open_int Tryz.underlying3 (hval 3 3 v3 rfl rfl) h3
 have b3 := bounds_i64 w3
 obtain ⟨a4, n4, cap4, rfl⟩ := okWide_slice Tryz.underlying34 (hval 4 34 v4 rfl rfl)
 have k4 := h4
 have lt4 : ∀ x ∈ p4, x.block < W.heap.size := by obtain ⟨m, hm⟩ := k4; exact DataW.trod_lt m _ _ _ hm
 obtain ⟨fuel4, hf4⟩ := h4
 obtain ⟨l4, hseg4, hbyt4, hcap4, hdat4⟩ := open_bytes hf4
 have sz2 := msized hsz (j := 2) (m := m2) (dI := dI2) (dB := dB2) (dV := dV2) (dd := dd2) rfl (by rw [show d2 = _ from hd2]; rfl)
 have hreach4 : cap4 ≤ 140737488351232 := by
  rcases hdat4 with ⟨_, _, h⟩ | ⟨elems, spare, hd, he, hc⟩
  ·omega
  ·have hs := sized_slice hsz (j := 4) (t := 34) (e := 5) (elems := elems) (spare := spare) rfl (by rw [show d4 = _ from hd]; rfl) Tryz.underlying34
   rw [bytes5] at hs
   simp only [reachBytes] at hs
   omega
 have hE := errs_of_laid hL
 clear hA0
 obtain ⟨aa, haa⟩ := hE
 refine (walk y0 y1 m2 ua2 uk2 uc2 y3 a4 n4 cap4 l4 aa W (knd_of_laid hL) (kmd_of_laid hL) haa sz2.1 sz2.2 b2.cmd.2.2.2.1 b2.cmd.2.2.2.2 hseg2 hseg4 hbyt4 (Nat.le_trans hcap4 hreach4)).mono fun e W' ⟨he, bel⟩ => ?_
 subst he
 exact ⟨_, rfl, _, _, _, [], _, [], hW', trodAll_mk1 (shut_bool Tryz.underlying4 _), (trodAll_cons_mk (shut_int Tryz.underlying3 w0) (trodAll_cons_mk (shut_int Tryz.underlying3 w1) (trodAll_cons_mk (Below.trod claid (by kernel_rfl) (of_decide_eq_true (by kernel_rfl)) k2 bel lt2) (trodAll_cons_mk (shut_int Tryz.underlying3 w3) (trodAll_cons_mk (Below.trod claid (by kernel_rfl) (of_decide_eq_true (by kernel_rfl)) k4 bel lt4) trodAll_mk0))))), rfl, bel.frame _, fun h => by cases h⟩
theorem reads (os : Os) {H : Type} (enc : TypeId × Value → H) : ∃ places, DataW.whole enc Tryz.prog ((World.doorLaid Tryz.prog 400 os).forCall (fun _ _ => 0) ⟨#[], #[.int .i64 0, .int .i64 0, .agg #[.int .i64 0, .int .i64 0, .int .i64 0, .int .i64 0, .int .i64 0, .int .i64 0, .int .i64 0, .int .i64 0, .bool false, .int .i64 0, .int .i64 0, .int .i64 0, .string ⟨#[]⟩, .string ⟨#[]⟩, .string ⟨#[]⟩, .string ⟨#[]⟩, .int .i64 0, .int .i64 0, .slice none 0 0], .int .i64 0, .slice none 0 0], []⟩).memory Tryz.f5.params.toList Rows.msgEndsSpec.vars false (#[Value.int .i64 0, .int .i64 0, .agg #[.int .i64 0, .int .i64 0, .int .i64 0, .int .i64 0, .int .i64 0, .int .i64 0, .int .i64 0, .int .i64 0, .bool false, .int .i64 0, .int .i64 0, .int .i64 0, .string ⟨#[]⟩, .string ⟨#[]⟩, .string ⟨#[]⟩, .string ⟨#[]⟩, .int .i64 0, .int .i64 0, .slice none 0 0], .int .i64 0, .slice none 0 0] : Array Value).toList 8 = some ([.lit (.int .i64 0), .lit (.int .i64 0), .agg [.lit (.int .i64 0), .agg [.lit (.int .i64 0), .lit (.int .i64 0)], .agg [.lit (.int .i64 0), .lit (.int .i64 0)], .agg [.lit (.int .i64 0), .lit (.int .i64 0)], .lit (.int .i64 0), .lit (.bool false), .agg [.lit (.int .i64 0), .lit (.int .i64 0), .lit (.int .i64 0), .lit (.string []), .lit (.string []), .lit (.string []), .lit (.string []), .lit (.int .i64 0)], .lit (.int .i64 0), .nil], .lit (.int .i64 0), .nil], [], places) :=
 ⟨[], by kernel_rfl⟩
theorem lifted (os : Os) (started : os.Started) (H : Type) (enc : TypeId × Value → H) (F : Stop.Interp) :
  ReturnsInHanded {} Tryz.checked os 5 .any ((OpenSpec.ofChange Rows.msgEndsSpec).preRow enc Tryz.prog Tryz.f5 Rows.msgEndsRow.domain false Rows.msgEndsRow.laid) (((OpenSpec.ofChange Rows.msgEndsSpec).at F).post enc Tryz.prog Tryz.f5 false true false false) := by
 obtain ⟨places, hx⟩ := reads os enc
 refine returnsInHanded_of_row (C := Tryz.checked) (s := (OpenSpec.ofChange Rows.msgEndsSpec)) cown started (by kernel_rfl) Tryz.func5
  (witness_row_atRef (enc := enc) (C := Tryz.checked) false (World.doorLaid Tryz.prog 400 os) #[.int .i64 0, .int .i64 0, .agg #[.int .i64 0, .int .i64 0, .int .i64 0, .int .i64 0, .int .i64 0, .int .i64 0, .int .i64 0, .int .i64 0, .bool false, .int .i64 0, .int .i64 0, .int .i64 0, .string ⟨#[]⟩, .string ⟨#[]⟩, .string ⟨#[]⟩, .string ⟨#[]⟩, .int .i64 0, .int .i64 0, .slice none 0 0], .int .i64 0, .slice none 0 0] rfl (by kernel_rfl) (by kernel_rfl) (by kernel_rfl)
   (OpenSpec.preRow_of_cond 8 hx (by kernel_rfl) (fun k hk => by cases hk) (by kernel_rfl) (door_met os _))) ?_
 intro W base args ds gs before hval hW _ hcond hsz hL _ _
 exact contract H enc W base args ds gs before hval hW hsz hL
theorem said : Rows.MsgEndsSaid :=
 OpenClaim.holds_of_cond 5 Tryz.f5 rfl rfl rfl rfl rfl rfl rfl ⟨rfl, rfl, rfl, rfl, rfl⟩ rfl rfl rfl rfl rfl (by kernel_rfl) Tryz.func5 (by kernel_rfl)
  (of_decide_eq_true (by kernel_rfl)) (by unfold Func.isWrapper; first | (rw [if_pos (by decide +kernel)]; kernel_rfl) | (rw [if_neg (by decide +kernel)]; exact ⟨rfl, rfl⟩))
  (fun os started H enc _ F => by rw [OpenClaim.pre_eq_preRow]; exact lifted os started H enc F)
theorem plain (f : FuncId) (fn : Func) (hf : Tryz.pinned.checked.prog.funcNamed "moot/mootlaw5.MsgEnds" = some f) (hfn : Tryz.pinned.checked.prog.funcs[f]? = some fn) :
  true = Tryz.pinned.checked.prog.looks [] ∧ ∀ (j : Nat) t, fn.params[j]? = some t → Tryz.pinned.checked.prog.wantsStandIn t = false := by
 obtain rfl : f = 5 := Option.some.inj ((show Tryz.prog.funcNamed "moot/mootlaw5.MsgEnds" = some 5 by kernel_rfl).symm.trans hf) |>.symm
 obtain rfl : fn = Tryz.f5 := (Option.some.inj (Tryz.func5.symm.trans hfn)).symm
 refine ⟨by kernel_rfl, fun j t ht => ?_⟩
 rw [Tryz.params5] at ht
 have hm : t ∈ [3, 3, 30, 3, 34] := by simpa using Array.mem_of_getElem? ht
 have hall : ([3, 3, 30, 3, 34].all fun u => !Tryz.prog.wantsStandIn u) = true := by kernel_rfl
 exact (show Tryz.prog.wantsStandIn t = false by simpa using List.all_eq_true.1 hall t hm)
end msgEnds
theorem msgEnds_proved : Rows.MsgEndsCardSaid :=
 Claim7.holds_tied_plain_at .later [] _ _ _ _ msgEnds.said (fun _ h => by cases h) (by kernel_rfl) (fun _ h => by cases h) msgEnds_row_tie rfl ⟨rfl, rfl⟩ (by kernel_rfl) rfl msgEnds.plain (by kernel_rfl)
#print axioms msgEnds_proved
end Go.Proofs.YtppocmgcfeelhaaGreatDoor
