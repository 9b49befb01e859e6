/- Proved: for every version, n and message MsgRounds answers true: what Check takes Encode writes, in at most 2^20 bytes, and Decode reads back; what it refuses Encode refuses alike. Conditions: the two tables of kinds and the five sentinels of package wire start as the program's text lays them (the card ties them). -/
import Derived.Deep.DeepHandedRow
import Derived.Deep.DeepWitnessRowRef
import Derived.Test.YtppocmgcfeelhaaGreatDoorJ41
import Derived.Test.YtppocmgcfeelhaaGreatDoorTie
import Derived.Test.YtppocmgcfeelhaaGreatDoorCards
set_option maxHeartbeats 4000000
set_option maxRecDepth 100000
namespace Go.Proofs.YtppocmgcfeelhaaGreatDoor
namespace msgRounds
open Go.ChangeShapes Go.WideShapes Go.ChangeAt Go.RowKit Go.Wire1
theorem walk (v n : Int) (m : Ms) (ua : Option Addr) (uk uc : Nat) (a : Nat → Addr) (w : World) (hKc : Knd w) (hK : Kmd w) (he : Errs w a) (hk1 : m.c.key.size ≤ 140737488351232) (hk2 : m.c.key2.size ≤ 140737488351232) (hn1 : -9223372036854775808 ≤ m.c.n) (hn2 : m.c.n ≤ 9223372036854775807) (hI : SegI w ua uk m.dl) :
  Calls Tryz.prog 3 #[.int .i64 v, .int .i64 n, .agg (mgc m (.slice ua uk uc)).toArray] w fun e w' => e = .returned (.bool true) ∧ Below w.heap.size w w' := by
 obtain ⟨w0, hV⟩ : ∃ V, V = w.alloc (.cells (mgc m (.slice ua uk uc)).toArray 30) := ⟨_, rfl⟩
 have Q0 : Hid (Blk w0 w.heap.size (mgc m (.slice ua uk uc))) := by rw [hV]; exact blk_new w 30 (mgc m (.slice ua uk uc))
 have B0 : Hid (Below w.heap.size w w0) := by rw [hV]; exact (Below.refl _ _).alloc zN _
 have z0 : w.heap.size < w0.heap.size := Q0.out.lt
 have HhKc := hide hKc
 have HhK := hide hK
 have Hhe := hide he
 have Hhk1 := hide hk1
 have Hhk2 := hide hk2
 have Hhn1 := hide hn1
 have Hhn2 := hide hn2
 have HhI := hide hI
 clear hKc hK he hk1 hk2 hn1 hn2 hI
 by_cases hz : chkM v n m = 0
 ·have HZ := hide hz
  have LEN := hide (msB_len hz)
  have BYT := hide (byt_msB hz)
  have BACK := hide (decM_back hz Hhn1.out Hhn2.out)
  clear hz
  go_enter Tryz.func3, Tryz.ntmps3
  go_upto_region 1 with fail
  rw [← hV]
  clear hV
  go_wp2_with fail
  refine (known5_any a _ (HhKc.out.below B0.out zN) (HhK.out.below B0.out zN) (Hhe.out.below B0.out zN)).mono ?_
  rintro e w1 ⟨rfl, hb⟩
  have B1 : Hid (Below w.heap.size w w1) := B0.out.trans (hb.mono (by omega))
  have Q1 : Hid (Blk w1 w.heap.size (mgc m (.slice ua uk uc))) := Q0.out.on hb
  have z1 : w.heap.size < w1.heap.size := Nat.lt_of_lt_of_le z0 (by have := hb.size; omega)
  clear hb
  go_wp2_with (first | (refine wpList_load_mid rfl 30 _ rfl w.heap.size 0 rfl (mgc m (.slice ua uk uc)) _ (Q1.out.range) Tryz.underlying30 rfl (by kernel_rfl) ?_))
  refine (mcheck_any v n m ua uk uc _ (HhKc.out.below B1.out zN) (HhK.out.below B1.out zN) Hhk1.out Hhk2.out (HhI.out.below B1.out zN)).mono ?_
  rintro e w2 ⟨rfl, hb⟩
  rw [HZ.out]
  have B2 : Hid (Below w.heap.size w w2) := B1.out.trans (hb.mono (by omega))
  have Q2 : Hid (Blk w2 w.heap.size (mgc m (.slice ua uk uc))) := Q1.out.on hb
  have z2 : w.heap.size < w2.heap.size := Nat.lt_of_lt_of_le z1 (by have := hb.size; omega)
  clear hb
  go_wp2_with (first | (refine wpList_load_mid rfl 30 _ rfl w.heap.size 0 rfl (mgc m (.slice ua uk uc)) _ (Q2.out.range) Tryz.underlying30 rfl (by kernel_rfl) ?_))
  refine (mencode_any v n m ua uk uc _ (HhKc.out.below B2.out zN) (HhK.out.below B2.out zN) Hhk1.out Hhk2.out Hhn1.out Hhn2.out (HhI.out.below B2.out zN)).mono ?_
  rintro e w3 ⟨u, rfl, ho, hb⟩
  rw [HZ.out, if_pos rfl] at ho
  rw [HZ.out]
  obtain ⟨sa, cap, rfl, hsrc, hseg⟩ := mown_src ho
  have SRC := hide hsrc
  have SEG := hide hseg
  clear ho hsrc hseg
  have B3 : Hid (Below w.heap.size w w3) := B2.out.trans (hb.mono (by omega))
  have Q3 : Hid (Blk w3 w.heap.size (mgc m (.slice ua uk uc))) := Q2.out.on hb
  have z3 : w.heap.size < w3.heap.size := Nat.lt_of_lt_of_le z2 (by have := hb.size; omega)
  clear hb
  obtain ⟨L, hL⟩ : ∃ L, Hid (msB v m = L) := ⟨_, rfl⟩
  rw [hL.out] at LEN BYT BACK SRC SEG ⊢
  have l1 : 2 ≤ L.length := LEN.out.1
  have l2 : L.length ≤ 1048576 := LEN.out.2
  clear hL LEN
  have g1 : decide ((L.length : Int) < 2) = false := by rw [decide_eq_false_iff_not]; omega
  have g2 : decide ((L.length : Int) > 1048576) = false := by rw [decide_eq_false_iff_not]; omega
  go_wp2_with (first | (go_at_call 10; refine (num5_any _ _).mono ?_; rintro e w' ⟨rfl, rfl⟩))
  refine (mdecode_any v n _ _ _ L a _ SEG.out SRC.out BYT.out (Hhe.out.below B3.out zN) (HhKc.out.below B3.out zN) (HhK.out.below B3.out zN)).mono ?_
  rintro e w4 ⟨u, rfl, D, hb⟩
  rw [BACK.out] at D ⊢
  obtain ⟨ua3, uk3, uc3, rfl, hI3, -⟩ := D
  have S4 : Hid (SegI w4 ua3 uk3 m.dl) := hI3
  clear hI3
  have B4 : Hid (Below w.heap.size w w4) := B3.out.trans (hb.mono (by omega))
  have Q4 : Hid (Blk w4 w.heap.size (mgc m (.slice ua uk uc))) := Q3.out.on hb
  have z4 : w.heap.size < w4.heap.size := Nat.lt_of_lt_of_le z3 (by have := hb.size; omega)
  clear hb
  obtain ⟨W, hU⟩ : ∃ W, W = w4.alloc (.cells zeroL.toArray 30) := ⟨_, rfl⟩
  have BU : Hid (Below w4.heap.size w4 W) := by rw [hU]; exact (Below.refl _ _).alloc zN _
  have QU : Hid (Blk W w4.heap.size zeroL) := by rw [hU]; exact blk_new w4 30 zeroL
  have TH : Hid (W.there w4.heap.size 0 19) := QU.out.there
  obtain ⟨w5, hX⟩ : ∃ X, X = W.setCells w4.heap.size 0 (mgc m (.slice ua3 uk3 uc3)) := ⟨_, rfl⟩
  have RX := hide (mbox_stored (w := w4) QU.out (by rfl) BU.out zN hX)
  have hb := RX.out.2
  have S5 : Hid (SegI w5 ua3 uk3 m.dl) := S4.out.below hb zN
  have B5 : Hid (Below w.heap.size w w5) := B4.out.trans (hb.mono (by omega))
  have Q5 : Hid (Blk w5 w.heap.size (mgc m (.slice ua uk uc))) := Q4.out.on hb
  have z5 : w.heap.size < w5.heap.size := Nat.lt_of_lt_of_le z4 (by have := hb.size; omega)
  clear hb
  have HU := hide hU
  have HX := hide hX
  clear hU hX
  have eU : w4.alloc (.cells #[.int .i64 0, .int .i64 0, .int .i64 0, .int .i64 0, .int .i64 0, .int .i64 0, .int .i64 0, .int .i64 0, .bool false, .int .i64 0, .int .i64 0, .int .i64 0, .string ⟨#[]⟩, .string ⟨#[]⟩, .string ⟨#[]⟩, .string ⟨#[]⟩, .int .i64 0, .int .i64 0, .slice none 0 0] 30) = W := HU.out.symm
  go_upto_region 10 with (first | (refine wpList_store_mid rfl 30 _ _ rfl w4.heap.size 0 (mgc m (.slice ua3 uk3 uc3)).toArray rfl rfl (by first | exact TH.out | (rw [eU]; exact TH.out)) (by kernel_rfl) (by kernel_rfl) ?_; first | rw [← HX.out] | (rw [eU, ← HX.out])))
  clear eU
  go_wp2_with (first | (go_at_call 10; refine (num5_any _ _).mono ?_; rintro e w' ⟨rfl, rfl⟩) | (refine wpList_load_want (by rfl) 30 _ rfl w.heap.size 0 rfl (mgc m (.slice ua uk uc)) _ (Q5.out.range) Tryz.underlying30 rfl (by kernel_rfl) ?_) | (refine wpList_load_want (by rfl) 30 _ rfl w4.heap.size 0 rfl (mgc m (.slice ua3 uk3 uc3)) _ (RX.out.1.range) Tryz.underlying30 rfl (by kernel_rfl) ?_))
  refine (sameMsg_same m _ _ _ _ _ _ _ S5.out (HhI.out.below B5.out zN)).mono ?_
  rintro e w6 ⟨rfl, hb⟩
  have B6 : Hid (Below w.heap.size w w6) := B5.out.trans (hb.mono (by omega))
  clear hb
  go_wp2
  go_ret
  exact ⟨rfl, B6.out⟩
 ·obtain ⟨z, hzz⟩ : ∃ z, Hid (chkM v n m = z) := ⟨_, rfl⟩
  have g1 : (z != 0) = true := by rw [bne_iff_ne]; intro h; exact hz (hzz.out.trans h)
  have HZ := hide hz
  clear hz
  go_enter Tryz.func3, Tryz.ntmps3
  go_upto_region 1 with fail
  rw [← hV]
  clear hV
  go_wp2_with fail
  refine (known5_any a _ (HhKc.out.below B0.out zN) (HhK.out.below B0.out zN) (Hhe.out.below B0.out zN)).mono ?_
  rintro e w1 ⟨rfl, hb⟩
  have B1 : Hid (Below w.heap.size w w1) := B0.out.trans (hb.mono (by omega))
  have Q1 : Hid (Blk w1 w.heap.size (mgc m (.slice ua uk uc))) := Q0.out.on hb
  have z1 : w.heap.size < w1.heap.size := Nat.lt_of_lt_of_le z0 (by have := hb.size; omega)
  clear hb
  go_wp2_with (first | (refine wpList_load_mid rfl 30 _ rfl w.heap.size 0 rfl (mgc m (.slice ua uk uc)) _ (Q1.out.range) Tryz.underlying30 rfl (by kernel_rfl) ?_))
  refine (mcheck_any v n m ua uk uc _ (HhKc.out.below B1.out zN) (HhK.out.below B1.out zN) Hhk1.out Hhk2.out (HhI.out.below B1.out zN)).mono ?_
  rintro e w2 ⟨rfl, hb⟩
  rw [hzz.out]
  have B2 : Hid (Below w.heap.size w w2) := B1.out.trans (hb.mono (by omega))
  have Q2 : Hid (Blk w2 w.heap.size (mgc m (.slice ua uk uc))) := Q1.out.on hb
  have z2 : w.heap.size < w2.heap.size := Nat.lt_of_lt_of_le z1 (by have := hb.size; omega)
  clear hb
  go_wp2_with (first | (refine wpList_load_mid rfl 30 _ rfl w.heap.size 0 rfl (mgc m (.slice ua uk uc)) _ (Q2.out.range) Tryz.underlying30 rfl (by kernel_rfl) ?_))
  refine (mencode_any v n m ua uk uc _ (HhKc.out.below B2.out zN) (HhK.out.below B2.out zN) Hhk1.out Hhk2.out Hhn1.out Hhn2.out (HhI.out.below B2.out zN)).mono ?_
  rintro e w3 ⟨u, rfl, ho, hb⟩
  rw [if_neg HZ.out] at ho
  rw [hzz.out]
  obtain ⟨sa, cap, rfl, -, -⟩ := mown_src ho
  have B3 : Hid (Below w.heap.size w w3) := B2.out.trans (hb.mono (by omega))
  clear hb ho
  go_wp2_with (first | (go_at_call 10; refine (num5_any _ _).mono ?_; rintro e w' ⟨rfl, rfl⟩))
  go_ret
  exact ⟨rfl, B3.out⟩
theorem contract (H : Type) (enc : TypeId × Value → H) (W : World) (base : Nat) (args : Array Value) (ds gs : List (DataW H)) (before : List MemPlace)
  (hval : ∀ (j : Nat) t v, Tryz.f3.params[j]? = some t → args[j]? = some v → Value.okWide Tryz.prog W .any base t v)
  (hW : DataW.Whole enc Tryz.prog Tryz.f3.params.toList Rows.msgRoundsSpec.vars false W args.toList ds gs before)
  (hsz : (DataW.weightsEach Tryz.prog (Tryz.f3.params.toList ++ (OpenSpec.ofChange Rows.msgRoundsSpec).bare.plain.varTypes Tryz.prog) (ds ++ gs)).all (· ≤ reachBytes) = true)
  (hL : laidMetH Tryz.prog Rows.msgRoundsRow.laid W) :
  Calls Tryz.prog 3 args W fun e W' => ∃ v, e = .returned v ∧ Rows.msgRoundsSpec.post enc Tryz.prog Tryz.f3 false true false false W args v W' := by
 have hW' := hW
 obtain ⟨p, q, hA0, hV, rfl, hfz, hnd⟩ := hW
 have hA : DataW.TrodAll enc Tryz.prog W 0 (fun _ => true) true Tryz.f3.params.toList args.toList ds p := hA0
 rw [Tryz.params3] at hA hval hsz
 obtain ⟨v0, vs0, d0, ds0, p0, q0, hargs, rfl, rfl, h0, tr0⟩ := trodAll_cons hA
 obtain ⟨v1, vs1, d1, ds1, p1, q1, rfl, rfl, rfl, h1, tr1⟩ := trodAll_cons tr0
 obtain ⟨v2, vs2, d2, ds2, p2, q2, rfl, rfl, rfl, h2, tr2⟩ := trodAll_cons tr1
 obtain ⟨rfl, rfl, rfl⟩ := trodAll_nil tr2
 obtain rfl : args = #[v0, v1, v2] := by cases args; simp_all
 obtain ⟨rfl, rfl⟩ := trodVars_none hV
 obtain ⟨y0, rfl, rfl, rfl, w0⟩ := open_int Tryz.underlying3 (hval 0 3 v0 rfl rfl) h0
 have b0 := bounds_i64 w0
 obtain ⟨y1, rfl, rfl, rfl, w1⟩ := open_int Tryz.underlying3 (hval 1 3 v1 rfl rfl) h1
 have b1 := bounds_i64 w1
 have k2 := h2
 have lt2 : ∀ x ∈ p2, x.block < W.heap.size := by obtain ⟨m, hm⟩ := k2; exact DataW.trod_lt m _ _ _ hm
 obtain ⟨m2, ua2, uk2, uc2, dI2, dB2, dV2, dd2, rfl, hd2, hseg2, hcap2, b2⟩ := mopen_msg (hval 2 30 v2 rfl rfl) h2
 have sz2 := msized hsz (j := 2) (m := m2) (dI := dI2) (dB := dB2) (dV := dV2) (dd := dd2) rfl (by rw [show d2 = _ from hd2]; rfl)
 have hE := errs_of_laid hL
 clear hA0
 obtain ⟨aa, haa⟩ := hE
 refine (walk y0 y1 m2 ua2 uk2 uc2 aa W (knd_of_laid hL) (kmd_of_laid hL) haa sz2.1 sz2.2 b2.cmd.2.2.2.1 b2.cmd.2.2.2.2 hseg2).mono fun e W' ⟨he, bel⟩ => ?_
 subst he
 exact ⟨_, rfl, _, _, _, [], _, [], hW', trodAll_mk1 (shut_bool Tryz.underlying4 _), (trodAll_cons_mk (shut_int Tryz.underlying3 w0) (trodAll_cons_mk (shut_int Tryz.underlying3 w1) (trodAll_cons_mk (Below.trod claid (by kernel_rfl) (of_decide_eq_true (by kernel_rfl)) k2 bel lt2) trodAll_mk0))), rfl, bel.frame _, fun h => by cases h⟩
theorem reads (os : Os) {H : Type} (enc : TypeId × Value → H) : ∃ places, DataW.whole enc Tryz.prog ((World.doorLaid Tryz.prog 400 os).forCall (fun _ _ => 0) ⟨#[], #[.int .i64 0, .int .i64 0, .agg #[.int .i64 0, .int .i64 0, .int .i64 0, .int .i64 0, .int .i64 0, .int .i64 0, .int .i64 0, .int .i64 0, .bool false, .int .i64 0, .int .i64 0, .int .i64 0, .string ⟨#[]⟩, .string ⟨#[]⟩, .string ⟨#[]⟩, .string ⟨#[]⟩, .int .i64 0, .int .i64 0, .slice none 0 0]], []⟩).memory Tryz.f3.params.toList Rows.msgRoundsSpec.vars false (#[Value.int .i64 0, .int .i64 0, .agg #[.int .i64 0, .int .i64 0, .int .i64 0, .int .i64 0, .int .i64 0, .int .i64 0, .int .i64 0, .int .i64 0, .bool false, .int .i64 0, .int .i64 0, .int .i64 0, .string ⟨#[]⟩, .string ⟨#[]⟩, .string ⟨#[]⟩, .string ⟨#[]⟩, .int .i64 0, .int .i64 0, .slice none 0 0]] : Array Value).toList 8 = some ([.lit (.int .i64 0), .lit (.int .i64 0), .agg [.lit (.int .i64 0), .agg [.lit (.int .i64 0), .lit (.int .i64 0)], .agg [.lit (.int .i64 0), .lit (.int .i64 0)], .agg [.lit (.int .i64 0), .lit (.int .i64 0)], .lit (.int .i64 0), .lit (.bool false), .agg [.lit (.int .i64 0), .lit (.int .i64 0), .lit (.int .i64 0), .lit (.string []), .lit (.string []), .lit (.string []), .lit (.string []), .lit (.int .i64 0)], .lit (.int .i64 0), .nil]], [], places) :=
 ⟨[], by kernel_rfl⟩
theorem lifted (os : Os) (started : os.Started) (H : Type) (enc : TypeId × Value → H) (F : Stop.Interp) :
  ReturnsInHanded {} Tryz.checked os 3 .any ((OpenSpec.ofChange Rows.msgRoundsSpec).preRow enc Tryz.prog Tryz.f3 Rows.msgRoundsRow.domain false Rows.msgRoundsRow.laid) (((OpenSpec.ofChange Rows.msgRoundsSpec).at F).post enc Tryz.prog Tryz.f3 false true false false) := by
 obtain ⟨places, hx⟩ := reads os enc
 refine returnsInHanded_of_row (C := Tryz.checked) (s := (OpenSpec.ofChange Rows.msgRoundsSpec)) cown started (by kernel_rfl) Tryz.func3
  (witness_row_atRef (enc := enc) (C := Tryz.checked) false (World.doorLaid Tryz.prog 400 os) #[.int .i64 0, .int .i64 0, .agg #[.int .i64 0, .int .i64 0, .int .i64 0, .int .i64 0, .int .i64 0, .int .i64 0, .int .i64 0, .int .i64 0, .bool false, .int .i64 0, .int .i64 0, .int .i64 0, .string ⟨#[]⟩, .string ⟨#[]⟩, .string ⟨#[]⟩, .string ⟨#[]⟩, .int .i64 0, .int .i64 0, .slice none 0 0]] rfl (by kernel_rfl) (by kernel_rfl) (by kernel_rfl)
   (OpenSpec.preRow_of_cond 8 hx (by kernel_rfl) (fun k hk => by cases hk) (by kernel_rfl) (door_met os _))) ?_
 intro W base args ds gs before hval hW _ hcond hsz hL _ _
 exact contract H enc W base args ds gs before hval hW hsz hL
theorem said : Rows.MsgRoundsSaid :=
 OpenClaim.holds_of_cond 3 Tryz.f3 rfl rfl rfl rfl rfl rfl rfl ⟨rfl, rfl, rfl, rfl, rfl⟩ rfl rfl rfl rfl rfl (by kernel_rfl) Tryz.func3 (by kernel_rfl)
  (of_decide_eq_true (by kernel_rfl)) (by unfold Func.isWrapper; first | (rw [if_pos (by decide +kernel)]; kernel_rfl) | (rw [if_neg (by decide +kernel)]; exact ⟨rfl, rfl⟩))
  (fun os started H enc _ F => by rw [OpenClaim.pre_eq_preRow]; exact lifted os started H enc F)
theorem plain (f : FuncId) (fn : Func) (hf : Tryz.pinned.checked.prog.funcNamed "moot/mootlaw5.MsgRounds" = some f) (hfn : Tryz.pinned.checked.prog.funcs[f]? = some fn) :
  true = Tryz.pinned.checked.prog.looks [] ∧ ∀ (j : Nat) t, fn.params[j]? = some t → Tryz.pinned.checked.prog.wantsStandIn t = false := by
 obtain rfl : f = 3 := Option.some.inj ((show Tryz.prog.funcNamed "moot/mootlaw5.MsgRounds" = some 3 by kernel_rfl).symm.trans hf) |>.symm
 obtain rfl : fn = Tryz.f3 := (Option.some.inj (Tryz.func3.symm.trans hfn)).symm
 refine ⟨by kernel_rfl, fun j t ht => ?_⟩
 rw [Tryz.params3] at ht
 have hm : t ∈ [3, 3, 30] := by simpa using Array.mem_of_getElem? ht
 have hall : ([3, 3, 30].all fun u => !Tryz.prog.wantsStandIn u) = true := by kernel_rfl
 exact (show Tryz.prog.wantsStandIn t = false by simpa using List.all_eq_true.1 hall t hm)
end msgRounds
theorem msgRounds_proved : Rows.MsgRoundsCardSaid :=
 Claim7.holds_tied_plain_at .later [] _ _ _ _ msgRounds.said (fun _ h => by cases h) (by kernel_rfl) (fun _ h => by cases h) msgRounds_row_tie rfl ⟨rfl, rfl⟩ (by kernel_rfl) rfl msgRounds.plain (by kernel_rfl)
#print axioms msgRounds_proved
end Go.Proofs.YtppocmgcfeelhaaGreatDoor
