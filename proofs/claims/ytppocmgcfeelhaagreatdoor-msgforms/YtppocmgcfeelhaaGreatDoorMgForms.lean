/- Proved: for every version, n and list of bytes MsgForms answers true: bytes that are read as a message are the only ones that are: the message is valid, and is written as just these bytes. Conditions: the two tables of kinds and the five sentinels of package wire start as the program's text lays them (the card ties them). -/
import Derived.Deep.DeepHandedRow
import Derived.Deep.DeepWitnessRowRef
import Derived.Test.YtppocmgcfeelhaaGreatDoorJ41
import Derived.Test.YtppocmgcfeelhaaGreatDoorJ43
import Derived.Test.YtppocmgcfeelhaaGreatDoorTie
import Derived.Test.YtppocmgcfeelhaaGreatDoorCards
set_option maxHeartbeats 4000000
set_option maxRecDepth 100000
namespace Go.Proofs.YtppocmgcfeelhaaGreatDoor
namespace msgForms
open Go.ChangeShapes Go.WideShapes Go.ChangeAt Go.RowKit Go.Wire1
theorem walk (v n : Int) (sa : Option Addr) (bn cap : Nat) (l : List Int) (a : Nat → Addr) (w : World) (hs : Seg w sa bn l) (hsrc : Src sa bn cap) (hy : Byt l) (hKc : Knd w) (hK : Kmd w) (he : Errs w a) :
  Calls Tryz.prog 4 #[.int .i64 v, .int .i64 n, .slice sa bn cap] w fun e w' => e = .returned (.bool true) ∧ Below w.heap.size w w' := by
 have HS := hide hs
 have HC := hide hsrc
 have HY := hide hy
 have HhKc := hide hKc
 have HhK := hide hK
 have Hhe := hide he
 clear hs hsrc hy hKc hK he
 go_enter Tryz.func4, Tryz.ntmps4
 go_wp2_with fail
 refine (known5_any a _ HhKc.out HhK.out Hhe.out).mono ?_
 rintro e w1 ⟨rfl, hb⟩
 have B1 : Hid (Below w.heap.size w w1) := hb
 have z1 : w.heap.size ≤ w1.heap.size := B1.out.size
 clear hb
 go_wp2_with fail
 refine (mdecode_any v n _ _ _ l a _ (HS.out.below B1.out zN) HC.out HY.out (Hhe.out.below B1.out zN) (HhKc.out.below B1.out zN) (HhK.out.below B1.out zN)).mono ?_
 rintro e w2 ⟨u, rfl, D, hb⟩
 have B2 : Hid (Below w.heap.size w w2) := B1.out.trans (hb.mono (by omega))
 have z2 : w.heap.size ≤ w2.heap.size := B2.out.size
 obtain ⟨ua, uk, uc, rfl, hI, -⟩ := D
 have ONE : Hid ((decM v n l).2 = 0 → chkM v n (decM v n l).1 = 0 ∧ nB (decM v n l).1.c ∧ msB v (decM v n l).1 = l) := fun h => decM_one HY.out h
 have BAD : Hid ((decM v n l).2 ≠ 0 → (decM v n l).1 = zeroM) := fun h => decM_bad h
 obtain ⟨m, hm⟩ : ∃ m, Hid ((decM v n l).1 = m) := ⟨_, rfl⟩
 obtain ⟨z, hz⟩ : ∃ z, Hid ((decM v n l).2 = z) := ⟨_, rfl⟩
 rw [hm.out, hz.out] at ONE BAD
 rw [hm.out] at hI
 rw [hm.out, hz.out]
 have T2 : Hid (SegI w2 ua uk m.dl) := hI
 clear hb hI hm hz
 obtain ⟨U, hU⟩ : ∃ W, W = w2.alloc (.cells zeroL.toArray 30) := ⟨_, rfl⟩
 have BU : Hid (Below w2.heap.size w2 U) := by rw [hU]; exact (Below.refl _ _).alloc zN _
 have QU : Hid (Blk U w2.heap.size zeroL) := by rw [hU]; exact blk_new w2 30 zeroL
 have TH : Hid (U.there w2.heap.size 0 19) := QU.out.there
 obtain ⟨w3, hX⟩ : ∃ X, X = U.setCells w2.heap.size 0 (mgc m (.slice ua uk uc)) := ⟨_, rfl⟩
 have RX := hide (mbox_stored (w := w2) QU.out (by rfl) BU.out zN hX)
 have B3 : Hid (Below w.heap.size w w3) := B2.out.trans (RX.out.2.mono (by omega))
 have Q3 : Hid (Blk w3 w2.heap.size (mgc m (.slice ua uk uc))) := RX.out.1
 have T3 : Hid (SegI w3 ua uk m.dl) := T2.out.below RX.out.2 zN
 have z3 : w2.heap.size < w3.heap.size := RX.out.1.lt
 have HU := hide hU
 have HX := hide hX
 clear hU hX
 have eU : w2.alloc (.cells #[.int .i64 0, .int .i64 0, .int .i64 0, .int .i64 0, .int .i64 0, .int .i64 0, .int .i64 0, .int .i64 0, .bool false, .int .i64 0, .int .i64 0, .int .i64 0, .string ⟨#[]⟩, .string ⟨#[]⟩, .string ⟨#[]⟩, .string ⟨#[]⟩, .int .i64 0, .int .i64 0, .slice none 0 0] 30) = U := HU.out.symm
 go_upto_region 4 with (first | (refine wpList_store_mid rfl 30 _ _ rfl w2.heap.size 0 (mgc m (.slice ua uk uc)).toArray rfl rfl (by first | exact TH.out | (rw [eU]; exact TH.out)) (by kernel_rfl) (by kernel_rfl) ?_; first | rw [← HX.out] | (rw [eU, ← HX.out])))
 clear eU HU HX TH QU BU RX
 by_cases h0 : z = 0
 ·subst h0
  obtain ⟨o1, o2, o3⟩ := ONE.out rfl
  have HZ := hide o1
  have HN := hide o2
  have HB := hide o3
  have KY := hide (msg_keys o1)
  clear o1 o2 o3 ONE BAD
  go_wp2_with (first | (go_at_call 10; refine (num5_any _ _).mono ?_; rintro e w' ⟨rfl, rfl⟩) | (refine wpList_load_mid rfl 30 _ rfl w2.heap.size 0 rfl (mgc m (.slice ua uk uc)) _ (Q3.out.range) Tryz.underlying30 rfl (by kernel_rfl) ?_))
  refine (mcheck_any v n m ua uk uc _ (HhKc.out.below B3.out zN) (HhK.out.below B3.out zN) KY.out.1 KY.out.2 T3.out).mono ?_
  rintro e w4 ⟨rfl, hb⟩
  rw [HZ.out]
  have B4 : Hid (Below w.heap.size w w4) := B3.out.trans (hb.mono (by omega))
  have Q4 : Hid (Blk w4 w2.heap.size (mgc m (.slice ua uk uc))) := Q3.out.on hb
  have T4 : Hid (SegI w4 ua uk m.dl) := T3.out.below hb zN
  have z4 : w2.heap.size < w4.heap.size := Q4.out.lt
  clear hb
  go_wp2_with (first | (refine wpList_load_mid rfl 30 _ rfl w2.heap.size 0 rfl (mgc m (.slice ua uk uc)) _ (Q4.out.range) Tryz.underlying30 rfl (by kernel_rfl) ?_))
  refine (mencode_any v n m ua uk uc _ (HhKc.out.below B4.out zN) (HhK.out.below B4.out zN) KY.out.1 KY.out.2 HN.out.1 HN.out.2 T4.out).mono ?_
  rintro e w5 ⟨u, rfl, ho, hb⟩
  rw [HZ.out, if_pos rfl, HB.out] at ho
  rw [HZ.out]
  obtain ⟨pa, pc, rfl, -, hseg⟩ := mown_src ho
  have SG := hide hseg
  have B5 : Hid (Below w.heap.size w w5) := B4.out.trans (hb.mono (by omega))
  have S5 : Hid (Seg w5 sa bn l) := HS.out.below B5.out zN
  clear hb ho hseg
  go_wp2_with (first | (go_at_call 10; refine (num5_any _ _).mono ?_; rintro e w' ⟨rfl, rfl⟩))
  refine (same_any pa sa l.length bn _ _ l l _ SG.out S5.out).mono ?_
  rintro e w' ⟨rfl, q, rfl⟩
  rw [sameB_self]
  go_wp2
  go_ret
  exact ⟨rfl, ⟨B5.out.1, B5.out.2, B5.out.3, B5.out.4, B5.out.5⟩⟩
 ·have g1 : (z != 0) = true := by rw [bne_iff_ne]; exact h0
  obtain rfl := BAD.out h0
  clear ONE BAD h0
  go_wp2_with (first | (go_at_call 10; refine (num5_any _ _).mono ?_; rintro e w' ⟨rfl, rfl⟩) | (refine wpList_load_mid rfl 30 _ rfl w2.heap.size 0 rfl (mgc zeroM (.slice ua uk uc)) _ (Q3.out.range) Tryz.underlying30 rfl (by kernel_rfl) ?_))
  refine (sameMsg_same zeroM _ none _ _ 0 0 _ T3.out (segI_nil _)).mono ?_
  rintro e w4 ⟨rfl, hb⟩
  have B4 : Hid (Below w.heap.size w w4) := B3.out.trans (hb.mono (by omega))
  clear hb
  go_wp2
  go_ret
  exact ⟨rfl, B4.out⟩
theorem contract (H : Type) (enc : TypeId × Value → H) (W : World) (base : Nat) (args : Array Value) (ds gs : List (DataW H)) (before : List MemPlace)
  (hval : ∀ (j : Nat) t v, Tryz.f4.params[j]? = some t → args[j]? = some v → Value.okWide Tryz.prog W .any base t v)
  (hW : DataW.Whole enc Tryz.prog Tryz.f4.params.toList Rows.msgFormsSpec.vars false W args.toList ds gs before)
  (hsz : (DataW.weightsEach Tryz.prog (Tryz.f4.params.toList ++ (OpenSpec.ofChange Rows.msgFormsSpec).bare.plain.varTypes Tryz.prog) (ds ++ gs)).all (· ≤ reachBytes) = true)
  (hL : laidMetH Tryz.prog Rows.msgFormsRow.laid W) :
  Calls Tryz.prog 4 args W fun e W' => ∃ v, e = .returned v ∧ Rows.msgFormsSpec.post enc Tryz.prog Tryz.f4 false true false false W args v W' := by
 have hW' := hW
 obtain ⟨p, q, hA0, hV, rfl, hfz, hnd⟩ := hW
 have hA : DataW.TrodAll enc Tryz.prog W 0 (fun _ => true) true Tryz.f4.params.toList args.toList ds p := hA0
 rw [Tryz.params4] at hA hval hsz
 obtain ⟨v0, vs0, d0, ds0, p0, q0, hargs, rfl, rfl, h0, tr0⟩ := trodAll_cons hA
 obtain ⟨v1, vs1, d1, ds1, p1, q1, rfl, rfl, rfl, h1, tr1⟩ := trodAll_cons tr0
 obtain ⟨v2, vs2, d2, ds2, p2, q2, rfl, rfl, rfl, h2, tr2⟩ := trodAll_cons tr1
 obtain ⟨rfl, rfl, rfl⟩ := trodAll_nil tr2
 obtain rfl : args = #[v0, v1, v2] := by cases args; simp_all
 obtain ⟨rfl, rfl⟩ := trodVars_none hV
 obtain ⟨y0, rfl, rfl, rfl, w0⟩ := open_int Tryz.underlying3 (hval 0 3 v0 rfl rfl) h0
 have b0 := bounds_i64 w0
 obtain ⟨y1, rfl, rfl, rfl, w1⟩ := open_int Tryz.underlying3 (hval 1 3 v1 rfl rfl) h1
 have b1 := bounds_i64 w1
 obtain ⟨a2, n2, cap2, rfl⟩ := okWide_slice Tryz.underlying34 (hval 2 34 v2 rfl rfl)
 have k2 := h2
 have lt2 : ∀ x ∈ p2, x.block < W.heap.size := by obtain ⟨m, hm⟩ := k2; exact DataW.trod_lt m _ _ _ hm
 obtain ⟨fuel2, hf2⟩ := h2
 obtain ⟨l2, hseg2, hbyt2, hcap2, hdat2⟩ := open_bytes hf2
 have hE := errs_of_laid hL
 clear hA0
 obtain ⟨aa, haa⟩ := hE
 refine (walk y0 y1 a2 n2 cap2 l2 aa W hseg2 (src_of hf2) hbyt2 (knd_of_laid hL) (kmd_of_laid hL) haa).mono fun e W' ⟨he, bel⟩ => ?_
 subst he
 exact ⟨_, rfl, _, _, _, [], _, [], hW', trodAll_mk1 (shut_bool Tryz.underlying4 _), (trodAll_cons_mk (shut_int Tryz.underlying3 w0) (trodAll_cons_mk (shut_int Tryz.underlying3 w1) (trodAll_cons_mk (Below.trod claid (by kernel_rfl) (of_decide_eq_true (by kernel_rfl)) k2 bel lt2) trodAll_mk0))), rfl, bel.frame _, fun h => by cases h⟩
theorem reads (os : Os) {H : Type} (enc : TypeId × Value → H) : ∃ places, DataW.whole enc Tryz.prog ((World.doorLaid Tryz.prog 400 os).forCall (fun _ _ => 0) ⟨#[], #[.int .i64 0, .int .i64 0, .slice none 0 0], []⟩).memory Tryz.f4.params.toList Rows.msgFormsSpec.vars false (#[Value.int .i64 0, .int .i64 0, .slice none 0 0] : Array Value).toList 8 = some ([.lit (.int .i64 0), .lit (.int .i64 0), .nil], [], places) :=
 ⟨[], by kernel_rfl⟩
theorem lifted (os : Os) (started : os.Started) (H : Type) (enc : TypeId × Value → H) (F : Stop.Interp) :
  ReturnsInHanded {} Tryz.checked os 4 .any ((OpenSpec.ofChange Rows.msgFormsSpec).preRow enc Tryz.prog Tryz.f4 Rows.msgFormsRow.domain false Rows.msgFormsRow.laid) (((OpenSpec.ofChange Rows.msgFormsSpec).at F).post enc Tryz.prog Tryz.f4 false true false false) := by
 obtain ⟨places, hx⟩ := reads os enc
 refine returnsInHanded_of_row (C := Tryz.checked) (s := (OpenSpec.ofChange Rows.msgFormsSpec)) cown started (by kernel_rfl) Tryz.func4
  (witness_row_atRef (enc := enc) (C := Tryz.checked) false (World.doorLaid Tryz.prog 400 os) #[.int .i64 0, .int .i64 0, .slice none 0 0] rfl (by kernel_rfl) (by kernel_rfl) (by kernel_rfl)
   (OpenSpec.preRow_of_cond 8 hx (by kernel_rfl) (fun k hk => by cases hk) (by kernel_rfl) (door_met os _))) ?_
 intro W base args ds gs before hval hW _ hcond hsz hL _ _
 exact contract H enc W base args ds gs before hval hW hsz hL
theorem said : Rows.MsgFormsSaid :=
 OpenClaim.holds_of_cond 4 Tryz.f4 rfl rfl rfl rfl rfl rfl rfl ⟨rfl, rfl, rfl, rfl, rfl⟩ rfl rfl rfl rfl rfl (by kernel_rfl) Tryz.func4 (by kernel_rfl)
  (of_decide_eq_true (by kernel_rfl)) (by unfold Func.isWrapper; first | (rw [if_pos (by decide +kernel)]; kernel_rfl) | (rw [if_neg (by decide +kernel)]; exact ⟨rfl, rfl⟩))
  (fun os started H enc _ F => by rw [OpenClaim.pre_eq_preRow]; exact lifted os started H enc F)
theorem plain (f : FuncId) (fn : Func) (hf : Tryz.pinned.checked.prog.funcNamed "moot/mootlaw5.MsgForms" = some f) (hfn : Tryz.pinned.checked.prog.funcs[f]? = some fn) :
  true = Tryz.pinned.checked.prog.looks [] ∧ ∀ (j : Nat) t, fn.params[j]? = some t → Tryz.pinned.checked.prog.wantsStandIn t = false := by
 obtain rfl : f = 4 := Option.some.inj ((show Tryz.prog.funcNamed "moot/mootlaw5.MsgForms" = some 4 by kernel_rfl).symm.trans hf) |>.symm
 obtain rfl : fn = Tryz.f4 := (Option.some.inj (Tryz.func4.symm.trans hfn)).symm
 refine ⟨by kernel_rfl, fun j t ht => ?_⟩
 rw [Tryz.params4] at ht
 have hm : t ∈ [3, 3, 34] := by simpa using Array.mem_of_getElem? ht
 have hall : ([3, 3, 34].all fun u => !Tryz.prog.wantsStandIn u) = true := by kernel_rfl
 exact (show Tryz.prog.wantsStandIn t = false by simpa using List.all_eq_true.1 hall t hm)
end msgForms
theorem msgForms_proved : Rows.MsgFormsCardSaid :=
 Claim7.holds_tied_plain_at .later [] _ _ _ _ msgForms.said (fun _ h => by cases h) (by kernel_rfl) (fun _ h => by cases h) msgForms_row_tie rfl ⟨rfl, rfl⟩ (by kernel_rfl) rfl msgForms.plain (by kernel_rfl)
#print axioms msgForms_proved
end Go.Proofs.YtppocmgcfeelhaaGreatDoor
