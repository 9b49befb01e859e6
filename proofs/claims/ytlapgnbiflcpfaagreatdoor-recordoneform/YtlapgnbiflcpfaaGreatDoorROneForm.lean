/- Proved: for every n and list of bytes RecordOneForm answers true: what Decode reads has one form. Conditions: the tables of kinds and of rows and the five sentinels of package wire start as the program's text lays them (the card ties them). -/
import Derived.Test.YtlapgnbiflcpfaaGreatDoorJ41
import Derived.Test.YtlapgnbiflcpfaaGreatDoorJ43
import Derived.Test.YtlapgnbiflcpfaaGreatDoorJ42
import Derived.Test.YtlapgnbiflcpfaaGreatDoorJ40
import Derived.Test.YtlapgnbiflcpfaaGreatDoorTie
import Derived.Test.YtlapgnbiflcpfaaGreatDoorCards
import Derived.Deep.DeepHandedRow
import Derived.Deep.DeepWitnessRowRef
namespace Go.Proofs.YtlapgnbiflcpfaaGreatDoor
namespace recordOneForm
open Go.ChangeShapes Go.WideShapes Go.ChangeAt Go.RowKit Go.Wire1

set_option maxHeartbeats 4000000 in
set_option maxRecDepth 100000 in
theorem walk (n : Int) (sa : Option Addr) (m cap : Nat) (l : List Int) (a : Nat → Addr) (w : World) (hs : Seg w sa m l) (hsrc : Src sa m cap) (hy : Byt l) (hR : Rws w) (hK : Knd w) (he : Errs w a) :
    Calls Tryz.prog 6 #[.int .i64 n, .slice sa m cap] w fun e w' => e = .returned (.bool true) ∧ Below w.heap.size w w' := by
  have HS := hide hs
  have HC := hide hsrc
  have HY := hide hy
  have HW := hide hR
  have HK := hide hK
  have HE := hide he
  clear hs hsrc hy hR hK he
  go_enter Tryz.func6, Tryz.ntmps6
  go_wp2_with fail
  refine (there6_any a _ HW.out HK.out HE.out).mono ?_
  rintro e w1 ⟨rfl, hb⟩
  have B1 : Hid (Below w.heap.size w w1) := hb
  have z1 : w.heap.size ≤ w1.heap.size := B1.out.size
  clear hb
  go_wp2_with fail
  refine (rdec_any n _ _ _ l a _ (HS.out.below B1.out (Nat.le_refl _)) HC.out HY.out (HE.out.below B1.out (Nat.le_refl _)) (HK.out.below B1.out (Nat.le_refl _)) (HW.out.below B1.out (Nat.le_refl _))).mono ?_
  rintro e w3 ⟨rr, rfl, her, hsg, hb⟩
  have ER := hide her
  have SG3 : Hid (SegI w3 rr.da rr.dn rr.deps) := hsg
  have B3 : Hid (Below w.heap.size w w3) := B1.out.trans (hb.mono (by omega))
  have z3 : w.heap.size ≤ w3.heap.size := B3.out.size
  clear hb her hsg
  obtain ⟨U, hU⟩ : ∃ U, U = w3.alloc (.cells zeroL.toArray 30) := ⟨_, rfl⟩
  have BU : Hid (Below w3.heap.size w3 U) := by rw [hU]; exact (Below.refl _ _).alloc (Nat.le_refl _) _
  have QU : Hid (Blk U w3.heap.size zeroL) := by rw [hU]; exact blk_new w3 30 zeroL
  have TH : Hid (U.there w3.heap.size 0 18) := QU.out.there
  obtain ⟨X, hX⟩ : ∃ X, X = U.setCells w3.heap.size 0 (rcs rr) := ⟨_, rfl⟩
  have RX := hide (box_stored (w := w3) QU.out (by rfl) BU.out (Nat.le_refl _) hX)
  have BX : Hid (Below w.heap.size w X) := B3.out.trans (RX.out.2.mono (by omega))
  have SX : Hid (SegI X rr.da rr.dn rr.deps) := SG3.out.below RX.out.2 (Nat.le_refl _)
  have HU := hide hU
  have HX := hide hX
  clear hU hX
  have eU : w3.alloc (.cells #[.int .i64 0, .int .i64 0, .int .i64 0, .int .i64 0, .int .i64 0, .bool false, .int .i64 0, .int .i64 0, .int .i64 0, .string ⟨#[]⟩, .string ⟨#[]⟩, .string ⟨#[]⟩, .string ⟨#[]⟩, .int .i64 0, .int .i64 0, .slice none 0 0, .int .i64 0, .int .i64 0] 30) = U := HU.out.symm
  have zX : w3.heap.size < X.heap.size := RX.out.1.lt
  obtain ⟨z, hz⟩ : ∃ z, Hid ((decR n l).2 = z) := ⟨_, rfl⟩
  rw [hz.out]
  by_cases h0 : z = 0
  · have hzz : (decR n l).2 = 0 := hz.out.trans h0
    subst h0
    have ONE := hide (decR_one HY.out hzz)
    have KYS := hide (decR_kys (n := n) HY.out)
    have erl := er_lay ER.out.symm
    have CHK : Hid (chkR n rr = 0) := by rw [erl]; exact (chkR_lay _ _ _ _ _).trans ONE.out.1
    have REC : Hid (recB rr = l) := by rw [erl]; exact (recB_lay _ _ _ _).trans ONE.out.2
    have ec : rr.c = (decR n l).1.c := by rw [erl]; rfl
    have K1 : Hid (rr.c.key.size ≤ 140737488351232 ∧ rr.c.key2.size ≤ 140737488351232) := by rw [ec]; exact KYS.out.1
    have N1 : Hid (-9223372036854775808 ≤ rr.c.n ∧ rr.c.n ≤ 9223372036854775807) := by rw [ec]; exact KYS.out.2
    have HR : Hid (Rok X rr) := ⟨SX.out, K1.out.1, K1.out.2⟩
    clear hzz erl ec hz
    go_upto_region 5 with (first | (refine wpList_store_mid rfl 30 _ _ rfl w3.heap.size 0 (rcs rr).toArray rfl rfl (by first | exact TH.out | (rw [eU]; exact TH.out)) (by kernel_rfl) (by kernel_rfl) ?_; first | rw [← HX.out] | (rw [eU, ← HX.out])))
    clear eU
    go_wp2_with (first | (go_at_call 11; refine (num6_any _ _).mono ?_; rintro e w' ⟨rfl, rfl⟩) | (refine wpList_load_mid rfl 30 _ rfl w3.heap.size 0 rfl (rcs rr) _ (RX.out.1.range) Tryz.underlying30 rfl (by kernel_rfl) ?_))
    refine (recCheck_any n rr _ HR.out (HW.out.below BX.out (Nat.le_refl _)) (HK.out.below BX.out (Nat.le_refl _))).mono ?_
    rintro e w4 ⟨rfl, hb⟩
    rw [CHK.out]
    have B4 : Hid (Below w.heap.size w w4) := BX.out.trans (hb.mono (by omega))
    have Q4 : Hid (Blk w4 w3.heap.size (rcs rr)) := RX.out.1.on hb
    have R4 : Hid (Rok w4 rr) := HR.out.below hb (Nat.le_refl _)
    have z4 : w3.heap.size < w4.heap.size := Q4.out.lt
    clear hb
    go_wp2_with (first | (refine wpList_load_mid rfl 30 _ rfl w3.heap.size 0 rfl (rcs rr) _ (Q4.out.range) Tryz.underlying30 rfl (by kernel_rfl) ?_))
    refine (renc_any n rr _ R4.out (HW.out.below B4.out (Nat.le_refl _)) (HK.out.below B4.out (Nat.le_refl _)) N1.out.1 N1.out.2 CHK.out).mono ?_
    rintro e w5 ⟨u, rfl, ho, hb⟩
    rw [REC.out] at ho
    obtain ⟨ua, ucap, rfl, hsrc, hseg⟩ := rown_src ho
    have SEG := hide hseg
    have B5 : Hid (Below w.heap.size w w5) := B4.out.trans (hb.mono (by omega))
    clear hb ho hsrc hseg
    go_wp2_with fail
    refine (same_any _ _ _ _ _ _ l l _ (HS.out.below B5.out (Nat.le_refl _)) SEG.out).mono ?_
    rintro e w6 ⟨rfl, q, rfl⟩
    rw [sameB_self]
    go_wp2_with (first | (go_at_call 11; refine (num6_any _ _).mono ?_; rintro e w' ⟨rfl, rfl⟩))
    go_ret
    exact ⟨rfl, B5.out.drewN' q⟩
  · have hzz : (decR n l).2 ≠ 0 := by rw [hz.out]; exact h0
    have e0 := decR_bad hzz
    have ER0 : Hid (er rr = er zeroRc) := by
      have := ER.out
      rw [e0] at this
      exact this
    have g1 : (z != 0) = true := by rw [bne_iff_ne]; exact h0
    clear hzz e0 hz h0
    go_upto_region 5 with (first | (refine wpList_store_mid rfl 30 _ _ rfl w3.heap.size 0 (rcs rr).toArray rfl rfl (by first | exact TH.out | (rw [eU]; exact TH.out)) (by kernel_rfl) (by kernel_rfl) ?_; first | rw [← HX.out] | (rw [eU, ← HX.out])))
    clear eU
    go_wp2_with (first | (go_at_call 11; refine (num6_any _ _).mono ?_; rintro e w' ⟨rfl, rfl⟩) | (refine wpList_load_mid rfl 30 _ rfl w3.heap.size 0 rfl (rcs rr) _ (RX.out.1.range) Tryz.underlying30 rfl (by kernel_rfl) ?_) | (refine wpList_build rfl 30 _ rfl [] rfl _ built_none ?_))
    refine (sameRec_same rr zeroRc _ ER0.out SX.out (seg_none _)).mono ?_
    rintro e w4 ⟨rfl, hb⟩
    have B4 : Hid (Below w.heap.size w w4) := BX.out.trans (hb.mono (by omega))
    clear hb
    go_wp2
    go_ret
    exact ⟨rfl, B4.out⟩

set_option maxRecDepth 100000 in
/-- For every argument and every world. -/
theorem contract (H : Type) (enc : TypeId × Value → H) (W : World) (base : Nat) (args : Array Value) (ds gs : List (DataW H)) (before : List MemPlace)
    (hval : ∀ (j : Nat) t v, Tryz.f6.params[j]? = some t → args[j]? = some v → Value.okWide Tryz.prog W .any base t v)
    (hW : DataW.Whole enc Tryz.prog Tryz.f6.params.toList Rows.recordOneFormSpec.vars false W args.toList ds gs before)
    (hsz : (DataW.weightsEach Tryz.prog (Tryz.f6.params.toList ++ (OpenSpec.ofChange Rows.recordOneFormSpec).bare.plain.varTypes Tryz.prog) (ds ++ gs)).all (· ≤ reachBytes) = true)
    (hL : laidMetH Tryz.prog Rows.recordOneFormRow.laid W) :
    Calls Tryz.prog 6 args W fun e W' => ∃ v, e = .returned v ∧ Rows.recordOneFormSpec.post enc Tryz.prog Tryz.f6 false true false false W args v W' := by
  have hW' := hW
  obtain ⟨p, q, hA0, hV, rfl, hfz, hnd⟩ := hW
  have hA : DataW.TrodAll enc Tryz.prog W 0 (fun _ => true) true Tryz.f6.params.toList args.toList ds p := hA0
  rw [Tryz.params6] at hA hval hsz
  obtain ⟨v0, vs0, d0, ds0, p0, q0, hargs, rfl, rfl, h0, r0⟩ := trodAll_cons hA
  obtain ⟨v1, vs1, d1, ds1, p1, q1, rfl, rfl, rfl, h1, r1⟩ := trodAll_cons r0
  obtain ⟨rfl, rfl, rfl⟩ := trodAll_nil r1
  obtain rfl : args = #[v0, v1] := by cases args; simp_all
  obtain ⟨rfl, rfl⟩ := trodVars_none hV
  obtain ⟨y0, rfl, rfl, rfl, w0⟩ := open_int Tryz.underlying3 (hval 0 3 v0 rfl rfl) h0
  have b0 := bounds_i64 w0
  obtain ⟨a1, n1, cap1, rfl⟩ := okWide_slice Tryz.underlying31 (hval 1 31 v1 rfl rfl)
  have k1 := h1
  have lt1 : ∀ x ∈ p1, x.block < W.heap.size := by obtain ⟨m, hm⟩ := k1; exact DataW.trod_lt m _ _ _ hm
  obtain ⟨fuel1, hf1⟩ := h1
  obtain ⟨l1, hseg1, hbyt1, hcap1, hdat1⟩ := open_bytes hf1
  have hE := errs_of_laid hL
  clear hA0
  obtain ⟨aa, haa⟩ := hE
  refine (walk y0 a1 n1 cap1 l1 aa W hseg1 (src_of hf1) hbyt1 (rws_of_laid hL) (knd_of_laid hL) haa).mono fun e W' ⟨he, bel⟩ => ?_
  subst he
  exact ⟨_, rfl, _, _, _, [], _, [], hW', trodAll_mk1 (shut_bool Tryz.underlying4 _), (trodAll_cons_mk (shut_int Tryz.underlying3 w0) (trodAll_cons_mk (Below.trod claid (by kernel_rfl) (of_decide_eq_true (by kernel_rfl)) k1 bel lt1) trodAll_mk0)), rfl, bel.frame _, fun h => by cases h⟩

theorem reads (os : Os) {H : Type} (enc : TypeId × Value → H) : ∃ places, DataW.whole enc Tryz.prog ((World.doorLaid Tryz.prog 400 os).forCall (fun _ _ => 0) ⟨#[], #[.int .i64 0, .slice none 0 0], []⟩).memory Tryz.f6.params.toList Rows.recordOneFormSpec.vars false (#[Value.int .i64 0, .slice none 0 0] : Array Value).toList 8 = some ([.lit (.int .i64 0), .nil], [], places) :=
  ⟨[], by kernel_rfl⟩

set_option maxRecDepth 100000 in
theorem lifted (os : Os) (started : os.Started) (H : Type) (enc : TypeId × Value → H) (F : Stop.Interp) :
    ReturnsInHanded {} Tryz.checked os 6 .any ((OpenSpec.ofChange Rows.recordOneFormSpec).preRow enc Tryz.prog Tryz.f6 Rows.recordOneFormRow.domain false Rows.recordOneFormRow.laid) (((OpenSpec.ofChange Rows.recordOneFormSpec).at F).post enc Tryz.prog Tryz.f6 false true false false) := by
  obtain ⟨places, hx⟩ := reads os enc
  refine returnsInHanded_of_row (C := Tryz.checked) (s := (OpenSpec.ofChange Rows.recordOneFormSpec)) cown started (by kernel_rfl) Tryz.func6
    (witness_row_atRef (enc := enc) (C := Tryz.checked) false (World.doorLaid Tryz.prog 400 os) #[.int .i64 0, .slice none 0 0] rfl (by kernel_rfl) (by kernel_rfl) (by kernel_rfl)
      (OpenSpec.preRow_of_cond 8 hx (by kernel_rfl) (fun k hk => by cases hk) (by kernel_rfl) (door_met os _))) ?_
  intro W base args ds gs before hval hW _ hcond hsz hL _ _
  exact contract H enc W base args ds gs before hval hW hsz hL

theorem said : Rows.RecordOneFormSaid :=
  OpenClaim.holds_of_cond 6 Tryz.f6 rfl rfl rfl rfl rfl rfl rfl ⟨rfl, rfl, rfl, rfl, rfl⟩ rfl rfl rfl rfl rfl (by kernel_rfl) Tryz.func6 (by kernel_rfl)
    (of_decide_eq_true (by kernel_rfl)) (by unfold Func.isWrapper; first | (rw [if_pos (by decide +kernel)]; kernel_rfl) | (rw [if_neg (by decide +kernel)]; exact ⟨rfl, rfl⟩))
    (fun os started H enc _ F => by rw [OpenClaim.pre_eq_preRow]; exact lifted os started H enc F)

theorem plain (f : FuncId) (fn : Func) (hf : Tryz.pinned.checked.prog.funcNamed "moot/mootlaw6.RecordOneForm" = some f) (hfn : Tryz.pinned.checked.prog.funcs[f]? = some fn) :
    true = Tryz.pinned.checked.prog.looks [] ∧ ∀ (j : Nat) t, fn.params[j]? = some t → Tryz.pinned.checked.prog.wantsStandIn t = false := by
  obtain rfl : f = 6 := Option.some.inj ((show Tryz.prog.funcNamed "moot/mootlaw6.RecordOneForm" = some 6 by kernel_rfl).symm.trans hf) |>.symm
  obtain rfl : fn = Tryz.f6 := (Option.some.inj (Tryz.func6.symm.trans hfn)).symm
  refine ⟨by kernel_rfl, fun j t ht => ?_⟩
  rw [Tryz.params6] at ht
  have hm : t ∈ [3, 31] := by simpa using Array.mem_of_getElem? ht
  have hall : ([3, 31].all fun u => !Tryz.prog.wantsStandIn u) = true := by kernel_rfl
  exact (show Tryz.prog.wantsStandIn t = false by simpa using List.all_eq_true.1 hall t hm)

end recordOneForm
theorem recordOneForm_proved : Rows.RecordOneFormCardSaid :=
  Claim7.holds_tied_plain_at .later [] _ _ _ _ recordOneForm.said (fun _ h => by cases h) (by kernel_rfl) (fun _ h => by cases h) recordOneForm_row_tie rfl ⟨rfl, rfl⟩ (by kernel_rfl) rfl recordOneForm.plain (by kernel_rfl)
#print axioms recordOneForm_proved
end Go.Proofs.YtlapgnbiflcpfaaGreatDoor
