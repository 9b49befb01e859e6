/- Proved: for every n and record RecordEncodes answers true: the program's Encode gives what the document's own gives. Conditions: the tables of kinds and of rows and the five sentinels of package wire start as the program's text lays them (the card ties them). -/
import Derived.Test.YtnogdjpbnhnmaaaGreatDoorJ45
import Derived.Test.YtnogdjpbnhnmaaaGreatDoorJ42
import Derived.Test.YtnogdjpbnhnmaaaGreatDoorTie
import Derived.Test.YtnogdjpbnhnmaaaGreatDoorCards
import Derived.Deep.DeepHandedRow
import Derived.Deep.DeepWitnessRowRef
namespace Go.Proofs.YtnogdjpbnhnmaaaGreatDoor
namespace recordEncodes
open Go.ChangeShapes Go.WideShapes Go.ChangeAt Go.RowKit Go.Wire1

set_option maxHeartbeats 4000000 in
set_option maxRecDepth 100000 in
theorem walk (n : Int) (r : Rc) (w : World) (hr : Rok w r) (hR : Rws w) (hK : Knd w) (hn1 : -9223372036854775808 ≤ r.c.n) (hn2 : r.c.n ≤ 9223372036854775807) :
    Calls Tryz.prog 4 #[.int .i64 n, .agg (rcs r).toArray] w fun e w' => e = .returned (.bool true) ∧ Below w.heap.size w w' := by
  obtain ⟨V, hV⟩ : ∃ V, V = w.alloc (.cells (rcs r).toArray 31) := ⟨_, rfl⟩
  have Q : Hid (Blk V w.heap.size (rcs r)) := by rw [hV]; exact blk_new w 31 (rcs r)
  have BV : Hid (Below w.heap.size w V) := by rw [hV]; exact (Below.refl _ _).alloc (Nat.le_refl _) _
  have HR := hide hr
  have HW := hide hR
  have HK := hide hK
  have HN1 := hide hn1
  have HN2 := hide hn2
  clear hr hR hK hn1 hn2
  go_enter Tryz.func4, Tryz.ntmps4
  go_upto_region 1 with fail
  rw [← hV]
  clear hV
  go_wp2_with fail
  refine (plain6_any _).mono ?_
  rintro e w1 ⟨rfl, hs1, hb⟩
  have SI1 := hide hs1
  have B1 : Hid (Below w.heap.size w w1) := BV.out.trans (hb.mono BV.out.size)
  have Q1 : Hid (Blk w1 w.heap.size (rcs r)) := Q.out.on hb
  obtain ⟨pb, hpb⟩ : ∃ pb, Hid (V.heap.size + 1 = pb) := ⟨_, rfl⟩
  rw [hpb.out] at SI1 ⊢
  clear hb hs1 Q BV hpb
  go_wp2_with fail
  refine (renc_any 3 (plainR pb) _ (plain_ok SI1.out) (HW.out.below B1.out (Nat.le_refl _)) (HK.out.below B1.out (Nat.le_refl _)) (by show (_ : Int) ≤ 0; omega) (by show (0 : Int) ≤ _; omega) (plain_chk pb)).mono ?_
  rintro e w2 ⟨u2, rfl, o2, hb⟩
  rw [recB_plain] at o2
  have B2 : Hid (Below w.heap.size w w2) := B1.out.trans (hb.mono B1.out.size)
  have Q2 : Hid (Blk w2 w.heap.size (rcs r)) := Q1.out.on hb
  obtain ⟨a2, c2, rfl, k2a, k2b, s2⟩ := seg_own o2
  have S2 : Hid (Seg w2 a2 10 [5, 8, 1, 0, 0, 1, 107, 3, 2, 10]) := s2
  rw [show ([5, 8, 1, 0, 0, 1, 107, 3, 2, 10] : List Int).length = 10 from rfl]
  clear o2 hb s2 k2a k2b Q1 B1 SI1
  go_wp2_with fail
  refine (form6_any _).mono ?_
  rintro e w3 ⟨rfl, hs, hb⟩
  have S3 := hide hs
  have T3 : Hid (Seg w3 a2 10 [5, 8, 1, 0, 0, 1, 107, 3, 2, 10]) := S2.out.below hb (Nat.le_refl _)
  have B3 : Hid (Below w.heap.size w w3) := B2.out.trans (hb.mono B2.out.size)
  have Q3 : Hid (Blk w3 w.heap.size (rcs r)) := Q2.out.on hb
  clear hs hb S2 B2 Q2
  go_wp2_with fail
  refine (same_any a2 _ _ _ _ _ [5, 8, 1, 0, 0, 1, 107, 3, 2, 10] [5, 8, 1, 0, 0, 1, 107, 3, 2, 10] _ T3.out S3.out).mono ?_
  rintro e w4 ⟨rfl, q4, hq4⟩
  rw [same_yes rfl]
  have B4 : Hid (Below w.heap.size w w4) := by rw [hq4]; exact ⟨B3.out.os, B3.out.tape, B3.out.output, B3.out.size, B3.out.block⟩
  have Q4 : Hid (Blk w4 w.heap.size (rcs r)) := by rw [hq4]; exact Q3.out.drewN _
  have z4 : w.heap.size < w4.heap.size := Q4.out.lt
  clear hq4 B3 Q3 S3 T3
  go_wp2_with fail
  refine (num6_any _ _).mono ?_
  rintro e w4' ⟨rfl, rfl⟩
  rcases Decidable.em (chkR n r = 0) with hz | hz
  · have HZ := hide hz
    clear hz
    go_wp2_with (first | (refine wpList_load_mid rfl 31 _ rfl w.heap.size 0 rfl (rcs r) _ (Q4.out.range) Tryz.underlying31 rfl (by kernel_rfl) ?_))
    refine (renc_any n r _ (HR.out.below B4.out (Nat.le_refl _)) (HW.out.below B4.out (Nat.le_refl _)) (HK.out.below B4.out (Nat.le_refl _)) HN1.out HN2.out HZ.out).mono ?_
    rintro e w5 ⟨u5, rfl, o5, hb⟩
    have B5 : Hid (Below w.heap.size w w5) := B4.out.trans (hb.mono B4.out.size)
    have Q5 : Hid (Blk w5 w.heap.size (rcs r)) := Q4.out.on hb
    obtain ⟨L, hL⟩ : ∃ L, Hid (recB r = L) := ⟨_, rfl⟩
    rw [hL.out] at o5
    obtain ⟨a5, c5, rfl, k5a, k5b, s5⟩ := seg_own o5
    have S5 := hide s5
    have z5 : w.heap.size < w5.heap.size := Q5.out.lt
    obtain ⟨m, hm⟩ : ∃ m, Hid (L.length = m) := ⟨_, rfl⟩
    rw [hm.out] at S5 ⊢
    clear o5 hb s5 k5a k5b Q4 B4 z4
    go_wp2_with (first | (refine wpList_load_mid rfl 31 _ rfl w.heap.size 0 rfl (rcs r) _ (Q5.out.range) Tryz.underlying31 rfl (by kernel_rfl) ?_))
    refine (ref6_yes n r _ (HR.out.below B5.out (Nat.le_refl _)) HN1.out HN2.out HZ.out).mono ?_
    rintro e w6 ⟨u6, rfl, o6, hb⟩
    have B6 : Hid (Below w.heap.size w w6) := B5.out.trans (hb.mono B5.out.size)
    have T5 : Hid (Seg w6 a5 m L) := S5.out.below hb (Nat.le_refl _)
    rw [hL.out] at o6
    obtain ⟨a6, c6, rfl, k6a, k6b, s6⟩ := seg_own o6
    have S6 := hide s6
    rw [hm.out] at S6 ⊢
    clear o6 hb s6 k6a k6b Q5 B5 z5 S5
    go_wp2_with fail
    refine (same_any a5 a6 _ _ _ _ L L _ T5.out S6.out).mono ?_
    rintro e w7 ⟨rfl, q7, hq7⟩
    rw [same_yes rfl]
    have B7 : Hid (Below w.heap.size w w7) := by rw [hq7]; exact ⟨B6.out.os, B6.out.tape, B6.out.output, B6.out.size, B6.out.block⟩
    clear hq7 B6
    go_wp2_with fail
    refine (num6_any _ _).mono ?_
    rintro e w7' ⟨rfl, rfl⟩
    go_wp2
    go_ret
    exact ⟨rfl, B7.out⟩
  · have HZ := hide hz
    obtain ⟨z, hzz⟩ : ∃ z, Hid (chkR n r = z) := ⟨_, rfl⟩
    clear hz
    go_wp2_with (first | (refine wpList_load_mid rfl 31 _ rfl w.heap.size 0 rfl (rcs r) _ (Q4.out.range) Tryz.underlying31 rfl (by kernel_rfl) ?_))
    refine (renc_no n r _ (HR.out.below B4.out (Nat.le_refl _)) (HW.out.below B4.out (Nat.le_refl _)) (HK.out.below B4.out (Nat.le_refl _)) HZ.out).mono ?_
    rintro e w5 ⟨rfl, hb⟩
    rw [hzz.out]
    have B5 : Hid (Below w.heap.size w w5) := B4.out.trans (hb.mono B4.out.size)
    have Q5 : Hid (Blk w5 w.heap.size (rcs r)) := Q4.out.on hb
    have z5 : w.heap.size < w5.heap.size := Q5.out.lt
    clear hb Q4 B4 z4
    go_wp2_with (first | (refine wpList_load_mid rfl 31 _ rfl w.heap.size 0 rfl (rcs r) _ (Q5.out.range) Tryz.underlying31 rfl (by kernel_rfl) ?_))
    refine (ref6_no n r _ (HR.out.below B5.out (Nat.le_refl _)) HZ.out).mono ?_
    rintro e w6 ⟨rfl, hb⟩
    rw [hzz.out]
    have B6 : Hid (Below w.heap.size w w6) := B5.out.trans (hb.mono B5.out.size)
    clear hb Q5 B5 z5
    go_wp2_with fail
    refine (same_any none none _ _ _ _ [] [] _ (seg_e6 _) (seg_e6 _)).mono ?_
    rintro e w7 ⟨rfl, q7, hq7⟩
    rw [same_yes rfl]
    have B7 : Hid (Below w.heap.size w w7) := by rw [hq7]; exact ⟨B6.out.os, B6.out.tape, B6.out.output, B6.out.size, B6.out.block⟩
    clear hq7 B6
    go_wp2_with fail
    refine (num6_any _ _).mono ?_
    rintro e w7' ⟨rfl, rfl⟩
    have hzz2 : (((z : Nat) : Int) == ((z : Nat) : Int)) = true := by simp
    go_wp2
    go_ret
    exact ⟨rfl, B7.out⟩

set_option maxRecDepth 100000 in
/-- For every argument and every world. -/
theorem contract (H : Type) (enc : TypeId × Value → H) (W : World) (base : Nat) (args : Array Value) (ds gs : List (DataW H)) (before : List MemPlace)
    (hval : ∀ (j : Nat) t v, Tryz.f4.params[j]? = some t → args[j]? = some v → Value.okWide Tryz.prog W .any base t v)
    (hW : DataW.Whole enc Tryz.prog Tryz.f4.params.toList Rows.recordEncodesSpec.vars false W args.toList ds gs before)
    (hsz : (DataW.weightsEach Tryz.prog (Tryz.f4.params.toList ++ (OpenSpec.ofChange Rows.recordEncodesSpec).bare.plain.varTypes Tryz.prog) (ds ++ gs)).all (· ≤ reachBytes) = true)
    (hL : laidMetH Tryz.prog Rows.recordEncodesRow.laid W) :
    Calls Tryz.prog 4 args W fun e W' => ∃ v, e = .returned v ∧ Rows.recordEncodesSpec.post enc Tryz.prog Tryz.f4 false true false false W args v W' := by
  have hW' := hW
  obtain ⟨p, q, hA0, hV, rfl, hfz, hnd⟩ := hW
  have hA : DataW.TrodAll enc Tryz.prog W 0 (fun _ => true) true Tryz.f4.params.toList args.toList ds p := hA0
  rw [Tryz.params4] at hA hval hsz
  obtain ⟨v0, vs0, d0, ds0, p0, q0, hargs, rfl, rfl, h0, tr0⟩ := trodAll_cons hA
  obtain ⟨v1, vs1, d1, ds1, p1, q1, rfl, rfl, rfl, h1, tr1⟩ := trodAll_cons tr0
  obtain ⟨rfl, rfl, rfl⟩ := trodAll_nil tr1
  obtain rfl : args = #[v0, v1] := by cases args; simp_all
  obtain ⟨rfl, rfl⟩ := trodVars_none hV
  obtain ⟨y0, rfl, rfl, rfl, w0⟩ := open_int Tryz.underlying3 (hval 0 3 v0 rfl rfl) h0
  have b0 := bounds_i64 w0
  have k1 := h1
  have lt1 : ∀ x ∈ p1, x.block < W.heap.size := by obtain ⟨m, hm⟩ := k1; exact DataW.trod_lt m _ _ _ hm
  obtain ⟨r1, dI1, dB1, dd1, rfl, hd1, hseg1, hcap1, b1⟩ := ropen_rec (hval 1 31 v1 rfl rfl) h1
  have sz1 := rsized hsz (j := 1) (r := r1) (dI := dI1) (dB := dB1) (dd := dd1) rfl (by rw [show d1 = _ from hd1]; rfl)
  clear hA0
  refine (walk y0 r1 W ⟨hseg1, sz1.1, sz1.2.1⟩ (rws_of_laid hL) (knd_of_laid hL) b1.cmd.2.2.2.1 b1.cmd.2.2.2.2).mono fun e W' ⟨he, bel⟩ => ?_
  subst he
  exact ⟨_, rfl, _, _, _, [], _, [], hW', trodAll_mk1 (shut_bool Tryz.underlying4 _), (trodAll_cons_mk (shut_int Tryz.underlying3 w0) (trodAll_cons_mk (Below.trod claid (by kernel_rfl) (of_decide_eq_true (by kernel_rfl)) k1 bel lt1) trodAll_mk0)), rfl, bel.frame _, fun h => by cases h⟩

theorem reads (os : Os) {H : Type} (enc : TypeId × Value → H) : ∃ places, DataW.whole enc Tryz.prog ((World.doorLaid Tryz.prog 400 os).forCall (fun _ _ => 0) ⟨#[], #[.int .i64 0, .agg #[.int .i64 0, .int .i64 0, .int .i64 0, .int .i64 0, .int .i64 0, .bool false, .int .i64 0, .int .i64 0, .int .i64 0, .string ⟨#[]⟩, .string ⟨#[]⟩, .string ⟨#[]⟩, .string ⟨#[]⟩, .int .i64 0, .int .i64 0, .slice none 0 0, .int .i64 0, .int .i64 0]], []⟩).memory Tryz.f4.params.toList Rows.recordEncodesSpec.vars false (#[Value.int .i64 0, .agg #[.int .i64 0, .int .i64 0, .int .i64 0, .int .i64 0, .int .i64 0, .bool false, .int .i64 0, .int .i64 0, .int .i64 0, .string ⟨#[]⟩, .string ⟨#[]⟩, .string ⟨#[]⟩, .string ⟨#[]⟩, .int .i64 0, .int .i64 0, .slice none 0 0, .int .i64 0, .int .i64 0]] : Array Value).toList 8 = some ([.lit (.int .i64 0), .agg [.lit (.int .i64 0), .agg [.lit (.int .i64 0), .lit (.int .i64 0)], .agg [.lit (.int .i64 0), .lit (.int .i64 0)], .lit (.bool false), .agg [.lit (.int .i64 0), .lit (.int .i64 0), .lit (.int .i64 0), .lit (.string []), .lit (.string []), .lit (.string []), .lit (.string []), .lit (.int .i64 0)], .lit (.int .i64 0), .nil, .lit (.int .i64 0), .lit (.int .i64 0)]], [], places) :=
  ⟨[], by kernel_rfl⟩

set_option maxRecDepth 100000 in
theorem lifted (os : Os) (started : os.Started) (H : Type) (enc : TypeId × Value → H) (F : Stop.Interp) :
    ReturnsInHanded {} Tryz.checked os 4 .any ((OpenSpec.ofChange Rows.recordEncodesSpec).preRow enc Tryz.prog Tryz.f4 Rows.recordEncodesRow.domain false Rows.recordEncodesRow.laid) (((OpenSpec.ofChange Rows.recordEncodesSpec).at F).post enc Tryz.prog Tryz.f4 false true false false) := by
  obtain ⟨places, hx⟩ := reads os enc
  refine returnsInHanded_of_row (C := Tryz.checked) (s := (OpenSpec.ofChange Rows.recordEncodesSpec)) cown started (by kernel_rfl) Tryz.func4
    (witness_row_atRef (enc := enc) (C := Tryz.checked) false (World.doorLaid Tryz.prog 400 os) #[.int .i64 0, .agg #[.int .i64 0, .int .i64 0, .int .i64 0, .int .i64 0, .int .i64 0, .bool false, .int .i64 0, .int .i64 0, .int .i64 0, .string ⟨#[]⟩, .string ⟨#[]⟩, .string ⟨#[]⟩, .string ⟨#[]⟩, .int .i64 0, .int .i64 0, .slice none 0 0, .int .i64 0, .int .i64 0]] rfl (by kernel_rfl) (by kernel_rfl) (by kernel_rfl)
      (OpenSpec.preRow_of_cond 8 hx (by kernel_rfl) (fun k hk => by cases hk) (by kernel_rfl) (door_met os _))) ?_
  intro W base args ds gs before hval hW _ hcond hsz hL _ _
  exact contract H enc W base args ds gs before hval hW hsz hL

theorem said : Rows.RecordEncodesSaid :=
  OpenClaim.holds_of_cond 4 Tryz.f4 rfl rfl rfl rfl rfl rfl rfl ⟨rfl, rfl, rfl, rfl, rfl⟩ rfl rfl rfl rfl rfl (by kernel_rfl) Tryz.func4 (by kernel_rfl)
    (of_decide_eq_true (by kernel_rfl)) (by unfold Func.isWrapper; first | (rw [if_pos (by decide +kernel)]; kernel_rfl) | (rw [if_neg (by decide +kernel)]; exact ⟨rfl, rfl⟩))
    (fun os started H enc _ F => by rw [OpenClaim.pre_eq_preRow]; exact lifted os started H enc F)

theorem plain (f : FuncId) (fn : Func) (hf : Tryz.pinned.checked.prog.funcNamed "moot/mootlaw6.RecordEncodes" = some f) (hfn : Tryz.pinned.checked.prog.funcs[f]? = some fn) :
    true = Tryz.pinned.checked.prog.looks [] ∧ ∀ (j : Nat) t, fn.params[j]? = some t → Tryz.pinned.checked.prog.wantsStandIn t = false := by
  obtain rfl : f = 4 := Option.some.inj ((show Tryz.prog.funcNamed "moot/mootlaw6.RecordEncodes" = some 4 by kernel_rfl).symm.trans hf) |>.symm
  obtain rfl : fn = Tryz.f4 := (Option.some.inj (Tryz.func4.symm.trans hfn)).symm
  refine ⟨by kernel_rfl, fun j t ht => ?_⟩
  rw [Tryz.params4] at ht
  have hm : t ∈ [3, 31] := by simpa using Array.mem_of_getElem? ht
  have hall : ([3, 31].all fun u => !Tryz.prog.wantsStandIn u) = true := by kernel_rfl
  exact (show Tryz.prog.wantsStandIn t = false by simpa using List.all_eq_true.1 hall t hm)

end recordEncodes
theorem recordEncodes_proved : Rows.RecordEncodesCardSaid :=
  Claim7.holds_tied_plain_at .later [] _ _ _ _ recordEncodes.said (fun _ h => by cases h) (by kernel_rfl) (fun _ h => by cases h) recordEncodes_row_tie rfl ⟨rfl, rfl⟩ (by kernel_rfl) rfl recordEncodes.plain (by kernel_rfl)
#print axioms recordEncodes_proved
end Go.Proofs.YtnogdjpbnhnmaaaGreatDoor
