/- Proved: for every version and command CommandEncodes answers true: Encode is what the document says. Condition: the table of kinds starts as the program's text lays it (the card ties it). -/
import Derived.Test.YtahaecnopeffhabDoorEEnc
import Derived.Test.YtahaecnopeffhabDoorEREnc
import Derived.Test.YtahaecnopeffhabDoorHNum
import Derived.Test.YtahaecnopeffhabDoorHPut
import Derived.Test.YtahaecnopeffhabDoorHLaid
import Derived.Test.YtahaecnopeffhabDoorCArgs
import Derived.Test.YtahaecnopeffhabDoorSame
import Derived.Test.YtahaecnopeffhabDoorTie
import Derived.Test.YtahaecnopeffhabDoorCards
import Derived.Deep.DeepHandedRow
import Derived.Deep.DeepWitnessRowRef
namespace Go.Proofs.YtahaecnopeffhabDoor
namespace commandEncodes
open Go.ChangeShapes Go.WideShapes Go.ChangeAt Go.RowKit Go.Wire1

def pk : Cm := ⟨2, 7, 300, ⟨#[107]⟩, ⟨#[]⟩, ⟨#[118, 119]⟩, ⟨#[]⟩, 0⟩
theorem pk0 : chk 1 pk = 0 := by decide +kernel
theorem pkE : encC pk = [2, 7, 172, 2, 1, 107, 2, 118, 119] := by decide +kernel
theorem seg9 (w : World) : Seg (w.alloc (.cells #[.int .u8 2, .int .u8 7, .int .u8 172, .int .u8 2, .int .u8 1, .int .u8 107, .int .u8 2, .int .u8 118, .int .u8 119] 5)) (some ⟨w.heap.size, 0, none⟩) 9 [2, 7, 172, 2, 1, 107, 2, 118, 119] := by
  refine ⟨rfl, by unfold maxLen; omega, fun _ => ⟨w.heap.size, 0, rfl, fun j hj => ?_⟩⟩
  rw [World.cell?_alloc_at _ _ _ _ rfl]
  rcases (by omega : j = 0 ∨ j = 1 ∨ j = 2 ∨ j = 3 ∨ j = 4 ∨ j = 5 ∨ j = 6 ∨ j = 7 ∨ j = 8) with rfl | rfl | rfl | rfl | rfl | rfl | rfl | rfl | rfl <;> rfl
theorem segE (w : World) (a : Option Addr) : Seg w a 0 [] := ⟨rfl, by unfold maxLen; omega, fun h => by omega⟩

set_option maxHeartbeats 2000000 in
set_option maxRecDepth 100000 in
theorem walk (v : Int) (c : Cm) (w : World) (hK : Knd w) (hk : c.key.size ≤ 140737488351232) (hk2 : c.key2.size ≤ 140737488351232) (hn1 : -9223372036854775808 ≤ c.n) (hn2 : c.n ≤ 9223372036854775807) :
    Calls Tryd.prog 5 #[.int .i64 v, .agg #[.int .i64 c.kind, .int .i64 c.client, .int .i64 c.req, .string c.key, .string c.key2, .string c.val, .string c.old, .int .i64 c.n]] w fun e w' => e = .returned (.bool true) ∧ Below w.heap.size w w' := by
  obtain ⟨V, hV⟩ : ∃ V, V = w.alloc (.cells #[.int .i64 c.kind, .int .i64 c.client, .int .i64 c.req, .string c.key, .string c.key2, .string c.val, .string c.old, .int .i64 c.n] 24) := ⟨_, rfl⟩
  have X : Hid (CBox V w.heap.size c.kind c.client c.req c.key c.key2 c.val c.old c.n) := by rw [hV]; exact cbox_new w 24 _ _ _ _ _ _ _ _
  have BV : Hid (Below w.heap.size w V) := by rw [hV]; exact (Below.refl _ _).alloc (Nat.le_refl _) _
  have hVs : w.heap.size ≤ V.heap.size := BV.out.size
  have HK : Hid (Knd V) := hK.below BV.out (Nat.le_refl _)
  have none' : Hid ((⟨#[]⟩ : ByteArray).size ≤ 140737488351232) := by show (0 : Nat) ≤ _; omega
  have one' : Hid ((⟨#[107]⟩ : ByteArray).size ≤ 140737488351232) := by show (1 : Nat) ≤ _; omega
  clear hK
  go_enter Tryd.func5, Tryd.ntmps5
  go_wp2_with fail
  rw [← hV]
  clear hV
  refine (put_any _ _).mono ?_
  rintro e w1 ⟨rfl, hb1⟩
  have B1 : Hid (Below V.heap.size V w1) := hb1
  have s1 : V.heap.size ≤ w1.heap.size := hb1.size
  clear hb1
  go_wp2_with fail
  refine (encode_any 1 pk _ (HK.out.below B1.out (Nat.le_refl _)) one'.out none'.out (by decide) (by decide) pk0).mono ?_
  rintro e w2 ⟨u2, rfl, o2, hb2⟩
  have B2 : Hid (Below V.heap.size V w2) := B1.out.trans (hb2.mono s1)
  have s2 : V.heap.size ≤ w2.heap.size := B2.out.size
  rw [pkE] at o2
  obtain ⟨a2, c2, hu2, _, _, S2⟩ := seg_own o2
  subst hu2
  have HS2 := hide S2
  clear hb2 B1 o2 S2
  go_wp2_with fail
  refine (same_any a2 _ 9 9 c2 9 [2, 7, 172, 2, 1, 107, 2, 118, 119] [2, 7, 172, 2, 1, 107, 2, 118, 119] _ (HS2.out.below ((Below.refl _ _).alloc (Nat.le_refl _) _) (Nat.le_refl _)) (seg9 w2)).mono ?_
  rintro e w3 ⟨rfl, q3, hq3⟩
  rw [same_yes rfl]
  have B3 : Hid (Below V.heap.size V w3) := by
    have h := B2.out.alloc s2 (.cells #[.int .u8 2, .int .u8 7, .int .u8 172, .int .u8 2, .int .u8 1, .int .u8 107, .int .u8 2, .int .u8 118, .int .u8 119] 5)
    rw [hq3]; exact ⟨h.os, h.tape, h.output, h.size, h.block⟩
  have s3 : V.heap.size ≤ w3.heap.size := B3.out.size
  clear hq3 B2
  go_wp2_with fail
  refine (num_any _ _).mono ?_
  rintro e w3' ⟨rfl, rfl⟩
  obtain ⟨x0, x1, x2, x3, x4, x5, x6, x7⟩ := X.out.below B3.out (Nat.le_refl _)
  by_cases hz : chk v c = 0
  · have HZ := hide hz
    clear hz
    go_wp2_with fail
    refine (encode_any v c _ (HK.out.below B3.out (Nat.le_refl _)) hk hk2 hn1 hn2 HZ.out).mono ?_
    rintro e w4 ⟨u4, rfl, o4, hb4⟩
    have B4 : Hid (Below V.heap.size V w4) := B3.out.trans (hb4.mono s3)
    have s4 : V.heap.size ≤ w4.heap.size := B4.out.size
    have O4 := hide o4
    clear hb4 B3 o4 x0 x1 x2 x3 x4 x5 x6 x7
    obtain ⟨x0, x1, x2, x3, x4, x5, x6, x7⟩ := X.out.below B4.out (Nat.le_refl _)
    go_wp2_with fail
    refine (rencode_any v c _ hk hk2 hn1 hn2 HZ.out).mono ?_
    rintro e w5 ⟨u5, rfl, o5, hb5⟩
    have B5 : Hid (Below V.heap.size V w5) := B4.out.trans (hb5.mono s4)
    obtain ⟨a5, c5, hu5, _, _, S5⟩ := seg_own o5
    obtain ⟨a4, c4, hu4, _, _, S4⟩ := seg_own (own_below O4.out hb5 (Nat.le_refl _))
    subst hu5 hu4
    have HS5 := hide S5
    have HS4 := hide S4
    clear hb5 B4 o5 O4 x0 x1 x2 x3 x4 x5 x6 x7 S5 S4
    generalize (encC c).length = m at *
    go_wp2_with fail
    refine (same_any a4 a5 m m c4 c5 (encC c) (encC c) _ HS4.out HS5.out).mono ?_
    rintro e w6 ⟨rfl, q6, hq6⟩
    rw [same_yes rfl]
    have B6 : Hid (Below V.heap.size V w6) := by rw [hq6]; exact ⟨B5.out.os, B5.out.tape, B5.out.output, B5.out.size, B5.out.block⟩
    clear hq6 B5
    go_wp2_with fail
    refine (num_any _ _).mono ?_
    rintro e w6' ⟨rfl, rfl⟩
    go_wp2
    go_ret
    exact ⟨rfl, BV.out.trans (B6.out.mono hVs)⟩
  · go_wp2_with fail
    refine (encode_no v c _ (HK.out.below B3.out (Nat.le_refl _)) hk hk2 hz).mono ?_
    rintro e w4 ⟨rfl, hb4⟩
    have B4 : Hid (Below V.heap.size V w4) := B3.out.trans (hb4.mono s3)
    have s4 : V.heap.size ≤ w4.heap.size := B4.out.size
    clear hb4 B3 x0 x1 x2 x3 x4 x5 x6 x7
    obtain ⟨x0, x1, x2, x3, x4, x5, x6, x7⟩ := X.out.below B4.out (Nat.le_refl _)
    go_wp2_with fail
    refine (rencode_no v c _ hz).mono ?_
    rintro e w5 ⟨rfl, hb5⟩
    have B5 : Hid (Below V.heap.size V w5) := B4.out.trans (hb5.mono s4)
    clear hb5 B4 x0 x1 x2 x3 x4 x5 x6 x7 hz
    generalize chk v c = z at *
    go_wp2_with fail
    refine (same_any none none 0 0 0 0 [] [] _ (segE _ _) (segE _ _)).mono ?_
    rintro e w6 ⟨rfl, q6, hq6⟩
    rw [same_yes rfl]
    have B6 : Hid (Below V.heap.size V w6) := by rw [hq6]; exact ⟨B5.out.os, B5.out.tape, B5.out.output, B5.out.size, B5.out.block⟩
    clear hq6 B5
    go_wp2_with fail
    refine (num_any _ _).mono ?_
    rintro e w6' ⟨rfl, rfl⟩
    have hzz : (((z : Nat) : Int) == ((z : Nat) : Int)) = true := by simp
    go_wp2
    go_ret
    exact ⟨by first | rfl | (show Ending.returned (.bool (((z : Nat) : Int) == ((z : Nat) : Int))) = _; rw [hzz]), BV.out.trans (B6.out.mono hVs)⟩

set_option maxRecDepth 100000 in
/-- For every argument and every world. -/
theorem contract (H : Type) (enc : TypeId × Value → H) (W : World) (base : Nat) (args : Array Value) (ds gs : List (DataW H)) (before : List MemPlace)
    (hval : ∀ (j : Nat) t v, Tryd.f5.params[j]? = some t → args[j]? = some v → Value.okWide Tryd.prog W .any base t v)
    (hW : DataW.Whole enc Tryd.prog Tryd.f5.params.toList Rows.commandEncodesSpec.vars false W args.toList ds gs before)
    (hsz : (DataW.weightsEach Tryd.prog (Tryd.f5.params.toList ++ (OpenSpec.ofChange Rows.commandEncodesSpec).bare.plain.varTypes Tryd.prog) (ds ++ gs)).all (· ≤ reachBytes) = true)
    (hL : laidMetH Tryd.prog Rows.commandEncodesRow.laid W) :
    Calls Tryd.prog 5 args W fun e W' => ∃ v, e = .returned v ∧ Rows.commandEncodesSpec.post enc Tryd.prog Tryd.f5 false true false false W args v W' := by
  have hW' := hW
  obtain ⟨p, q, hA0, hV, rfl, hfz, hnd⟩ := hW
  have hA : DataW.TrodAll enc Tryd.prog W 0 (fun _ => true) true Tryd.f5.params.toList args.toList ds p := hA0
  rw [Tryd.params5] at hA hval hsz
  obtain ⟨v0, vs0, d0, ds0, p0, q0, hargs, rfl, rfl, h0, r0⟩ := trodAll_cons hA
  obtain ⟨v1, vs1, d1, ds1, p1, q1, rfl, rfl, rfl, h1, r1⟩ := trodAll_cons r0
  obtain ⟨rfl, rfl, rfl⟩ := trodAll_nil r1
  obtain rfl : args = #[v0, v1] := by cases args; simp_all
  obtain ⟨rfl, rfl⟩ := trodVars_none hV
  obtain ⟨y0, rfl, rfl, rfl, w0⟩ := open_int Tryd.underlying3 (hval 0 3 v0 rfl rfl) h0
  have b0 := bounds_i64 w0
  have k1 := h1
  have lt1 : ∀ x ∈ p1, x.block < W.heap.size := by obtain ⟨m, hm⟩ := k1; exact DataW.trod_lt m _ _ _ hm
  obtain ⟨kd1, cl1, rq1, ka1, kb1, va1, ol1, nn1, rfl, hd1, b1⟩ := copen_cmd (hval 1 24 v1 rfl rfl) h1
  have sz1 := csized hsz (j := 1) (kind := kd1) (client := cl1) (req := rq1) (key := ka1) (key2 := kb1) (val := va1) (old := ol1) (n := nn1) rfl (by rw [show d1 = _ from hd1]; rfl)
  clear hA0
  refine (walk y0 ⟨kd1, cl1, rq1, ka1, kb1, va1, ol1, nn1⟩ W (knd_of_laid hL) sz1.1 sz1.2.1 b1.2.2.2.1 b1.2.2.2.2).mono fun e W' ⟨he, bel⟩ => ?_
  subst he
  exact ⟨_, rfl, _, _, _, [], _, [], hW', trodAll_mk1 (shut_bool Tryd.underlying4 _), (trodAll_cons_mk (shut_int Tryd.underlying3 w0) (trodAll_cons_mk (Below.trod claid (by kernel_rfl) (of_decide_eq_true (by kernel_rfl)) k1 bel lt1) trodAll_mk0)), rfl, bel.frame _, fun h => by cases h⟩

theorem reads (os : Os) {H : Type} (enc : TypeId × Value → H) : ∃ places, DataW.whole enc Tryd.prog ((World.doorLaid Tryd.prog 400 os).forCall (fun _ _ => 0) ⟨#[], #[.int .i64 0, .agg #[.int .i64 0, .int .i64 0, .int .i64 0, .string ⟨#[]⟩, .string ⟨#[]⟩, .string ⟨#[]⟩, .string ⟨#[]⟩, .int .i64 0]], []⟩).memory Tryd.f5.params.toList Rows.commandEncodesSpec.vars false (#[Value.int .i64 0, .agg #[.int .i64 0, .int .i64 0, .int .i64 0, .string ⟨#[]⟩, .string ⟨#[]⟩, .string ⟨#[]⟩, .string ⟨#[]⟩, .int .i64 0]] : Array Value).toList 8 = some ([.lit (.int .i64 0), .agg [.lit (.int .i64 0), .lit (.int .i64 0), .lit (.int .i64 0), .lit (.string []), .lit (.string []), .lit (.string []), .lit (.string []), .lit (.int .i64 0)]], [], places) :=
  ⟨[], by kernel_rfl⟩

set_option maxRecDepth 100000 in
theorem lifted (os : Os) (started : os.Started) (H : Type) (enc : TypeId × Value → H) (F : Stop.Interp) :
    ReturnsInHanded {} Tryd.checked os 5 .any ((OpenSpec.ofChange Rows.commandEncodesSpec).preRow enc Tryd.prog Tryd.f5 Rows.commandEncodesRow.domain false Rows.commandEncodesRow.laid) (((OpenSpec.ofChange Rows.commandEncodesSpec).at F).post enc Tryd.prog Tryd.f5 false true false false) := by
  obtain ⟨places, hx⟩ := reads os enc
  refine returnsInHanded_of_row (C := Tryd.checked) (s := (OpenSpec.ofChange Rows.commandEncodesSpec)) cown started (by kernel_rfl) Tryd.func5
    (witness_row_atRef (enc := enc) (C := Tryd.checked) false (World.doorLaid Tryd.prog 400 os) #[.int .i64 0, .agg #[.int .i64 0, .int .i64 0, .int .i64 0, .string ⟨#[]⟩, .string ⟨#[]⟩, .string ⟨#[]⟩, .string ⟨#[]⟩, .int .i64 0]] rfl (by kernel_rfl) (by kernel_rfl) (by kernel_rfl)
      (OpenSpec.preRow_of_cond 8 hx (by kernel_rfl) (fun k hk => by cases hk) (by kernel_rfl) (door_met os _))) ?_
  intro W base args ds gs before hval hW _ hcond hsz hL _ _
  exact contract H enc W base args ds gs before hval hW hsz hL

theorem said : Rows.CommandEncodesSaid :=
  OpenClaim.holds_of_cond 5 Tryd.f5 rfl rfl rfl rfl rfl rfl rfl ⟨rfl, rfl, rfl, rfl, rfl⟩ rfl rfl rfl rfl rfl (by kernel_rfl) Tryd.func5 (by kernel_rfl)
    (of_decide_eq_true (by kernel_rfl)) (by unfold Func.isWrapper; first | (rw [if_pos (by decide +kernel)]; kernel_rfl) | (rw [if_neg (by decide +kernel)]; exact ⟨rfl, rfl⟩))
    (fun os started H enc _ F => by rw [OpenClaim.pre_eq_preRow]; exact lifted os started H enc F)

theorem plain (f : FuncId) (fn : Func) (hf : Tryd.pinned.checked.prog.funcNamed "moot/mootlaw4.CommandEncodes" = some f) (hfn : Tryd.pinned.checked.prog.funcs[f]? = some fn) :
    true = Tryd.pinned.checked.prog.looks [] ∧ ∀ (j : Nat) t, fn.params[j]? = some t → Tryd.pinned.checked.prog.wantsStandIn t = false := by
  obtain rfl : f = 5 := Option.some.inj ((show Tryd.prog.funcNamed "moot/mootlaw4.CommandEncodes" = some 5 by kernel_rfl).symm.trans hf) |>.symm
  obtain rfl : fn = Tryd.f5 := (Option.some.inj (Tryd.func5.symm.trans hfn)).symm
  refine ⟨by kernel_rfl, fun j t ht => ?_⟩
  rw [Tryd.params5] at ht
  have hm : t ∈ [3, 24] := by simpa using Array.mem_of_getElem? ht
  have hall : ([3, 24].all fun u => !Tryd.prog.wantsStandIn u) = true := by kernel_rfl
  exact (show Tryd.prog.wantsStandIn t = false by simpa using List.all_eq_true.1 hall t hm)

end commandEncodes
theorem commandEncodes_proved : Rows.CommandEncodesCardSaid :=
  Claim7.holds_tied_plain_at .later [] _ _ _ _ commandEncodes.said (fun _ h => by cases h) (by kernel_rfl) (fun _ h => by cases h) commandEncodes_row_tie rfl ⟨rfl, rfl⟩ (by kernel_rfl) rfl commandEncodes.plain (by kernel_rfl)
#print axioms commandEncodes_proved
end Go.Proofs.YtahaecnopeffhabDoor
