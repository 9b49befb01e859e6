/- Proved: for every command CommandNewer answers true: what version 1 takes version 2 takes with the same bytes, and the other way round but for newer kinds and longer values. Condition: the table of kinds starts as the program's text lays it (the card ties it). -/
import Derived.Test.YtahaecnopeffhaaDoorEEnc
import Derived.Test.YtahaecnopeffhaaDoorNwMath
import Derived.Test.YtahaecnopeffhaaDoorHNum
import Derived.Test.YtahaecnopeffhaaDoorHPut
import Derived.Test.YtahaecnopeffhaaDoorHLaid
import Derived.Test.YtahaecnopeffhaaDoorCArgs
import Derived.Test.YtahaecnopeffhaaDoorSame
import Derived.Test.YtahaecnopeffhaaDoorTie
import Derived.Test.YtahaecnopeffhaaDoorCards
import Derived.Deep.DeepHandedRow
import Derived.Deep.DeepWitnessRowRef
namespace Go.Proofs.YtahaecnopeffhaaDoor
namespace commandNewer
open Go.ChangeShapes Go.WideShapes Go.ChangeAt Go.RowKit Go.Wire1

theorem k1 : chk 1 ⟨2, 7, 300, ⟨#[107]⟩, ⟨#[]⟩, ⟨#[118, 119]⟩, ⟨#[]⟩, 0⟩ = 0 := by decide +kernel
theorem k2 : chk 1 ⟨6, 0, 0, ⟨#[107]⟩, ⟨#[108]⟩, ⟨#[]⟩, ⟨#[]⟩, 0⟩ = 41 := by decide +kernel
theorem k3 : chk 2 ⟨6, 0, 0, ⟨#[107]⟩, ⟨#[108]⟩, ⟨#[]⟩, ⟨#[]⟩, 0⟩ = 0 := by decide +kernel


set_option maxHeartbeats 4000000 in
set_option maxRecDepth 100000 in
theorem walk (c : Cm) (w : World) (hK : Knd w) (hk : c.key.size ≤ 140737488351232) (hk2 : c.key2.size ≤ 140737488351232) (hn1 : -9223372036854775808 ≤ c.n) (hn2 : c.n ≤ 9223372036854775807) :
    Calls Tryd.prog 3 #[.agg #[.int .i64 c.kind, .int .i64 c.client, .int .i64 c.req, .string c.key, .string c.key2, .string c.val, .string c.old, .int .i64 c.n]] w fun e w' => e = .returned (.bool true) ∧ Below w.heap.size w w' := by
  obtain ⟨V, hV⟩ : ∃ V, V = w.alloc (.cells #[.int .i64 c.kind, .int .i64 c.client, .int .i64 c.req, .string c.key, .string c.key2, .string c.val, .string c.old, .int .i64 c.n] 23) := ⟨_, rfl⟩
  have X : Hid (CBox V w.heap.size c.kind c.client c.req c.key c.key2 c.val c.old c.n) := by rw [hV]; exact cbox_new w 23 _ _ _ _ _ _ _ _
  have BV : Hid (Below w.heap.size w V) := by rw [hV]; exact (Below.refl _ _).alloc (Nat.le_refl _) _
  have hVs : w.heap.size ≤ V.heap.size := BV.out.size
  have HK : Hid (Knd V) := hK.below BV.out (Nat.le_refl _)
  have none' : Hid ((⟨#[]⟩ : ByteArray).size ≤ 140737488351232) := by show (0 : Nat) ≤ _; omega
  have one' : Hid ((⟨#[107]⟩ : ByteArray).size ≤ 140737488351232) := by show (1 : Nat) ≤ _; omega
  have two' : Hid ((⟨#[108]⟩ : ByteArray).size ≤ 140737488351232) := by show (1 : Nat) ≤ _; omega
  clear hK
  go_enter Tryd.func3, Tryd.ntmps3
  go_wp2_with fail
  rw [← hV]
  clear hV
  refine (put_any _ _).mono ?_
  rintro e w1 ⟨rfl, hb1⟩
  have B1 : Hid (Below V.heap.size V w1) := hb1
  have s1 : V.heap.size ≤ w1.heap.size := hb1.size
  clear hb1
  go_wp2_with fail
  refine (check_any 1 ⟨2, 7, 300, ⟨#[107]⟩, ⟨#[]⟩, ⟨#[118, 119]⟩, ⟨#[]⟩, 0⟩ _ (HK.out.below B1.out (Nat.le_refl _)) one'.out none'.out).mono ?_
  rintro e w2 ⟨rfl, hb2⟩
  rw [k1]
  have B2 : Hid (Below V.heap.size V w2) := B1.out.trans (hb2.mono s1)
  have s2 : V.heap.size ≤ w2.heap.size := B2.out.size
  clear hb2 B1
  go_wp2_with fail
  refine (check_any 1 ⟨6, 0, 0, ⟨#[107]⟩, ⟨#[108]⟩, ⟨#[]⟩, ⟨#[]⟩, 0⟩ _ (HK.out.below B2.out (Nat.le_refl _)) one'.out two'.out).mono ?_
  rintro e w3 ⟨rfl, hb3⟩
  rw [k2]
  have B3 : Hid (Below V.heap.size V w3) := B2.out.trans (hb3.mono s2)
  have s3 : V.heap.size ≤ w3.heap.size := B3.out.size
  clear hb3 B2
  go_wp2_with fail
  refine (check_any 2 ⟨6, 0, 0, ⟨#[107]⟩, ⟨#[108]⟩, ⟨#[]⟩, ⟨#[]⟩, 0⟩ _ (HK.out.below B3.out (Nat.le_refl _)) one'.out two'.out).mono ?_
  rintro e w4 ⟨rfl, hb4⟩
  rw [k3]
  have B4 : Hid (Below V.heap.size V w4) := B3.out.trans (hb4.mono s3)
  have s4 : V.heap.size ≤ w4.heap.size := B4.out.size
  clear hb4 B3
  go_wp2_with fail
  refine (num_any _ _).mono ?_
  rintro e w4' ⟨rfl, rfl⟩
  go_wp2_with fail
  refine (num_any _ _).mono ?_
  rintro e w4' ⟨rfl, rfl⟩
  go_wp2_with fail
  refine (num_any _ _).mono ?_
  rintro e w4' ⟨rfl, rfl⟩
  obtain ⟨x0, x1, x2, x3, x4, x5, x6, x7⟩ := X.out.below B4.out (Nat.le_refl _)
  go_wp2_with fail
  refine (check_any 1 c _ (HK.out.below B4.out (Nat.le_refl _)) hk hk2).mono ?_
  rintro e w5 ⟨rfl, hb5⟩
  have B5 : Hid (Below V.heap.size V w5) := B4.out.trans (hb5.mono s4)
  have s5 : V.heap.size ≤ w5.heap.size := B5.out.size
  clear hb5 B4 x0 x1 x2 x3 x4 x5 x6 x7
  obtain ⟨x0, x1, x2, x3, x4, x5, x6, x7⟩ := X.out.below B5.out (Nat.le_refl _)
  go_wp2_with fail
  refine (check_any 2 c _ (HK.out.below B5.out (Nat.le_refl _)) hk hk2).mono ?_
  rintro e w6 ⟨rfl, hb6⟩
  have B6 : Hid (Below V.heap.size V w6) := B5.out.trans (hb6.mono s5)
  have s6 : V.heap.size ≤ w6.heap.size := B6.out.size
  clear hb6 B5 x0 x1 x2 x3 x4 x5 x6 x7
  obtain ⟨x0, x1, x2, x3, x4, x5, x6, x7⟩ := X.out.below B6.out (Nat.le_refl _)
  have HN := hide (newer c)
  by_cases hz : chk 1 c = 0
  · obtain ⟨hz2, ho⟩ := HN.out.1 hz
    simp only [isOld, Bool.and_eq_true, decide_eq_true_eq] at ho
    obtain ⟨q1, q2, q3⟩ := ho
    have HZ1 := hide hz
    have HZ2 := hide hz2
    rw [hz, hz2]
    clear hz hz2
    have d2 : decide ((c.val.size : Int) ≤ 1024) = true := decide_eq_true (by omega)
    have d3 : decide ((c.old.size : Int) ≤ 1024) = true := decide_eq_true (by omega)
    go_wp2_with fail
    refine (num_any _ _).mono ?_
    rintro e w6' ⟨rfl, rfl⟩
    go_wp2_with fail
    refine (num_any _ _).mono ?_
    rintro e w6' ⟨rfl, rfl⟩
    go_wp2_with fail
    refine (num_any _ _).mono ?_
    rintro e w6' ⟨rfl, rfl⟩
    go_wp2_with fail
    refine (encode_any 1 c _ (HK.out.below B6.out (Nat.le_refl _)) hk hk2 hn1 hn2 HZ1.out).mono ?_
    rintro e w7 ⟨u7, rfl, o7, hb7⟩
    have B7 : Hid (Below V.heap.size V w7) := B6.out.trans (hb7.mono s6)
    have s7 : V.heap.size ≤ w7.heap.size := B7.out.size
    have O7 := hide o7
    clear hb7 B6 o7 x0 x1 x2 x3 x4 x5 x6 x7
    obtain ⟨x0, x1, x2, x3, x4, x5, x6, x7⟩ := X.out.below B7.out (Nat.le_refl _)
    go_wp2_with fail
    refine (encode_any 2 c _ (HK.out.below B7.out (Nat.le_refl _)) hk hk2 hn1 hn2 HZ2.out).mono ?_
    rintro e w8 ⟨u8, rfl, o8, hb8⟩
    have B8 : Hid (Below V.heap.size V w8) := B7.out.trans (hb8.mono s7)
    have s8 : V.heap.size ≤ w8.heap.size := B8.out.size
    obtain ⟨a8, c8, hu8, _, _, S8⟩ := seg_own o8
    obtain ⟨a7, c7, hu7, _, _, S7⟩ := seg_own (own_below O7.out hb8 (Nat.le_refl _))
    subst hu8 hu7
    have HS8 := hide S8
    have HS7 := hide S7
    clear hb8 B7 o8 O7 x0 x1 x2 x3 x4 x5 x6 x7 S8 S7
    generalize (encC c).length = m at *
    go_wp2_with fail
    refine (same_any a7 a8 m m c7 c8 (encC c) (encC c) _ HS7.out HS8.out).mono ?_
    rintro e w9 ⟨rfl, q9, hq9⟩
    rw [same_yes rfl]
    have B9 : Hid (Below V.heap.size V w9) := by rw [hq9]; exact ⟨B8.out.os, B8.out.tape, B8.out.output, B8.out.size, B8.out.block⟩
    clear hq9 B8
    go_wp2_with fail
    refine (num_any _ _).mono ?_
    rintro e w6' ⟨rfl, rfl⟩
    go_wp2_with fail
    refine (num_any _ _).mono ?_
    rintro e w6' ⟨rfl, rfl⟩
    go_wp2
    go_ret
    exact ⟨rfl, BV.out.trans (B9.out.mono hVs)⟩
  · have hno : chk 2 c = 0 → isOld c = false := fun h2 => by
      cases h : isOld c with
      | false => rfl
      | true => exact absurd (HN.out.2 ⟨h2, h⟩) hz
    obtain ⟨z1, e1⟩ : ∃ z, Hid (chk 1 c = z) := ⟨_, rfl⟩
    obtain ⟨z2, e2⟩ : ∃ z, Hid (chk 2 c = z) := ⟨_, rfl⟩
    rw [e1.out] at hz
    rw [e2.out] at hno
    rw [e1.out, e2.out]
    have g1 : (((z1 : Nat) : Int) == 0) = false := by rw [beq_eq_false_iff_ne]; omega
    have g1' : (((z1 : Nat) : Int) != 0) = true := by rw [bne_iff_ne]; omega
    have HO := hide hno
    clear hno hz HN e1 e2
    by_cases q1 : c.kind ≤ 5
    · by_cases q2 : c.val.size ≤ 1024
      · by_cases q3 : c.old.size ≤ 1024
        · by_cases hz2 : z2 = 0
          · exact absurd (HO.out hz2) (by simp [isOld, q1, q2, q3])
          · have g2 : (((z2 : Nat) : Int) == 0) = false := by rw [beq_eq_false_iff_ne]; omega
            clear hz2
            go_wp2_with fail
            refine (num_any _ _).mono ?_
            rintro e w6' ⟨rfl, rfl⟩
            go_wp2_with fail
            refine (num_any _ _).mono ?_
            rintro e w6' ⟨rfl, rfl⟩
            go_wp2_with fail
            refine (num_any _ _).mono ?_
            rintro e w6' ⟨rfl, rfl⟩
            go_wp2
            go_ret
            exact ⟨rfl, BV.out.trans (B6.out.mono hVs)⟩
        · have d3 : decide ((c.old.size : Int) ≤ 1024) = false := decide_eq_false (by omega)
          by_cases hz2 : z2 = 0
          · subst hz2
            go_wp2_with fail
            refine (num_any _ _).mono ?_
            rintro e w6' ⟨rfl, rfl⟩
            go_wp2_with fail
            refine (num_any _ _).mono ?_
            rintro e w6' ⟨rfl, rfl⟩
            go_wp2_with fail
            refine (num_any _ _).mono ?_
            rintro e w6' ⟨rfl, rfl⟩
            go_wp2
            go_ret
            exact ⟨rfl, BV.out.trans (B6.out.mono hVs)⟩
          · have g2 : (((z2 : Nat) : Int) == 0) = false := by rw [beq_eq_false_iff_ne]; omega
            clear hz2
            go_wp2_with fail
            refine (num_any _ _).mono ?_
            rintro e w6' ⟨rfl, rfl⟩
            go_wp2_with fail
            refine (num_any _ _).mono ?_
            rintro e w6' ⟨rfl, rfl⟩
            go_wp2_with fail
            refine (num_any _ _).mono ?_
            rintro e w6' ⟨rfl, rfl⟩
            go_wp2
            go_ret
            exact ⟨rfl, BV.out.trans (B6.out.mono hVs)⟩
      · have d2 : decide ((c.val.size : Int) ≤ 1024) = false := decide_eq_false (by omega)
        by_cases hz2 : z2 = 0
        · subst hz2
          go_wp2_with fail
          refine (num_any _ _).mono ?_
          rintro e w6' ⟨rfl, rfl⟩
          go_wp2_with fail
          refine (num_any _ _).mono ?_
          rintro e w6' ⟨rfl, rfl⟩
          go_wp2_with fail
          refine (num_any _ _).mono ?_
          rintro e w6' ⟨rfl, rfl⟩
          go_wp2
          go_ret
          exact ⟨rfl, BV.out.trans (B6.out.mono hVs)⟩
        · have g2 : (((z2 : Nat) : Int) == 0) = false := by rw [beq_eq_false_iff_ne]; omega
          clear hz2
          go_wp2_with fail
          refine (num_any _ _).mono ?_
          rintro e w6' ⟨rfl, rfl⟩
          go_wp2_with fail
          refine (num_any _ _).mono ?_
          rintro e w6' ⟨rfl, rfl⟩
          go_wp2_with fail
          refine (num_any _ _).mono ?_
          rintro e w6' ⟨rfl, rfl⟩
          go_wp2
          go_ret
          exact ⟨rfl, BV.out.trans (B6.out.mono hVs)⟩
    · have d1 : decide (c.kind ≤ 5) = false := decide_eq_false q1
      by_cases hz2 : z2 = 0
      · subst hz2
        go_wp2_with fail
        refine (num_any _ _).mono ?_
        rintro e w6' ⟨rfl, rfl⟩
        go_wp2_with fail
        refine (num_any _ _).mono ?_
        rintro e w6' ⟨rfl, rfl⟩
        go_wp2_with fail
        refine (num_any _ _).mono ?_
        rintro e w6' ⟨rfl, rfl⟩
        go_wp2
        go_ret
        exact ⟨rfl, BV.out.trans (B6.out.mono hVs)⟩
      · have g2 : (((z2 : Nat) : Int) == 0) = false := by rw [beq_eq_false_iff_ne]; omega
        clear hz2
        go_wp2_with fail
        refine (num_any _ _).mono ?_
        rintro e w6' ⟨rfl, rfl⟩
        go_wp2_with fail
        refine (num_any _ _).mono ?_
        rintro e w6' ⟨rfl, rfl⟩
        go_wp2_with fail
        refine (num_any _ _).mono ?_
        rintro e w6' ⟨rfl, rfl⟩
        go_wp2
        go_ret
        exact ⟨rfl, BV.out.trans (B6.out.mono hVs)⟩

set_option maxRecDepth 100000 in
/-- For every argument and every world. -/
theorem contract (H : Type) (enc : TypeId × Value → H) (W : World) (base : Nat) (args : Array Value) (ds gs : List (DataW H)) (before : List MemPlace)
    (hval : ∀ (j : Nat) t v, Tryd.f3.params[j]? = some t → args[j]? = some v → Value.okWide Tryd.prog W .any base t v)
    (hW : DataW.Whole enc Tryd.prog Tryd.f3.params.toList Rows.commandNewerSpec.vars false W args.toList ds gs before)
    (hsz : (DataW.weightsEach Tryd.prog (Tryd.f3.params.toList ++ (OpenSpec.ofChange Rows.commandNewerSpec).bare.plain.varTypes Tryd.prog) (ds ++ gs)).all (· ≤ reachBytes) = true)
    (hL : laidMetH Tryd.prog Rows.commandNewerRow.laid W) :
    Calls Tryd.prog 3 args W fun e W' => ∃ v, e = .returned v ∧ Rows.commandNewerSpec.post enc Tryd.prog Tryd.f3 false true false false W args v W' := by
  have hW' := hW
  obtain ⟨p, q, hA0, hV, rfl, hfz, hnd⟩ := hW
  have hA : DataW.TrodAll enc Tryd.prog W 0 (fun _ => true) true Tryd.f3.params.toList args.toList ds p := hA0
  rw [Tryd.params3] at hA hval hsz
  obtain ⟨v0, vs0, d0, ds0, p0, q0, hargs, rfl, rfl, h0, r0⟩ := trodAll_cons hA
  obtain ⟨rfl, rfl, rfl⟩ := trodAll_nil r0
  obtain rfl : args = #[v0] := by cases args; simp_all
  obtain ⟨rfl, rfl⟩ := trodVars_none hV
  have k0 := h0
  have lt0 : ∀ x ∈ p0, x.block < W.heap.size := by obtain ⟨m, hm⟩ := k0; exact DataW.trod_lt m _ _ _ hm
  obtain ⟨kd0, cl0, rq0, ka0, kb0, va0, ol0, nn0, rfl, hd0, b0⟩ := copen_cmd (hval 0 23 v0 rfl rfl) h0
  have sz0 := csized hsz (j := 0) (kind := kd0) (client := cl0) (req := rq0) (key := ka0) (key2 := kb0) (val := va0) (old := ol0) (n := nn0) rfl (by rw [show d0 = _ from hd0]; rfl)
  clear hA0
  refine (walk ⟨kd0, cl0, rq0, ka0, kb0, va0, ol0, nn0⟩ W (knd_of_laid hL) sz0.1 sz0.2.1 b0.2.2.2.1 b0.2.2.2.2).mono fun e W' ⟨he, bel⟩ => ?_
  subst he
  exact ⟨_, rfl, _, _, _, [], _, [], hW', trodAll_mk1 (shut_bool Tryd.underlying4 _), (trodAll_cons_mk (Below.trod claid (by kernel_rfl) (of_decide_eq_true (by kernel_rfl)) k0 bel lt0) trodAll_mk0), rfl, bel.frame _, fun h => by cases h⟩

theorem reads (os : Os) {H : Type} (enc : TypeId × Value → H) : ∃ places, DataW.whole enc Tryd.prog ((World.doorLaid Tryd.prog 104 os).forCall (fun _ _ => 0) ⟨#[], #[.agg #[.int .i64 0, .int .i64 0, .int .i64 0, .string ⟨#[]⟩, .string ⟨#[]⟩, .string ⟨#[]⟩, .string ⟨#[]⟩, .int .i64 0]], []⟩).memory Tryd.f3.params.toList Rows.commandNewerSpec.vars false (#[Value.agg #[.int .i64 0, .int .i64 0, .int .i64 0, .string ⟨#[]⟩, .string ⟨#[]⟩, .string ⟨#[]⟩, .string ⟨#[]⟩, .int .i64 0]] : Array Value).toList 8 = some ([.agg [.lit (.int .i64 0), .lit (.int .i64 0), .lit (.int .i64 0), .lit (.string []), .lit (.string []), .lit (.string []), .lit (.string []), .lit (.int .i64 0)]], [], places) :=
  ⟨[], by kernel_rfl⟩

set_option maxRecDepth 100000 in
theorem lifted (os : Os) (started : os.Started) (H : Type) (enc : TypeId × Value → H) (F : Stop.Interp) :
    ReturnsInHanded {} Tryd.checked os 3 .any ((OpenSpec.ofChange Rows.commandNewerSpec).preRow enc Tryd.prog Tryd.f3 Rows.commandNewerRow.domain false Rows.commandNewerRow.laid) (((OpenSpec.ofChange Rows.commandNewerSpec).at F).post enc Tryd.prog Tryd.f3 false true false false) := by
  obtain ⟨places, hx⟩ := reads os enc
  refine returnsInHanded_of_row (C := Tryd.checked) (s := (OpenSpec.ofChange Rows.commandNewerSpec)) cown started (by kernel_rfl) Tryd.func3
    (witness_row_atRef (enc := enc) (C := Tryd.checked) false (World.doorLaid Tryd.prog 104 os) #[.agg #[.int .i64 0, .int .i64 0, .int .i64 0, .string ⟨#[]⟩, .string ⟨#[]⟩, .string ⟨#[]⟩, .string ⟨#[]⟩, .int .i64 0]] rfl (by kernel_rfl) (by kernel_rfl) (by kernel_rfl)
      (OpenSpec.preRow_of_cond 8 hx (by kernel_rfl) (fun k hk => by cases hk) (by kernel_rfl) (door_met os _))) ?_
  intro W base args ds gs before hval hW _ hcond hsz hL _ _
  exact contract H enc W base args ds gs before hval hW hsz hL

theorem said : Rows.CommandNewerSaid :=
  OpenClaim.holds_of_cond 3 Tryd.f3 rfl rfl rfl rfl rfl rfl rfl ⟨rfl, rfl, rfl, rfl, rfl⟩ rfl rfl rfl rfl rfl (by kernel_rfl) Tryd.func3 (by kernel_rfl)
    (of_decide_eq_true (by kernel_rfl)) (by unfold Func.isWrapper; first | (rw [if_pos (by decide +kernel)]; kernel_rfl) | (rw [if_neg (by decide +kernel)]; exact ⟨rfl, rfl⟩))
    (fun os started H enc _ F => by rw [OpenClaim.pre_eq_preRow]; exact lifted os started H enc F)

theorem plain (f : FuncId) (fn : Func) (hf : Tryd.pinned.checked.prog.funcNamed "moot/mootlaw4.CommandNewer" = some f) (hfn : Tryd.pinned.checked.prog.funcs[f]? = some fn) :
    false = Tryd.pinned.checked.prog.looks [] ∧ ∀ (j : Nat) t, fn.params[j]? = some t → Tryd.pinned.checked.prog.wantsStandIn t = false := by
  obtain rfl : f = 3 := Option.some.inj ((show Tryd.prog.funcNamed "moot/mootlaw4.CommandNewer" = some 3 by kernel_rfl).symm.trans hf) |>.symm
  obtain rfl : fn = Tryd.f3 := (Option.some.inj (Tryd.func3.symm.trans hfn)).symm
  refine ⟨by kernel_rfl, fun j t ht => ?_⟩
  rw [Tryd.params3] at ht
  have hm : t ∈ [23] := by simpa using Array.mem_of_getElem? ht
  have hall : ([23].all fun u => !Tryd.prog.wantsStandIn u) = true := by kernel_rfl
  exact (show Tryd.prog.wantsStandIn t = false by simpa using List.all_eq_true.1 hall t hm)

end commandNewer
theorem commandNewer_proved : Rows.CommandNewerCardSaid :=
  Claim7.holds_tied_plain_at .later [] _ _ _ _ commandNewer.said (fun _ h => by cases h) (by kernel_rfl) (fun _ h => by cases h) commandNewer_row_tie rfl ⟨rfl, rfl⟩ (by kernel_rfl) rfl commandNewer.plain (by kernel_rfl)
#print axioms commandNewer_proved
end Go.Proofs.YtahaecnopeffhaaDoor
