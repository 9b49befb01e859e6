/- Proved: for every unsigned 64-bit x, every signed 64-bit y and every tail, WireBack answers true: what PutUint and PutInt write is read back whatever stands behind it, and every proper beginning of it ends too early. The five sentinels of package wire are as the program's text lays them. -/
import Derived.Test.YtifhbbljjalpfaaDoorGetI
import Derived.Test.YtifhbbljjalpfaaDoorJoin
import Derived.Test.YtifhbbljjalpfaaDoorLaid
import Derived.Test.YtifhbbljjalpfaaDoorArgs
import Derived.Test.YtifhbbljjalpfaaDoorCards
import Derived.Test.YtifhbbljjalpfaaDoorTie
import Derived.Deep.DeepHandedRow
import Derived.Deep.DeepWitnessRowRef
namespace Go.Proofs.YtifhbbljjalpfaaDoor
namespace wireBack
open Go.ChangeShapes Go.WideShapes Go.ChangeAt Go.RowKit Go.Wire1

set_option maxHeartbeats 4000000 in
set_option maxRecDepth 100000 in
theorem walk (x : Nat) (y : Int) (ta : Option Addr) (tn tcap : Nat) (tl : List Int) (a : Nat → Addr) (w : World) (hx : x < 18446744073709551616) (h1 : -9223372036854775808 ≤ y) (h2 : y ≤ 9223372036854775807)
    (ht : Seg w ta tn tl) (hty : Byt tl) (hreach : tn ≤ 140737488351232) (he : Errs w a) :
    Calls Tryd.prog 3 #[.int .u64 (x : Int), .int .i64 y, .slice ta tn tcap] w fun e w' => e = .returned (.bool true) ∧ Below w.heap.size w w' := by
  have hz := zig_lt y h1 h2
  have lx := enc_le x hx
  have ly := enc_le (zig y) hz
  have DX : Hid (dec (enc x ++ tl) = .ok (x, (enc x).length)) := dec_enc x tl hx
  have DY : Hid (dec (enc (zig y) ++ tl) = .ok (zig y, (enc (zig y)).length)) := dec_enc _ tl hz
  have CX : Hid (∀ i, i < (enc x).length → dec ((enc x).take i) = .error 0) := dec_cut x
  have CY : Hid (∀ i, i < (enc (zig y)).length → dec ((enc (zig y)).take i) = .error 0) := dec_cut _
  have BX := byt_enc x
  have BY := byt_enc (zig y)
  have BXT := byt_app BX hty
  have BYT := byt_app BY hty
  have UZ : Hid (unzig (zig y) = y) := unzig_zig y
  go_enter Tryd.func3, Tryd.ntmps3
  go_wp2_with fail
  refine (putUint_any x _ hx).mono ?_
  rintro e w1 ⟨v1, rfl, hown1, hbel1⟩
  obtain ⟨a1, cap1, rfl, hc1, hm1, s1⟩ := seg_own hown1
  go_wp2_with fail
  refine (putInt_any y _ h1 h2).mono ?_
  rintro e w2 ⟨v2, rfl, hown2, hbel2⟩
  obtain ⟨a2, cap2, rfl, hc2, hm2, s2⟩ := seg_own hown2
  have B2 : Below w.heap.size w w2 := hbel1.trans (hbel2.mono hbel1.size)
  replace s1 := s1.below hbel2 (Nat.le_refl _)
  have t2 := ht.below B2 (Nat.le_refl _)
  have e2 := he.below B2 (Nat.le_refl _)
  clear hown1 hown2 hbel1 hbel2 ht he
  generalize enc x = X at *
  generalize enc (zig y) = Y at *
  have HX : Hid (X.length ≤ cap1 ∧ Y.length ≤ cap2) := ⟨hc1, hc2⟩
  clear hm1 hm2
  go_wp2_with fail
  refine (joined_any a1 ta X.length tn cap1 tcap X tl _ s1 t2 (by omega)).mono ?_
  rintro e w3 ⟨v3, rfl, hown3, hbel3⟩
  generalize X ++ tl = XT at *
  obtain ⟨a3, cap3, rfl, _, _, s3⟩ := seg_own hown3
  replace s1 := s1.below hbel3 (Nat.le_refl _)
  replace s2 := s2.below hbel3 (Nat.le_refl _)
  have t3 := t2.below hbel3 (Nat.le_refl _)
  have e3 := e2.below hbel3 (Nat.le_refl _)
  have B3 : Below w.heap.size w w3 := B2.trans (hbel3.mono B2.size)
  clear hown3 hbel3 t2 e2 B2
  go_wp2_with fail
  refine (getUint_any _ cap3 a3 XT a _ s3 BXT e3).mono ?_
  rintro e w4 ⟨hbel4, hg⟩
  rw [DX.out] at hg
  obtain rfl : e = _ := hg
  replace s1 := s1.below hbel4 (Nat.le_refl _)
  replace s2 := s2.below hbel4 (Nat.le_refl _)
  have t4 := t3.below hbel4 (Nat.le_refl _)
  have e4 := e3.below hbel4 (Nat.le_refl _)
  have B4 : Below w.heap.size w w4 := B3.trans (hbel4.mono B3.size)
  clear hbel4 t3 e3 B3 s3
  go_wp2_with (first | (go_at_call 10; refine (num_any _ _).mono ?_; rintro e w' ⟨rfl, rfl⟩))
  refine (joined_any a2 ta Y.length tn cap2 tcap Y tl _ s2 t4 (by omega)).mono ?_
  rintro e w5 ⟨v5, rfl, hown5, hbel5⟩
  generalize Y ++ tl = YT at *
  obtain ⟨a5, cap5, rfl, _, _, s5⟩ := seg_own hown5
  replace s1 := s1.below hbel5 (Nat.le_refl _)
  replace s2 := s2.below hbel5 (Nat.le_refl _)
  have e5 := e4.below hbel5 (Nat.le_refl _)
  have B5 : Below w.heap.size w w5 := B4.trans (hbel5.mono B4.size)
  clear hown5 hbel5 t4 e4 B4
  go_wp2_with fail
  refine (getInt_any _ cap5 a5 YT a _ s5 BYT e5).mono ?_
  rintro e w6 ⟨hbel6, hg⟩
  rw [DY.out] at hg
  obtain rfl : e = _ := hg
  rw [UZ.out]
  replace s1 := s1.below hbel6 (Nat.le_refl _)
  replace s2 := s2.below hbel6 (Nat.le_refl _)
  have e6 := e5.below hbel6 (Nat.le_refl _)
  have B6 : Hid (Below w.heap.size w w6) := B5.trans (hbel6.mono B5.size)
  clear hbel6 e5 B5 s5
  go_wp2_with (first | (go_at_call 10; refine (num_any _ _).mono ?_; rintro e w' ⟨rfl, rfl⟩))
  have hcap1 := HX.out.1
  have hcap2 := HX.out.2
  go_loopw [15] (fun c wr => ∃ k : Nat, c = .int .i64 (k : Int) ∧ k ≤ X.length ∧ Seg wr a1 X.length X ∧ Seg wr a2 Y.length Y ∧ Errs wr a ∧ Hid (Below w.heap.size w wr)) (fun c _ => X.length - (intOf c).toNat)
  case atStart => exact ⟨0, rfl, Nat.zero_le _, s1, s2, e6, B6⟩
  case round =>
    clear s1 s2 e6 B6
    obtain ⟨k, rfl, hk, s1, s2, e6, B6⟩ := hrel
    by_cases hlt : k < X.length
    · have hd : Hid (dec (X.take k) = .error 0) := CX.out k hlt
      have sk := s1.take (k := k) (by omega)
      have BK := byt_take BX k
      generalize X.take k = XK at *
      go_wp2_with fail
      refine (getUint_any _ cap1 a1 XK a _ sk BK e6).mono ?_
      rintro e w7 ⟨hbel7, hg⟩
      rw [hd.out] at hg
      obtain rfl : e = _ := hg
      replace s1 := s1.below hbel7 (Nat.le_refl _)
      replace s2 := s2.below hbel7 (Nat.le_refl _)
      replace e6 := e6.below hbel7 (Nat.le_refl _)
      replace B6 : Hid (Below w.heap.size w w7) := B6.out.trans (hbel7.mono B6.out.size)
      clear hbel7 sk
      go_wp2_with (first | (go_at_call 10; refine (num_any _ _).mono ?_; rintro e w' ⟨rfl, rfl⟩))
      go_roundw
      case rel => exact ⟨k + 1, by go_num, by omega, s1, s2, e6, B6⟩
      case measure => simp [intOf]; omega
    · go_wp2_with fail
      go_loopw [16] (fun c wr => ∃ k : Nat, c = .int .i64 (k : Int) ∧ k ≤ Y.length ∧ Seg wr a2 Y.length Y ∧ Errs wr a ∧ Hid (Below w.heap.size w wr)) (fun c _ => Y.length - (intOf c).toNat)
      case atStart => exact ⟨0, rfl, Nat.zero_le _, s2, e6, B6⟩
      case round =>
        clear s1 s2 e6 B6
        obtain ⟨k, rfl, hk, s2, e6, B6⟩ := hrel
        by_cases hlt : k < Y.length
        · have hd : Hid (dec (Y.take k) = .error 0) := CY.out k hlt
          have sk := s2.take (k := k) (by omega)
          have BK := byt_take BY k
          generalize Y.take k = YK at *
          go_wp2_with fail
          refine (getInt_any _ cap2 a2 YK a _ sk BK e6).mono ?_
          rintro e w7 ⟨hbel7, hg⟩
          rw [hd.out] at hg
          obtain rfl : e = _ := hg
          replace s2 := s2.below hbel7 (Nat.le_refl _)
          replace e6 := e6.below hbel7 (Nat.le_refl _)
          replace B6 : Hid (Below w.heap.size w w7) := B6.out.trans (hbel7.mono B6.out.size)
          clear hbel7 sk
          go_wp2_with (first | (go_at_call 10; refine (num_any _ _).mono ?_; rintro e w' ⟨rfl, rfl⟩))
          go_roundw
          case rel => exact ⟨k + 1, by go_num, by omega, s2, e6, B6⟩
          case measure => simp [intOf]; omega
        · go_wp2_with fail
          go_ret
          exact ⟨rfl, B6.out⟩

/-- For every argument and every world that holds the sentinels. -/
theorem contract (H : Type) (enc : TypeId × Value → H) (W : World) (base : Nat) (args : Array Value) (ds gs : List (DataW H)) (before : List MemPlace)
    (hval : ∀ (j : Nat) t v, Tryd.f3.params[j]? = some t → args[j]? = some v → Value.okWide Tryd.prog W .any base t v)
    (hW : DataW.Whole enc Tryd.prog Tryd.f3.params.toList Rows.wireBackSpec.vars false W args.toList ds gs before)
    (hsz : (DataW.weightsEach Tryd.prog (Tryd.f3.params.toList ++ (OpenSpec.ofChange Rows.wireBackSpec).bare.plain.varTypes Tryd.prog) (ds ++ gs)).all (· ≤ reachBytes) = true)
    (hL : laidMetH Tryd.prog Rows.wireBackRow.laid W) :
    Calls Tryd.prog 3 args W fun e W' => ∃ v, e = .returned v ∧ Rows.wireBackSpec.post enc Tryd.prog Tryd.f3 false true false false W args v W' := by
  have hW' := hW
  obtain ⟨p, q, hA0, hV, rfl, hfz, hnd⟩ := hW
  have hA : DataW.TrodAll enc Tryd.prog W 0 (fun _ => true) true Tryd.f3.params.toList args.toList ds p := hA0
  rw [Tryd.params3] at hA hval hsz
  obtain ⟨v0, vs0, d0, ds0, p0, q0, hargs, rfl, rfl, h0, r0⟩ := trodAll_cons hA
  obtain ⟨v1, vs1, d1, ds1, p1, q1, rfl, rfl, rfl, h1, r1⟩ := trodAll_cons r0
  obtain ⟨v2, vs2, d2, ds2, p2, q2, rfl, rfl, rfl, h2, r2⟩ := trodAll_cons r1
  obtain ⟨rfl, rfl, rfl⟩ := trodAll_nil r2
  obtain rfl : args = #[v0, v1, v2] := by cases args; simp_all
  obtain ⟨rfl, rfl⟩ := trodVars_none hV
  obtain ⟨x0, rfl, rfl, rfl, w0⟩ := open_int Tryd.underlying22 (hval 0 22 v0 rfl rfl) h0
  obtain ⟨y, rfl, rfl, rfl, w1⟩ := open_int Tryd.underlying2 (hval 1 2 v1 rfl rfl) h1
  obtain ⟨ta, tn, tcap, rfl⟩ := okWide_slice Tryd.underlying23 (hval 2 23 v2 rfl rfl)
  have k2 := h2
  have lt2 : ∀ x ∈ p2, x.block < W.heap.size := by obtain ⟨m, hm⟩ := k2; exact DataW.trod_lt m _ _ _ hm
  obtain ⟨fuel, hf⟩ := h2
  obtain ⟨tl, hseg, hbyt, hcap, hdat⟩ := open_bytes hf
  have hreach : tn ≤ 140737488351232 := by
    rcases hdat with ⟨_, h, _⟩ | ⟨elems, spare, hd, he, hc⟩
    · omega
    · have hs := sized_slice hsz (j := 2) (t := 23) (e := 5) (elems := elems) (spare := spare) rfl (by rw [show d2 = _ from hd]; rfl) Tryd.underlying23
      rw [bytes5] at hs
      simp only [reachBytes] at hs
      omega
  obtain ⟨a, hE⟩ := errs_of_laid hL
  clear hA0
  have b0 := bounds_u64 w0
  have b1 := bounds_i64 w1
  obtain ⟨x, rfl⟩ := Int.eq_ofNat_of_zero_le b0.1
  refine (walk x y ta tn tcap tl a W (by omega) b1.1 b1.2 hseg hbyt hreach hE).mono fun e W' ⟨he, bel⟩ => ?_
  subst he
  exact ⟨_, rfl, _, _, _, [], _, [], hW', trodAll_mk1 (shut_bool Tryd.underlying4 _), (trodAll_cons_mk (shut_int Tryd.underlying22 w0) (trodAll_cons_mk (shut_int Tryd.underlying2 w1) (trodAll_cons_mk (Below.trod laidOut (by kernel_rfl) (of_decide_eq_true (by kernel_rfl)) k2 bel lt2) trodAll_mk0))), rfl, bel.frame _, fun h => by cases h⟩

theorem reads (os : Os) {H : Type} (enc : TypeId × Value → H) : ∃ places, DataW.whole enc Tryd.prog ((World.doorLaid Tryd.prog 104 os).forCall (fun _ _ => 0) ⟨#[], #[.int .u64 0, .int .i64 0, .slice none 0 0], []⟩).memory Tryd.f3.params.toList Rows.wireBackSpec.vars false #[Value.int .u64 0, .int .i64 0, .slice none 0 0].toList 8 = some ([.lit (.int .u64 0), .lit (.int .i64 0), .nil], [], places) :=
  ⟨[], by kernel_rfl⟩

set_option maxRecDepth 100000 in
theorem lifted (os : Os) (started : os.Started) (H : Type) (enc : TypeId × Value → H) (F : Stop.Interp) :
    ReturnsInHanded {} Tryd.checked os 3 .any ((OpenSpec.ofChange Rows.wireBackSpec).preRow enc Tryd.prog Tryd.f3 Rows.wireBackRow.domain false Rows.wireBackRow.laid) (((OpenSpec.ofChange Rows.wireBackSpec).at F).post enc Tryd.prog Tryd.f3 false true false false) := by
  obtain ⟨places, hx⟩ := reads os enc
  refine returnsInHanded_of_row (C := Tryd.checked) (s := OpenSpec.ofChange Rows.wireBackSpec) own started (by kernel_rfl) Tryd.func3
    (witness_row_atRef (enc := enc) (C := Tryd.checked) false (World.doorLaid Tryd.prog 104 os) #[.int .u64 0, .int .i64 0, .slice none 0 0] rfl (by kernel_rfl) (by kernel_rfl) (by kernel_rfl)
      (OpenSpec.preRow_of_cond 8 hx (by kernel_rfl) (fun k hk => by cases hk) (by kernel_rfl) (door_met os _))) ?_
  intro W base args ds gs before hval hW _ _ hsz hL _ _
  exact contract H enc W base args ds gs before hval hW hsz hL

theorem said : Rows.WireBackSaid :=
  OpenClaim.holds_of_cond 3 Tryd.f3 rfl rfl rfl rfl rfl rfl rfl ⟨rfl, rfl, rfl, rfl, rfl⟩ rfl rfl rfl rfl rfl (by kernel_rfl) Tryd.func3 (by kernel_rfl)
    (of_decide_eq_true (by kernel_rfl)) (by unfold Func.isWrapper; first | (rw [if_pos (by decide +kernel)]; kernel_rfl) | (rw [if_neg (by decide +kernel)]; exact ⟨rfl, rfl⟩))
    (fun os started H enc _ F => by rw [OpenClaim.pre_eq_preRow]; exact lifted os started H enc F)

theorem plain (f : FuncId) (fn : Func) (hf : Tryd.pinned.checked.prog.funcNamed "moot/mootlaw1.WireBack" = some f) (hfn : Tryd.pinned.checked.prog.funcs[f]? = some fn) :
    true = Tryd.pinned.checked.prog.looks [] ∧ ∀ (j : Nat) t, fn.params[j]? = some t → Tryd.pinned.checked.prog.wantsStandIn t = false := by
  obtain rfl : f = 3 := Option.some.inj ((show Tryd.prog.funcNamed "moot/mootlaw1.WireBack" = some 3 by kernel_rfl).symm.trans hf) |>.symm
  obtain rfl : fn = Tryd.f3 := (Option.some.inj (Tryd.func3.symm.trans hfn)).symm
  refine ⟨by kernel_rfl, fun j t ht => ?_⟩
  rw [Tryd.params3] at ht
  have hm : t ∈ [22, 2, 23] := by simpa using Array.mem_of_getElem? ht
  have hall : ([22, 2, 23].all fun u => !Tryd.prog.wantsStandIn u) = true := by kernel_rfl
  exact (show Tryd.prog.wantsStandIn t = false by simpa using List.all_eq_true.1 hall t hm)

end wireBack
theorem wireBack_proved : Rows.WireBackCardSaid :=
  Claim7.holds_tied_plain_at .later [] _ _ _ _ wireBack.said (fun _ h => by cases h) (by kernel_rfl) (fun _ h => by cases h) wireBack_row_tie rfl ⟨rfl, rfl⟩ (by kernel_rfl) rfl wireBack.plain (by kernel_rfl)
#print axioms wireBack_proved
end Go.Proofs.YtifhbbljjalpfaaDoor
