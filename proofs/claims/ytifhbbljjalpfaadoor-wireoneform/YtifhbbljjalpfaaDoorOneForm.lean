/- Proved: for every list of bytes, WireOneForm answers true: what GetUint and GetInt take is just what PutUint and PutInt write of their answers. The five sentinels of package wire are as the program's text lays them. -/
import Derived.Test.YtifhbbljjalpfaaDoorGetI
import Derived.Test.YtifhbbljjalpfaaDoorJoin
import Derived.Test.YtifhbbljjalpfaaDoorSame
import Derived.Test.YtifhbbljjalpfaaDoorLaid
import Derived.Test.YtifhbbljjalpfaaDoorArgs
import Derived.Test.YtifhbbljjalpfaaDoorCards
import Derived.Test.YtifhbbljjalpfaaDoorTie
import Derived.Deep.DeepHandedRow
import Derived.Deep.DeepWitnessRowRef
import Derived.WalkSmall
namespace Go.Proofs.YtifhbbljjalpfaaDoor
namespace wireOneForm
open Go.ChangeShapes Go.WideShapes Go.ChangeAt Go.RowKit Go.Wire1

theorem head_dec : dec [5, 128] = .ok (5, 1) := by rfl

set_option maxHeartbeats 4000000 in
set_option maxRecDepth 100000 in
theorem walk (ta : Option Addr) (tn tcap : Nat) (tl : List Int) (a : Nat → Addr) (w : World) (ht : Seg w ta tn tl) (hty : Byt tl) (hreach : tn ≤ 140737488351232) (hcap : tn ≤ tcap) (he : Errs w a) :
    Calls Tryd.prog 4 #[.slice ta tn tcap] w fun e w' => e = .returned (.bool true) ∧ Below w.heap.size w w' := by
  have sH : Seg (w.alloc (.cells #[.int .u8 5, .int .u8 128] 5)) (some ⟨w.heap.size, 0, none⟩) 2 [5, 128] := seg_new2 w 5 128
  have bH : Byt [5, 128] := by intro z hz; simp at hz; omega
  have B0 : Below w.heap.size w (w.alloc (.cells #[.int .u8 5, .int .u8 128] 5)) := (Below.refl _ _).alloc (Nat.le_refl _) _
  have e0 := he.below B0 (Nat.le_refl _)
  go_enter Tryd.func4, Tryd.ntmps4
  go_wp2_with fail
  refine (getUint_any 2 2 _ [5, 128] a _ sH bH e0).mono ?_
  rintro e w1 ⟨hbel1, hg⟩
  rw [head_dec] at hg
  obtain rfl : e = _ := hg
  have B1 : Hid (Below w.heap.size w w1) := B0.trans (hbel1.mono B0.size)
  clear sH bH B0 e0 hbel1
  go_wp2_with (first | (go_at_call 10; refine (num_any _ _).mono ?_; rintro e w' ⟨rfl, rfl⟩))
  go_loopw [6] (fun c wr => ∃ k : Nat, c = .int .i64 (k : Int) ∧ k ≤ tn + 1 ∧ Hid (Below w.heap.size w wr)) (fun c _ => tn + 1 - (intOf c).toNat)
  case atStart => exact ⟨0, rfl, Nat.zero_le _, B1⟩
  case round =>
    clear B1
    obtain ⟨k, rfl, hk, B1⟩ := hrel
    by_cases hlt : k < tn
    · obtain ⟨b, off, rfl, _⟩ := ht.2.2 (by omega)
      have st := (ht.below B1.out (Nat.le_refl _)).from (k := k) (by omega)
      have ec := he.below B1.out (Nat.le_refl _)
      have bk := byt_drop hty k
      cases hd : dec (tl.drop k) with
      | error j =>
        have HD : Hid (dec (tl.drop k) = .error j) := hd
        have hj : ((11 + (j : Int)) != 0) = true := by rw [bne_iff_ne]; omega
        clear hd
        generalize tl.drop k = L at *
        go_wp2_with fail
        refine (getUint_any _ _ _ L a _ st bk ec).mono ?_
        rintro e w2 ⟨hbel2, hg⟩
        rw [HD.out] at hg
        obtain rfl : e = _ := hg
        have B2 : Hid (Below w.heap.size w w2) := B1.out.trans (hbel2.mono B1.out.size)
        replace st := st.below hbel2 (Nat.le_refl _)
        replace ec := ec.below hbel2 (Nat.le_refl _)
        clear hbel2 B1
        go_wp2_with fail
        refine (getInt_any _ _ _ L a _ st bk ec).mono ?_
        rintro e w3 ⟨hbel3, hg⟩
        rw [HD.out] at hg
        obtain rfl : e = _ := hg
        have B3 : Hid (Below w.heap.size w w3) := B2.out.trans (hbel3.mono B2.out.size)
        clear hbel3 B2 st ec
        go_wp2_with (first | (go_at_call 10; refine (num_any _ _).mono ?_; rintro e w' ⟨rfl, rfl⟩))
        go_roundw
        case rel => exact ⟨k + 1, by go_num, by omega, B3⟩
        case measure => simp [intOf]; omega
      | ok p =>
        obtain ⟨x, m⟩ := p
        have hx := dec_lt bk hd
        have hm := dec_len bk hd
        have HF : Hid (enc x = (tl.drop k).take m) := dec_form bk hd
        have hmn : k + m ≤ tn := by have := hm.2.2; rw [List.length_drop, ht.1] at this; omega
        have HD : Hid (dec (tl.drop k) = .ok (x, m)) := hd
        have sm := (ht.below B1.out (Nat.le_refl _)).mid (k := k) (m := m) hmn
        have hux := unzig_bd x hx
        have HZ : Hid (zig (unzig x) = x) := zig_unzig x
        rw [← HF.out] at sm
        clear hd HF hm
        have hm1 : 1 ≤ m := (dec_len bk HD.out).1
        generalize tl.drop k = L at *
        go_wp2_with fail
        refine (getUint_any _ _ _ L a _ st bk ec).mono ?_
        rintro e w2 ⟨hbel2, hg⟩
        rw [HD.out] at hg
        obtain rfl : e = _ := hg
        have B2 : Hid (Below w.heap.size w w2) := B1.out.trans (hbel2.mono B1.out.size)
        replace st := st.below hbel2 (Nat.le_refl _)
        replace sm := sm.below hbel2 (Nat.le_refl _)
        replace ec := ec.below hbel2 (Nat.le_refl _)
        clear hbel2 B1
        go_wp2_with fail
        refine (getInt_any _ _ _ L a _ st bk ec).mono ?_
        rintro e w3 ⟨hbel3, hg⟩
        rw [HD.out] at hg
        obtain rfl : e = _ := hg
        have B3 : Hid (Below w.heap.size w w3) := B2.out.trans (hbel3.mono B2.out.size)
        replace sm := sm.below hbel3 (Nat.le_refl _)
        clear hbel3 B2 st ec HD
        generalize unzig x = y at *
        go_wp2_with (first | (go_at_call 10; refine (num_any _ _).mono ?_; rintro e w' ⟨rfl, rfl⟩))
        refine (putUint_any x _ hx).mono ?_
        rintro e w4 ⟨v4, rfl, hown4, hbel4⟩
        obtain ⟨a4, cap4, rfl, _, _, s4⟩ := seg_own hown4
        replace sm := sm.below hbel4 (Nat.le_refl _)
        have B4 : Hid (Below w.heap.size w w4) := B3.out.trans (hbel4.mono B3.out.size)
        clear hbel4 B3 hown4
        go_wp2_with fail
        refine (putInt_any y _ hux.1 hux.2).mono ?_
        rintro e w5 ⟨v5, rfl, hown5, hbel5⟩
        rw [HZ.out] at hown5
        obtain ⟨a5, cap5, rfl, _, _, s5⟩ := seg_own hown5
        replace sm := sm.below hbel5 (Nat.le_refl _)
        replace s4 := s4.below hbel5 (Nat.le_refl _)
        have B5 : Hid (Below w.heap.size w w5) := B4.out.trans (hbel5.mono B4.out.size)
        clear hbel5 B4 hown5
        generalize enc x = X at *
        have HS : Hid (sameB X X = true) := same_yes rfl
        go_wp2_with fail
        refine (same_any _ _ _ _ _ _ X X _ s4 sm).mono ?_
        rintro e w6 ⟨rfl, q, rfl⟩
        rw [HS.out]
        go_wp2_with fail
        refine (same_any _ _ _ _ _ _ X X _ (s5.drewN q) (sm.drewN q)).mono ?_
        rintro e w7 ⟨rfl, q', rfl⟩
        rw [HS.out]
        go_wp2_with fail
        go_roundw
        case rel => exact ⟨k + 1, by go_num, by omega, below_drewN B5.out _⟩
        case measure => simp [intOf]; omega
    · by_cases hkn : k = tn
      · subst hkn
        have ec := he.below B1.out (Nat.le_refl _)
        have HD : Hid (dec [] = .error 0) := rfl
        have bk : Byt [] := by intro z hz; cases hz
        have hc : (tcap : Int) - (k : Int) = 0 ∨ 0 < (tcap : Int) - (k : Int) := by omega
        rcases hc with hc | hc
        all_goals
          go_wp2_with fail
          refine (getUint_any 0 _ _ [] a _ (seg_empty _ _) bk ec).mono ?_
          rintro e w2 ⟨hbel2, hg⟩
          rw [HD.out] at hg
          obtain rfl : e = _ := hg
          have B2 : Hid (Below w.heap.size w w2) := B1.out.trans (hbel2.mono B1.out.size)
          have ec2 := ec.below hbel2 (Nat.le_refl _)
          clear hbel2 B1 ec
          go_wp2_with fail
          refine (getInt_any 0 _ _ [] a _ (seg_empty _ _) bk ec2).mono ?_
          rintro e w3 ⟨hbel3, hg⟩
          rw [HD.out] at hg
          obtain rfl : e = _ := hg
          have B3 : Hid (Below w.heap.size w w3) := B2.out.trans (hbel3.mono B2.out.size)
          clear hbel3 B2 ec2
          go_wp2_with (first | (go_at_call 10; refine (num_any _ _).mono ?_; rintro e w' ⟨rfl, rfl⟩))
          go_roundw
          case rel => exact ⟨k + 1, by go_num, by omega, B3⟩
          case measure => simp [intOf] <;> omega
      · go_wp2_with fail
        go_ret
        exact ⟨rfl, B1.out⟩

/-- For every argument and every world that holds the sentinels. -/
theorem contract (H : Type) (enc : TypeId × Value → H) (W : World) (base : Nat) (args : Array Value) (ds gs : List (DataW H)) (before : List MemPlace)
    (hval : ∀ (j : Nat) t v, Tryd.f4.params[j]? = some t → args[j]? = some v → Value.okWide Tryd.prog W .any base t v)
    (hW : DataW.Whole enc Tryd.prog Tryd.f4.params.toList Rows.wireOneFormSpec.vars false W args.toList ds gs before)
    (hsz : (DataW.weightsEach Tryd.prog (Tryd.f4.params.toList ++ (OpenSpec.ofChange Rows.wireOneFormSpec).bare.plain.varTypes Tryd.prog) (ds ++ gs)).all (· ≤ reachBytes) = true)
    (hL : laidMetH Tryd.prog Rows.wireOneFormRow.laid W) :
    Calls Tryd.prog 4 args W fun e W' => ∃ v, e = .returned v ∧ Rows.wireOneFormSpec.post enc Tryd.prog Tryd.f4 false true false false W args v W' := by
  have hW' := hW
  obtain ⟨p, q, hA0, hV, rfl, hfz, hnd⟩ := hW
  have hA : DataW.TrodAll enc Tryd.prog W 0 (fun _ => true) true Tryd.f4.params.toList args.toList ds p := hA0
  rw [Tryd.params4] at hA hval hsz
  obtain ⟨v0, vs0, d0, ds0, p0, q0, hargs, rfl, rfl, h0, r0⟩ := trodAll_cons hA
  obtain ⟨rfl, rfl, rfl⟩ := trodAll_nil r0
  obtain rfl : args = #[v0] := by cases args; simp_all
  obtain ⟨rfl, rfl⟩ := trodVars_none hV
  obtain ⟨a0, n0, cap0, rfl⟩ := okWide_slice Tryd.underlying23 (hval 0 23 v0 rfl rfl)
  have k0 := h0
  have lt0 : ∀ x ∈ p0, x.block < W.heap.size := by obtain ⟨m, hm⟩ := k0; exact DataW.trod_lt m _ _ _ hm
  obtain ⟨fuel0, hf0⟩ := h0
  obtain ⟨l0, hseg0, hbyt0, hcap0, hdat0⟩ := open_bytes hf0
  have hreach0 : cap0 ≤ 140737488351232 := by
    rcases hdat0 with ⟨_, _, h⟩ | ⟨elems, spare, hd, he, hc⟩
    · omega
    · have hs := sized_slice hsz (j := 0) (t := 23) (e := 5) (elems := elems) (spare := spare) rfl (by rw [show d0 = _ from hd]; rfl) Tryd.underlying23
      rw [bytes5] at hs
      simp only [reachBytes] at hs
      omega
  obtain ⟨a, hE⟩ := errs_of_laid hL
  clear hA0

  refine (walk a0 n0 cap0 l0 a W hseg0 hbyt0 (by omega) hcap0 hE).mono fun e W' ⟨he, bel⟩ => ?_
  subst he
  exact ⟨_, rfl, _, _, _, [], _, [], hW', trodAll_mk1 (shut_bool Tryd.underlying4 _), (trodAll_cons_mk (Below.trod laidOut (by kernel_rfl) (of_decide_eq_true (by kernel_rfl)) k0 bel lt0) trodAll_mk0), rfl, bel.frame _, fun h => by cases h⟩

theorem reads (os : Os) {H : Type} (enc : TypeId × Value → H) : ∃ places, DataW.whole enc Tryd.prog ((World.doorLaid Tryd.prog 104 os).forCall (fun _ _ => 0) ⟨#[], #[.slice none 0 0], []⟩).memory Tryd.f4.params.toList Rows.wireOneFormSpec.vars false #[Value.slice none 0 0].toList 8 = some ([.nil], [], places) :=
  ⟨[], by kernel_rfl⟩

set_option maxRecDepth 100000 in
theorem lifted (os : Os) (started : os.Started) (H : Type) (enc : TypeId × Value → H) (F : Stop.Interp) :
    ReturnsInHanded {} Tryd.checked os 4 .any ((OpenSpec.ofChange Rows.wireOneFormSpec).preRow enc Tryd.prog Tryd.f4 Rows.wireOneFormRow.domain false Rows.wireOneFormRow.laid) (((OpenSpec.ofChange Rows.wireOneFormSpec).at F).post enc Tryd.prog Tryd.f4 false true false false) := by
  obtain ⟨places, hx⟩ := reads os enc
  refine returnsInHanded_of_row (C := Tryd.checked) (s := (OpenSpec.ofChange Rows.wireOneFormSpec)) own started (by kernel_rfl) Tryd.func4
    (witness_row_atRef (enc := enc) (C := Tryd.checked) false (World.doorLaid Tryd.prog 104 os) #[.slice none 0 0] rfl (by kernel_rfl) (by kernel_rfl) (by kernel_rfl)
      (OpenSpec.preRow_of_cond 8 hx (by kernel_rfl) (fun k hk => by cases hk) (by kernel_rfl) (door_met os _))) ?_
  intro W base args ds gs before hval hW _ hcond hsz hL _ _
  exact contract H enc W base args ds gs before hval hW hsz hL

theorem said : Rows.WireOneFormSaid :=
  OpenClaim.holds_of_cond 4 Tryd.f4 rfl rfl rfl rfl rfl rfl rfl ⟨rfl, rfl, rfl, rfl, rfl⟩ rfl rfl rfl rfl rfl (by kernel_rfl) Tryd.func4 (by kernel_rfl)
    (of_decide_eq_true (by kernel_rfl)) (by unfold Func.isWrapper; first | (rw [if_pos (by decide +kernel)]; kernel_rfl) | (rw [if_neg (by decide +kernel)]; exact ⟨rfl, rfl⟩))
    (fun os started H enc _ F => by rw [OpenClaim.pre_eq_preRow]; exact lifted os started H enc F)

theorem plain (f : FuncId) (fn : Func) (hf : Tryd.pinned.checked.prog.funcNamed "moot/mootlaw1.WireOneForm" = some f) (hfn : Tryd.pinned.checked.prog.funcs[f]? = some fn) :
    true = Tryd.pinned.checked.prog.looks [] ∧ ∀ (j : Nat) t, fn.params[j]? = some t → Tryd.pinned.checked.prog.wantsStandIn t = false := by
  obtain rfl : f = 4 := Option.some.inj ((show Tryd.prog.funcNamed "moot/mootlaw1.WireOneForm" = some 4 by kernel_rfl).symm.trans hf) |>.symm
  obtain rfl : fn = Tryd.f4 := (Option.some.inj (Tryd.func4.symm.trans hfn)).symm
  refine ⟨by kernel_rfl, fun j t ht => ?_⟩
  rw [Tryd.params4] at ht
  have hm : t ∈ [23] := by simpa using Array.mem_of_getElem? ht
  have hall : ([23].all fun u => !Tryd.prog.wantsStandIn u) = true := by kernel_rfl
  exact (show Tryd.prog.wantsStandIn t = false by simpa using List.all_eq_true.1 hall t hm)

end wireOneForm
theorem wireOneForm_proved : Rows.WireOneFormCardSaid :=
  Claim7.holds_tied_plain_at .later [] _ _ _ _ wireOneForm.said (fun _ h => by cases h) (by kernel_rfl) (fun _ h => by cases h) wireOneForm_row_tie rfl ⟨rfl, rfl⟩ (by kernel_rfl) rfl wireOneForm.plain (by kernel_rfl)
#print axioms wireOneForm_proved
end Go.Proofs.YtifhbbljjalpfaaDoor
