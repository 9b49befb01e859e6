/- Proved: for every list of bytes and every two lists of calls, WireStuck answers true: once a reader is broken every method answers nothing, and error, place and what is left stay. The five sentinels of package wire are as the program's text lays them. -/
import Derived.Test.YtifhbbljjalpfabDoorAny1
import Derived.Test.YtifhbbljjalpfabDoorNew
import Derived.Test.YtifhbbljjalpfabDoorJoin
import Derived.Test.YtifhbbljjalpfabDoorLaid
import Derived.Test.YtifhbbljjalpfabDoorCards
import Derived.Test.YtifhbbljjalpfabDoorTie
import Derived.Deep.DeepHandedRow
import Derived.Deep.DeepWitnessRowRef
import Derived.WalkSmall
namespace Go.Proofs.YtifhbbljjalpfabDoor
namespace wireStuck
open Go.ChangeShapes Go.WideShapes Go.ChangeAt Go.RowKit Go.Wire1

theorem breaks {l : List Int} (hy : Byt l) (k : Nat) (f : Int) : (Meth (.int .i64 0) (rB (-1) l k) k f).2.2 ≠ 0 := by
  by_cases hf : f = 0
  · subst hf
    have hz := byt_at hy k
    by_cases hk : l.length ≤ k
    · rw [meth_err (i := 0) (by unfold rB; rw [if_pos hk])]; show (11 + ((0 : Nat) : Int)) ≠ 0; decide
    · rw [meth_err (i := 3) (by unfold rB; rw [if_neg hk, if_pos (by omega)])]; show (11 + ((3 : Nat) : Int)) ≠ 0; decide
  · rw [meth_broken hf]; exact hf

set_option maxHeartbeats 4000000 in
set_option maxRecDepth 100000 in
theorem walk (ta oa ma : Option Addr) (tn tcap on ocap mn mcap : Nat) (tl : List Int) (ops more : List OpV) (a : Nat → Addr) (w : World) (ht : Seg w ta tn tl) (hty : Byt tl) (hreach : tn ≤ 140737488351232) (hnone : ta = none → tn = 0)
    (ho : OpSeg w oa on ops) (hm : OpSeg w ma mn more) (he : Errs w a) :
    Calls Tryd.prog 4 #[.slice ta tn tcap, .slice oa on ocap, .slice ma mn mcap] w fun e w' => e = .returned (.bool true) ∧ Below w.heap.size w w' := by
  have hon := ho.2.1
  have hmn := hm.2.1
  unfold maxLen at hon hmn
  have hlen := hide ht.1
  go_enter Tryd.func4, Tryd.ntmps4
  go_wp2_with fail
  refine (newReader_any ta tn tcap tl a _ ht hty he (by omega) hnone).mono ?_
  rintro e w1 ⟨b, sa, cap, rfl, hb, B1, R1, _⟩
  rw [hlen.out] at R1
  have HB1 := hide B1
  clear B1
  go_wp2_with fail
  go_loopw [8] (fun c wr => ∃ (j k : Nat) (f : Int), c = .int .i64 (j : Int) ∧ j ≤ on ∧ Rdr wr b sa tn cap k f tl a ∧ Hid (Below w.heap.size w wr)) (fun c _ => on - (intOf c).toNat)
  case atStart => exact ⟨0, 0, 0, rfl, Nat.zero_le _, R1, HB1⟩
  case round =>
    clear R1 HB1
    obtain ⟨j, k, f, rfl, hj, R1, HB1⟩ := hrel
    by_cases hlt : j < on
    · obtain ⟨ob, oo, rfl, hc⟩ := (ho.below HB1.out (Nat.le_refl _)).2.2.1 (by omega)
      obtain ⟨c0, c1, c2, c3, c4⟩ := hc j hlt
      have hok := opOk_at ho.2.2.2 j
      clear hc
      generalize ops.getD j opZ = o at *
      go_wp2_with fail
      refine (any1_any o hok b tn cap k f sa tl a _ R1).mono ?_
      rintro e w2 ⟨r, k', f', rfl, T2, R2, _⟩
      have HB2 := hide (T2.below hb HB1.out)
      clear T2 R1 HB1 c0 c1 c2 c3 c4
      go_wp2_with fail
      go_roundw
      case rel => exact ⟨j + 1, k', f', by go_num, by omega, R2, HB2⟩
      case measure => simp [intOf]; omega
    · go_wp2_with fail
      refine (mByte.any (-1) b tn cap k f sa tl a _ R1).mono ?_
      rintro e w2 ⟨rfl, T2, R2⟩
      have hF := breaks hty k f
      obtain ⟨z, hz, _⟩ := shapeB (-1) tl k f
      rw [hz]
      have HB2 := hide (T2.below hb HB1.out)
      clear T2 R1 HB1 hz
      generalize (Meth (.int .i64 0) (rB (-1) tl k) k f).2.1 = K at *
      generalize (Meth (.int .i64 0) (rB (-1) tl k) k f).2.2 = F at *
      have hF0 : (F == 0) = false := beq_eq_false_iff_ne.2 hF
      have hKn := R2.ready.le
      have htn := ht.2.1
      unfold maxLen at htn
      go_wp2_with fail
      refine (err_any b tn cap K F sa tl a _ R2).mono ?_
      rintro e w3 ⟨rfl, q3, rfl⟩
      replace R2 := R2.drewN q3
      have HB3 := hide (below_drewN HB2.out q3)
      clear HB2
      generalize w2.drewN q3 = w3 at *
      go_wp2_with fail
      refine (leftR_any b tn cap K F sa tl a _ R2).mono ?_
      rintro e w4 ⟨rfl, q4, rfl⟩
      replace R2 := R2.drewN q4
      have HB4 := hide (below_drewN HB3.out q4)
      clear HB3
      generalize w3.drewN q4 = w4 at *
      have hsum : (((K : Int) + ((tn : Int) - (K : Int))) != (tn : Int)) = false := by simp; omega
      go_wp2_with (first | (go_at_call 13; refine (num_any _ _).mono ?_; rintro e w' ⟨rfl, rfl⟩))
      go_loopw [12] (fun c wr => ∃ (j : Nat), c = .int .i64 (j : Int) ∧ j ≤ mn ∧ Rdr wr b sa tn cap K F tl a ∧ Hid (Below w.heap.size w wr)) (fun c _ => mn - (intOf c).toNat)
      case atStart => exact ⟨0, rfl, Nat.zero_le _, R2, HB4⟩
      case round =>
        clear R2 HB4
        obtain ⟨j, rfl, hj, R2, HB4⟩ := hrel
        by_cases hlt2 : j < mn
        · obtain ⟨mb, mo, rfl, hc⟩ := (hm.below HB4.out (Nat.le_refl _)).2.2.1 (by omega)
          obtain ⟨c0, c1, c2, c3, c4⟩ := hc j hlt2
          have hok := opOk_at hm.2.2.2 j
          clear hc
          generalize more.getD j opZ = o at *
          go_wp2_with fail
          refine (any1_any o hok b tn cap K F sa tl a _ R2).mono ?_
          rintro e w5 ⟨r, k', f', rfl, T5, R5, hst⟩
          obtain ⟨rfl, rfl, rfl⟩ := hst hF
          have HB5 := hide (T5.below hb HB4.out)
          clear T5 R2 HB4 c0 c1 c2 c3 c4
          go_wp2_with fail
          refine (err_any b tn cap _ _ sa tl a _ R5).mono ?_
          rintro e w6 ⟨rfl, q6, rfl⟩
          replace R5 := R5.drewN q6
          have HB6 := hide (below_drewN HB5.out q6)
          clear HB5
          generalize w5.drewN q6 = w6 at *
          go_wp2_with fail
          refine (leftR_any b tn cap _ _ sa tl a _ R5).mono ?_
          rintro e w7 ⟨rfl, q7, rfl⟩
          replace R5 := R5.drewN q7
          have HB7 := hide (below_drewN HB6.out q7)
          clear HB6
          generalize w6.drewN q7 = w7 at *
          go_wp2_with fail
          go_roundw
          case rel => exact ⟨j + 1, by go_num, by omega, R5, HB7⟩
          case measure => simp [intOf]; omega
        · go_wp2_with fail
          refine (close_any b tn cap K F sa tl a _ R2).mono ?_
          rintro e w5 ⟨rfl, T5, _⟩
          rw [closes hF]
          have HB5 := hide (T5.below hb HB4.out)
          go_wp2_with fail
          go_ret
          exact ⟨rfl, HB5.out⟩

set_option maxRecDepth 100000 in
/-- For every argument and every world that holds the sentinels. -/
theorem contract (H : Type) (enc : TypeId × Value → H) (W : World) (base : Nat) (args : Array Value) (ds gs : List (DataW H)) (before : List MemPlace)
    (hval : ∀ (j : Nat) t v, Tryd.f4.params[j]? = some t → args[j]? = some v → Value.okWide Tryd.prog W .any base t v)
    (hW : DataW.Whole enc Tryd.prog Tryd.f4.params.toList Rows.wireStuckSpec.vars false W args.toList ds gs before)
    (hsz : (DataW.weightsEach Tryd.prog (Tryd.f4.params.toList ++ (OpenSpec.ofChange Rows.wireStuckSpec).bare.plain.varTypes Tryd.prog) (ds ++ gs)).all (· ≤ reachBytes) = true)
    (hL : laidMetH Tryd.prog Rows.wireStuckRow.laid W) :
    Calls Tryd.prog 4 args W fun e W' => ∃ v, e = .returned v ∧ Rows.wireStuckSpec.post enc Tryd.prog Tryd.f4 false true false false W args v W' := by
  have hW' := hW
  obtain ⟨p, q, hA0, hV, rfl, hfz, hnd⟩ := hW
  have hA : DataW.TrodAll enc Tryd.prog W 0 (fun _ => true) true Tryd.f4.params.toList args.toList ds p := hA0
  rw [Tryd.params4] at hA hval hsz
  obtain ⟨v0, vs0, d0, ds0, p0, q0, hargs, rfl, rfl, h0, r0⟩ := trodAll_cons hA
  obtain ⟨v1, vs1, d1, ds1, p1, q1, rfl, rfl, rfl, h1, r1⟩ := trodAll_cons r0
  obtain ⟨v2, vs2, d2, ds2, p2, q2, rfl, rfl, rfl, h2, r2⟩ := trodAll_cons r1
  obtain ⟨rfl, rfl, rfl⟩ := trodAll_nil r2
  obtain rfl : args = #[v0, v1, v2] := by cases args; simp_all
  obtain ⟨rfl, rfl⟩ := trodVars_none hV
  obtain ⟨a0, n0, cap0, rfl⟩ := okWide_slice Tryd.underlying25 (hval 0 25 v0 rfl rfl)
  have k0 := h0
  have lt0 : ∀ x ∈ p0, x.block < W.heap.size := by obtain ⟨m, hm⟩ := k0; exact DataW.trod_lt m _ _ _ hm
  obtain ⟨fuel0, hf0⟩ := h0
  obtain ⟨l0, hseg0, hbyt0, hcap0, hdat0⟩ := open_bytes hf0
  have hnone0 : a0 = none → n0 = 0 := fun e => by rcases Nat.eq_zero_or_pos n0 with h | h; exact h; obtain ⟨_, _, e', _⟩ := hseg0.2.2 h; rw [e] at e'; cases e'
  obtain ⟨a1, n1, cap1, rfl⟩ := okWide_slice Tryd.underlying36 (hval 1 36 v1 rfl rfl)
  have k1 := h1
  have lt1 : ∀ x ∈ p1, x.block < W.heap.size := by obtain ⟨m, hm⟩ := k1; exact DataW.trod_lt m _ _ _ hm
  obtain ⟨fuel1, hf1⟩ := h1
  obtain ⟨l1, hseg1⟩ := open_ops hf1
  obtain ⟨a2, n2, cap2, rfl⟩ := okWide_slice Tryd.underlying36 (hval 2 36 v2 rfl rfl)
  have k2 := h2
  have lt2 : ∀ x ∈ p2, x.block < W.heap.size := by obtain ⟨m, hm⟩ := k2; exact DataW.trod_lt m _ _ _ hm
  obtain ⟨fuel2, hf2⟩ := h2
  obtain ⟨l2, hseg2⟩ := open_ops hf2
  have hreach0 : cap0 ≤ 140737488351232 := by
    rcases hdat0 with ⟨_, _, h⟩ | ⟨elems, spare, hd, he, hc⟩
    · omega
    · have hs := sized_slice hsz (j := 0) (t := 25) (e := 5) (elems := elems) (spare := spare) rfl (by rw [show d0 = _ from hd]; rfl) Tryd.underlying25
      rw [bytes5] at hs
      simp only [reachBytes] at hs
      omega
  obtain ⟨a, hE⟩ := errs_of_laid hL
  clear hA0

  refine (walk a0 a1 a2 n0 cap0 n1 cap1 n2 cap2 l0 l1 l2 a W hseg0 hbyt0 (by omega) hnone0 hseg1 hseg2 hE).mono fun e W' ⟨he, bel⟩ => ?_
  subst he
  exact ⟨_, rfl, _, _, _, [], _, [], hW', trodAll_mk1 (shut_bool Tryd.underlying4 _), (trodAll_cons_mk (Below.trod laidOut (by kernel_rfl) (of_decide_eq_true (by kernel_rfl)) k0 bel lt0) (trodAll_cons_mk (Below.trod laidOut (by kernel_rfl) (of_decide_eq_true (by kernel_rfl)) k1 bel lt1) (trodAll_cons_mk (Below.trod laidOut (by kernel_rfl) (of_decide_eq_true (by kernel_rfl)) k2 bel lt2) trodAll_mk0))), rfl, bel.frame _, fun h => by cases h⟩

theorem reads (os : Os) {H : Type} (enc : TypeId × Value → H) : ∃ places, DataW.whole enc Tryd.prog ((World.doorLaid Tryd.prog 104 os).forCall (fun _ _ => 0) ⟨#[], #[.slice none 0 0, .slice none 0 0, .slice none 0 0], []⟩).memory Tryd.f4.params.toList Rows.wireStuckSpec.vars false #[Value.slice none 0 0, .slice none 0 0, .slice none 0 0].toList 8 = some ([.nil, .nil, .nil], [], places) :=
  ⟨[], by kernel_rfl⟩

set_option maxRecDepth 100000 in
theorem lifted (os : Os) (started : os.Started) (H : Type) (enc : TypeId × Value → H) (F : Stop.Interp) :
    ReturnsInHanded {} Tryd.checked os 4 .any ((OpenSpec.ofChange Rows.wireStuckSpec).preRow enc Tryd.prog Tryd.f4 Rows.wireStuckRow.domain false Rows.wireStuckRow.laid) (((OpenSpec.ofChange Rows.wireStuckSpec).at F).post enc Tryd.prog Tryd.f4 false true false false) := by
  obtain ⟨places, hx⟩ := reads os enc
  refine returnsInHanded_of_row (C := Tryd.checked) (s := (OpenSpec.ofChange Rows.wireStuckSpec)) own started (by kernel_rfl) Tryd.func4
    (witness_row_atRef (enc := enc) (C := Tryd.checked) false (World.doorLaid Tryd.prog 104 os) #[.slice none 0 0, .slice none 0 0, .slice none 0 0] rfl (by kernel_rfl) (by kernel_rfl) (by kernel_rfl)
      (OpenSpec.preRow_of_cond 8 hx (by kernel_rfl) (fun k hk => by cases hk) (by kernel_rfl) (door_met os _))) ?_
  intro W base args ds gs before hval hW _ hcond hsz hL _ _
  exact contract H enc W base args ds gs before hval hW hsz hL

theorem said : Rows.WireStuckSaid :=
  OpenClaim.holds_of_cond 4 Tryd.f4 rfl rfl rfl rfl rfl rfl rfl ⟨rfl, rfl, rfl, rfl, rfl⟩ rfl rfl rfl rfl rfl (by kernel_rfl) Tryd.func4 (by kernel_rfl)
    (of_decide_eq_true (by kernel_rfl)) (by unfold Func.isWrapper; first | (rw [if_pos (by decide +kernel)]; kernel_rfl) | (rw [if_neg (by decide +kernel)]; exact ⟨rfl, rfl⟩))
    (fun os started H enc _ F => by rw [OpenClaim.pre_eq_preRow]; exact lifted os started H enc F)

theorem plain (f : FuncId) (fn : Func) (hf : Tryd.pinned.checked.prog.funcNamed "moot/mootlaw1.WireStuck" = some f) (hfn : Tryd.pinned.checked.prog.funcs[f]? = some fn) :
    true = Tryd.pinned.checked.prog.looks [] ∧ ∀ (j : Nat) t, fn.params[j]? = some t → Tryd.pinned.checked.prog.wantsStandIn t = false := by
  obtain rfl : f = 4 := Option.some.inj ((show Tryd.prog.funcNamed "moot/mootlaw1.WireStuck" = some 4 by kernel_rfl).symm.trans hf) |>.symm
  obtain rfl : fn = Tryd.f4 := (Option.some.inj (Tryd.func4.symm.trans hfn)).symm
  refine ⟨by kernel_rfl, fun j t ht => ?_⟩
  rw [Tryd.params4] at ht
  have hm : t ∈ [25, 36, 36] := by simpa using Array.mem_of_getElem? ht
  have hall : ([25, 36, 36].all fun u => !Tryd.prog.wantsStandIn u) = true := by kernel_rfl
  exact (show Tryd.prog.wantsStandIn t = false by simpa using List.all_eq_true.1 hall t hm)

end wireStuck
theorem wireStuck_proved : Rows.WireStuckCardSaid :=
  Claim7.holds_tied_plain_at .later [] _ _ _ _ wireStuck.said (fun _ h => by cases h) (by kernel_rfl) (fun _ h => by cases h) wireStuck_row_tie rfl ⟨rfl, rfl⟩ (by kernel_rfl) rfl wireStuck.plain (by kernel_rfl)
#print axioms wireStuck_proved
end Go.Proofs.YtifhbbljjalpfabDoor
