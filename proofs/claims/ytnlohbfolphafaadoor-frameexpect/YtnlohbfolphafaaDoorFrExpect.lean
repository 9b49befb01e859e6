/- Proved: for all versions, payloads and places FrameExpect answers true: between two frames the version may turn, in the midst of one it may not. Conditions: the table of sixteen of package crc and the five sentinels of package wire start as the program's text lays them (the card ties them). -/
import Derived.Test.YtnlohbfolphafaaDoorFrExp
import Derived.Test.YtnlohbfolphafaaDoorFrExpB
import Derived.Test.YtnlohbfolphafaaDoorFrExpC
import Derived.Test.YtnlohbfolphafaaDoorArgs
import Derived.Test.YtnlohbfolphafaaDoorFrLaid
import Derived.Test.YtnlohbfolphafaaDoorTie
import Derived.Test.YtnlohbfolphafaaDoorCards
import Derived.Deep.DeepHandedRow
import Derived.Deep.DeepWitnessRowRef
namespace Go.Proofs.YtnlohbfolphafaaDoor
open Go.ChangeShapes Go.WideShapes Go.ChangeAt Go.RowKit Go.Wire1 Go.Crc2 Go.Frm
namespace frameExpect

theorem walk (y0 y1 : Int) (sa : Option Addr) (n cap : Nat) (l : List Int) (sb : Option Addr) (m cbp : Nat) (k : List Int) (y4 : Int) (a : Nat → Addr) (w : World) (hs : Seg w sa n l) (ht : Seg w sb m k) (hy : Byt l) (hz : Byt k) (hH : Hal w) (hE : Errs w a) :
    Calls Tryd.prog 6 #[.int .i64 y0, .int .i64 y1, .slice sa n cap, .slice sb m cbp, .int .i64 y4] w fun e w' => e = .returned (.bool true) ∧ Below w.heap.size w w' := by
  by_cases h1 : y0 < 0
  · exact expect_bad1 y0 y1 sa n cap l sb m cbp k y4 a w hs ht hy hz hH hE h1
  by_cases h2 : 2 < y0
  · exact expect_bad2 y0 y1 sa n cap l sb m cbp k y4 a w hs ht hy hz hH hE h1 h2
  by_cases h3 : y1 < 0
  · exact expect_bad3 y0 y1 sa n cap l sb m cbp k y4 a w hs ht hy hz hH hE h1 h2 h3
  by_cases h4 : 2 < y1
  · exact expect_bad4 y0 y1 sa n cap l sb m cbp k y4 a w hs ht hy hz hH hE h1 h2 h3 h4
  by_cases h5 : 1048576 < (n : Int)
  · exact expect_bad5 y0 y1 sa n cap l sb m cbp k y4 a w hs ht hy hz hH hE h1 h2 h3 h4 h5
  by_cases h6 : 1048576 < (m : Int)
  · exact expect_bad6 y0 y1 sa n cap l sb m cbp k y4 a w hs ht hy hz hH hE h1 h2 h3 h4 h5 h6
  obtain ⟨v, rfl⟩ := Int.eq_ofNat_of_zero_le (show 0 ≤ y0 by omega)
  obtain ⟨u, rfl⟩ := Int.eq_ofNat_of_zero_le (show 0 ≤ y1 by omega)
  exact expect_good (v : Int) (u : Int) sa n cap l sb m cbp k y4 a w hs ht hy hz hH hE v u (by omega) (by omega) rfl rfl (by omega) (by omega)

set_option maxRecDepth 100000 in
/-- For every argument and every world. -/
theorem contract (H : Type) (enc : TypeId × Value → H) (W : World) (base : Nat) (args : Array Value) (ds gs : List (DataW H)) (before : List MemPlace)
    (hval : ∀ (j : Nat) t v, Tryd.f6.params[j]? = some t → args[j]? = some v → Value.okWide Tryd.prog W .any base t v)
    (hW : DataW.Whole enc Tryd.prog Tryd.f6.params.toList Rows.frameExpectSpec.vars false W args.toList ds gs before)
    (hsz : (DataW.weightsEach Tryd.prog (Tryd.f6.params.toList ++ (OpenSpec.ofChange Rows.frameExpectSpec).bare.plain.varTypes Tryd.prog) (ds ++ gs)).all (· ≤ reachBytes) = true)
    (hL : laidMetH Tryd.prog Rows.frameExpectRow.laid W) :
    Calls Tryd.prog 6 args W fun e W' => ∃ v, e = .returned v ∧ Rows.frameExpectSpec.post enc Tryd.prog Tryd.f6 false true false false W args v W' := by
  have hW' := hW
  obtain ⟨p, q, hA0, hV, rfl, hfz, hnd⟩ := hW
  have hA : DataW.TrodAll enc Tryd.prog W 0 (fun _ => true) true Tryd.f6.params.toList args.toList ds p := hA0
  rw [Tryd.params6] at hA hval hsz
  obtain ⟨v0, vs0, d0, ds0, p0, q0, hargs, rfl, rfl, h0, tr0⟩ := trodAll_cons hA
  obtain ⟨v1, vs1, d1, ds1, p1, q1, rfl, rfl, rfl, h1, tr1⟩ := trodAll_cons tr0
  obtain ⟨v2, vs2, d2, ds2, p2, q2, rfl, rfl, rfl, h2, tr2⟩ := trodAll_cons tr1
  obtain ⟨v3, vs3, d3, ds3, p3, q3, rfl, rfl, rfl, h3, tr3⟩ := trodAll_cons tr2
  obtain ⟨v4, vs4, d4, ds4, p4, q4, rfl, rfl, rfl, h4, tr4⟩ := trodAll_cons tr3
  obtain ⟨rfl, rfl, rfl⟩ := trodAll_nil tr4
  obtain rfl : args = #[v0, v1, v2, v3, v4] := by cases args; simp_all
  obtain ⟨rfl, rfl⟩ := trodVars_none hV
  obtain ⟨y0, rfl, rfl, rfl, w0⟩ := open_int Tryd.underlying3 (hval 0 3 v0 rfl rfl) h0
  have b0 := bounds_i64 w0
  obtain ⟨y1, rfl, rfl, rfl, w1⟩ := open_int Tryd.underlying3 (hval 1 3 v1 rfl rfl) h1
  have b1 := bounds_i64 w1
  obtain ⟨a2, n2, cap2, rfl⟩ := okWide_slice Tryd.underlying22 (hval 2 22 v2 rfl rfl)
  have k2 := h2
  have lt2 : ∀ x ∈ p2, x.block < W.heap.size := by obtain ⟨m, hm⟩ := k2; exact DataW.trod_lt m _ _ _ hm
  obtain ⟨fuel2, hf2⟩ := h2
  obtain ⟨l2, hseg2, hbyt2, hcap2, hdat2⟩ := open_bytes hf2
  obtain ⟨a3, n3, cap3, rfl⟩ := okWide_slice Tryd.underlying22 (hval 3 22 v3 rfl rfl)
  have k3 := h3
  have lt3 : ∀ x ∈ p3, x.block < W.heap.size := by obtain ⟨m, hm⟩ := k3; exact DataW.trod_lt m _ _ _ hm
  obtain ⟨fuel3, hf3⟩ := h3
  obtain ⟨l3, hseg3, hbyt3, hcap3, hdat3⟩ := open_bytes hf3
  obtain ⟨y4, rfl, rfl, rfl, w4⟩ := open_int Tryd.underlying3 (hval 4 3 v4 rfl rfl) h4
  have b4 := bounds_i64 w4
  have hE := errs_of_laid hL
  clear hA0
  obtain ⟨aa, haa⟩ := hE
  refine (walk y0 y1 a2 n2 cap2 l2 a3 n3 cap3 l3 y4 aa W hseg2 hseg3 hbyt2 hbyt3 (hal_of_laid hL) haa).mono fun e W' ⟨he, bel⟩ => ?_
  subst he
  exact ⟨_, rfl, _, _, _, [], _, [], hW', trodAll_mk1 (shut_bool Tryd.underlying4 _), (trodAll_cons_mk (shut_int Tryd.underlying3 w0) (trodAll_cons_mk (shut_int Tryd.underlying3 w1) (trodAll_cons_mk (Below.trod laidOut (by kernel_rfl) (of_decide_eq_true (by kernel_rfl)) k2 bel lt2) (trodAll_cons_mk (Below.trod laidOut (by kernel_rfl) (of_decide_eq_true (by kernel_rfl)) k3 bel lt3) (trodAll_cons_mk (shut_int Tryd.underlying3 w4) trodAll_mk0))))), rfl, bel.frame _, fun h => by cases h⟩

theorem reads (os : Os) {H : Type} (enc : TypeId × Value → H) : ∃ places, DataW.whole enc Tryd.prog ((World.doorLaid Tryd.prog 400 os).forCall (fun _ _ => 0) ⟨#[], #[.int .i64 0, .int .i64 0, .slice none 0 0, .slice none 0 0, .int .i64 0], []⟩).memory Tryd.f6.params.toList Rows.frameExpectSpec.vars false (#[Value.int .i64 0, .int .i64 0, .slice none 0 0, .slice none 0 0, .int .i64 0] : Array Value).toList 8 = some ([.lit (.int .i64 0), .lit (.int .i64 0), .nil, .nil, .lit (.int .i64 0)], [], places) :=
  ⟨[], by kernel_rfl⟩

set_option maxRecDepth 100000 in
theorem lifted (os : Os) (started : os.Started) (H : Type) (enc : TypeId × Value → H) (F : Stop.Interp) :
    ReturnsInHanded {} Tryd.checked os 6 .any ((OpenSpec.ofChange Rows.frameExpectSpec).preRow enc Tryd.prog Tryd.f6 Rows.frameExpectRow.domain false Rows.frameExpectRow.laid) (((OpenSpec.ofChange Rows.frameExpectSpec).at F).post enc Tryd.prog Tryd.f6 false true false false) := by
  obtain ⟨places, hx⟩ := reads os enc
  refine returnsInHanded_of_row (C := Tryd.checked) (s := (OpenSpec.ofChange Rows.frameExpectSpec)) own started (by kernel_rfl) Tryd.func6
    (witness_row_atRef (enc := enc) (C := Tryd.checked) false (World.doorLaid Tryd.prog 400 os) #[.int .i64 0, .int .i64 0, .slice none 0 0, .slice none 0 0, .int .i64 0] rfl (by kernel_rfl) (by kernel_rfl) (by kernel_rfl)
      (OpenSpec.preRow_of_cond 8 hx (by kernel_rfl) (fun k hk => by cases hk) (by kernel_rfl) (door_met os _))) ?_
  intro W base args ds gs before hval hW _ hcond hsz hL _ _
  exact contract H enc W base args ds gs before hval hW hsz hL

theorem said : Rows.FrameExpectSaid :=
  OpenClaim.holds_of_cond 6 Tryd.f6 rfl rfl rfl rfl rfl rfl rfl ⟨rfl, rfl, rfl, rfl, rfl⟩ rfl rfl rfl rfl rfl (by kernel_rfl) Tryd.func6 (by kernel_rfl)
    (of_decide_eq_true (by kernel_rfl)) (by unfold Func.isWrapper; first | (rw [if_pos (by decide +kernel)]; kernel_rfl) | (rw [if_neg (by decide +kernel)]; exact ⟨rfl, rfl⟩))
    (fun os started H enc _ F => by rw [OpenClaim.pre_eq_preRow]; exact lifted os started H enc F)

theorem plain (f : FuncId) (fn : Func) (hf : Tryd.pinned.checked.prog.funcNamed "moot/mootlaw7.FrameExpect" = some f) (hfn : Tryd.pinned.checked.prog.funcs[f]? = some fn) :
    true = Tryd.pinned.checked.prog.looks [] ∧ ∀ (j : Nat) t, fn.params[j]? = some t → Tryd.pinned.checked.prog.wantsStandIn t = false := by
  obtain rfl : f = 6 := Option.some.inj ((show Tryd.prog.funcNamed "moot/mootlaw7.FrameExpect" = some 6 by kernel_rfl).symm.trans hf) |>.symm
  obtain rfl : fn = Tryd.f6 := (Option.some.inj (Tryd.func6.symm.trans hfn)).symm
  refine ⟨by kernel_rfl, fun j t ht => ?_⟩
  rw [Tryd.params6] at ht
  have hm : t ∈ [3, 3, 22, 22, 3] := by simpa using Array.mem_of_getElem? ht
  have hall : ([3, 3, 22, 22, 3].all fun u => !Tryd.prog.wantsStandIn u) = true := by kernel_rfl
  exact (show Tryd.prog.wantsStandIn t = false by simpa using List.all_eq_true.1 hall t hm)

end frameExpect
theorem frameExpect_proved : Rows.FrameExpectCardSaid :=
  Claim7.holds_tied_plain_at .later [] _ _ _ _ frameExpect.said (fun _ h => by cases h) (by kernel_rfl) (fun _ h => by cases h) frameExpect_row_tie rfl ⟨rfl, rfl⟩ (by kernel_rfl) rfl frameExpect.plain (by kernel_rfl)
#print axioms frameExpect_proved
end Go.Proofs.YtnlohbfolphafaaDoor
