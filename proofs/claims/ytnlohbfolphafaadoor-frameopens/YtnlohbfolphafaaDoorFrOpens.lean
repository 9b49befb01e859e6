/- Proved: for every version and all bytes FrameOpens answers true: every Open is the document's, and the bytes stay. Conditions: the table of sixteen of package crc and the five sentinels of package wire start as the program's text lays them (the card ties them). -/
import Derived.Test.YtnlohbfolphafaaDoorFrOpB
import Derived.Test.YtnlohbfolphafaaDoorArgs
import Derived.Test.YtnlohbfolphafaaDoorFrLaid
import Derived.Test.YtnlohbfolphafaaDoorTie
import Derived.Test.YtnlohbfolphafaaDoorCards
import Derived.Deep.DeepHandedRow
import Derived.Deep.DeepWitnessRowRef
namespace Go.Proofs.YtnlohbfolphafaaDoor
open Go.ChangeShapes Go.WideShapes Go.ChangeAt Go.RowKit Go.Wire1 Go.Crc2 Go.Frm
namespace frameOpens

theorem frm_small : (frm 1 [97, 98, 99]).length ≤ 1048600 := by
  rw [frm_len]; have := hdL_len 1 ([97, 98, 99] : List Int).length (by decide); simp at this ⊢; omega
set_option maxHeartbeats 4000000 in
set_option maxRecDepth 100000 in
theorem walk (y0 : Int) (sa : Option Addr) (n cap : Nat) (l : List Int) (a : Nat → Addr) (w : World) (hs : Seg w sa n l) (hnc : n ≤ cap) (hc : cap ≤ maxLen) (hy : Byt l) (hreach : n ≤ 140737488351232) (hH : Hal w) (hE : Errs w a) :
    Calls Tryd.prog 8 #[.int .i64 y0, .slice sa n cap] w fun e w' => e = .returned (.bool true) ∧ Below w.heap.size w w' := by
  have SP := hide hs
  have HY := hide hy
  have HAL := hide hH
  have HER := hide hE
  have HNC := hide hnc
  have HC := hide hc
  have hc2 := fun W => abc_any W
  have hfl := frm_small
  have hfy : Byt (frm 1 [97, 98, 99]) := byt_frm 1 [97, 98, 99] (by decide) byt_abc
  generalize frm 1 [97, 98, 99] = FR at *
  have HC2 := hide hc2
  have HFL := hide hfl
  have HFY := hide hfy
  clear hc2 hfl hfy hs hy hH hE hnc hc
  go_enter Tryd.func8, Tryd.ntmps8
  go_wp2_with fail
  refine (HC2.out w).mono ?_
  rintro r_ w2 ⟨vb, rfl, hO2, hB2⟩
  obtain ⟨ab, cb, rfl, hb1, hb2, sg⟩ := seg_own hO2
  have S2 := hide sg
  have B1 := hide hb1
  have B2 := hide hb2
  have BW2 := hide hB2
  clear hO2 hB2 HC2 hb1 hb2 sg
  go_wp2_with fail
  refine (opens_any 1 ab FR.length cb FR a w2 S2.out B1.out B2.out HFY.out (by have := HFL.out; omega) (HAL.out.later BW2.out) (HER.out.below BW2.out (Nat.le_refl _))).mono ?_
  rintro r_ w3 ⟨rfl, hB3⟩
  have BW3 : Hid (Below w.heap.size w w3) := BW2.out.trans (hB3.mono BW2.out.size)
  clear hB3 BW2 S2 B1 B2
  go_wp2_with fail
  refine (opens_any y0 sa n cap l a w3 (SP.out.below BW3.out (Nat.le_refl _)) HNC.out HC.out HY.out hreach (HAL.out.later BW3.out) (HER.out.below BW3.out (Nat.le_refl _))).mono ?_
  rintro r_ w4 ⟨rfl, hB4⟩
  have BW4 : Hid (Below w.heap.size w w4) := BW3.out.trans (hB4.mono BW3.out.size)
  clear hB4 BW3
  go_wp2
  go_ret
  exact ⟨rfl, BW4.out⟩

set_option maxRecDepth 100000 in
/-- For every argument and every world. -/
theorem contract (H : Type) (enc : TypeId × Value → H) (W : World) (base : Nat) (args : Array Value) (ds gs : List (DataW H)) (before : List MemPlace)
    (hval : ∀ (j : Nat) t v, Tryd.f8.params[j]? = some t → args[j]? = some v → Value.okWide Tryd.prog W .any base t v)
    (hW : DataW.Whole enc Tryd.prog Tryd.f8.params.toList Rows.frameOpensSpec.vars false W args.toList ds gs before)
    (hsz : (DataW.weightsEach Tryd.prog (Tryd.f8.params.toList ++ (OpenSpec.ofChange Rows.frameOpensSpec).bare.plain.varTypes Tryd.prog) (ds ++ gs)).all (· ≤ reachBytes) = true)
    (hL : laidMetH Tryd.prog Rows.frameOpensRow.laid W) :
    Calls Tryd.prog 8 args W fun e W' => ∃ v, e = .returned v ∧ Rows.frameOpensSpec.post enc Tryd.prog Tryd.f8 false true false false W args v W' := by
  have hW' := hW
  obtain ⟨p, q, hA0, hV, rfl, hfz, hnd⟩ := hW
  have hA : DataW.TrodAll enc Tryd.prog W 0 (fun _ => true) true Tryd.f8.params.toList args.toList ds p := hA0
  rw [Tryd.params8] at hA hval hsz
  obtain ⟨v0, vs0, d0, ds0, p0, q0, hargs, rfl, rfl, h0, tr0⟩ := trodAll_cons hA
  obtain ⟨v1, vs1, d1, ds1, p1, q1, rfl, rfl, rfl, h1, tr1⟩ := trodAll_cons tr0
  obtain ⟨rfl, rfl, rfl⟩ := trodAll_nil tr1
  obtain rfl : args = #[v0, v1] := by cases args; simp_all
  obtain ⟨rfl, rfl⟩ := trodVars_none hV
  obtain ⟨y0, rfl, rfl, rfl, w0⟩ := open_int Tryd.underlying3 (hval 0 3 v0 rfl rfl) h0
  have b0 := bounds_i64 w0
  obtain ⟨a1, n1, cap1, rfl⟩ := okWide_slice Tryd.underlying22 (hval 1 22 v1 rfl rfl)
  have k1 := h1
  have lt1 : ∀ x ∈ p1, x.block < W.heap.size := by obtain ⟨m, hm⟩ := k1; exact DataW.trod_lt m _ _ _ hm
  obtain ⟨fuel1, hf1⟩ := h1
  obtain ⟨l1, hseg1, hbyt1, hcap1, hdat1⟩ := open_bytes hf1
  have hreach1 : cap1 ≤ 140737488351232 := by
    rcases hdat1 with ⟨_, _, h⟩ | ⟨elems, spare, hd, he, hc⟩
    · omega
    · have hs := sized_slice hsz (j := 1) (t := 22) (e := 5) (elems := elems) (spare := spare) rfl (by rw [show d1 = _ from hd]; rfl) Tryd.underlying22
      rw [bytes5] at hs
      simp only [reachBytes] at hs
      omega
  have hE := errs_of_laid hL
  clear hA0
  obtain ⟨aa, haa⟩ := hE
  refine (walk y0 a1 n1 cap1 l1 aa W hseg1 hcap1 (Nat.le_trans hreach1 (by unfold maxLen; omega)) hbyt1 (Nat.le_trans hcap1 hreach1) (hal_of_laid hL) haa).mono fun e W' ⟨he, bel⟩ => ?_
  subst he
  exact ⟨_, rfl, _, _, _, [], _, [], hW', trodAll_mk1 (shut_bool Tryd.underlying4 _), (trodAll_cons_mk (shut_int Tryd.underlying3 w0) (trodAll_cons_mk (Below.trod laidOut (by kernel_rfl) (of_decide_eq_true (by kernel_rfl)) k1 bel lt1) trodAll_mk0)), rfl, bel.frame _, fun h => by cases h⟩

theorem reads (os : Os) {H : Type} (enc : TypeId × Value → H) : ∃ places, DataW.whole enc Tryd.prog ((World.doorLaid Tryd.prog 400 os).forCall (fun _ _ => 0) ⟨#[], #[.int .i64 0, .slice none 0 0], []⟩).memory Tryd.f8.params.toList Rows.frameOpensSpec.vars false (#[Value.int .i64 0, .slice none 0 0] : Array Value).toList 8 = some ([.lit (.int .i64 0), .nil], [], places) :=
  ⟨[], by kernel_rfl⟩

set_option maxRecDepth 100000 in
theorem lifted (os : Os) (started : os.Started) (H : Type) (enc : TypeId × Value → H) (F : Stop.Interp) :
    ReturnsInHanded {} Tryd.checked os 8 .any ((OpenSpec.ofChange Rows.frameOpensSpec).preRow enc Tryd.prog Tryd.f8 Rows.frameOpensRow.domain false Rows.frameOpensRow.laid) (((OpenSpec.ofChange Rows.frameOpensSpec).at F).post enc Tryd.prog Tryd.f8 false true false false) := by
  obtain ⟨places, hx⟩ := reads os enc
  refine returnsInHanded_of_row (C := Tryd.checked) (s := (OpenSpec.ofChange Rows.frameOpensSpec)) own started (by kernel_rfl) Tryd.func8
    (witness_row_atRef (enc := enc) (C := Tryd.checked) false (World.doorLaid Tryd.prog 400 os) #[.int .i64 0, .slice none 0 0] rfl (by kernel_rfl) (by kernel_rfl) (by kernel_rfl)
      (OpenSpec.preRow_of_cond 8 hx (by kernel_rfl) (fun k hk => by cases hk) (by kernel_rfl) (door_met os _))) ?_
  intro W base args ds gs before hval hW _ hcond hsz hL _ _
  exact contract H enc W base args ds gs before hval hW hsz hL

theorem said : Rows.FrameOpensSaid :=
  OpenClaim.holds_of_cond 8 Tryd.f8 rfl rfl rfl rfl rfl rfl rfl ⟨rfl, rfl, rfl, rfl, rfl⟩ rfl rfl rfl rfl rfl (by kernel_rfl) Tryd.func8 (by kernel_rfl)
    (of_decide_eq_true (by kernel_rfl)) (by unfold Func.isWrapper; first | (rw [if_pos (by decide +kernel)]; kernel_rfl) | (rw [if_neg (by decide +kernel)]; exact ⟨rfl, rfl⟩))
    (fun os started H enc _ F => by rw [OpenClaim.pre_eq_preRow]; exact lifted os started H enc F)

theorem plain (f : FuncId) (fn : Func) (hf : Tryd.pinned.checked.prog.funcNamed "moot/mootlaw7.FrameOpens" = some f) (hfn : Tryd.pinned.checked.prog.funcs[f]? = some fn) :
    true = Tryd.pinned.checked.prog.looks [] ∧ ∀ (j : Nat) t, fn.params[j]? = some t → Tryd.pinned.checked.prog.wantsStandIn t = false := by
  obtain rfl : f = 8 := Option.some.inj ((show Tryd.prog.funcNamed "moot/mootlaw7.FrameOpens" = some 8 by kernel_rfl).symm.trans hf) |>.symm
  obtain rfl : fn = Tryd.f8 := (Option.some.inj (Tryd.func8.symm.trans hfn)).symm
  refine ⟨by kernel_rfl, fun j t ht => ?_⟩
  rw [Tryd.params8] at ht
  have hm : t ∈ [3, 22] := by simpa using Array.mem_of_getElem? ht
  have hall : ([3, 22].all fun u => !Tryd.prog.wantsStandIn u) = true := by kernel_rfl
  exact (show Tryd.prog.wantsStandIn t = false by simpa using List.all_eq_true.1 hall t hm)

end frameOpens
theorem frameOpens_proved : Rows.FrameOpensCardSaid :=
  Claim7.holds_tied_plain_at .later [] _ _ _ _ frameOpens.said (fun _ h => by cases h) (by kernel_rfl) (fun _ h => by cases h) frameOpens_row_tie rfl ⟨rfl, rfl⟩ (by kernel_rfl) rfl frameOpens.plain (by kernel_rfl)
#print axioms frameOpens_proved
end Go.Proofs.YtnlohbfolphafaaDoor
