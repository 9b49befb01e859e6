/- Proved: for all versions, payloads, sizes and counts of missing bytes, of bulk at most 1048576, FrameBack answers true: payloads sealed one behind the other and cut anywhere are drained in their order. Conditions: the table of sixteen of package crc and the five sentinels of package wire start as the program's text lays them (the card ties them). -/
import Derived.Test.YtiajkdjljilndaaDoorFrBackB
import Derived.Test.YtiajkdjljilndaaDoorFrBackC
import Derived.Test.YtiajkdjljilndaaDoorRowB
import Derived.Test.YtiajkdjljilndaaDoorFrLaid
import Derived.Test.YtiajkdjljilndaaDoorTie
import Derived.Test.YtiajkdjljilndaaDoorCards
import Derived.Deep.DeepHandedRow
import Derived.Deep.DeepWitnessRowRef
namespace Go.Proofs.YtiajkdjljilndaaDoor
open Go.ChangeShapes Go.WideShapes Go.ChangeAt Go.RowKit Go.Wire1 Go.Crc2 Go.Frm
namespace frameBack

theorem chs_byt {w : World} {ca : Option Addr} {n : Nat} {ls : List (List Int)} (h : Chs w ca n ls) : ∀ q ∈ ls, Byt q := by
  intro q hq
  obtain ⟨j, hj, rfl⟩ := List.getElem_of_mem hq
  obtain ⟨c, off, _, hc⟩ := h.2.2 (by have := h.1; omega)
  obtain ⟨_, _, _, _, _, _, _, hb⟩ := hc j (by have := h.1; omega)
  rw [List.getD, List.getElem?_eq_getElem hj] at hb
  exact hb
theorem walk (y0 : Int) (pa : Option Addr) (pn pcap : Nat) (ls : List (List Int)) (ca : Option Addr) (cn ccap : Nat) (cl : List Int) (y3 : Int) (a : Nat → Addr) (w : World) (hs : Chs w pa pn ls) (hpc : pn ≤ pcap) (hpm : pcap ≤ 1048576) (hbk : ls.flatten.length + ls.length ≤ 1048576) (hI : SegI w ca cn cl) (hcc : cn ≤ ccap) (hy3 : -9223372036854775808 ≤ y3 ∧ y3 ≤ 9223372036854775807) (hH : Hal w) (hE : Errs w a) :
    Calls Tryd.prog 6 #[.int .i64 y0, .slice pa pn pcap, .slice ca cn ccap, .int .i64 y3] w fun e w' => e = .returned (.bool true) ∧ Below w.heap.size w w' := by
  cases hv : verB y0 with
  | false => exact back_ver y0 hv pa pn pcap ca cn ccap cl y3 hy3 a w hI hcc hH hE
  | true =>
    have h0 : 0 ≤ y0 ∧ y0 ≤ 2 := by unfold verB at hv; simpa using hv
    obtain ⟨u, rfl⟩ := Int.eq_ofNat_of_zero_le h0.1
    cases hf : fitL ls with
    | false => exact back_unfit u (by omega) pa pn pcap ls hf ca cn ccap cl y3 hy3 a w hI hcc hH hE hs
    | true =>
      rcases List.eq_nil_or_concat ls with rfl | ⟨init, p, rfl⟩
      · obtain rfl : 0 = pn := hs.1
        exact back_none u (by omega) pa pcap ca cn ccap cl y3 hy3 a w hI hcc hH hE
      · rw [List.concat_eq_append] at hs hbk hf
        exact back_good u (by omega) pa pn pcap init p ca cn ccap cl y3 hy3 a w hI hcc hH hE hs hpc hpm (fitL_yes hf) (chs_byt hs) hbk

set_option maxRecDepth 100000 in
/-- For every argument and every world. -/
theorem contract (H : Type) (enc : TypeId × Value → H) (W : World) (base : Nat) (args : Array Value) (ds gs : List (DataW H)) (before : List MemPlace)
    (hval : ∀ (j : Nat) t v, Tryd.f6.params[j]? = some t → args[j]? = some v → Value.okWide Tryd.prog W .any base t v)
    (hW : DataW.Whole enc Tryd.prog Tryd.f6.params.toList Rows.frameBackSpec.vars false W args.toList ds gs before)
    (hsz : (DataW.weightsEach Tryd.prog (Tryd.f6.params.toList ++ (Rows.OpenSpec.upto Rows.frameBackSpec).bare.plain.varTypes Tryd.prog) (ds ++ gs)).all (· ≤ reachBytes) = true)
    (hup : Rows.uptoSmall H (ds ++ gs) = true)
    (hL : laidMetH Tryd.prog Rows.frameBackUptoRow.laid W) :
    Calls Tryd.prog 6 args W fun e W' => ∃ v, e = .returned v ∧ Rows.frameBackSpec.post enc Tryd.prog Tryd.f6 false true false false W args v W' := by
  have hW' := hW
  obtain ⟨p, q, hA0, hV, rfl, hfz, hnd⟩ := hW
  have hA : DataW.TrodAll enc Tryd.prog W 0 (fun _ => true) true Tryd.f6.params.toList args.toList ds p := hA0
  rw [Tryd.params6] at hA hval hsz
  obtain ⟨v0, vs0, d0, ds0, p0, q0, hargs, rfl, rfl, h0, tr0⟩ := trodAll_cons hA
  obtain ⟨v1, vs1, d1, ds1, p1, q1, rfl, rfl, rfl, h1, tr1⟩ := trodAll_cons tr0
  obtain ⟨v2, vs2, d2, ds2, p2, q2, rfl, rfl, rfl, h2, tr2⟩ := trodAll_cons tr1
  obtain ⟨v3, vs3, d3, ds3, p3, q3, rfl, rfl, rfl, h3, tr3⟩ := trodAll_cons tr2
  obtain ⟨rfl, rfl, rfl⟩ := trodAll_nil tr3
  obtain rfl : args = #[v0, v1, v2, v3] := by cases args; simp_all
  obtain ⟨rfl, rfl⟩ := trodVars_none hV
  obtain ⟨y0, rfl, rfl, rfl, w0⟩ := open_int Tryd.underlying3 (hval 0 3 v0 rfl rfl) h0
  have b0 := bounds_i64 w0
  obtain ⟨a1, n1, cap1, rfl⟩ := okWide_slice Tryd.underlying24 (hval 1 24 v1 rfl rfl)
  have k1 := h1
  have lt1 : ∀ x ∈ p1, x.block < W.heap.size := by obtain ⟨m, hm⟩ := k1; exact DataW.trod_lt m _ _ _ hm
  obtain ⟨fuel1, hf1⟩ := h1
  have hbd1 : Rows.uptoBulk d1 ≤ 1048576 := by
    have hup' : Rows.uptoBulk _ + (Rows.uptoBulk d1 + (Rows.uptoBulk d2 + (Rows.uptoBulk _ + 0))) ≤ 1048576 := of_decide_eq_true hup
    omega
  obtain ⟨l1, hseg1, hcap1, hcm1, hbk1⟩ := open_rowb hf1 hbd1
  obtain ⟨a2, n2, cap2, rfl⟩ := okWide_slice Tryd.underlying31 (hval 2 31 v2 rfl rfl)
  have k2 := h2
  have lt2 : ∀ x ∈ p2, x.block < W.heap.size := by obtain ⟨m, hm⟩ := k2; exact DataW.trod_lt m _ _ _ hm
  obtain ⟨fuel2, hf2⟩ := h2
  obtain ⟨l2, hseg2, hcap2, hdat2⟩ := open_ints hf2
  obtain ⟨y3, rfl, rfl, rfl, w3⟩ := open_int Tryd.underlying3 (hval 3 3 v3 rfl rfl) h3
  have b3 := bounds_i64 w3
  have hE := errs_of_laid hL
  clear hA0
  obtain ⟨aa, haa⟩ := hE
  refine (walk y0 a1 n1 cap1 l1 a2 n2 cap2 l2 y3 aa W hseg1 hcap1 hcm1 (Nat.le_trans hbk1 hbd1) hseg2 hcap2 b3 (hal_of_laid hL) haa).mono fun e W' ⟨he, bel⟩ => ?_
  subst he
  exact ⟨_, rfl, _, _, _, [], _, [], hW', trodAll_mk1 (shut_bool Tryd.underlying4 _), (trodAll_cons_mk (shut_int Tryd.underlying3 w0) (trodAll_cons_mk (Below.trod laidOut (by kernel_rfl) (of_decide_eq_true (by kernel_rfl)) k1 bel lt1) (trodAll_cons_mk (Below.trod laidOut (by kernel_rfl) (of_decide_eq_true (by kernel_rfl)) k2 bel lt2) (trodAll_cons_mk (shut_int Tryd.underlying3 w3) trodAll_mk0)))), rfl, bel.frame _, fun h => by cases h⟩

theorem reads (os : Os) {H : Type} (enc : TypeId × Value → H) : ∃ places, DataW.whole enc Tryd.prog ((World.doorLaid Tryd.prog 400 os).forCall (fun _ _ => 0) ⟨#[], #[.int .i64 0, .slice none 0 0, .slice none 0 0, .int .i64 0], []⟩).memory Tryd.f6.params.toList Rows.frameBackSpec.vars false (#[Value.int .i64 0, .slice none 0 0, .slice none 0 0, .int .i64 0] : Array Value).toList 8 = some ([.lit (.int .i64 0), .nil, .nil, .lit (.int .i64 0)], [], places) :=
  ⟨[], by kernel_rfl⟩

set_option maxRecDepth 100000 in
theorem lifted (os : Os) (started : os.Started) (H : Type) (enc : TypeId × Value → H) (F : Stop.Interp) :
    ReturnsInHanded {} Tryd.checked os 6 .any ((Rows.OpenSpec.upto Rows.frameBackSpec).preRow enc Tryd.prog Tryd.f6 Rows.frameBackUptoRow.domain false Rows.frameBackUptoRow.laid) (((Rows.OpenSpec.upto Rows.frameBackSpec).at F).post enc Tryd.prog Tryd.f6 false true false false) := by
  obtain ⟨places, hx⟩ := reads os enc
  refine returnsInHanded_of_row (C := Tryd.checked) (s := (Rows.OpenSpec.upto Rows.frameBackSpec)) own started (by kernel_rfl) Tryd.func6
    (witness_row_atRef (enc := enc) (C := Tryd.checked) false (World.doorLaid Tryd.prog 400 os) #[.int .i64 0, .slice none 0 0, .slice none 0 0, .int .i64 0] rfl (by kernel_rfl) (by kernel_rfl) (by kernel_rfl)
      (OpenSpec.preRow_of_cond 8 hx (by kernel_rfl) (fun k hk => by cases hk; kernel_rfl) (by kernel_rfl) (door_met os _))) ?_
  intro W base args ds gs before hval hW _ hcond hsz hL _ _
  exact contract H enc W base args ds gs before hval hW hsz (hcond _ rfl) hL

theorem said : Rows.FrameBackUptoSaid :=
  OpenClaim.holds_of_cond 6 Tryd.f6 rfl rfl rfl rfl rfl rfl rfl ⟨rfl, rfl, rfl, rfl, rfl⟩ rfl rfl rfl rfl rfl (by kernel_rfl) Tryd.func6 (by kernel_rfl)
    (of_decide_eq_true (by kernel_rfl)) (by unfold Func.isWrapper; first | (rw [if_pos (by decide +kernel)]; kernel_rfl) | (rw [if_neg (by decide +kernel)]; exact ⟨rfl, rfl⟩))
    (fun os started H enc _ F => by rw [OpenClaim.pre_eq_preRow]; exact lifted os started H enc F)

theorem plain (f : FuncId) (fn : Func) (hf : Tryd.pinned.checked.prog.funcNamed "moot/mootlaw7.FrameBack" = some f) (hfn : Tryd.pinned.checked.prog.funcs[f]? = some fn) :
    true = Tryd.pinned.checked.prog.looks [] ∧ ∀ (j : Nat) t, fn.params[j]? = some t → Tryd.pinned.checked.prog.wantsStandIn t = false := by
  obtain rfl : f = 6 := Option.some.inj ((show Tryd.prog.funcNamed "moot/mootlaw7.FrameBack" = some 6 by kernel_rfl).symm.trans hf) |>.symm
  obtain rfl : fn = Tryd.f6 := (Option.some.inj (Tryd.func6.symm.trans hfn)).symm
  refine ⟨by kernel_rfl, fun j t ht => ?_⟩
  rw [Tryd.params6] at ht
  have hm : t ∈ [3, 24, 31, 3] := by simpa using Array.mem_of_getElem? ht
  have hall : ([3, 24, 31, 3].all fun u => !Tryd.prog.wantsStandIn u) = true := by kernel_rfl
  exact (show Tryd.prog.wantsStandIn t = false by simpa using List.all_eq_true.1 hall t hm)

end frameBack
theorem frameBack_proved : Rows.FrameBackUptoCardSaid :=
  Claim7.holds_tied_plain_at .later [] _ _ _ _ frameBack.said (fun _ h => by cases h) (by kernel_rfl) (fun _ h => by cases h) frameBackUpto_row_tie rfl ⟨rfl, rfl⟩ (by kernel_rfl) rfl frameBack.plain (by kernel_rfl)
#print axioms frameBack_proved
end Go.Proofs.YtiajkdjljilndaaDoor
