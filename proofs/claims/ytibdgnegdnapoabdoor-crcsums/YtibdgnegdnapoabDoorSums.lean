/- Proved: for every list of bytes, CrcSums answers true: Sum is the document's, and the list handed in and its spare room stay. The table of sixteen is as the program's text lays it. -/
import Derived.Test.YtibdgnegdnapoabDoorCrc
import Derived.Test.YtibdgnegdnapoabDoorCUpd
import Derived.Test.YtibdgnegdnapoabDoorRoomy
import Derived.Test.YtibdgnegdnapoabDoorCSame
import Derived.Test.YtibdgnegdnapoabDoorCLaid
import Derived.Test.YtibdgnegdnapoabDoorArgs
import Derived.Test.YtibdgnegdnapoabDoorCards
import Derived.Test.YtibdgnegdnapoabDoorTie
import Derived.WalkSmall
import Derived.Deep.DeepHandedRow
import Derived.Deep.DeepWitnessRowRef
namespace Go.Proofs.YtibdgnegdnapoabDoor
namespace crcSums
open Go.ChangeShapes Go.WideShapes Go.ChangeAt Go.RowKit Go.Wire1 Go.Crc2

theorem three : Byt [11, 12, 13] := fun z hz => by simp at hz; omega

set_option maxHeartbeats 1000000 in
set_option maxRecDepth 100000 in
theorem walk (a : Option Addr) (n cap : Nat) (l : List Int) (w : World) (hs : Seg w a n l) (hb : Byt l) (hcap : n ≤ cap) (hreach : cap ≤ 140737488351232) (hH : Hal w) :
    Calls Tryd.prog 8 #[.slice a n cap] w fun e w' => e = .returned (.bool true) ∧ Below w.heap.size w w' := by
  have HH : Hid (Hal w) := hH
  have HS : Hid (Seg w a n l) := hs
  have HY : Hid (Byt l) := hb
  have hl : l.length = n := hs.1
  clear hH hs hb
  obtain ⟨x, hx⟩ : ∃ x, Hid (upd 0#32 l = x) := ⟨_, rfl⟩
  obtain ⟨L, hL⟩ : ∃ L : List Int, Hid (l ++ [11, 12, 13] = L) := ⟨l ++ [11, 12, 13], hide rfl⟩
  have hLl : L.length = n + 3 := by rw [← hL.out, List.length_append, hl]; rfl
  have HTk : Hid (L.take n = l) := by show _ = _; rw [← hL.out, ← hl, List.take_left']; rfl
  go_enter Tryd.func8, Tryd.ntmps8
  go_wp2_with fail
  refine (known_any _ HH.out).mono ?_
  rintro e w1 ⟨rfl, hbel⟩
  have HH1 := hide (HH.out.later hbel)
  have HS1 := hide (HS.out.below hbel (Nat.le_refl _))
  have HB1 := hide hbel
  have hz1 := hbel.size
  clear hbel
  go_wp2_with fail
  refine (roomy_any a n cap l _ HS1.out (by omega)).mono ?_
  rintro e w2 ⟨v2, rfl, hown, hbel⟩
  rw [hL.out] at hown
  obtain ⟨s2, c2, rfl, k2, _, hseg2⟩ := seg_own hown
  rw [hLl] at hseg2 k2
  simp only [hLl]
  have HH2 := hide (HH1.out.later hbel)
  have HS2 := hide (HS1.out.below hbel (Nat.le_refl _))
  have HB2 := hide (HB1.out.trans (hbel.mono hz1))
  have HW2 := hide hseg2
  have hz2 := HB2.out.size
  clear hbel hown hseg2
  go_wp2_with fail
  refine (roomy_any a n cap l _ HS2.out (by omega)).mono ?_
  rintro e w3 ⟨v3, rfl, hown, hbel⟩
  rw [hL.out] at hown
  obtain ⟨s3, c3, rfl, k3, _, hseg3⟩ := seg_own hown
  rw [hLl] at hseg3 k3
  simp only [hLl]
  have HH3 := hide (HH2.out.later hbel)
  have HS3 := hide (HS2.out.below hbel (Nat.le_refl _))
  have HB3 := hide (HB2.out.trans (hbel.mono hz2))
  have HW3 := hide (HW2.out.below hbel (Nat.le_refl _))
  have HZ3 := hide hseg3
  have HT3 : Hid (Seg w3 s2 n l) := by have := HW3.out.take (k := n) (by omega); rw [HTk.out] at this; exact this
  clear hbel hown hseg3
  go_wp2_with fail
  refine (sum_any s2 n c2 l _ HT3.out HY.out HH3.out).mono ?_
  rintro e w3 ⟨rfl, rfl⟩
  rw [hx.out]
  go_wp2_with fail
  refine (rsum_any a n cap l _ HS3.out HY.out).mono ?_
  rintro e w3 ⟨rfl, rfl⟩
  rw [hx.out]
  go_wp2_with fail
  refine (sum_any a n cap l _ HS3.out HY.out HH3.out).mono ?_
  rintro e w3 ⟨rfl, rfl⟩
  rw [hx.out]
  go_wp2_with fail
  refine (same_any s2 s3 (n + 3) (n + 3) c2 c3 L L _ HW3.out HZ3.out).mono ?_
  rintro e w4 ⟨rfl, q, rfl⟩
  rw [show sameB L L = true from same_yes rfl]
  go_wp2
  go_ret
  exact ⟨rfl, below_drewN HB3.out q⟩

set_option maxRecDepth 100000 in
/-- For every argument and every world that holds the sentinels. -/
theorem contract (H : Type) (enc : TypeId × Value → H) (W : World) (base : Nat) (args : Array Value) (ds gs : List (DataW H)) (before : List MemPlace)
    (hval : ∀ (j : Nat) t v, Tryd.f8.params[j]? = some t → args[j]? = some v → Value.okWide Tryd.prog W .any base t v)
    (hW : DataW.Whole enc Tryd.prog Tryd.f8.params.toList Rows.crcSumsSpec.vars false W args.toList ds gs before)
    (hsz : (DataW.weightsEach Tryd.prog (Tryd.f8.params.toList ++ (OpenSpec.ofChange Rows.crcSumsSpec).bare.plain.varTypes Tryd.prog) (ds ++ gs)).all (· ≤ reachBytes) = true)
    (hL : laidMetH Tryd.prog Rows.crcSumsRow.laid W) :
    Calls Tryd.prog 8 args W fun e W' => ∃ v, e = .returned v ∧ Rows.crcSumsSpec.post enc Tryd.prog Tryd.f8 false true false false W args v W' := by
  have hW' := hW
  obtain ⟨p, q, hA0, hV, rfl, hfz, hnd⟩ := hW
  have hA : DataW.TrodAll enc Tryd.prog W 0 (fun _ => true) true Tryd.f8.params.toList args.toList ds p := hA0
  rw [Tryd.params8] at hA hval hsz
  obtain ⟨v0, vs0, d0, ds0, p0, q0, hargs, rfl, rfl, h0, r0⟩ := trodAll_cons hA
  obtain ⟨rfl, rfl, rfl⟩ := trodAll_nil r0
  obtain rfl : args = #[v0] := by cases args; simp_all
  obtain ⟨rfl, rfl⟩ := trodVars_none hV
  obtain ⟨a0, n0, cap0, rfl⟩ := okWide_slice Tryd.underlying26 (hval 0 26 v0 rfl rfl)
  have k0 := h0
  have lt0 : ∀ x ∈ p0, x.block < W.heap.size := by obtain ⟨m, hm⟩ := k0; exact DataW.trod_lt m _ _ _ hm
  obtain ⟨fuel0, hf0⟩ := h0
  obtain ⟨l0, hseg0, hbyt0, hcap0, hdat0⟩ := open_bytes hf0
  have hreach0 : cap0 ≤ 140737488351232 := by
    rcases hdat0 with ⟨_, _, h⟩ | ⟨elems, spare, hd, he, hc⟩
    · omega
    · have hs := sized_slice hsz (j := 0) (t := 26) (e := 5) (elems := elems) (spare := spare) rfl (by rw [show d0 = _ from hd]; rfl) Tryd.underlying26
      rw [bytes5] at hs
      simp only [reachBytes] at hs
      omega
  have hH := hal_of_laid hL
  clear hA0

  refine (walk a0 n0 cap0 l0 W hseg0 hbyt0 hcap0 hreach0 hH).mono fun e W' ⟨he, bel⟩ => ?_
  subst he
  exact ⟨_, rfl, _, _, _, [], _, [], hW', trodAll_mk1 (shut_bool Tryd.underlying4 _), (trodAll_cons_mk (Below.trod laidOut (by kernel_rfl) (of_decide_eq_true (by kernel_rfl)) k0 bel lt0) trodAll_mk0), rfl, bel.frame _, fun h => by cases h⟩

theorem reads (os : Os) {H : Type} (enc : TypeId × Value → H) : ∃ places, DataW.whole enc Tryd.prog ((World.doorLaid Tryd.prog 104 os).forCall (fun _ _ => 0) ⟨#[], #[.slice none 0 0], []⟩).memory Tryd.f8.params.toList Rows.crcSumsSpec.vars false (#[Value.slice none 0 0] : Array Value).toList 8 = some ([.nil], [], places) :=
  ⟨[], by kernel_rfl⟩

set_option maxRecDepth 100000 in
theorem lifted (os : Os) (started : os.Started) (H : Type) (enc : TypeId × Value → H) (F : Stop.Interp) :
    ReturnsInHanded {} Tryd.checked os 8 .any ((OpenSpec.ofChange Rows.crcSumsSpec).preRow enc Tryd.prog Tryd.f8 Rows.crcSumsRow.domain false Rows.crcSumsRow.laid) (((OpenSpec.ofChange Rows.crcSumsSpec).at F).post enc Tryd.prog Tryd.f8 false true false false) := by
  obtain ⟨places, hx⟩ := reads os enc
  refine returnsInHanded_of_row (C := Tryd.checked) (s := (OpenSpec.ofChange Rows.crcSumsSpec)) own started (by kernel_rfl) Tryd.func8
    (witness_row_atRef (enc := enc) (C := Tryd.checked) false (World.doorLaid Tryd.prog 104 os) #[.slice none 0 0] rfl (by kernel_rfl) (by kernel_rfl) (by kernel_rfl)
      (OpenSpec.preRow_of_cond 8 hx (by kernel_rfl) (fun k hk => by cases hk) (by kernel_rfl) (door_met os _))) ?_
  intro W base args ds gs before hval hW _ hcond hsz hL _ _
  exact contract H enc W base args ds gs before hval hW hsz hL

theorem said : Rows.CrcSumsSaid :=
  OpenClaim.holds_of_cond 8 Tryd.f8 rfl rfl rfl rfl rfl rfl rfl ⟨rfl, rfl, rfl, rfl, rfl⟩ rfl rfl rfl rfl rfl (by kernel_rfl) Tryd.func8 (by kernel_rfl)
    (of_decide_eq_true (by kernel_rfl)) (by unfold Func.isWrapper; first | (rw [if_pos (by decide +kernel)]; kernel_rfl) | (rw [if_neg (by decide +kernel)]; exact ⟨rfl, rfl⟩))
    (fun os started H enc _ F => by rw [OpenClaim.pre_eq_preRow]; exact lifted os started H enc F)

theorem plain (f : FuncId) (fn : Func) (hf : Tryd.pinned.checked.prog.funcNamed "moot/mootlaw2.CrcSums" = some f) (hfn : Tryd.pinned.checked.prog.funcs[f]? = some fn) :
    false = Tryd.pinned.checked.prog.looks [] ∧ ∀ (j : Nat) t, fn.params[j]? = some t → Tryd.pinned.checked.prog.wantsStandIn t = false := by
  obtain rfl : f = 8 := Option.some.inj ((show Tryd.prog.funcNamed "moot/mootlaw2.CrcSums" = some 8 by kernel_rfl).symm.trans hf) |>.symm
  obtain rfl : fn = Tryd.f8 := (Option.some.inj (Tryd.func8.symm.trans hfn)).symm
  refine ⟨by kernel_rfl, fun j t ht => ?_⟩
  rw [Tryd.params8] at ht
  have hm : t ∈ [26] := by simpa using Array.mem_of_getElem? ht
  have hall : ([26].all fun u => !Tryd.prog.wantsStandIn u) = true := by kernel_rfl
  exact (show Tryd.prog.wantsStandIn t = false by simpa using List.all_eq_true.1 hall t hm)

end crcSums
theorem crcSums_proved : Rows.CrcSumsCardSaid :=
  Claim7.holds_tied_plain_at .later [] _ _ _ _ crcSums.said (fun _ h => by cases h) (by kernel_rfl) (fun _ h => by cases h) crcSums_row_tie rfl ⟨rfl, rfl⟩ (by kernel_rfl) rfl crcSums.plain (by kernel_rfl)
#print axioms crcSums_proved
end Go.Proofs.YtibdgnegdnapoabDoor
