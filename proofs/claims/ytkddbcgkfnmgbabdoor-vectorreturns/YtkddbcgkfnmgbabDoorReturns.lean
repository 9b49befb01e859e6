/- Proved: for every list of ints and every list of bytes VectorReturns answers true: what Pack wrote is read back by Unpack at both versions, whatever stands behind. The five sentinels of package wire are as the program's text lays them. -/
import Derived.Test.YtkddbcgkfnmgbabDoorVReturns
import Derived.Test.YtkddbcgkfnmgbabDoorVSound
import Derived.Test.YtkddbcgkfnmgbabDoorVArgs
import Derived.Test.YtkddbcgkfnmgbabDoorArgs
import Derived.Test.YtkddbcgkfnmgbabDoorLaid
import Derived.Test.YtkddbcgkfnmgbabDoorCards
import Derived.Test.YtkddbcgkfnmgbabDoorTie
import Derived.Deep.DeepHandedRow
import Derived.Deep.DeepWitnessRowRef
import Derived.WalkSmall
namespace Go.Proofs.YtkddbcgkfnmgbabDoor
namespace vectorReturns
open Go.ChangeShapes Go.WideShapes Go.ChangeAt Go.RowKit Go.Wire1

set_option maxHeartbeats 2000000 in
set_option maxRecDepth 100000 in
theorem walk (ia ta : Option Addr) (n icap m tcap : Nat) (l tl : List Int) (a : Nat → Addr) (w : World) (hs : SegI w ia n l) (ht : Seg w ta m tl) (hty : Byt tl) (hm : m ≤ 140737488351232) (he : Errs w a) :
    Calls Tryd.prog 5 #[.slice ia n icap, .slice ta m tcap] w fun e w' => e = .returned (.bool true) ∧ Below w.heap.size w w' := by
  have HS : Hid (SegI w ia n l) := hs
  have HT : Hid (Seg w ta m tl) := ht
  have HE : Hid (Errs w a) := he
  have HY : Hid (Byt tl) := hty
  clear hs ht he hty
  have ml : (3 : Nat) ≤ maxLen := by unfold maxLen; omega
  have f1 : Hid (Fit [0, 300, 300]) := fit_ok rfl
  go_enter Tryd.func5, Tryd.ntmps5
  go_wp2_with fail
  refine (returns_any 1 _ ta 3 _ m tcap [0, 300, 300] tl a _ (.inl rfl) (segI_lit _ f1.out ml rfl rfl rfl) rfl (HT.out.below ((Below.refl _ _).more (Nat.le_refl _) _) (Nat.le_refl _)) HY.out hm (HE.out.below ((Below.refl _ _).more (Nat.le_refl _) _) (Nat.le_refl _))).mono ?_
  rintro e w1 ⟨rfl, hb1⟩
  have B1 : Hid (Below w.heap.size w w1) := ((Below.refl _ w).more (Nat.le_refl _) _).on hb1 (Nat.le_refl _)
  clear hb1
  go_wp2_with fail
  refine (returns_any 2 _ ta 3 _ m tcap [0, 300, 300] tl a _ (.inr rfl) (segI_lit _ f1.out ml rfl rfl rfl) rfl (HT.out.below (B1.out.more (Nat.le_refl _) _) (Nat.le_refl _)) HY.out hm (HE.out.below (B1.out.more (Nat.le_refl _) _) (Nat.le_refl _))).mono ?_
  rintro e w2 ⟨rfl, hb2⟩
  have B2 : Hid (Below w.heap.size w w2) := (B1.out.more (Nat.le_refl _) _).on hb2 (Nat.le_refl _)
  clear hb2 B1
  go_wp2_with fail
  refine (sound_any _ _ _ l _ (HS.out.below B2.out (Nat.le_refl _))).mono ?_
  rintro e w' ⟨rfl, rfl⟩
  cases h1 : isVec l with
  | false =>
    clear h1
    go_wp2
    go_ret
    exact ⟨rfl, B2.out⟩
  | true =>
    have H1 : Hid (isVec l = true) := h1
    clear h1
    go_wp2_with fail
    refine (returns_any 1 _ ta n _ m tcap l tl a _ (.inl rfl) (HS.out.below B2.out (Nat.le_refl _)) H1.out (HT.out.below B2.out (Nat.le_refl _)) HY.out hm (HE.out.below B2.out (Nat.le_refl _))).mono ?_
    rintro e w3 ⟨rfl, hb3⟩
    have B3 : Hid (Below w.heap.size w w3) := B2.out.on hb3 (Nat.le_refl _)
    clear hb3 B2
    go_wp2_with fail
    refine (returns_any 2 _ ta n _ m tcap l tl a _ (.inr rfl) (HS.out.below B3.out (Nat.le_refl _)) H1.out (HT.out.below B3.out (Nat.le_refl _)) HY.out hm (HE.out.below B3.out (Nat.le_refl _))).mono ?_
    rintro e w4 ⟨rfl, hb4⟩
    have B4 : Hid (Below w.heap.size w w4) := B3.out.on hb4 (Nat.le_refl _)
    clear hb4 B3
    go_wp2
    go_ret
    exact ⟨rfl, B4.out⟩

set_option maxRecDepth 100000 in
/-- For every argument and every world. -/
theorem contract (H : Type) (enc : TypeId × Value → H) (W : World) (base : Nat) (args : Array Value) (ds gs : List (DataW H)) (before : List MemPlace)
    (hval : ∀ (j : Nat) t v, Tryd.f5.params[j]? = some t → args[j]? = some v → Value.okWide Tryd.prog W .any base t v)
    (hW : DataW.Whole enc Tryd.prog Tryd.f5.params.toList Rows.vectorReturnsSpec.vars false W args.toList ds gs before)
    (hsz : (DataW.weightsEach Tryd.prog (Tryd.f5.params.toList ++ (OpenSpec.ofChange Rows.vectorReturnsSpec).bare.plain.varTypes Tryd.prog) (ds ++ gs)).all (· ≤ reachBytes) = true)
    (hL : laidMetH Tryd.prog Rows.vectorReturnsRow.laid W) :
    Calls Tryd.prog 5 args W fun e W' => ∃ v, e = .returned v ∧ Rows.vectorReturnsSpec.post enc Tryd.prog Tryd.f5 false true false false W args v W' := by
  have hW' := hW
  obtain ⟨p, q, hA0, hV, rfl, hfz, hnd⟩ := hW
  have hA : DataW.TrodAll enc Tryd.prog W 0 (fun _ => true) true Tryd.f5.params.toList args.toList ds p := hA0
  rw [Tryd.params5] at hA hval hsz
  obtain ⟨v0, vs0, d0, ds0, p0, q0, hargs, rfl, rfl, h0, r0⟩ := trodAll_cons hA
  obtain ⟨v1, vs1, d1, ds1, p1, q1, rfl, rfl, rfl, h1, r1⟩ := trodAll_cons r0
  obtain ⟨rfl, rfl, rfl⟩ := trodAll_nil r1
  obtain rfl : args = #[v0, v1] := by cases args; simp_all
  obtain ⟨rfl, rfl⟩ := trodVars_none hV
  obtain ⟨a0, n0, cap0, rfl⟩ := okWide_slice Tryd.underlying22 (hval 0 22 v0 rfl rfl)
  have k0 := h0
  have lt0 : ∀ x ∈ p0, x.block < W.heap.size := by obtain ⟨m, hm⟩ := k0; exact DataW.trod_lt m _ _ _ hm
  obtain ⟨fuel0, hf0⟩ := h0
  obtain ⟨l0, hseg0, hcap0, hdat0⟩ := vopen_ints hf0
  obtain ⟨a1, n1, cap1, rfl⟩ := okWide_slice Tryd.underlying23 (hval 1 23 v1 rfl rfl)
  have k1 := h1
  have lt1 : ∀ x ∈ p1, x.block < W.heap.size := by obtain ⟨m, hm⟩ := k1; exact DataW.trod_lt m _ _ _ hm
  obtain ⟨fuel1, hf1⟩ := h1
  obtain ⟨l1, hseg1, hbyt1, hcap1, hdat1⟩ := open_bytes hf1
  have hreach1 : cap1 ≤ 140737488351232 := by
    rcases hdat1 with ⟨_, _, h⟩ | ⟨elems, spare, hd, he, hc⟩
    · omega
    · have hs := sized_slice hsz (j := 1) (t := 23) (e := 5) (elems := elems) (spare := spare) rfl (by rw [show d1 = _ from hd]; rfl) Tryd.underlying23
      rw [bytes5] at hs
      simp only [reachBytes] at hs
      omega
  have hE := errs_of_laid hL
  clear hA0
  obtain ⟨aa, haa⟩ := hE
  refine (walk a0 a1 n0 cap0 n1 cap1 l0 l1 aa W hseg0 hseg1 hbyt1 (by have := hreach1; omega) haa).mono fun e W' ⟨he, bel⟩ => ?_
  subst he
  exact ⟨_, rfl, _, _, _, [], _, [], hW', trodAll_mk1 (shut_bool Tryd.underlying4 _), (trodAll_cons_mk (Below.trod vlaid (by kernel_rfl) (of_decide_eq_true (by kernel_rfl)) k0 bel lt0) (trodAll_cons_mk (Below.trod vlaid (by kernel_rfl) (of_decide_eq_true (by kernel_rfl)) k1 bel lt1) trodAll_mk0)), rfl, bel.frame _, fun h => by cases h⟩

theorem reads (os : Os) {H : Type} (enc : TypeId × Value → H) : ∃ places, DataW.whole enc Tryd.prog ((World.doorLaid Tryd.prog 104 os).forCall (fun _ _ => 0) ⟨#[], #[.slice none 0 0, .slice none 0 0], []⟩).memory Tryd.f5.params.toList Rows.vectorReturnsSpec.vars false (#[Value.slice none 0 0, .slice none 0 0] : Array Value).toList 8 = some ([.nil, .nil], [], places) :=
  ⟨[], by kernel_rfl⟩

set_option maxRecDepth 100000 in
theorem lifted (os : Os) (started : os.Started) (H : Type) (enc : TypeId × Value → H) (F : Stop.Interp) :
    ReturnsInHanded {} Tryd.checked os 5 .any ((OpenSpec.ofChange Rows.vectorReturnsSpec).preRow enc Tryd.prog Tryd.f5 Rows.vectorReturnsRow.domain false Rows.vectorReturnsRow.laid) (((OpenSpec.ofChange Rows.vectorReturnsSpec).at F).post enc Tryd.prog Tryd.f5 false true false false) := by
  obtain ⟨places, hx⟩ := reads os enc
  refine returnsInHanded_of_row (C := Tryd.checked) (s := (OpenSpec.ofChange Rows.vectorReturnsSpec)) vown started (by kernel_rfl) Tryd.func5
    (witness_row_atRef (enc := enc) (C := Tryd.checked) false (World.doorLaid Tryd.prog 104 os) #[.slice none 0 0, .slice none 0 0] rfl (by kernel_rfl) (by kernel_rfl) (by kernel_rfl)
      (OpenSpec.preRow_of_cond 8 hx (by kernel_rfl) (fun k hk => by cases hk) (by kernel_rfl) (door_met os _))) ?_
  intro W base args ds gs before hval hW _ hcond hsz hL _ _
  exact contract H enc W base args ds gs before hval hW hsz hL

theorem said : Rows.VectorReturnsSaid :=
  OpenClaim.holds_of_cond 5 Tryd.f5 rfl rfl rfl rfl rfl rfl rfl ⟨rfl, rfl, rfl, rfl, rfl⟩ rfl rfl rfl rfl rfl (by kernel_rfl) Tryd.func5 (by kernel_rfl)
    (of_decide_eq_true (by kernel_rfl)) (by unfold Func.isWrapper; first | (rw [if_pos (by decide +kernel)]; kernel_rfl) | (rw [if_neg (by decide +kernel)]; exact ⟨rfl, rfl⟩))
    (fun os started H enc _ F => by rw [OpenClaim.pre_eq_preRow]; exact lifted os started H enc F)

theorem plain (f : FuncId) (fn : Func) (hf : Tryd.pinned.checked.prog.funcNamed "moot/mootlaw3.VectorReturns" = some f) (hfn : Tryd.pinned.checked.prog.funcs[f]? = some fn) :
    true = Tryd.pinned.checked.prog.looks [] ∧ ∀ (j : Nat) t, fn.params[j]? = some t → Tryd.pinned.checked.prog.wantsStandIn t = false := by
  obtain rfl : f = 5 := Option.some.inj ((show Tryd.prog.funcNamed "moot/mootlaw3.VectorReturns" = some 5 by kernel_rfl).symm.trans hf) |>.symm
  obtain rfl : fn = Tryd.f5 := (Option.some.inj (Tryd.func5.symm.trans hfn)).symm
  refine ⟨by kernel_rfl, fun j t ht => ?_⟩
  rw [Tryd.params5] at ht
  have hm : t ∈ [22, 23] := by simpa using Array.mem_of_getElem? ht
  have hall : ([22, 23].all fun u => !Tryd.prog.wantsStandIn u) = true := by kernel_rfl
  exact (show Tryd.prog.wantsStandIn t = false by simpa using List.all_eq_true.1 hall t hm)

end vectorReturns
theorem vectorReturns_proved : Rows.VectorReturnsCardSaid :=
  Claim7.holds_tied_plain_at .later [] _ _ _ _ vectorReturns.said (fun _ h => by cases h) (by kernel_rfl) (fun _ h => by cases h) vectorReturns_row_tie rfl ⟨rfl, rfl⟩ (by kernel_rfl) rfl vectorReturns.plain (by kernel_rfl)
#print axioms vectorReturns_proved
end Go.Proofs.YtkddbcgkfnmgbabDoor
