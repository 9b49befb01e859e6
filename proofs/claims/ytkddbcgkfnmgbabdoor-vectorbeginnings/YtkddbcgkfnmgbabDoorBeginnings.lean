/- Proved: for every int and every list of ints VectorBeginnings answers true: every proper beginning of a layout ends too early. The five sentinels of package wire are as the program's text lays them. -/
import Derived.Test.YtkddbcgkfnmgbabDoorVReturns
import Derived.Test.YtkddbcgkfnmgbabDoorVSound
import Derived.Test.YtkddbcgkfnmgbabDoorVArgs
import Derived.Test.YtkddbcgkfnmgbabDoorArgs
import Derived.Test.YtkddbcgkfnmgbabDoorLaid
import Derived.Test.YtkddbcgkfnmgbabDoorCards
import Derived.Test.YtkddbcgkfnmgbabDoorTie
import Derived.Deep.DeepHandedRow
import Derived.Deep.DeepWitnessRowRef
import Derived.WalkSmall
namespace Go.Proofs.YtkddbcgkfnmgbabDoor
namespace vectorBeginnings
open Go.ChangeShapes Go.WideShapes Go.ChangeAt Go.RowKit Go.Wire1

theorem lit_pack : packR 1 [0, 300, 300] = [0, 172, 2, 172, 2] ∧ packE 1 [0, 300, 300] = 0 := by decide +kernel

set_option maxHeartbeats 2000000 in
set_option maxRecDepth 100000 in
theorem walk (v : Int) (ia : Option Addr) (n icap : Nat) (l : List Int) (a : Nat → Addr) (w : World) (hs : SegI w ia n l) (he : Errs w a) :
    Calls Tryd.prog 3 #[.int .i64 v, .slice ia n icap] w fun e w' => e = .returned (.bool true) ∧ Below w.heap.size w w' := by
  have HS : Hid (SegI w ia n l) := hs
  have HE : Hid (Errs w a) := he
  have hnm := hs.2.1
  unfold maxLen at hnm
  clear hs he
  have ml : (3 : Nat) ≤ maxLen := by unfold maxLen; omega
  have f1 : Hid (Fit [0, 300, 300]) := fit_ok rfl
  go_enter Tryd.func3, Tryd.ntmps3
  go_wp2_with fail
  refine (pack_seg (v := 1) (l := [0, 300, 300]) (w0 := w) ((Below.refl w.heap.size _).more (Nat.le_refl _) _) (Nat.le_refl _) (segI_lit _ f1.out ml rfl rfl rfl) lit_pack.1 lit_pack.2 rfl).mono ?_
  rintro e w1 ⟨a1, c1, rfl, hc1, -, s1, hb1, -⟩
  have B1 : Hid (Below w.heap.size w w1) := hb1
  clear s1 hb1
  go_wp2_with fail
  refine (num_any _ _).mono ?_
  rintro e w' ⟨rfl, rfl⟩
  go_wp2_with fail
  refine (sound_any _ _ _ l _ (HS.out.below B1.out (Nat.le_refl _))).mono ?_
  rintro e w' ⟨rfl, rfl⟩
  cases h1 : isVec l with
  | false =>
    clear h1
    go_wp2
    go_ret
    exact ⟨rfl, B1.out⟩
  | true =>
    by_cases hv : v = 1 ∨ v = 2
    · have HP := packR_pos hv h1
      have HPE : Hid (packE v l = 0) := packE_vec hv h1
      have HC : Hid (∀ k, k < (packR v l).length → upk v n ((packR v l).take k) = .error 11) := fun k hk => by
        have := upk_cut hv h1 hk
        rw [HS.out.1] at this
        exact this
      have HBY : Hid (Byt (packR v l)) := byt_packR v l
      have hd : ((v != 1) && (v != 2)) = false := by rcases hv with rfl | rfl <;> rfl
      clear h1
      rcases hv with rfl | rfl
      all_goals
        clear hd
        go_wp2_with fail
        refine (pack_any _ _ _ _ l _ (HS.out.below B1.out (Nat.le_refl _))).mono ?_
        rintro e w2 ⟨u, rfl, hown, hb2⟩
        obtain ⟨a2, c2, hv2, hsrc2, hs2⟩ := own_src hown
        subst hv2
        rw [HPE.out]
        generalize packR _ l = P at *
        have B2 : Hid (Below w.heap.size w w2) := B1.out.on hb2 (Nat.le_refl _)
        obtain ⟨⟨pb, po, rfl⟩, hc2, hc2m⟩ : (∃ b off, a2 = some ⟨b, off, none⟩) ∧ P.length ≤ c2 ∧ c2 ≤ maxLen := by
          rcases hsrc2 with ⟨h0, _⟩ | h
          · omega
          · exact h
        have S2 : Hid (Seg w2 (some ⟨pb, po, none⟩) P.length P) := hs2
        unfold maxLen at hc2m
        generalize hPl : P.length = pl at *
        clear hown hs2 hsrc2 hb2 B1
        go_wp2_with fail
        refine (num_any _ _).mono ?_
        rintro e w' ⟨rfl, rfl⟩
        go_wp2
        go_loopw [8] (fun i wr => ∃ k : Nat, i = .int .i64 (k : Int) ∧ k ≤ pl ∧ Hid (Below w.heap.size w wr) ∧ Hid (Seg wr (some ⟨pb, po, none⟩) pl P)) (fun i _ => pl - (intOf i).toNat)
        case atStart => exact ⟨0, rfl, Nat.zero_le _, B2, S2⟩
        case round =>
          obtain ⟨k, rfl, hk, HB, HP2⟩ := hrel
          clear B2 S2
          by_cases hlt : k < pl
          · have HK := hide (HC.out k (by omega))
            have SK : Hid (Seg wr (some ⟨pb, po, none⟩) k (P.take k)) := HP2.out.take (by omega)
            have YK : Hid (Byt (P.take k)) := byt_take HBY.out k
            have CK : Hid (Src (some ⟨pb, po, none⟩) k c2) := .inr ⟨⟨pb, po, rfl⟩, by omega, by unfold maxLen; omega⟩
            have ik : (k : Int) ≤ (c2 : Int) := by omega
            go_wp2_with fail
            refine (unpack_seg (n := (n : Int)) (l := P.take k) HB.out (Nat.le_refl _) SK.out CK.out YK.out (HE.out.below HB.out (Nat.le_refl _)) HK.out rfl).mono ?_
            rintro e w3 ⟨a3, c3, rfl, hc3, -, hb3, hb3'⟩
            have HB3 : Hid (Below w.heap.size w w3) := hb3
            have HP3 : Hid (Seg w3 (some ⟨pb, po, none⟩) pl P) := HP2.out.below hb3' (Nat.le_refl _)
            simp only [upL, upN, upE, List.length_nil]
            clear hb3 hb3' HB HP2 SK CK
            go_wp2_with fail
            refine (num_any _ _).mono ?_
            rintro e w' ⟨rfl, rfl⟩
            go_wp2
            go_roundw
            case rel => exact ⟨k + 1, by go_num, by omega, HB3, HP3⟩
            case measure => simp [intOf]; omega
          · go_wp2
            go_ret
            exact ⟨rfl, HB.out⟩
    · have d1 : (v != 1) = true := by simp only [bne_iff_ne]; exact fun h => hv (.inl h)
      have d2 : (v != 2) = true := by simp only [bne_iff_ne]; exact fun h => hv (.inr h)
      clear h1 hv
      go_wp2
      go_ret
      exact ⟨rfl, B1.out⟩

set_option maxRecDepth 100000 in
/-- For every argument and every world. -/
theorem contract (H : Type) (enc : TypeId × Value → H) (W : World) (base : Nat) (args : Array Value) (ds gs : List (DataW H)) (before : List MemPlace)
    (hval : ∀ (j : Nat) t v, Tryd.f3.params[j]? = some t → args[j]? = some v → Value.okWide Tryd.prog W .any base t v)
    (hW : DataW.Whole enc Tryd.prog Tryd.f3.params.toList Rows.vectorBeginningsSpec.vars false W args.toList ds gs before)
    (hsz : (DataW.weightsEach Tryd.prog (Tryd.f3.params.toList ++ (OpenSpec.ofChange Rows.vectorBeginningsSpec).bare.plain.varTypes Tryd.prog) (ds ++ gs)).all (· ≤ reachBytes) = true)
    (hL : laidMetH Tryd.prog Rows.vectorBeginningsRow.laid W) :
    Calls Tryd.prog 3 args W fun e W' => ∃ v, e = .returned v ∧ Rows.vectorBeginningsSpec.post enc Tryd.prog Tryd.f3 false true false false W args v W' := by
  have hW' := hW
  obtain ⟨p, q, hA0, hV, rfl, hfz, hnd⟩ := hW
  have hA : DataW.TrodAll enc Tryd.prog W 0 (fun _ => true) true Tryd.f3.params.toList args.toList ds p := hA0
  rw [Tryd.params3] at hA hval hsz
  obtain ⟨v0, vs0, d0, ds0, p0, q0, hargs, rfl, rfl, h0, r0⟩ := trodAll_cons hA
  obtain ⟨v1, vs1, d1, ds1, p1, q1, rfl, rfl, rfl, h1, r1⟩ := trodAll_cons r0
  obtain ⟨rfl, rfl, rfl⟩ := trodAll_nil r1
  obtain rfl : args = #[v0, v1] := by cases args; simp_all
  obtain ⟨rfl, rfl⟩ := trodVars_none hV
  obtain ⟨y0, rfl, rfl, rfl, w0⟩ := open_int Tryd.underlying3 (hval 0 3 v0 rfl rfl) h0
  have b0 := bounds_i64 w0
  obtain ⟨a1, n1, cap1, rfl⟩ := okWide_slice Tryd.underlying22 (hval 1 22 v1 rfl rfl)
  have k1 := h1
  have lt1 : ∀ x ∈ p1, x.block < W.heap.size := by obtain ⟨m, hm⟩ := k1; exact DataW.trod_lt m _ _ _ hm
  obtain ⟨fuel1, hf1⟩ := h1
  obtain ⟨l1, hseg1, hcap1, hdat1⟩ := vopen_ints hf1
  have hE := errs_of_laid hL
  clear hA0
  obtain ⟨aa, haa⟩ := hE
  refine (walk y0 a1 n1 cap1 l1 aa W hseg1 haa).mono fun e W' ⟨he, bel⟩ => ?_
  subst he
  exact ⟨_, rfl, _, _, _, [], _, [], hW', trodAll_mk1 (shut_bool Tryd.underlying4 _), (trodAll_cons_mk (shut_int Tryd.underlying3 w0) (trodAll_cons_mk (Below.trod vlaid (by kernel_rfl) (of_decide_eq_true (by kernel_rfl)) k1 bel lt1) trodAll_mk0)), rfl, bel.frame _, fun h => by cases h⟩

theorem reads (os : Os) {H : Type} (enc : TypeId × Value → H) : ∃ places, DataW.whole enc Tryd.prog ((World.doorLaid Tryd.prog 104 os).forCall (fun _ _ => 0) ⟨#[], #[.int .i64 0, .slice none 0 0], []⟩).memory Tryd.f3.params.toList Rows.vectorBeginningsSpec.vars false (#[Value.int .i64 0, .slice none 0 0] : Array Value).toList 8 = some ([.lit (.int .i64 0), .nil], [], places) :=
  ⟨[], by kernel_rfl⟩

set_option maxRecDepth 100000 in
theorem lifted (os : Os) (started : os.Started) (H : Type) (enc : TypeId × Value → H) (F : Stop.Interp) :
    ReturnsInHanded {} Tryd.checked os 3 .any ((OpenSpec.ofChange Rows.vectorBeginningsSpec).preRow enc Tryd.prog Tryd.f3 Rows.vectorBeginningsRow.domain false Rows.vectorBeginningsRow.laid) (((OpenSpec.ofChange Rows.vectorBeginningsSpec).at F).post enc Tryd.prog Tryd.f3 false true false false) := by
  obtain ⟨places, hx⟩ := reads os enc
  refine returnsInHanded_of_row (C := Tryd.checked) (s := (OpenSpec.ofChange Rows.vectorBeginningsSpec)) vown started (by kernel_rfl) Tryd.func3
    (witness_row_atRef (enc := enc) (C := Tryd.checked) false (World.doorLaid Tryd.prog 104 os) #[.int .i64 0, .slice none 0 0] rfl (by kernel_rfl) (by kernel_rfl) (by kernel_rfl)
      (OpenSpec.preRow_of_cond 8 hx (by kernel_rfl) (fun k hk => by cases hk) (by kernel_rfl) (door_met os _))) ?_
  intro W base args ds gs before hval hW _ hcond hsz hL _ _
  exact contract H enc W base args ds gs before hval hW hsz hL

theorem said : Rows.VectorBeginningsSaid :=
  OpenClaim.holds_of_cond 3 Tryd.f3 rfl rfl rfl rfl rfl rfl rfl ⟨rfl, rfl, rfl, rfl, rfl⟩ rfl rfl rfl rfl rfl (by kernel_rfl) Tryd.func3 (by kernel_rfl)
    (of_decide_eq_true (by kernel_rfl)) (by unfold Func.isWrapper; first | (rw [if_pos (by decide +kernel)]; kernel_rfl) | (rw [if_neg (by decide +kernel)]; exact ⟨rfl, rfl⟩))
    (fun os started H enc _ F => by rw [OpenClaim.pre_eq_preRow]; exact lifted os started H enc F)

theorem plain (f : FuncId) (fn : Func) (hf : Tryd.pinned.checked.prog.funcNamed "moot/mootlaw3.VectorBeginnings" = some f) (hfn : Tryd.pinned.checked.prog.funcs[f]? = some fn) :
    true = Tryd.pinned.checked.prog.looks [] ∧ ∀ (j : Nat) t, fn.params[j]? = some t → Tryd.pinned.checked.prog.wantsStandIn t = false := by
  obtain rfl : f = 3 := Option.some.inj ((show Tryd.prog.funcNamed "moot/mootlaw3.VectorBeginnings" = some 3 by kernel_rfl).symm.trans hf) |>.symm
  obtain rfl : fn = Tryd.f3 := (Option.some.inj (Tryd.func3.symm.trans hfn)).symm
  refine ⟨by kernel_rfl, fun j t ht => ?_⟩
  rw [Tryd.params3] at ht
  have hm : t ∈ [3, 22] := by simpa using Array.mem_of_getElem? ht
  have hall : ([3, 22].all fun u => !Tryd.prog.wantsStandIn u) = true := by kernel_rfl
  exact (show Tryd.prog.wantsStandIn t = false by simpa using List.all_eq_true.1 hall t hm)

end vectorBeginnings
theorem vectorBeginnings_proved : Rows.VectorBeginningsCardSaid :=
  Claim7.holds_tied_plain_at .later [] _ _ _ _ vectorBeginnings.said (fun _ h => by cases h) (by kernel_rfl) (fun _ h => by cases h) vectorBeginnings_row_tie rfl ⟨rfl, rfl⟩ (by kernel_rfl) rfl vectorBeginnings.plain (by kernel_rfl)
#print axioms vectorBeginnings_proved
end Go.Proofs.YtkddbcgkfnmgbabDoor
