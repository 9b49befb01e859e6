/- Proved: for every two ints and every list of bytes VectorOneForm answers true: where Unpack takes bytes, it answers a vector, and Pack of it is just these bytes. The five sentinels of package wire are as the program's text lays them. -/
import Derived.Test.YtkddbcgkfnmgbabDoorVReturns
import Derived.Test.YtkddbcgkfnmgbabDoorSame
import Derived.Test.YtkddbcgkfnmgbabDoorVSrc
import Derived.Test.YtkddbcgkfnmgbabDoorVSound
import Derived.Test.YtkddbcgkfnmgbabDoorVArgs
import Derived.Test.YtkddbcgkfnmgbabDoorArgs
import Derived.Test.YtkddbcgkfnmgbabDoorLaid
import Derived.Test.YtkddbcgkfnmgbabDoorCards
import Derived.Test.YtkddbcgkfnmgbabDoorTie
import Derived.Deep.DeepHandedRow
import Derived.Deep.DeepWitnessRowRef
import Derived.WalkSmall
namespace Go.Proofs.YtkddbcgkfnmgbabDoor
namespace vectorOneForm
open Go.ChangeShapes Go.WideShapes Go.ChangeAt Go.RowKit Go.Wire1

theorem upk_one {v n : Int} {b xs : List Int} {p : Nat} (hy : Byt b) (h : upk v n b = .ok (xs, p)) : (v = 1 ∨ v = 2) ∧ isVec xs = true ∧ (xs.length : Int) = n ∧ 1 ≤ p ∧ p ≤ b.length ∧ packE v xs = 0 ∧ packR v xs = b.take p := by
  have hl := upk_len hy h
  have hv : v = 1 ∨ v = 2 := by
    unfold upk at h
    split at h
    · assumption
    · cases h
  have hpr : packR v xs = b.take p := by
    rw [packR_vec hv hl.2.2]
    unfold upk at h
    rw [if_pos hv] at h
    split at h
    · rename_i hn
      unfold packL
      have hn2 : n.toNat = xs.length := by omega
      rcases hv with rfl | rfl
      · rw [if_pos rfl] at h ⊢
        rw [← rd1_form hy h, hn2]
      · rw [if_neg (by decide)] at h ⊢
        unfold upk2 at h
        cases hd : dec b with
        | error i => rw [hd] at h; cases h
        | ok q =>
          obtain ⟨M, p0⟩ := q
          rw [hd] at h
          simp only at h
          split at h
          · cases h
          · rename_i hM
            have hf := rd2_form hy (dec_len hy hd).2.2 (dec_form hy hd) h
            unfold Go.Wire1.tight
            rw [hn2] at hf hM
            rw [hf.2, Nat.mod_eq_of_lt (by omega), hf.1]
    · cases h
  refine ⟨hv, hl.2.2, hl.1, ?_, hl.2.1, packE_vec hv hl.2.2, hpr⟩
  have h1 := packR_pos hv hl.2.2
  have h2 : (packR v xs).length ≤ p := by rw [hpr]; exact List.length_take_le _ _
  omega
theorem upk_errs {v n : Int} {b : List Int} {e : Nat} (h : upk v n b = .error e) : 1 ≤ e := upk_err h

set_option maxHeartbeats 2000000 in
set_option maxRecDepth 100000 in
theorem walk (v n : Int) (ta : Option Addr) (m tcap : Nat) (tl : List Int) (a : Nat → Addr) (w : World) (ht : Seg w ta m tl) (hsrc : Src ta m tcap) (hty : Byt tl) (he : Errs w a) :
    Calls Tryd.prog 6 #[.int .i64 v, .int .i64 n, .slice ta m tcap] w fun e w' => e = .returned (.bool true) ∧ Below w.heap.size w w' := by
  have HT : Hid (Seg w ta m tl) := ht
  have HE : Hid (Errs w a) := he
  have HY : Hid (Byt tl) := hty
  have HC : Hid (Src ta m tcap) := hsrc
  have HL : Hid (tl.length = m) := ht.1
  have hmm := ht.2.1
  unfold maxLen at hmm
  clear ht he hty hsrc
  have ml : (3 : Nat) ≤ maxLen := by unfold maxLen; omega
  have f1 : Hid (Fit [5, 5, 5]) := fit_ok rfl
  go_enter Tryd.func6, Tryd.ntmps6
  go_wp2_with fail
  refine (returns_any 2 _ none 3 _ 0 0 [5, 5, 5] [] a _ (.inr rfl) (segI_lit _ f1.out ml rfl rfl rfl) rfl (seg_empty _ _) (fun z hz => by cases hz) (by omega) (HE.out.below ((Below.refl _ _).more (Nat.le_refl _) _) (Nat.le_refl _))).mono ?_
  rintro e w1 ⟨rfl, hb1⟩
  have B1 : Hid (Below w.heap.size w w1) := ((Below.refl _ w).more (Nat.le_refl _) _).on hb1 (Nat.le_refl _)
  clear hb1
  obtain ⟨R, hR⟩ : ∃ R, Hid (upk v n tl = R) := ⟨_, rfl⟩
  go_wp2_with fail
  refine (unpack_seg (l := tl) B1.out (Nat.le_refl _) (HT.out.below B1.out (Nat.le_refl _)) HC.out HY.out (HE.out.below B1.out (Nat.le_refl _)) hR.out rfl).mono ?_
  rintro e w2 ⟨a2, c2, rfl, hc2, s2, hb2, -⟩
  have B2 : Hid (Below w.heap.size w w2) := hb2
  have S2 : Hid (SegI w2 a2 (upL R).length (upL R)) := s2
  clear s2 hb2 B1
  cases R with
  | error er =>
    have her := upk_errs hR.out
    have hne : ((er : Int) != 0) = true := by rw [bne_iff_ne]; omega
    simp only [upL, upN, upE, List.length_nil]
    clear hR S2
    go_wp2_with fail
    refine (num_any _ _).mono ?_
    rintro e w' ⟨rfl, rfl⟩
    go_wp2
    go_ret
    exact ⟨rfl, B2.out⟩
  | ok q =>
    obtain ⟨xs, p⟩ := q
    obtain ⟨hv, hvec, hlen, hp1, hp2, hpe, hpr⟩ := upk_one HY.out hR.out
    rw [HL.out] at hp2
    simp only [upL, upN, upE] at S2 ⊢
    obtain ⟨k, hk⟩ : ∃ k, xs.length = k := ⟨_, rfl⟩
    rw [hk] at S2 hlen ⊢
    subst hlen
    have H1 : Hid (isVec xs = true) := hvec
    have HPE : Hid (packE v xs = 0) := hpe
    have HPR : Hid (packR v xs = tl.take p) := hpr
    clear hR hv hvec hpe hpr
    go_wp2_with fail
    refine (num_any _ _).mono ?_
    rintro e w' ⟨rfl, rfl⟩
    go_wp2_with fail
    refine (sound_any _ _ _ xs _ S2.out).mono ?_
    rintro e w' ⟨rfl, rfl⟩
    rw [H1.out]
    have hpc : p ≤ tcap := by
      rcases HC.out with ⟨h0, _⟩ | h
      · omega
      · omega
    have i1 : (1 : Int) ≤ (p : Int) := by omega
    have i2 : (p : Int) ≤ (m : Int) := by omega
    have i3 : (p : Int) ≤ (tcap : Int) := by omega
    go_wp2_with fail
    refine (pack_seg (v := v) (l := xs) B2.out (Nat.le_refl _) S2.out HPR.out HPE.out (m := p) (by rw [List.length_take, HL.out]; omega)).mono ?_
    rintro e w3 ⟨a3, c3, rfl, hc3, -, s3, hb3, -⟩
    have B3 : Hid (Below w.heap.size w w3) := hb3
    have S3 : Hid (Seg w3 a3 p (tl.take p)) := s3
    have ST : Hid (Seg w3 ta p (tl.take p)) := (HT.out.below hb3 (Nat.le_refl _)).take hp2
    clear s3 hb3 B2 S2
    obtain ⟨⟨tb, to, rfl⟩, -⟩ : (∃ b off, ta = some ⟨b, off, none⟩) ∧ True := by
      rcases HC.out with ⟨h0, _⟩ | h
      · omega
      · exact ⟨h.1, trivial⟩
    generalize tl.take p = TP at *
    go_wp2_with fail
    refine (same_any _ _ p p _ _ TP TP _ S3.out ST.out).mono ?_
    rintro e w4 ⟨rfl, q, hq⟩
    have B4 : Hid (Below w.heap.size w w4) := by rw [hq]; exact B3.out.drewN' q
    rw [show sameB TP TP = true from same_yes rfl]
    clear hq B3 S3 ST
    go_wp2_with fail
    refine (num_any _ _).mono ?_
    rintro e w' ⟨rfl, rfl⟩
    go_wp2
    go_ret
    exact ⟨rfl, B4.out⟩

set_option maxRecDepth 100000 in
/-- For every argument and every world. -/
theorem contract (H : Type) (enc : TypeId × Value → H) (W : World) (base : Nat) (args : Array Value) (ds gs : List (DataW H)) (before : List MemPlace)
    (hval : ∀ (j : Nat) t v, Tryd.f6.params[j]? = some t → args[j]? = some v → Value.okWide Tryd.prog W .any base t v)
    (hW : DataW.Whole enc Tryd.prog Tryd.f6.params.toList Rows.vectorOneFormSpec.vars false W args.toList ds gs before)
    (hsz : (DataW.weightsEach Tryd.prog (Tryd.f6.params.toList ++ (OpenSpec.ofChange Rows.vectorOneFormSpec).bare.plain.varTypes Tryd.prog) (ds ++ gs)).all (· ≤ reachBytes) = true)
    (hL : laidMetH Tryd.prog Rows.vectorOneFormRow.laid W) :
    Calls Tryd.prog 6 args W fun e W' => ∃ v, e = .returned v ∧ Rows.vectorOneFormSpec.post enc Tryd.prog Tryd.f6 false true false false W args v W' := by
  have hW' := hW
  obtain ⟨p, q, hA0, hV, rfl, hfz, hnd⟩ := hW
  have hA : DataW.TrodAll enc Tryd.prog W 0 (fun _ => true) true Tryd.f6.params.toList args.toList ds p := hA0
  rw [Tryd.params6] at hA hval hsz
  obtain ⟨v0, vs0, d0, ds0, p0, q0, hargs, rfl, rfl, h0, r0⟩ := trodAll_cons hA
  obtain ⟨v1, vs1, d1, ds1, p1, q1, rfl, rfl, rfl, h1, r1⟩ := trodAll_cons r0
  obtain ⟨v2, vs2, d2, ds2, p2, q2, rfl, rfl, rfl, h2, r2⟩ := trodAll_cons r1
  obtain ⟨rfl, rfl, rfl⟩ := trodAll_nil r2
  obtain rfl : args = #[v0, v1, v2] := by cases args; simp_all
  obtain ⟨rfl, rfl⟩ := trodVars_none hV
  obtain ⟨y0, rfl, rfl, rfl, w0⟩ := open_int Tryd.underlying3 (hval 0 3 v0 rfl rfl) h0
  have b0 := bounds_i64 w0
  obtain ⟨y1, rfl, rfl, rfl, w1⟩ := open_int Tryd.underlying3 (hval 1 3 v1 rfl rfl) h1
  have b1 := bounds_i64 w1
  obtain ⟨a2, n2, cap2, rfl⟩ := okWide_slice Tryd.underlying23 (hval 2 23 v2 rfl rfl)
  have k2 := h2
  have lt2 : ∀ x ∈ p2, x.block < W.heap.size := by obtain ⟨m, hm⟩ := k2; exact DataW.trod_lt m _ _ _ hm
  obtain ⟨fuel2, hf2⟩ := h2
  obtain ⟨l2, hseg2, hbyt2, hcap2, hdat2⟩ := open_bytes hf2
  have hE := errs_of_laid hL
  clear hA0
  obtain ⟨aa, haa⟩ := hE
  refine (walk y0 y1 a2 n2 cap2 l2 aa W hseg2 (src_of hf2) hbyt2 haa).mono fun e W' ⟨he, bel⟩ => ?_
  subst he
  exact ⟨_, rfl, _, _, _, [], _, [], hW', trodAll_mk1 (shut_bool Tryd.underlying4 _), (trodAll_cons_mk (shut_int Tryd.underlying3 w0) (trodAll_cons_mk (shut_int Tryd.underlying3 w1) (trodAll_cons_mk (Below.trod vlaid (by kernel_rfl) (of_decide_eq_true (by kernel_rfl)) k2 bel lt2) trodAll_mk0))), rfl, bel.frame _, fun h => by cases h⟩

theorem reads (os : Os) {H : Type} (enc : TypeId × Value → H) : ∃ places, DataW.whole enc Tryd.prog ((World.doorLaid Tryd.prog 104 os).forCall (fun _ _ => 0) ⟨#[], #[.int .i64 0, .int .i64 0, .slice none 0 0], []⟩).memory Tryd.f6.params.toList Rows.vectorOneFormSpec.vars false (#[Value.int .i64 0, .int .i64 0, .slice none 0 0] : Array Value).toList 8 = some ([.lit (.int .i64 0), .lit (.int .i64 0), .nil], [], places) :=
  ⟨[], by kernel_rfl⟩

set_option maxRecDepth 100000 in
theorem lifted (os : Os) (started : os.Started) (H : Type) (enc : TypeId × Value → H) (F : Stop.Interp) :
    ReturnsInHanded {} Tryd.checked os 6 .any ((OpenSpec.ofChange Rows.vectorOneFormSpec).preRow enc Tryd.prog Tryd.f6 Rows.vectorOneFormRow.domain false Rows.vectorOneFormRow.laid) (((OpenSpec.ofChange Rows.vectorOneFormSpec).at F).post enc Tryd.prog Tryd.f6 false true false false) := by
  obtain ⟨places, hx⟩ := reads os enc
  refine returnsInHanded_of_row (C := Tryd.checked) (s := (OpenSpec.ofChange Rows.vectorOneFormSpec)) vown started (by kernel_rfl) Tryd.func6
    (witness_row_atRef (enc := enc) (C := Tryd.checked) false (World.doorLaid Tryd.prog 104 os) #[.int .i64 0, .int .i64 0, .slice none 0 0] rfl (by kernel_rfl) (by kernel_rfl) (by kernel_rfl)
      (OpenSpec.preRow_of_cond 8 hx (by kernel_rfl) (fun k hk => by cases hk) (by kernel_rfl) (door_met os _))) ?_
  intro W base args ds gs before hval hW _ hcond hsz hL _ _
  exact contract H enc W base args ds gs before hval hW hsz hL

theorem said : Rows.VectorOneFormSaid :=
  OpenClaim.holds_of_cond 6 Tryd.f6 rfl rfl rfl rfl rfl rfl rfl ⟨rfl, rfl, rfl, rfl, rfl⟩ rfl rfl rfl rfl rfl (by kernel_rfl) Tryd.func6 (by kernel_rfl)
    (of_decide_eq_true (by kernel_rfl)) (by unfold Func.isWrapper; first | (rw [if_pos (by decide +kernel)]; kernel_rfl) | (rw [if_neg (by decide +kernel)]; exact ⟨rfl, rfl⟩))
    (fun os started H enc _ F => by rw [OpenClaim.pre_eq_preRow]; exact lifted os started H enc F)

theorem plain (f : FuncId) (fn : Func) (hf : Tryd.pinned.checked.prog.funcNamed "moot/mootlaw3.VectorOneForm" = some f) (hfn : Tryd.pinned.checked.prog.funcs[f]? = some fn) :
    true = Tryd.pinned.checked.prog.looks [] ∧ ∀ (j : Nat) t, fn.params[j]? = some t → Tryd.pinned.checked.prog.wantsStandIn t = false := by
  obtain rfl : f = 6 := Option.some.inj ((show Tryd.prog.funcNamed "moot/mootlaw3.VectorOneForm" = some 6 by kernel_rfl).symm.trans hf) |>.symm
  obtain rfl : fn = Tryd.f6 := (Option.some.inj (Tryd.func6.symm.trans hfn)).symm
  refine ⟨by kernel_rfl, fun j t ht => ?_⟩
  rw [Tryd.params6] at ht
  have hm : t ∈ [3, 3, 23] := by simpa using Array.mem_of_getElem? ht
  have hall : ([3, 3, 23].all fun u => !Tryd.prog.wantsStandIn u) = true := by kernel_rfl
  exact (show Tryd.prog.wantsStandIn t = false by simpa using List.all_eq_true.1 hall t hm)

end vectorOneForm
theorem vectorOneForm_proved : Rows.VectorOneFormCardSaid :=
  Claim7.holds_tied_plain_at .later [] _ _ _ _ vectorOneForm.said (fun _ h => by cases h) (by kernel_rfl) (fun _ h => by cases h) vectorOneForm_row_tie rfl ⟨rfl, rfl⟩ (by kernel_rfl) rfl vectorOneForm.plain (by kernel_rfl)
#print axioms vectorOneForm_proved
end Go.Proofs.YtkddbcgkfnmgbabDoor
