/- Proved: for every two ints and every list of bytes VectorUnpacks answers true: Unpack answers what the document says, and the bytes stay, what lies behind them too. The five sentinels of package wire are as the program's text lays them. -/
import Derived.Test.YtkddbcgkfnmgbabDoorVRTight
import Derived.Test.YtkddbcgkfnmgbabDoorVBytes
import Derived.Test.YtkddbcgkfnmgbabDoorSame
import Derived.Test.YtkddbcgkfnmgbabDoorSameI
import Derived.Test.YtkddbcgkfnmgbabDoorVNum
import Derived.Test.YtkddbcgkfnmgbabDoorVSrc
import Derived.Test.YtkddbcgkfnmgbabDoorVArgs
import Derived.Test.YtkddbcgkfnmgbabDoorArgs
import Derived.Test.YtkddbcgkfnmgbabDoorLaid
import Derived.Test.YtkddbcgkfnmgbabDoorCards
import Derived.Test.YtkddbcgkfnmgbabDoorTie
import Derived.Deep.DeepHandedRow
import Derived.Deep.DeepWitnessRowRef
import Derived.WalkSmall
namespace Go.Proofs.YtkddbcgkfnmgbabDoor
namespace vectorUnpacks
open Go.ChangeShapes Go.WideShapes Go.ChangeAt Go.RowKit Go.Wire1

theorem lit_up : upk 2 3 [7, 6, 4, 9, 99] = .ok ([3, 5, 0], 4) := by kernel_rfl
def tail3 : List Int := [91, 92, 93]
theorem byt_tail : Byt tail3 := fun z hz => by unfold tail3 at hz; simp only [List.mem_cons, List.not_mem_nil, or_false] at hz; omega

set_option maxHeartbeats 2000000 in
set_option maxRecDepth 100000 in
theorem walk (v n : Int) (ta : Option Addr) (m tcap : Nat) (tl : List Int) (a : Nat → Addr) (w : World) (ht : Seg w ta m tl) (hsrc : Src ta m tcap) (hty : Byt tl) (hm : m ≤ 140737488351232) (he : Errs w a) :
    Calls Tryd.prog 4 #[.int .i64 v, .int .i64 n, .slice ta m tcap] w fun e w' => e = .returned (.bool true) ∧ Below w.heap.size w w' := by
  obtain ⟨i0, hi, hz0, hz1, hz2⟩ := info_parts Tryd.info5
  have HT : Hid (Seg w ta m tl) := ht
  have HE : Hid (Errs w a) := he
  have HY : Hid (Byt tl) := hty
  have HC : Hid (Src ta m tcap) := hsrc
  have HL : Hid (tl.length = m) := ht.1
  clear ht he hty hsrc
  have ml5 : ([7, 6, 4, 9, 99] : List Int).length ≤ maxLen := by unfold maxLen; simp
  have ml3 : (3 : Nat) ≤ maxLen := by unfold maxLen; omega
  have f3 : Hid (Fit [3, 5, 0]) := fit_ok rfl
  have y5 : Hid (Byt [7, 6, 4, 9, 99]) := fun z hz => by simp only [List.mem_cons, List.not_mem_nil, or_false] at hz; omega
  have c5 : Hid (Src (some ⟨w.heap.size, 0, none⟩) 5 5) := .inr ⟨⟨_, 0, rfl⟩, Nat.le_refl _, by unfold maxLen; omega⟩
  go_enter Tryd.func4, Tryd.ntmps4
  go_wp2_with fail
  refine (unpack_seg (v := 2) (n := 3) (l := [7, 6, 4, 9, 99]) (w0 := w) ((Below.refl w.heap.size _).more (Nat.le_refl _) _) (Nat.le_refl _) (seg_lit [7, 6, 4, 9, 99] ml5 rfl rfl rfl) c5.out y5.out (HE.out.below ((Below.refl _ _).more (Nat.le_refl _) _) (Nat.le_refl _)) lit_up (k := 3) rfl).mono ?_
  rintro e w1 ⟨a1, c1, rfl, hc1, s1, hb1, -⟩
  have B1 : Hid (Below w.heap.size w w1) := hb1
  have S1 : Hid (SegI w1 a1 3 [3, 5, 0]) := s1
  simp only [upN, upE]
  clear s1 hb1 c5
  go_wp2_with fail
  refine (sameI_any _ _ 3 3 _ _ [3, 5, 0] [3, 5, 0] _ (S1.out.on _) (segI_lit _ f3.out ml3 rfl rfl rfl)).mono ?_
  rintro e w2 ⟨rfl, q, hq⟩
  have B2 : Hid (Below w.heap.size w w2) := by rw [hq]; exact (B1.out.more (Nat.le_refl _) _).drewN' q
  rw [show sameB [3, 5, 0] [3, 5, 0] = true from rfl]
  clear hq B1 S1
  go_wp2_with fail
  refine (num_any _ _).mono ?_
  rintro e w' ⟨rfl, rfl⟩
  go_wp2_with fail
  refine (bytes_any _ _ _ tl _ (HT.out.below B2.out (Nat.le_refl _)) (by omega)).mono ?_
  rintro e w3 ⟨u3, rfl, hown3, hb3⟩
  have hsz3 := hb3.size
  rw [HL.out] at hown3
  go_wp2_with (first
    | (at_builtin; refine wpList_append_own _ rfl _ _ 23 rfl w2.heap.size 5 i0 (.int .u8 0) 1 1 Tryd.underlying23 hi hz0 hz1 hz2 rfl (by decide) _ _ _ rfl (hown3.alloc _) ⟨w3.heap.size, 0, none⟩ 3 3 [.int .u8 91, .int .u8 92, .int .u8 93] rfl rfl ?c1 ?c2 ?c3 ?c4 ?c5 ?_))
  case c1 =>
    intro j u hj
    rw [add_at, Nat.zero_add]
    exact (cell_new w3 [.int .u8 91, .int .u8 92, .int .u8 93] 5 j).trans hj
  case c2 => intro u hu; simp at hu; rcases hu with rfl | rfl | rfl <;> rfl
  case c3 => unfold maxLen; omega
  case c4 => omega
  case c5 => simp; omega
  intro v4 w4 hown4 hgrow4 _
  have B4 : Hid (Below w2.heap.size w2 w4) := (hb3.alloc hsz3 _).grown hgrow4 (by simp; omega) (fun j hj => (hown3.lt j hj).1)
  have hLF : (tl ++ tail3).length = m + 3 := by rw [List.length_append, HL.out]; rfl
  have hown5 : w4.ownsRow w2.heap.size 5 1 v4 (tl ++ tail3).length ((tl ++ tail3).map (Value.int .u8)) := by
    rw [hLF, List.map_append]; exact hown4
  obtain ⟨g, cF, hv4, hm4⟩ := mine_of hown5 (by omega)
  rw [hLF] at hv4 hm4
  subst hv4
  have MF : Hid (Mine w4 w2.heap.size g (m + 3) cF (tl ++ tail3)) := hm4
  have hcF := hm4.2.2
  have BB4 : Hid (Below w.heap.size w w4) := B2.out.on B4.out (Nat.le_refl _)
  have SF : Hid (Seg w4 (some ⟨g, 0, none⟩) (m + 3) (tl ++ tail3)) := hm4.seg
  have HPT : Hid ((tl ++ tail3).take m = tl) := by show _ = _; rw [List.take_append_of_le_length (by rw [HL.out]; omega), List.take_of_length_le (by rw [HL.out]; omega)]
  clear hown3 hown4 hown5 hgrow4 hm4 hb3 hsz3 B2 B4
  generalize tl ++ tail3 = F at *
  go_wp2_with fail
  refine (bytes_any _ _ _ F _ SF.out (by omega)).mono ?_
  rintro e w6 ⟨u6, rfl, hown6, hb6⟩
  obtain ⟨a6, c6, hv6, hc6, -, hs6⟩ := seg_own hown6
  rw [hLF] at hv6 hc6 hs6
  subst hv6
  have S6 : Hid (Seg w6 a6 (m + 3) F) := hs6
  have SF6 : Hid (Seg w6 (some ⟨g, 0, none⟩) (m + 3) F) := SF.out.below hb6 (Nat.le_refl _)
  have BB6 : Hid (Below w.heap.size w w6) := BB4.out.on hb6 (Nat.le_refl _)
  have ST6 : Hid (Seg w6 (some ⟨g, 0, none⟩) m tl) := by
    have := SF6.out.take (k := m) (by omega)
    rwa [HPT.out] at this
  have CT : Hid (Src (some ⟨g, 0, none⟩) m cF) := .inr ⟨⟨g, 0, rfl⟩, by omega, hcF.2.1⟩
  have icf : (m : Int) ≤ (cF : Int) := by omega
  clear hown6 hs6 hb6 SF BB4 MF
  obtain ⟨R, hR⟩ : ∃ R, Hid (upk v n tl = R) := ⟨_, rfl⟩
  go_wp2_with fail
  refine (unpack_seg (l := tl) BB6.out (Nat.le_refl _) ST6.out CT.out HY.out (HE.out.below BB6.out (Nat.le_refl _)) hR.out rfl).mono ?_
  rintro e w7 ⟨a7, c7, rfl, hc7, s7, hb7, hb7'⟩
  have B7 : Hid (Below w.heap.size w w7) := hb7
  have S7 : Hid (SegI w7 a7 (upL R).length (upL R)) := s7
  have S6' : Hid (Seg w7 a6 (m + 3) F) := S6.out.below hb7' (Nat.le_refl _)
  have SF7 : Hid (Seg w7 (some ⟨g, 0, none⟩) (m + 3) F) := SF6.out.below hb7' (Nat.le_refl _)
  clear s7 hb7 hb7' S6 SF6 BB6 ST6
  generalize hU : upL R = U at *
  generalize hUl : U.length = ul at *
  go_wp2_with fail
  refine (runpack_seg (l := tl) B7.out (Nat.le_refl _) (HT.out.below B7.out (Nat.le_refl _)) HC.out HY.out hR.out (k := ul) (by rw [hU]; exact hUl)).mono ?_
  rintro e w8 ⟨a8, c8, rfl, hc8, s8, hb8, hb8'⟩
  rw [hU] at s8
  have B8 : Hid (Below w.heap.size w w8) := hb8
  have S8 : Hid (SegI w8 a8 ul U) := s8
  have S7' : Hid (SegI w8 a7 ul U) := S7.out.below hb8' (Nat.le_refl _)
  have S68 : Hid (Seg w8 a6 (m + 3) F) := S6'.out.below hb8' (Nat.le_refl _)
  have SF8 : Hid (Seg w8 (some ⟨g, 0, none⟩) (m + 3) F) := SF7.out.below hb8' (Nat.le_refl _)
  clear s8 hb8 hb8' S7 S6' SF7 B7
  go_wp2_with fail
  refine (sameI_any _ _ ul ul _ _ U U _ S7'.out S8.out).mono ?_
  rintro e w9 ⟨rfl, q, hq⟩
  have B9 : Hid (Below w.heap.size w w9) := by rw [hq]; exact B8.out.drewN' q
  have S69 : Hid (Seg w9 a6 (m + 3) F) := by rw [hq]; exact S68.out.drewN q
  have SF9 : Hid (Seg w9 (some ⟨g, 0, none⟩) (m + 3) F) := by rw [hq]; exact SF8.out.drewN q
  rw [show sameB U U = true from same_yes rfl]
  clear hq B8 S8 S7' S68 SF8
  go_wp2_with fail
  refine (same_any _ _ (m + 3) (m + 3) _ _ F F _ SF9.out S69.out).mono ?_
  rintro e wA ⟨rfl, q, hq⟩
  have BA : Hid (Below w.heap.size w wA) := by rw [hq]; exact B9.out.drewN' q
  rw [show sameB F F = true from same_yes rfl]
  clear hq B9 S69 SF9
  generalize upN R = rn at *
  generalize upE R = re at *
  go_wp2_with fail
  refine (num_any _ _).mono ?_
  rintro e w' ⟨rfl, rfl⟩
  go_wp2
  go_ret
  exact ⟨rfl, BA.out⟩

set_option maxRecDepth 100000 in
/-- For every argument and every world. -/
theorem contract (H : Type) (enc : TypeId × Value → H) (W : World) (base : Nat) (args : Array Value) (ds gs : List (DataW H)) (before : List MemPlace)
    (hval : ∀ (j : Nat) t v, Tryd.f4.params[j]? = some t → args[j]? = some v → Value.okWide Tryd.prog W .any base t v)
    (hW : DataW.Whole enc Tryd.prog Tryd.f4.params.toList Rows.vectorUnpacksSpec.vars false W args.toList ds gs before)
    (hsz : (DataW.weightsEach Tryd.prog (Tryd.f4.params.toList ++ (OpenSpec.ofChange Rows.vectorUnpacksSpec).bare.plain.varTypes Tryd.prog) (ds ++ gs)).all (· ≤ reachBytes) = true)
    (hL : laidMetH Tryd.prog Rows.vectorUnpacksRow.laid W) :
    Calls Tryd.prog 4 args W fun e W' => ∃ v, e = .returned v ∧ Rows.vectorUnpacksSpec.post enc Tryd.prog Tryd.f4 false true false false W args v W' := by
  have hW' := hW
  obtain ⟨p, q, hA0, hV, rfl, hfz, hnd⟩ := hW
  have hA : DataW.TrodAll enc Tryd.prog W 0 (fun _ => true) true Tryd.f4.params.toList args.toList ds p := hA0
  rw [Tryd.params4] at hA hval hsz
  obtain ⟨v0, vs0, d0, ds0, p0, q0, hargs, rfl, rfl, h0, r0⟩ := trodAll_cons hA
  obtain ⟨v1, vs1, d1, ds1, p1, q1, rfl, rfl, rfl, h1, r1⟩ := trodAll_cons r0
  obtain ⟨v2, vs2, d2, ds2, p2, q2, rfl, rfl, rfl, h2, r2⟩ := trodAll_cons r1
  obtain ⟨rfl, rfl, rfl⟩ := trodAll_nil r2
  obtain rfl : args = #[v0, v1, v2] := by cases args; simp_all
  obtain ⟨rfl, rfl⟩ := trodVars_none hV
  obtain ⟨y0, rfl, rfl, rfl, w0⟩ := open_int Tryd.underlying3 (hval 0 3 v0 rfl rfl) h0
  have b0 := bounds_i64 w0
  obtain ⟨y1, rfl, rfl, rfl, w1⟩ := open_int Tryd.underlying3 (hval 1 3 v1 rfl rfl) h1
  have b1 := bounds_i64 w1
  obtain ⟨a2, n2, cap2, rfl⟩ := okWide_slice Tryd.underlying23 (hval 2 23 v2 rfl rfl)
  have k2 := h2
  have lt2 : ∀ x ∈ p2, x.block < W.heap.size := by obtain ⟨m, hm⟩ := k2; exact DataW.trod_lt m _ _ _ hm
  obtain ⟨fuel2, hf2⟩ := h2
  obtain ⟨l2, hseg2, hbyt2, hcap2, hdat2⟩ := open_bytes hf2
  have hreach2 : cap2 ≤ 140737488351232 := by
    rcases hdat2 with ⟨_, _, h⟩ | ⟨elems, spare, hd, he, hc⟩
    · omega
    · have hs := sized_slice hsz (j := 2) (t := 23) (e := 5) (elems := elems) (spare := spare) rfl (by rw [show d2 = _ from hd]; rfl) Tryd.underlying23
      rw [bytes5] at hs
      simp only [reachBytes] at hs
      omega
  have hE := errs_of_laid hL
  clear hA0
  obtain ⟨aa, haa⟩ := hE
  refine (walk y0 y1 a2 n2 cap2 l2 aa W hseg2 (src_of hf2) hbyt2 (by have := hreach2; omega) haa).mono fun e W' ⟨he, bel⟩ => ?_
  subst he
  exact ⟨_, rfl, _, _, _, [], _, [], hW', trodAll_mk1 (shut_bool Tryd.underlying4 _), (trodAll_cons_mk (shut_int Tryd.underlying3 w0) (trodAll_cons_mk (shut_int Tryd.underlying3 w1) (trodAll_cons_mk (Below.trod vlaid (by kernel_rfl) (of_decide_eq_true (by kernel_rfl)) k2 bel lt2) trodAll_mk0))), rfl, bel.frame _, fun h => by cases h⟩

theorem reads (os : Os) {H : Type} (enc : TypeId × Value → H) : ∃ places, DataW.whole enc Tryd.prog ((World.doorLaid Tryd.prog 104 os).forCall (fun _ _ => 0) ⟨#[], #[.int .i64 0, .int .i64 0, .slice none 0 0], []⟩).memory Tryd.f4.params.toList Rows.vectorUnpacksSpec.vars false (#[Value.int .i64 0, .int .i64 0, .slice none 0 0] : Array Value).toList 8 = some ([.lit (.int .i64 0), .lit (.int .i64 0), .nil], [], places) :=
  ⟨[], by kernel_rfl⟩

set_option maxRecDepth 100000 in
theorem lifted (os : Os) (started : os.Started) (H : Type) (enc : TypeId × Value → H) (F : Stop.Interp) :
    ReturnsInHanded {} Tryd.checked os 4 .any ((OpenSpec.ofChange Rows.vectorUnpacksSpec).preRow enc Tryd.prog Tryd.f4 Rows.vectorUnpacksRow.domain false Rows.vectorUnpacksRow.laid) (((OpenSpec.ofChange Rows.vectorUnpacksSpec).at F).post enc Tryd.prog Tryd.f4 false true false false) := by
  obtain ⟨places, hx⟩ := reads os enc
  refine returnsInHanded_of_row (C := Tryd.checked) (s := (OpenSpec.ofChange Rows.vectorUnpacksSpec)) vown started (by kernel_rfl) Tryd.func4
    (witness_row_atRef (enc := enc) (C := Tryd.checked) false (World.doorLaid Tryd.prog 104 os) #[.int .i64 0, .int .i64 0, .slice none 0 0] rfl (by kernel_rfl) (by kernel_rfl) (by kernel_rfl)
      (OpenSpec.preRow_of_cond 8 hx (by kernel_rfl) (fun k hk => by cases hk) (by kernel_rfl) (door_met os _))) ?_
  intro W base args ds gs before hval hW _ hcond hsz hL _ _
  exact contract H enc W base args ds gs before hval hW hsz hL

theorem said : Rows.VectorUnpacksSaid :=
  OpenClaim.holds_of_cond 4 Tryd.f4 rfl rfl rfl rfl rfl rfl rfl ⟨rfl, rfl, rfl, rfl, rfl⟩ rfl rfl rfl rfl rfl (by kernel_rfl) Tryd.func4 (by kernel_rfl)
    (of_decide_eq_true (by kernel_rfl)) (by unfold Func.isWrapper; first | (rw [if_pos (by decide +kernel)]; kernel_rfl) | (rw [if_neg (by decide +kernel)]; exact ⟨rfl, rfl⟩))
    (fun os started H enc _ F => by rw [OpenClaim.pre_eq_preRow]; exact lifted os started H enc F)

theorem plain (f : FuncId) (fn : Func) (hf : Tryd.pinned.checked.prog.funcNamed "moot/mootlaw3.VectorUnpacks" = some f) (hfn : Tryd.pinned.checked.prog.funcs[f]? = some fn) :
    true = Tryd.pinned.checked.prog.looks [] ∧ ∀ (j : Nat) t, fn.params[j]? = some t → Tryd.pinned.checked.prog.wantsStandIn t = false := by
  obtain rfl : f = 4 := Option.some.inj ((show Tryd.prog.funcNamed "moot/mootlaw3.VectorUnpacks" = some 4 by kernel_rfl).symm.trans hf) |>.symm
  obtain rfl : fn = Tryd.f4 := (Option.some.inj (Tryd.func4.symm.trans hfn)).symm
  refine ⟨by kernel_rfl, fun j t ht => ?_⟩
  rw [Tryd.params4] at ht
  have hm : t ∈ [3, 3, 23] := by simpa using Array.mem_of_getElem? ht
  have hall : ([3, 3, 23].all fun u => !Tryd.prog.wantsStandIn u) = true := by kernel_rfl
  exact (show Tryd.prog.wantsStandIn t = false by simpa using List.all_eq_true.1 hall t hm)

end vectorUnpacks
theorem vectorUnpacks_proved : Rows.VectorUnpacksCardSaid :=
  Claim7.holds_tied_plain_at .later [] _ _ _ _ vectorUnpacks.said (fun _ h => by cases h) (by kernel_rfl) (fun _ h => by cases h) vectorUnpacks_row_tie rfl ⟨rfl, rfl⟩ (by kernel_rfl) rfl vectorUnpacks.plain (by kernel_rfl)
#print axioms vectorUnpacks_proved
end Go.Proofs.YtkddbcgkfnmgbabDoor
