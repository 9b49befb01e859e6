/- Proved: for every n, row, ballot, command, own attributes, other votes, who and pick QuorumSlowSafe answers true: what F + 1 have accepted at one ballot, with nothing else accepted there and nothing else voted later, every F + 1 plan to accept. No condition. -/
import Derived.Test.YtpbbbbmnboeffaaQSlG
import Derived.Test.YtpbbbbmnboeffaaQLw2
import Derived.Test.YtpbbbbmnboeffaaQArgs
import Derived.Test.YtpbbbbmnboeffaaQBalA
namespace Go.Proofs.Ytpbbbbmnboeffaa
open Go.ChangeShapes Go.WideShapes Go.ChangeAt Go.RowKit Go.Wire1

theorem rep_natS {n x : Int} (hz : szQ n = true) (h : repQ n x = true) : ∃ N X : Nat, n = (N : Int) ∧ x = (X : Int) ∧ X < N := by
  unfold repQ at h
  simp only [Bool.and_eq_true, decide_eq_true_eq] at h
  have := sz_le hz
  exact ⟨n.toNat, x.toNat, by omega, by omega, by omega⟩
theorem lslow_int (n row : Int) (rd who : Int) (c : Cm) (seq : Int) (a : Option Addr) (k cap : Nat) (l : List Int) (oa : Option Addr) (M oc : Nat) (os : List Vt) (wa : Option Addr) (Pw wc : Nat) (wh : List Int) (pa : Option Addr) (P pc : Nat) (pick : List Int) (w : World) (hz : szQ n = true) (hr : repQ n row = true) (hs : SegI w a k l) (hkc : k ≤ cap) (hsn : sndQ n seq l = true)
    (ho : RowS w 15 oa M (os.map vcs)) (hov : ∀ v ∈ os, Vok w v) (hwh : SegI w wa Pw wh) (hPw : Pw ≤ 1152921504606846976) (hp : SegI w pa P pick) (hP : P ≤ 1152921504606846976) :
    Calls Try.prog 5 #[.int .i64 n, .int .i64 row, .agg #[.int .i64 rd, .int .i64 who], .agg (ccs c).toArray, .agg #[.int .i64 seq, .slice a k cap], .slice oa M oc, .slice wa Pw wc, .slice pa P pc] w fun e w' => e = .returned (.bool true) ∧ Below w.heap.size w w' := by
  obtain ⟨N, X, rfl, rfl, h⟩ := rep_natS hz hr
  exact lslow_any N X rd who c seq a k cap l oa M oc os wa Pw wc wh pa P pc pick w hz h hs hkc hsn ho hov hwh hPw hp hP
theorem built_cmdS (k : Int) (s : ByteArray) : Try.prog.built 25 [(0, .int .i64 k), (3, .string s)] = some (ccs ⟨k, 0, 0, s, ⟨#[]⟩, ⟨#[]⟩, ⟨#[]⟩, 0⟩).toArray := by kernel_rfl
namespace quorumSlowSafe
set_option maxHeartbeats 8000000 in
set_option maxRecDepth 100000 in
theorem walk (n row : Int) (rd who : Int) (c : Cm) (seq : Int) (a : Option Addr) (k cap : Nat) (l : List Int) (oa : Option Addr) (M oc : Nat) (os : List Vt) (wa : Option Addr) (Pw wc : Nat) (wh : List Int) (pa : Option Addr) (P pc : Nat) (pick : List Int) (w : World) (hs : SegI w a k l) (hkc : k ≤ cap) (ho : VRow w oa M os) (hwh : SegI w wa Pw wh) (hwc : Pw ≤ wc) (hrw : wc * 8 ≤ 140737488351232) (hp : SegI w pa P pick) (hpc : P ≤ pc) (hrc : pc * 8 ≤ 140737488351232) :
    Calls Try.prog 3 #[.int .i64 n, .int .i64 row, .agg #[.int .i64 rd, .int .i64 who], .agg (ccs c).toArray, .agg #[.int .i64 seq, .slice a k cap], .slice oa M oc, .slice wa Pw wc, .slice pa P pc] w fun e w' => e = .returned (.bool true) ∧ Below w.heap.size w w' := by
  have hP : P ≤ 1152921504606846976 := by omega
  have hPw : Pw ≤ 1152921504606846976 := by omega
  clear hpc hrc hwc hrw
  obtain ⟨U, hU⟩ : ∃ U, U = ((w.alloc (.cells #[.int .i64 rd, .int .i64 who] 23)).alloc (.cells (ccs c).toArray 25)).alloc (.cells #[.int .i64 seq, .slice a k cap] 28) := ⟨_, rfl⟩
  have BU : Hid (Below w.heap.size w U) := by rw [hU]; exact (((Below.refl _ w).alloc (Nat.le_refl _) _).alloc (by simp) _).alloc (by simp; omega) _
  have Q1 : Hid (Blk U w.heap.size [.int .i64 rd, .int .i64 who]) := by
    rw [hU]; exact (blk_new w 23 [.int .i64 rd, .int .i64 who]).on (((Below.refl _ _).alloc (Nat.le_refl _) _).alloc (by simp) _)
  have Q2 : Hid (Blk U (w.heap.size + 1) (ccs c)) := by
    have := blk_new (w.alloc (.cells #[.int .i64 rd, .int .i64 who] 23)) 25 (ccs c)
    rw [World.size_alloc] at this
    rw [hU]; exact this.on ((Below.refl _ _).alloc (Nat.le_refl _) _)
  have Q3 : Hid (Blk U (w.heap.size + 1 + 1) [.int .i64 seq, .slice a k cap]) := by
    have := blk_new ((w.alloc (.cells #[.int .i64 rd, .int .i64 who] 23)).alloc (.cells (ccs c).toArray 25)) 28 [.int .i64 seq, .slice a k cap]
    rw [World.size_alloc, World.size_alloc] at this
    rw [hU]; exact this
  have HS := hide hs
  have HKC := hide hkc
  have HP := hide hp
  have HWH := hide hwh
  have HOV := hide ho
  clear hs hkc ho hp hwh
  have hUs := Q3.out.lt
  obtain ⟨X1, hX1⟩ : ∃ X1, X1 = (U.alloc (.cells #[.int .i64 0, .int .i64 1, .int .i64 0, .int .i64 0, .int .i64 0] 3)).alloc (.cells #[.int .i64 4, .int .i64 3, .int .i64 2] 3) := ⟨_, rfl⟩
  have BX1 : Hid (Below U.heap.size U X1) := by rw [hX1]; exact ((Below.refl _ _).alloc (Nat.le_refl _) _).alloc (by simp) _
  have SX1 : Hid (SegI X1 (some ⟨U.heap.size, 0, none⟩) 5 [0, 1, 0, 0, 0]) := by
    rw [hX1]
    exact (segI_lit [0, 1, 0, 0, 0] (fit_of (fun x hx => by simp at hx; omega)) (by unfold maxLen; decide) rfl rfl rfl).on _
  have SX2 : Hid (SegI X1 (some ⟨U.heap.size + 1, 0, none⟩) 3 [4, 3, 2]) := by
    rw [hX1]
    exact segI_lit [4, 3, 2] (fit_of (fun x hx => by simp at hx; omega)) (by unfold maxLen; decide) rfl (by simp) rfl
  have PX1 : SegI X1 none 0 [] := ⟨rfl, by unfold maxLen; omega, fun h => by omega, fun j => by simp⟩
  have HC1 := lslow_any 5 0 1 2 ⟨1, 0, 0, ⟨#[107]⟩, ⟨#[]⟩, ⟨#[]⟩, ⟨#[]⟩, 0⟩ 2 (some ⟨U.heap.size, 0, none⟩) 5 5 [0, 1, 0, 0, 0] none 0 0 [] none 0 0 [] (some ⟨U.heap.size + 1, 0, none⟩) 3 3 [4, 3, 2] X1 rfl (by decide) SX1.out (Nat.le_refl _) (by kernel_rfl) (rows_nil _ _ _) (fun v h => by cases h) PX1 (by omega) SX2.out (by omega)
  have HC : Hid (Calls Try.prog 5 #[.int .i64 5, .int .i64 0, .agg #[.int .i64 1, .int .i64 2], .agg (ccs ⟨1, 0, 0, ⟨#[107]⟩, ⟨#[]⟩, ⟨#[]⟩, ⟨#[]⟩, 0⟩).toArray, .agg #[.int .i64 2, .slice (some ⟨U.heap.size, 0, none⟩) 5 5], .slice none 0 0, .slice none 0 0, .slice (some ⟨U.heap.size + 1, 0, none⟩) 3 3] X1 fun e w' => e = .returned (.bool true) ∧ Below X1.heap.size X1 w') := HC1
  clear HC1 PX1 SX1 SX2
  go_enter Try.func3, Try.ntmps3
  go_upto_region 1 with fail
  rw [← hU]
  have HX1 : Hid ((U.alloc (.cells #[.int .i64 0, .int .i64 1, .int .i64 0, .int .i64 0, .int .i64 0] 3)).alloc (.cells #[.int .i64 4, .int .i64 3, .int .i64 2] 3) = X1) := hX1.symm
  clear hU hX1
  go_wp2_with (first | (refine wpList_buildQ rfl 25 _ rfl [(0, .int .i64 1), (3, .string ⟨#[107]⟩)] rfl _ (built_cmdS 1 ⟨#[107]⟩) ?_))
  rw [HX1.out]
  refine HC.out.mono ?_
  rintro e w1 ⟨rfl, hb1⟩
  have BV : Hid (Below U.heap.size U w1) := BX1.out.trans (hb1.mono BX1.out.size)
  have B1 : Hid (Below w.heap.size w w1) := BU.out.trans (BV.out.mono BU.out.size)
  have Q1b : Hid (Blk w1 w.heap.size [.int .i64 rd, .int .i64 who]) := Q1.out.on BV.out
  have Q2b : Hid (Blk w1 (w.heap.size + 1) (ccs c)) := Q2.out.on BV.out
  have Q3b : Hid (Blk w1 (w.heap.size + 1 + 1) [.int .i64 seq, .slice a k cap]) := Q3.out.on BV.out
  clear hb1 HC HX1 BX1 BU Q1 Q2 Q3 BV hUs
  go_upto_region 4 with fail
  go_wp2_with fail
  refine (decides_any _ _ _).mono ?_
  rintro e w2 ⟨rfl, rfl⟩
  obtain ⟨dd, hdd⟩ : ∃ b, (szQ n && repQ n row) = b := ⟨_, rfl⟩
  rw [hdd]
  have HDD := hide hdd
  clear hdd
  have y20 : w1.cell? ⟨(w.heap.size + 1 + 1), 0, none⟩ = some (.int .i64 seq) := Q3b.out.cell 0 _ rfl
  have y21 : w1.cell? ⟨(w.heap.size + 1 + 1), 1, none⟩ = some (.slice a k cap) := Q3b.out.cell 1 _ rfl
  have HS1 : Hid (SegI w1 a k l) := HS.out.below B1.out (Nat.le_refl _)
  go_wp2_with fail
  refine (sound_any _ _ _ _ _ _ _ HS1.out).mono ?_
  rintro e w2 ⟨rfl, rfl⟩
  obtain ⟨sn, hsn⟩ : ∃ b, sndB n seq l = b := ⟨_, rfl⟩
  rw [hsn]
  have HSB := hide hsn
  clear hsn y20 y21
  cases dd with
  | false =>
    go_wp2
    go_ret
    exact ⟨rfl, B1.out⟩
  | true =>
    have HD : Hid (szQ n = true ∧ repQ n row = true) := by have := HDD.out; rwa [Bool.and_eq_true] at this
    cases sn with
    | false =>
      go_wp2
      go_ret
      exact ⟨rfl, B1.out⟩
    | true =>
      have HSN : Hid (sndQ n seq l = true) := by show _ = _; rw [← sndB_sz HD.out.1]; exact HSB.out
      have hV := HOV.out.below B1.out (Nat.le_refl _)
      have HC2 : Hid (Calls Try.prog 5 #[.int .i64 n, .int .i64 row, .agg #[.int .i64 rd, .int .i64 who], .agg (ccs c).toArray, .agg #[.int .i64 seq, .slice a k cap], .slice oa M oc, .slice wa Pw wc, .slice pa P pc] w1 fun e w' => e = .returned (.bool true) ∧ Below w1.heap.size w1 w') :=
        lslow_int n row rd who c seq a k cap l oa M oc os wa Pw wc wh pa P pc pick w1 HD.out.1 HD.out.2 HS1.out HKC.out HSN.out hV.row hV.ok (HWH.out.below B1.out (Nat.le_refl _)) hPw (HP.out.below B1.out (Nat.le_refl _)) hP
      clear hV
      go_wp2_with (first | (refine wpList_load_mid rfl 23 _ rfl w.heap.size 0 rfl [.int .i64 rd, .int .i64 who] _ Q1b.out.range Try.underlying23 rfl (by kernel_rfl) ?_) | (refine wpList_load_mid rfl 25 _ rfl (w.heap.size + 1) 0 rfl (ccs c) _ Q2b.out.range Try.underlying25 rfl (by kernel_rfl) ?_) | (refine wpList_load_mid rfl 28 _ rfl (w.heap.size + 1 + 1) 0 rfl [.int .i64 seq, .slice a k cap] _ Q3b.out.range Try.underlying28 rfl (by kernel_rfl) ?_))
      refine HC2.out.mono ?_
      rintro e w5 ⟨rfl, hb5⟩
      have HB5 : Hid (Below w.heap.size w w5) := B1.out.trans (hb5.mono B1.out.size)
      clear hb5
      go_wp2
      go_ret
      exact ⟨rfl, HB5.out⟩

set_option maxRecDepth 100000 in
/-- For every argument and every world. -/
theorem contract (H : Type) (enc : TypeId × Value → H) (W : World) (base : Nat) (args : Array Value) (ds gs : List (DataW H)) (before : List MemPlace)
    (hval : ∀ (j : Nat) t v, Try.f3.params[j]? = some t → args[j]? = some v → Value.okWide Try.prog W .any base t v)
    (hW : DataW.Whole enc Try.prog Try.f3.params.toList Rows.quorumSlowSafeSpec.vars false W args.toList ds gs before)
    (hsz : (DataW.weightsEach Try.prog (Try.f3.params.toList ++ Rows.quorumSlowSafeSpec.plain.varTypes Try.prog) (ds ++ gs)).all (· ≤ reachBytes) = true) :
    Calls Try.prog 3 args W fun e W' => ∃ v, e = .returned v ∧ Rows.quorumSlowSafeSpec.post enc Try.prog Try.f3 false true false false W args v W' := by
  have hW' := hW
  obtain ⟨p, q, hA0, hV, rfl, hfz, hnd⟩ := hW
  have hA : DataW.TrodAll enc Try.prog W 0 (fun _ => true) true Try.f3.params.toList args.toList ds p := hA0
  rw [Try.params3] at hA hval hsz
  obtain ⟨v0, vs0, d0, ds0, p0, q0, hargs, rfl, rfl, h0, tr0⟩ := trodAll_cons hA
  obtain ⟨v1, vs1, d1, ds1, p1, q1, rfl, rfl, rfl, h1, tr1⟩ := trodAll_cons tr0
  obtain ⟨v2, vs2, d2, ds2, p2, q2, rfl, rfl, rfl, h2, tr2⟩ := trodAll_cons tr1
  obtain ⟨v3, vs3, d3, ds3, p3, q3, rfl, rfl, rfl, h3, tr3⟩ := trodAll_cons tr2
  obtain ⟨v4, vs4, d4, ds4, p4, q4, rfl, rfl, rfl, h4, tr4⟩ := trodAll_cons tr3
  obtain ⟨v5, vs5, d5, ds5, p5, q5, rfl, rfl, rfl, h5, tr5⟩ := trodAll_cons tr4
  obtain ⟨v6, vs6, d6, ds6, p6, q6, rfl, rfl, rfl, h6, tr6⟩ := trodAll_cons tr5
  obtain ⟨v7, vs7, d7, ds7, p7, q7, rfl, rfl, rfl, h7, tr7⟩ := trodAll_cons tr6
  obtain ⟨rfl, rfl, rfl⟩ := trodAll_nil tr7
  obtain rfl : args = #[v0, v1, v2, v3, v4, v5, v6, v7] := by cases args; simp_all
  obtain ⟨rfl, rfl⟩ := trodVars_none hV
  obtain ⟨y0, rfl, rfl, rfl, w0⟩ := open_int Try.underlying3 (hval 0 3 v0 rfl rfl) h0
  have b0 := bounds_i64 w0
  obtain ⟨y1, rfl, rfl, rfl, w1⟩ := open_int Try.underlying3 (hval 1 3 v1 rfl rfl) h1
  have b1 := bounds_i64 w1
  have k2 := h2
  have lt2 : ∀ x ∈ p2, x.block < W.heap.size := by obtain ⟨m, hm⟩ := k2; exact DataW.trod_lt m _ _ _ hm
  obtain ⟨x2, y2, rfl, b2⟩ := vopen_bal (hval 2 23 v2 rfl rfl) h2
  have k3 := h3
  have lt3 : ∀ x ∈ p3, x.block < W.heap.size := by obtain ⟨m, hm⟩ := k3; exact DataW.trod_lt m _ _ _ hm
  obtain ⟨kd3, cl3, rq3, ka3, kb3, va3, ol3, nn3, rfl, hd3, b3⟩ := copen_cmd (hval 3 25 v3 rfl rfl) h3
  have k4 := h4
  have lt4 : ∀ x ∈ p4, x.block < W.heap.size := by obtain ⟨m, hm⟩ := k4; exact DataW.trod_lt m _ _ _ hm
  obtain ⟨sq4, a4, n4, cap4, l4, rfl, hseg4, hcap4, b4⟩ := qopen_attr (hval 4 28 v4 rfl rfl) h4
  obtain ⟨a5, n5, cap5, rfl⟩ := okWide_slice Try.underlying29 (hval 5 29 v5 rfl rfl)
  have k5 := h5
  have lt5 : ∀ x ∈ p5, x.block < W.heap.size := by obtain ⟨m, hm⟩ := k5; exact DataW.trod_lt m _ _ _ hm
  obtain ⟨fuel5, hf5⟩ := h5
  obtain ⟨l5, hseg5, hcap5⟩ := qopen_votes hf5 (fun m hm => of_decide_eq_true (List.all_eq_true.1 hsz _ (DataW.weights_mem_each (j := 5) rfl rfl m hm)))
  obtain ⟨a6, n6, cap6, rfl⟩ := okWide_slice Try.underlying26 (hval 6 26 v6 rfl rfl)
  have k6 := h6
  have lt6 : ∀ x ∈ p6, x.block < W.heap.size := by obtain ⟨m, hm⟩ := k6; exact DataW.trod_lt m _ _ _ hm
  obtain ⟨fuel6, hf6⟩ := h6
  obtain ⟨l6, hseg6, hcap6, hdat6⟩ := vopen_ints hf6
  obtain ⟨a7, n7, cap7, rfl⟩ := okWide_slice Try.underlying26 (hval 7 26 v7 rfl rfl)
  have k7 := h7
  have lt7 : ∀ x ∈ p7, x.block < W.heap.size := by obtain ⟨m, hm⟩ := k7; exact DataW.trod_lt m _ _ _ hm
  obtain ⟨fuel7, hf7⟩ := h7
  obtain ⟨l7, hseg7, hcap7, hdat7⟩ := vopen_ints hf7
  have hreach6 : cap6 * 8 ≤ 140737488351232 := by
    rcases hdat6 with ⟨_, _, h⟩ | ⟨elems, spare, hd, he, hc⟩
    · omega
    · have hs := sized_slice hsz (j := 6) (t := 26) (e := 3) (elems := elems) (spare := spare) rfl (by rw [show d6 = _ from hd]; rfl) Try.underlying26
      rw [vbytes3] at hs
      simp only [reachBytes] at hs
      omega
  have hreach7 : cap7 * 8 ≤ 140737488351232 := by
    rcases hdat7 with ⟨_, _, h⟩ | ⟨elems, spare, hd, he, hc⟩
    · omega
    · have hs := sized_slice hsz (j := 7) (t := 26) (e := 3) (elems := elems) (spare := spare) rfl (by rw [show d7 = _ from hd]; rfl) Try.underlying26
      rw [vbytes3] at hs
      simp only [reachBytes] at hs
      omega
  clear hA0
  refine (walk y0 y1 x2 y2 ⟨kd3, cl3, rq3, ka3, kb3, va3, ol3, nn3⟩ sq4 a4 n4 cap4 l4 a5 n5 cap5 l5 a6 n6 cap6 l6 a7 n7 cap7 l7 W hseg4 hcap4 hseg5 hseg6 hcap6 hreach6 hseg7 hcap7 hreach7).mono fun e W' ⟨he, bel⟩ => ?_
  subst he
  exact ⟨_, rfl, _, _, _, [], _, [], hW', trodAll_mk1 (shut_bool Try.underlying4 _), (trodAll_cons_mk (shut_int Try.underlying3 w0) (trodAll_cons_mk (shut_int Try.underlying3 w1) (trodAll_cons_mk (Below.trod vlaid (by kernel_rfl) (of_decide_eq_true (by kernel_rfl)) k2 bel lt2) (trodAll_cons_mk (Below.trod vlaid (by kernel_rfl) (of_decide_eq_true (by kernel_rfl)) k3 bel lt3) (trodAll_cons_mk (Below.trod vlaid (by kernel_rfl) (of_decide_eq_true (by kernel_rfl)) k4 bel lt4) (trodAll_cons_mk (Below.trod vlaid (by kernel_rfl) (of_decide_eq_true (by kernel_rfl)) k5 bel lt5) (trodAll_cons_mk (Below.trod vlaid (by kernel_rfl) (of_decide_eq_true (by kernel_rfl)) k6 bel lt6) (trodAll_cons_mk (Below.trod vlaid (by kernel_rfl) (of_decide_eq_true (by kernel_rfl)) k7 bel lt7) trodAll_mk0)))))))), rfl, bel.frame _, fun h => by cases h⟩

set_option maxRecDepth 100000 in
theorem lifted (os : Os) (started : os.Started) (H : Type) (enc : TypeId × Value → H) :
    ReturnsInHanded {} Try.checked os 3 .any (Rows.quorumSlowSafeSpec.pre6 enc Try.prog Try.f3 Rows.quorumSlowSafeRow.domain false) (Rows.quorumSlowSafeSpec.post enc Try.prog Try.f3 false true false false) := by
  refine returnsInHanded_of_change_sized (C := Try.checked) vown started (by kernel_rfl) Try.func3
    (ChangeSpec.witness6 (enc := enc) (C := Try.checked) false ⟨#[], #[.int .i64 0, .int .i64 0, .agg #[.int .i64 0, .int .i64 0], .agg #[.int .i64 0, .int .i64 0, .int .i64 0, .string ⟨#[]⟩, .string ⟨#[]⟩, .string ⟨#[]⟩, .string ⟨#[]⟩, .int .i64 0], .agg #[.int .i64 0, .slice none 0 0], .slice none 0 0, .slice none 0 0, .slice none 0 0], []⟩ 8 (by kernel_rfl) (by kernel_rfl) (by kernel_rfl) (by kernel_rfl)) ?_
  intro W base args ds gs before hval hW _ hsz _
  exact contract H enc W base args ds gs before hval hW hsz

end quorumSlowSafe
theorem quorumSlowSafe_proved : Rows.QuorumSlowSafeSaid :=
  OpenClaim.holds_of_wide 3 Try.f3 rfl rfl rfl rfl rfl rfl rfl ⟨rfl, rfl, rfl, rfl, rfl⟩ rfl rfl rfl rfl rfl (by kernel_rfl) Try.func3 (by kernel_rfl)
    (of_decide_eq_true (by kernel_rfl)) (by unfold Func.isWrapper; first | (rw [if_pos (by decide +kernel)]; kernel_rfl) | (rw [if_neg (by decide +kernel)]; exact ⟨rfl, rfl⟩))
    (fun os started H enc _ => quorumSlowSafe.lifted os started H enc)
#print axioms quorumSlowSafe_proved
end Go.Proofs.Ytpbbbbmnboeffaa
