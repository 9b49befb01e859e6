/- Proved: for every n, row, command, own attributes, odd vote and pick QuorumFastSafe answers true: what the owner may have committed without Accept is what every F + 1 others plan to accept. No condition. -/
import Derived.Test.YtpbbbbmnboeffaaQFsF
import Derived.Test.YtpbbbbmnboeffaaQLw2
import Derived.Test.YtpbbbbmnboeffaaQArgs
namespace Go.Proofs.Ytpbbbbmnboeffaa
open Go.ChangeShapes Go.WideShapes Go.ChangeAt Go.RowKit Go.Wire1

theorem rep_nat {n x : Int} (hz : szQ n = true) (h : repQ n x = true) : ∃ N X : Nat, n = (N : Int) ∧ x = (X : Int) ∧ X < N := by
  unfold repQ at h
  simp only [Bool.and_eq_true, decide_eq_true_eq] at h
  have := sz_le hz
  exact ⟨n.toNat, x.toNat, by omega, by omega, by omega⟩
theorem lfast_int (n row : Int) (c : Cm) (seq : Int) (a : Option Addr) (k cap : Nat) (l : List Int) (odd : Vt) (pa : Option Addr) (P pc : Nat) (pick : List Int) (w : World) (hz : szQ n = true) (hr : repQ n row = true) (ho : repQ n odd.fr = true) (hne : odd.fr ≠ row) (hs : SegI w a k l) (hkc : k ≤ cap) (hsn : sndQ n seq l = true) (hov : Vok w odd)
    (hodd : odd.st = 0 ∨ (odd.st = 1 ∧ sndQ n odd.seq odd.deps = true)) (hp : SegI w pa P pick) (hP : P ≤ 1152921504606846976) :
    Calls Try.prog 8 #[.int .i64 n, .int .i64 row, .agg (ccs c).toArray, .agg #[.int .i64 seq, .slice a k cap], .agg (vcs odd).toArray, .slice pa P pc] w fun e w' => e = .returned (.bool true) ∧ Below w.heap.size w w' := by
  obtain ⟨N, X, rfl, rfl, h⟩ := rep_nat hz hr
  exact lfast_any N X c seq a k cap l odd pa P pc pick w hz h ho hne hs hkc hsn hov hodd hp hP
theorem built_voteF (fr : Int) : Try.prog.built 34 [(0, .int .i64 fr)] = some (vcs ⟨fr, 0, false, 0, 0, ⟨0, 0, 0, ⟨#[]⟩, ⟨#[]⟩, ⟨#[]⟩, ⟨#[]⟩, 0⟩, 0, none, 0, 0, []⟩).toArray := by kernel_rfl
theorem built_cmdK (k : Int) (s : ByteArray) : Try.prog.built 25 [(0, .int .i64 k), (3, .string s)] = some (ccs ⟨k, 0, 0, s, ⟨#[]⟩, ⟨#[]⟩, ⟨#[]⟩, 0⟩).toArray := by kernel_rfl
namespace quorumFastSafe
set_option maxHeartbeats 8000000 in
set_option maxRecDepth 100000 in
theorem walk (n row : Int) (c : Cm) (seq : Int) (a : Option Addr) (k cap : Nat) (l : List Int) (odd : Vt) (pa : Option Addr) (P pc : Nat) (pick : List Int) (w : World) (hs : SegI w a k l) (hkc : k ≤ cap) (hov : Vok w odd) (hp : SegI w pa P pick) (hpc : P ≤ pc) (hrc : pc * 8 ≤ 140737488351232) :
    Calls Try.prog 4 #[.int .i64 n, .int .i64 row, .agg (ccs c).toArray, .agg #[.int .i64 seq, .slice a k cap], .agg (vcs odd).toArray, .slice pa P pc] w fun e w' => e = .returned (.bool true) ∧ Below w.heap.size w w' := by
  have hP : P ≤ 1152921504606846976 := by omega
  clear hpc hrc
  obtain ⟨U, hU⟩ : ∃ U, U = ((w.alloc (.cells (ccs c).toArray 25)).alloc (.cells #[.int .i64 seq, .slice a k cap] 28)).alloc (.cells (vcs odd).toArray 34) := ⟨_, rfl⟩
  have BU : Hid (Below w.heap.size w U) := by rw [hU]; exact (((Below.refl _ w).alloc (Nat.le_refl _) _).alloc (by simp) _).alloc (by simp; omega) _
  have Q1 : Hid (Blk U w.heap.size (ccs c)) := by
    rw [hU]; exact (blk_new w 25 (ccs c)).on (((Below.refl _ _).alloc (Nat.le_refl _) _).alloc (by simp) _)
  have Q2 : Hid (Blk U (w.heap.size + 1) [.int .i64 seq, .slice a k cap]) := by
    have := blk_new (w.alloc (.cells (ccs c).toArray 25)) 28 [.int .i64 seq, .slice a k cap]
    rw [World.size_alloc] at this
    rw [hU]; exact this.on ((Below.refl _ _).alloc (Nat.le_refl _) _)
  have Q3 : Hid (Blk U (w.heap.size + 1 + 1) (vcs odd)) := by
    have := blk_new ((w.alloc (.cells (ccs c).toArray 25)).alloc (.cells #[.int .i64 seq, .slice a k cap] 28)) 34 (vcs odd)
    rw [World.size_alloc, World.size_alloc] at this
    rw [hU]; exact this
  have HS := hide hs
  have HKC := hide hkc
  have HP := hide hp
  have HOV := hide hov
  clear hs hkc hov hp
  have hUs := Q3.out.lt
  obtain ⟨X1, hX1⟩ : ∃ X1, X1 = U.alloc (.cells #[.int .i64 0, .int .i64 1, .int .i64 0, .int .i64 0, .int .i64 0] 3) := ⟨_, rfl⟩
  have BX1 : Hid (Below U.heap.size U X1) := by rw [hX1]; exact (Below.refl _ _).alloc (Nat.le_refl _) _
  have SX1 : Hid (SegI X1 (some ⟨U.heap.size, 0, none⟩) 5 [0, 1, 0, 0, 0]) := by
    rw [hX1]
    exact segI_lit [0, 1, 0, 0, 0] (fit_of (fun x hx => by simp at hx; omega)) (by unfold maxLen; decide) rfl rfl rfl
  have PX1 : SegI X1 none 0 [] := ⟨rfl, by unfold maxLen; omega, fun h => by omega, fun j => by simp⟩
  have HC1 := lfast_any 5 0 ⟨1, 0, 0, ⟨#[107]⟩, ⟨#[]⟩, ⟨#[]⟩, ⟨#[]⟩, 0⟩ 2 (some ⟨U.heap.size, 0, none⟩) 5 5 [0, 1, 0, 0, 0] ⟨3, 0, false, 0, 0, ⟨0, 0, 0, ⟨#[]⟩, ⟨#[]⟩, ⟨#[]⟩, ⟨#[]⟩, 0⟩, 0, none, 0, 0, []⟩ none 0 0 [] X1 rfl (by decide) rfl (by decide) SX1.out (Nat.le_refl _) (by kernel_rfl) ⟨⟨rfl, Nat.zero_le _, fun h => absurd h (Nat.lt_irrefl 0), fun j => by simp⟩, Nat.le_refl _, by decide⟩ (.inl rfl) PX1 (by omega)
  have HC : Hid (Calls Try.prog 8 #[.int .i64 5, .int .i64 0, .agg (ccs ⟨1, 0, 0, ⟨#[107]⟩, ⟨#[]⟩, ⟨#[]⟩, ⟨#[]⟩, 0⟩).toArray, .agg #[.int .i64 2, .slice (some ⟨U.heap.size, 0, none⟩) 5 5], .agg (vcs ⟨3, 0, false, 0, 0, ⟨0, 0, 0, ⟨#[]⟩, ⟨#[]⟩, ⟨#[]⟩, ⟨#[]⟩, 0⟩, 0, none, 0, 0, []⟩).toArray, .slice none 0 0] X1 fun e w' => e = .returned (.bool true) ∧ Below X1.heap.size X1 w') := HC1
  clear HC1 PX1 SX1
  go_enter Try.func4, Try.ntmps4
  go_upto_region 1 with fail
  rw [← hU]
  have HX1 : Hid (U.alloc (.cells #[.int .i64 0, .int .i64 1, .int .i64 0, .int .i64 0, .int .i64 0] 3) = X1) := hX1.symm
  clear hU hX1
  go_wp2_with (first | (refine wpList_buildQ rfl 34 _ rfl [(0, .int .i64 3)] rfl _ (built_voteF 3) ?_) | (refine wpList_buildQ rfl 25 _ rfl [(0, .int .i64 1), (3, .string ⟨#[107]⟩)] rfl _ (built_cmdK 1 ⟨#[107]⟩) ?_))
  rw [HX1.out]
  refine HC.out.mono ?_
  rintro e w1 ⟨rfl, hb1⟩
  have BV : Hid (Below U.heap.size U w1) := BX1.out.trans (hb1.mono BX1.out.size)
  have B1 : Hid (Below w.heap.size w w1) := BU.out.trans (BV.out.mono BU.out.size)
  have Q1b : Hid (Blk w1 w.heap.size (ccs c)) := Q1.out.on BV.out
  have Q2b : Hid (Blk w1 (w.heap.size + 1) [.int .i64 seq, .slice a k cap]) := Q2.out.on BV.out
  have Q3b : Hid (Blk w1 (w.heap.size + 1 + 1) (vcs odd)) := Q3.out.on BV.out
  have hw1 : w.heap.size + 1 + 1 < w1.heap.size := Q3b.out.lt
  clear hb1 HC HX1 BX1 BU Q1 Q2 Q3 BV
  clear hUs
  go_upto_region 4 with fail
  go_wp2_with fail
  refine (decides_any _ _ _).mono ?_
  rintro e w2 ⟨rfl, rfl⟩
  obtain ⟨dd, hdd⟩ : ∃ b, (szQ n && repQ n row) = b := ⟨_, rfl⟩
  rw [hdd]
  have HDD := hide hdd
  clear hdd
  have y20 : w1.cell? ⟨(w.heap.size + 1), 0, none⟩ = some (.int .i64 seq) := Q2b.out.cell 0 _ rfl
  have y21 : w1.cell? ⟨(w.heap.size + 1), 1, none⟩ = some (.slice a k cap) := Q2b.out.cell 1 _ rfl
  have HS1 : Hid (SegI w1 a k l) := HS.out.below B1.out (Nat.le_refl _)
  go_wp2_with fail
  refine (sound_any _ _ _ _ _ _ _ HS1.out).mono ?_
  rintro e w2 ⟨rfl, rfl⟩
  obtain ⟨sn, hsn⟩ : ∃ b, sndB n seq l = b := ⟨_, rfl⟩
  rw [hsn]
  have HSB := hide hsn
  clear hsn y20 y21
  have z0 : w1.cell? ⟨(w.heap.size + 1 + 1), 0, none⟩ = some (.int .i64 odd.fr) := Q3b.out.cell 0 _ rfl
  have z1 : w1.cell? ⟨(w.heap.size + 1 + 1), 1, none⟩ = some (.int .i64 odd.st) := Q3b.out.cell 1 _ rfl
  have z13 : w1.cell? ⟨(w.heap.size + 1 + 1), 13, none⟩ = some (.int .i64 odd.seq) := Q3b.out.cell 13 _ rfl
  have z14 : w1.cell? ⟨(w.heap.size + 1 + 1), 14, none⟩ = some (.slice odd.da odd.dn odd.dc) := Q3b.out.cell 14 _ rfl
  cases dd with
  | false =>
    go_wp2
    go_ret
    exact ⟨rfl, B1.out⟩
  | true =>
    have HD : Hid (szQ n = true ∧ repQ n row = true) := by have := HDD.out; rwa [Bool.and_eq_true] at this
    cases sn with
    | false =>
      go_wp2
      go_ret
      exact ⟨rfl, B1.out⟩
    | true =>
      have HSN : Hid (sndQ n seq l = true) := by show _ = _; rw [← sndB_sz HD.out.1]; exact HSB.out
      by_cases h1 : odd.fr < 0
      · go_wp2
        go_ret
        exact ⟨rfl, B1.out⟩
      · by_cases h2 : n ≤ odd.fr
        · go_wp2
          go_ret
          exact ⟨rfl, B1.out⟩
        · by_cases h3 : odd.fr = row
          · have b3 : (odd.fr == row) = true := beq_iff_eq.2 h3
            clear h3
            go_wp2
            go_ret
            exact ⟨rfl, B1.out⟩
          · have b3 : (odd.fr == row) = false := beq_eq_false_iff_ne.2 h3
            have HNE := hide h3
            have HO : Hid (repQ n odd.fr = true) := by show _ = _; unfold repQ; rw [decide_eq_true (by omega), decide_eq_true (by omega)]; rfl
            clear h3
            have HDS : Hid (SegI w1 odd.da odd.dn odd.deps) := (HOV.out.below B1.out (Nat.le_refl _)).seg
            go_wp2_with fail
            refine (sound_any _ _ _ _ _ _ _ HDS.out).mono ?_
            rintro e w2 ⟨rfl, rfl⟩
            obtain ⟨so, hso⟩ : ∃ b, sndB n odd.seq odd.deps = b := ⟨_, rfl⟩
            rw [hso]
            cases so with
            | false =>
              clear hso
              obtain ⟨W9, hW9⟩ : ∃ W9, W9 = w1.setCell ⟨(w.heap.size + 1 + 1), 1, none⟩ (.int .i64 0) := ⟨_, rfl⟩
              have R3 : Hid (Blk W9 (w.heap.size + 1 + 1) (vcs { odd with st := 0 })) := by rw [hW9]; exact Q3b.out.setAt 1 _
              have BW : Hid (Below (w.heap.size + 1 + 1) w1 W9) := by rw [hW9]; exact below_store (Below.refl _ _) (Nat.le_refl _) _
              have B9 : Hid (Below w.heap.size w W9) := by rw [hW9]; exact below_store B1.out (by omega) _
              have R1 : Hid (Blk W9 w.heap.size (ccs c)) := Q1b.out.below BW.out (by omega)
              have R2 : Hid (Blk W9 (w.heap.size + 1) [.int .i64 seq, .slice a k cap]) := Q2b.out.below BW.out (by omega)
              have S9 : Hid (SegI W9 a k l) := by rw [hW9]; exact HS.out.below (below_store B1.out (by omega) _) (Nat.le_refl _)
              have P9 : Hid (SegI W9 pa P pick) := by rw [hW9]; exact HP.out.below (below_store B1.out (by omega) _) (Nat.le_refl _)
              have V9 : Hid (Vok W9 odd) := by rw [hW9]; exact HOV.out.below (below_store B1.out (by omega) _) (Nat.le_refl _)
              have T1 := Q3b.out.thaw 1
              have HW9 := hide hW9
              clear hW9
              go_upto_region 11 with fail
              rw [← HW9.out]
              have HC2 : Hid (Calls Try.prog 8 #[.int .i64 n, .int .i64 row, .agg (ccs c).toArray, .agg #[.int .i64 seq, .slice a k cap], .agg (vcs { odd with st := 0 }).toArray, .slice pa P pc] W9 fun e w' => e = .returned (.bool true) ∧ Below W9.heap.size W9 w') :=
                lfast_int n row c seq a k cap l { odd with st := 0 } pa P pc pick W9 HD.out.1 HD.out.2 HO.out HNE.out S9.out HKC.out HSN.out ⟨V9.out.seg, V9.out.cap, V9.out.bfr⟩ (.inl rfl) P9.out hP
              go_wp2_with (first | (refine wpList_load_mid rfl 25 _ rfl w.heap.size 0 rfl (ccs c) _ R1.out.range Try.underlying25 rfl (by kernel_rfl) ?_) | (refine wpList_load_mid rfl 28 _ rfl (w.heap.size + 1) 0 rfl [.int .i64 seq, .slice a k cap] _ R2.out.range Try.underlying28 rfl (by kernel_rfl) ?_) | (refine wpList_load_mid rfl 34 _ rfl (w.heap.size + 1 + 1) 0 rfl (vcs { odd with st := 0 }) _ R3.out.range Try.underlying34 rfl (by kernel_rfl) ?_))
              refine HC2.out.mono ?_
              rintro e w5 ⟨rfl, hb5⟩
              have HB5 : Hid (Below w.heap.size w w5) := B9.out.trans (hb5.mono B9.out.size)
              clear hb5
              go_wp2
              go_ret
              exact ⟨rfl, HB5.out⟩
            | true =>
              have HSO : Hid (sndQ n odd.seq odd.deps = true) := by show _ = _; rw [← sndB_sz HD.out.1]; exact hso
              clear hso
              by_cases hst : odd.st = 1
              · have bst : (odd.st != 1) = false := by simp [hst]
                obtain ⟨W9, hW9⟩ : ∃ W9, W9 = w1 := ⟨_, rfl⟩
                subst hW9
                have R1 := Q1b
                have R2 := Q2b
                have R3 := Q3b
                have B9 := B1
                have S9 : Hid (SegI W9 a k l) := HS.out.below B1.out (Nat.le_refl _)
                have P9 : Hid (SegI W9 pa P pick) := HP.out.below B1.out (Nat.le_refl _)
                have V9 : Hid (Vok W9 odd) := HOV.out.below B1.out (Nat.le_refl _)
                have HC2 : Hid (Calls Try.prog 8 #[.int .i64 n, .int .i64 row, .agg (ccs c).toArray, .agg #[.int .i64 seq, .slice a k cap], .agg (vcs odd).toArray, .slice pa P pc] W9 fun e w' => e = .returned (.bool true) ∧ Below W9.heap.size W9 w') :=
                  lfast_int n row c seq a k cap l odd pa P pc pick W9 HD.out.1 HD.out.2 HO.out HNE.out S9.out HKC.out HSN.out ⟨V9.out.seg, V9.out.cap, V9.out.bfr⟩ (.inr ⟨hst, HSO.out⟩) P9.out hP
                go_wp2_with (first | (refine wpList_load_mid rfl 25 _ rfl w.heap.size 0 rfl (ccs c) _ R1.out.range Try.underlying25 rfl (by kernel_rfl) ?_) | (refine wpList_load_mid rfl 28 _ rfl (w.heap.size + 1) 0 rfl [.int .i64 seq, .slice a k cap] _ R2.out.range Try.underlying28 rfl (by kernel_rfl) ?_) | (refine wpList_load_mid rfl 34 _ rfl (w.heap.size + 1 + 1) 0 rfl (vcs odd) _ R3.out.range Try.underlying34 rfl (by kernel_rfl) ?_))
                refine HC2.out.mono ?_
                rintro e w5 ⟨rfl, hb5⟩
                have HB5 : Hid (Below w.heap.size w w5) := B9.out.trans (hb5.mono B9.out.size)
                clear hb5
                go_wp2
                go_ret
                exact ⟨rfl, HB5.out⟩
              · have bst : (odd.st != 1) = true := by simp [hst]
                clear hst
                obtain ⟨W9, hW9⟩ : ∃ W9, W9 = w1.setCell ⟨(w.heap.size + 1 + 1), 1, none⟩ (.int .i64 0) := ⟨_, rfl⟩
                have R3 : Hid (Blk W9 (w.heap.size + 1 + 1) (vcs { odd with st := 0 })) := by rw [hW9]; exact Q3b.out.setAt 1 _
                have BW : Hid (Below (w.heap.size + 1 + 1) w1 W9) := by rw [hW9]; exact below_store (Below.refl _ _) (Nat.le_refl _) _
                have B9 : Hid (Below w.heap.size w W9) := by rw [hW9]; exact below_store B1.out (by omega) _
                have R1 : Hid (Blk W9 w.heap.size (ccs c)) := Q1b.out.below BW.out (by omega)
                have R2 : Hid (Blk W9 (w.heap.size + 1) [.int .i64 seq, .slice a k cap]) := Q2b.out.below BW.out (by omega)
                have S9 : Hid (SegI W9 a k l) := by rw [hW9]; exact HS.out.below (below_store B1.out (by omega) _) (Nat.le_refl _)
                have P9 : Hid (SegI W9 pa P pick) := by rw [hW9]; exact HP.out.below (below_store B1.out (by omega) _) (Nat.le_refl _)
                have V9 : Hid (Vok W9 odd) := by rw [hW9]; exact HOV.out.below (below_store B1.out (by omega) _) (Nat.le_refl _)
                have T1 := Q3b.out.thaw 1
                have HW9 := hide hW9
                clear hW9
                go_upto_region 11 with fail
                rw [← HW9.out]
                have HC2 : Hid (Calls Try.prog 8 #[.int .i64 n, .int .i64 row, .agg (ccs c).toArray, .agg #[.int .i64 seq, .slice a k cap], .agg (vcs { odd with st := 0 }).toArray, .slice pa P pc] W9 fun e w' => e = .returned (.bool true) ∧ Below W9.heap.size W9 w') :=
                  lfast_int n row c seq a k cap l { odd with st := 0 } pa P pc pick W9 HD.out.1 HD.out.2 HO.out HNE.out S9.out HKC.out HSN.out ⟨V9.out.seg, V9.out.cap, V9.out.bfr⟩ (.inl rfl) P9.out hP
                go_wp2_with (first | (refine wpList_load_mid rfl 25 _ rfl w.heap.size 0 rfl (ccs c) _ R1.out.range Try.underlying25 rfl (by kernel_rfl) ?_) | (refine wpList_load_mid rfl 28 _ rfl (w.heap.size + 1) 0 rfl [.int .i64 seq, .slice a k cap] _ R2.out.range Try.underlying28 rfl (by kernel_rfl) ?_) | (refine wpList_load_mid rfl 34 _ rfl (w.heap.size + 1 + 1) 0 rfl (vcs { odd with st := 0 }) _ R3.out.range Try.underlying34 rfl (by kernel_rfl) ?_))
                refine HC2.out.mono ?_
                rintro e w5 ⟨rfl, hb5⟩
                have HB5 : Hid (Below w.heap.size w w5) := B9.out.trans (hb5.mono B9.out.size)
                clear hb5
                go_wp2
                go_ret
                exact ⟨rfl, HB5.out⟩

set_option maxRecDepth 100000 in
/-- For every argument and every world. -/
theorem contract (H : Type) (enc : TypeId × Value → H) (W : World) (base : Nat) (args : Array Value) (ds gs : List (DataW H)) (before : List MemPlace)
    (hval : ∀ (j : Nat) t v, Try.f4.params[j]? = some t → args[j]? = some v → Value.okWide Try.prog W .any base t v)
    (hW : DataW.Whole enc Try.prog Try.f4.params.toList Rows.quorumFastSafeSpec.vars false W args.toList ds gs before)
    (hsz : (DataW.weightsEach Try.prog (Try.f4.params.toList ++ Rows.quorumFastSafeSpec.plain.varTypes Try.prog) (ds ++ gs)).all (· ≤ reachBytes) = true) :
    Calls Try.prog 4 args W fun e W' => ∃ v, e = .returned v ∧ Rows.quorumFastSafeSpec.post enc Try.prog Try.f4 false true false false W args v W' := by
  have hW' := hW
  obtain ⟨p, q, hA0, hV, rfl, hfz, hnd⟩ := hW
  have hA : DataW.TrodAll enc Try.prog W 0 (fun _ => true) true Try.f4.params.toList args.toList ds p := hA0
  rw [Try.params4] at hA hval hsz
  obtain ⟨v0, vs0, d0, ds0, p0, q0, hargs, rfl, rfl, h0, tr0⟩ := trodAll_cons hA
  obtain ⟨v1, vs1, d1, ds1, p1, q1, rfl, rfl, rfl, h1, tr1⟩ := trodAll_cons tr0
  obtain ⟨v2, vs2, d2, ds2, p2, q2, rfl, rfl, rfl, h2, tr2⟩ := trodAll_cons tr1
  obtain ⟨v3, vs3, d3, ds3, p3, q3, rfl, rfl, rfl, h3, tr3⟩ := trodAll_cons tr2
  obtain ⟨v4, vs4, d4, ds4, p4, q4, rfl, rfl, rfl, h4, tr4⟩ := trodAll_cons tr3
  obtain ⟨v5, vs5, d5, ds5, p5, q5, rfl, rfl, rfl, h5, tr5⟩ := trodAll_cons tr4
  obtain ⟨rfl, rfl, rfl⟩ := trodAll_nil tr5
  obtain rfl : args = #[v0, v1, v2, v3, v4, v5] := by cases args; simp_all
  obtain ⟨rfl, rfl⟩ := trodVars_none hV
  obtain ⟨y0, rfl, rfl, rfl, w0⟩ := open_int Try.underlying3 (hval 0 3 v0 rfl rfl) h0
  have b0 := bounds_i64 w0
  obtain ⟨y1, rfl, rfl, rfl, w1⟩ := open_int Try.underlying3 (hval 1 3 v1 rfl rfl) h1
  have b1 := bounds_i64 w1
  have k2 := h2
  have lt2 : ∀ x ∈ p2, x.block < W.heap.size := by obtain ⟨m, hm⟩ := k2; exact DataW.trod_lt m _ _ _ hm
  obtain ⟨kd2, cl2, rq2, ka2, kb2, va2, ol2, nn2, rfl, hd2, b2⟩ := copen_cmd (hval 2 25 v2 rfl rfl) h2
  have k3 := h3
  have lt3 : ∀ x ∈ p3, x.block < W.heap.size := by obtain ⟨m, hm⟩ := k3; exact DataW.trod_lt m _ _ _ hm
  obtain ⟨sq3, a3, n3, cap3, l3, rfl, hseg3, hcap3, b3⟩ := qopen_attr (hval 3 28 v3 rfl rfl) h3
  have k4 := h4
  have lt4 : ∀ x ∈ p4, x.block < W.heap.size := by obtain ⟨m, hm⟩ := k4; exact DataW.trod_lt m _ _ _ hm
  obtain ⟨vt4, rfl, hok4, hin4⟩ := qopen_vote (hval 4 34 v4 rfl rfl) h4
  obtain ⟨a5, n5, cap5, rfl⟩ := okWide_slice Try.underlying26 (hval 5 26 v5 rfl rfl)
  have k5 := h5
  have lt5 : ∀ x ∈ p5, x.block < W.heap.size := by obtain ⟨m, hm⟩ := k5; exact DataW.trod_lt m _ _ _ hm
  obtain ⟨fuel5, hf5⟩ := h5
  obtain ⟨l5, hseg5, hcap5, hdat5⟩ := vopen_ints hf5
  have hreach5 : cap5 * 8 ≤ 140737488351232 := by
    rcases hdat5 with ⟨_, _, h⟩ | ⟨elems, spare, hd, he, hc⟩
    · omega
    · have hs := sized_slice hsz (j := 5) (t := 26) (e := 3) (elems := elems) (spare := spare) rfl (by rw [show d5 = _ from hd]; rfl) Try.underlying26
      rw [vbytes3] at hs
      simp only [reachBytes] at hs
      omega
  clear hA0
  refine (walk y0 y1 ⟨kd2, cl2, rq2, ka2, kb2, va2, ol2, nn2⟩ sq3 a3 n3 cap3 l3 vt4 a5 n5 cap5 l5 W hseg3 hcap3 hok4 hseg5 hcap5 hreach5).mono fun e W' ⟨he, bel⟩ => ?_
  subst he
  exact ⟨_, rfl, _, _, _, [], _, [], hW', trodAll_mk1 (shut_bool Try.underlying4 _), (trodAll_cons_mk (shut_int Try.underlying3 w0) (trodAll_cons_mk (shut_int Try.underlying3 w1) (trodAll_cons_mk (Below.trod vlaid (by kernel_rfl) (of_decide_eq_true (by kernel_rfl)) k2 bel lt2) (trodAll_cons_mk (Below.trod vlaid (by kernel_rfl) (of_decide_eq_true (by kernel_rfl)) k3 bel lt3) (trodAll_cons_mk (Below.trod vlaid (by kernel_rfl) (of_decide_eq_true (by kernel_rfl)) k4 bel lt4) (trodAll_cons_mk (Below.trod vlaid (by kernel_rfl) (of_decide_eq_true (by kernel_rfl)) k5 bel lt5) trodAll_mk0)))))), rfl, bel.frame _, fun h => by cases h⟩

set_option maxRecDepth 100000 in
theorem lifted (os : Os) (started : os.Started) (H : Type) (enc : TypeId × Value → H) :
    ReturnsInHanded {} Try.checked os 4 .any (Rows.quorumFastSafeSpec.pre6 enc Try.prog Try.f4 Rows.quorumFastSafeRow.domain false) (Rows.quorumFastSafeSpec.post enc Try.prog Try.f4 false true false false) := by
  refine returnsInHanded_of_change_sized (C := Try.checked) vown started (by kernel_rfl) Try.func4
    (ChangeSpec.witness6 (enc := enc) (C := Try.checked) false ⟨#[], #[.int .i64 0, .int .i64 0, .agg #[.int .i64 0, .int .i64 0, .int .i64 0, .string ⟨#[]⟩, .string ⟨#[]⟩, .string ⟨#[]⟩, .string ⟨#[]⟩, .int .i64 0], .agg #[.int .i64 0, .slice none 0 0], .agg #[.int .i64 0, .int .i64 0, .bool false, .int .i64 0, .int .i64 0, .int .i64 0, .int .i64 0, .int .i64 0, .string ⟨#[]⟩, .string ⟨#[]⟩, .string ⟨#[]⟩, .string ⟨#[]⟩, .int .i64 0, .int .i64 0, .slice none 0 0], .slice none 0 0], []⟩ 8 (by kernel_rfl) (by kernel_rfl) (by kernel_rfl) (by kernel_rfl)) ?_
  intro W base args ds gs before hval hW _ hsz _
  exact contract H enc W base args ds gs before hval hW hsz

end quorumFastSafe
theorem quorumFastSafe_proved : Rows.QuorumFastSafeSaid :=
  OpenClaim.holds_of_wide 4 Try.f4 rfl rfl rfl rfl rfl rfl rfl ⟨rfl, rfl, rfl, rfl, rfl⟩ rfl rfl rfl rfl rfl (by kernel_rfl) Try.func4 (by kernel_rfl)
    (of_decide_eq_true (by kernel_rfl)) (by unfold Func.isWrapper; first | (rw [if_pos (by decide +kernel)]; kernel_rfl) | (rw [if_neg (by decide +kernel)]; exact ⟨rfl, rfl⟩))
    (fun os started H enc _ => quorumFastSafe.lifted os started H enc)
#print axioms quorumFastSafe_proved
end Go.Proofs.Ytpbbbbmnboeffaa
