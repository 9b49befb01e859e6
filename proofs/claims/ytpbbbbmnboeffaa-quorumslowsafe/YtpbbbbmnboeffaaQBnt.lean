/- The contracts of the statements' own bent and of what it calls. -/
import Derived.Test.YtpbbbbmnboeffaaQSsM
import Derived.Test.YtpbbbbmnboeffaaQLw2
import Derived.Test.YtpbbbbmnboeffaaQAcp
namespace Go.Proofs.Ytpbbbbmnboeffaa
open Go.RowKit Go.Wire1

set_option maxHeartbeats 1000000 in
set_option maxRecDepth 100000 in
theorem qbelow_any (x y x' y' : Int) (w : World) : Calls Try.prog 11 #[.agg #[.int .i64 x, .int .i64 y], .agg #[.int .i64 x', .int .i64 y']] w fun e w' => e = .returned (.bool (blB x y x' y')) ∧ Below w.heap.size w w' := by
  by_cases h : x = x'
  · have HQ : Hid (blB x y x' y' = decide (y < y')) := by show _ = _; unfold blB; rw [if_pos h]
    have b1 : (x != x') = false := by simp [h]
    clear h
    go_enter Try.func11, Try.ntmps11
    go_wp2
    go_ret
    exact ⟨by rw [HQ.out]; rfl, ((Below.refl _ w).alloc (Nat.le_refl _) _).alloc (by simp) _⟩
  · have HQ : Hid (blB x y x' y' = decide (x < x')) := by show _ = _; unfold blB; rw [if_neg h]
    have b1 : (x != x') = true := by simp [h]
    clear h
    go_enter Try.func11, Try.ntmps11
    go_wp2
    go_ret
    exact ⟨by rw [HQ.out]; rfl, ((Below.refl _ w).alloc (Nat.le_refl _) _).alloc (by simp) _⟩
set_option maxHeartbeats 1000000 in
set_option maxRecDepth 100000 in
theorem qsameBal_any (x y x' y' : Int) (w : World) : Calls Try.prog 15 #[.agg #[.int .i64 x, .int .i64 y], .agg #[.int .i64 x', .int .i64 y']] w fun e w' => e = .returned (.bool (atQ x y x' y')) ∧ Below w.heap.size w w' := by
  by_cases h : x = x'
  · have HQ : Hid (atQ x y x' y' = (y == y')) := by show _ = _; unfold atQ; rw [beq_iff_eq.2 h]; rfl
    have b1 : (x == x') = true := beq_iff_eq.2 h
    clear h
    go_enter Try.func15, Try.ntmps15
    go_wp2
    go_ret
    exact ⟨by rw [HQ.out]; rfl, ((Below.refl _ w).alloc (Nat.le_refl _) _).alloc (by simp) _⟩
  · have HQ : Hid (atQ x y x' y' = false) := by show _ = _; unfold atQ; rw [beq_eq_false_iff_ne.2 h]; rfl
    have b1 : (x == x') = false := beq_eq_false_iff_ne.2 h
    clear h
    go_enter Try.func15, Try.ntmps15
    go_wp2
    go_ret
    exact ⟨by rw [HQ.out]; rfl, ((Below.refl _ w).alloc (Nat.le_refl _) _).alloc (by simp) _⟩
theorem built_voteF (fr : Int) : Try.prog.built 34 [(0, .int .i64 fr)] = some (vcs ⟨fr, 0, false, 0, 0, cmZ, 0, none, 0, 0, []⟩).toArray := by kernel_rfl
theorem built_voteA (fr st : Int) (rd who : Int) (c : Cm) (seq : Int) (a : Option Addr) (n cap : Nat) (l : List Int) : Try.prog.built 34 [(0, .int .i64 fr), (1, .int .i64 st), (3, .agg #[.int .i64 rd, .int .i64 who]), (4, .agg (ccs c).toArray), (5, .int .i64 seq), (6, .slice a n cap)] = some (vcs ⟨fr, st, false, rd, who, c, seq, a, n, cap, l⟩).toArray := by kernel_rfl
theorem vcs_bal {w : World} {b : Nat} {v : Vt} (h : Blk w b (vcs v)) : w.rangeAt b 3 [.int .i64 v.rd, .int .i64 v.who] := fun j x hj => by
  match j, hj with
  | 0, hj => exact h.cell 3 x hj
  | 1, hj => exact h.cell 4 x hj
set_option maxHeartbeats 4000000 in
set_option maxRecDepth 100000 in
theorem bent_any (n : Int) (i : Nat) (v : Vt) (rd who : Int) (c : Cm) (seq : Int) (a : Option Addr) (k cap : Nat) (l : List Int) (w : World) (hv : Vok w v) :
    Calls Try.prog 9 #[.int .i64 n, .int .i64 (i : Int), .agg (vcs v).toArray, .agg #[.int .i64 rd, .int .i64 who], .agg (ccs c).toArray, .agg #[.int .i64 seq, .slice a k cap]] w fun e w' => e = .returned (.agg (vcs (bentQ n i v rd who c seq a k cap l)).toArray) ∧ Below w.heap.size w w' := by
  obtain ⟨U, hU⟩ : ∃ U, U = (((((w.alloc (.cells (vcs v).toArray 34)).alloc (.cells #[.int .i64 rd, .int .i64 who] 23)).alloc (.cells (ccs c).toArray 25)).alloc (.cells #[.int .i64 seq, .slice a k cap] 28)).alloc (.cells #[.int .i64 0, .int .i64 0, .bool false, .int .i64 0, .int .i64 0, .int .i64 0, .int .i64 0, .int .i64 0, .string ⟨#[]⟩, .string ⟨#[]⟩, .string ⟨#[]⟩, .string ⟨#[]⟩, .int .i64 0, .int .i64 0, .slice none 0 0] 34)) := ⟨_, rfl⟩
  have BU : Hid (Below w.heap.size w U) := by rw [hU]; exact (((((Below.refl _ w).alloc (Nat.le_refl _) _).alloc (by simp) _).alloc (by simp; omega) _).alloc (by simp; omega) _).alloc (by simp; omega) _
  have Q1 : Hid (Blk U w.heap.size (vcs v)) := by
    rw [hU]; exact (blk_new w 34 (vcs v)).on (((((Below.refl _ _).alloc (Nat.le_refl _) _).alloc (by simp) _).alloc (by simp) _).alloc (by simp) _)
  have Q2 : Hid (Blk U (w.heap.size + 1) [.int .i64 rd, .int .i64 who]) := by
    have := blk_new (w.alloc (.cells (vcs v).toArray 34)) 23 [.int .i64 rd, .int .i64 who]
    rw [World.size_alloc] at this
    rw [hU]; exact this.on ((((Below.refl _ _).alloc (Nat.le_refl _) _).alloc (by simp) _).alloc (by simp) _)
  have Q3 : Hid (Blk U (w.heap.size + 1 + 1) (ccs c)) := by
    have := blk_new ((w.alloc (.cells (vcs v).toArray 34)).alloc (.cells #[.int .i64 rd, .int .i64 who] 23)) 25 (ccs c)
    rw [World.size_alloc, World.size_alloc] at this
    rw [hU]; exact this.on (((Below.refl _ _).alloc (Nat.le_refl _) _).alloc (by simp) _)
  have Q4 : Hid (Blk U (w.heap.size + 1 + 1 + 1) [.int .i64 seq, .slice a k cap]) := by
    have := blk_new (((w.alloc (.cells (vcs v).toArray 34)).alloc (.cells #[.int .i64 rd, .int .i64 who] 23)).alloc (.cells (ccs c).toArray 25)) 28 [.int .i64 seq, .slice a k cap]
    rw [World.size_alloc, World.size_alloc, World.size_alloc] at this
    rw [hU]; exact this.on ((Below.refl _ _).alloc (Nat.le_refl _) _)
  have Q5 : Hid (Blk U (w.heap.size + 1 + 1 + 1 + 1) zv) := by
    have := blk_new ((((w.alloc (.cells (vcs v).toArray 34)).alloc (.cells #[.int .i64 rd, .int .i64 who] 23)).alloc (.cells (ccs c).toArray 25)).alloc (.cells #[.int .i64 seq, .slice a k cap] 28)) 34 zv
    rw [World.size_alloc, World.size_alloc, World.size_alloc, World.size_alloc] at this
    rw [hU]; exact this
  have HV := hide (hv.below BU.out (Nat.le_refl _)).seg
  clear hv
  have x1 : U.cell? ⟨w.heap.size, 1, none⟩ = some (.int .i64 v.st) := Q1.out.cell 1 _ rfl
  have x13 : U.cell? ⟨w.heap.size, 13, none⟩ = some (.int .i64 v.seq) := Q1.out.cell 13 _ rfl
  have x14 : U.cell? ⟨w.heap.size, 14, none⟩ = some (.slice v.da v.dn v.dc) := Q1.out.cell 14 _ rfl
  have t0 := Q1.out.thaw 0
  have x0 : U.cell? ⟨w.heap.size, 0, none⟩ = some (.int .i64 v.fr) := Q1.out.cell 0 _ rfl
  go_enter Try.func9, Try.ntmps9
  go_upto_region 1 with fail
  rw [← hU]
  clear hU
  go_wp2_with fail
  refine (sound_any _ _ _ _ _ _ _ HV.out).mono ?_
  rintro e w1 ⟨rfl, rfl⟩
  obtain ⟨so, hso⟩ : ∃ b, sndB n v.seq v.deps = b := ⟨_, rfl⟩
  rw [hso]
  have HSB := hide hso
  clear hso x13 x14
  have Q5a := Q5
  have BA := BU
  generalize hgw : U = w1 at *
  cases so with
  | false =>
    have HQ : Hid (bentQ n i v rd who c seq a k cap l = nV i) := by show _ = _; unfold bentQ; rw [if_neg (fun h => by have h1 := h.1; rw [HSB.out] at h1; cases h1)]
    obtain ⟨Z, hZ⟩ : ∃ Z, Z = w1.setCells (w.heap.size + 1 + 1 + 1 + 1) 0 (vcs (nV i)) := ⟨_, rfl⟩
    have HZ : Hid (Blk Z (w.heap.size + 1 + 1 + 1 + 1) (vcs (nV i))) := by rw [hZ]; exact blk_cells Q5a.out rfl
    have BZ : Hid (Below w.heap.size w Z) := by rw [hZ]; exact below_cells (by omega) _ _ _ BA.out
    have TZ := hide Q5a.out.there
    have HZ2 := hide hZ
    clear hZ
    go_wp2_with (first | (refine wpList_buildQ rfl 34 _ rfl [(0, .int .i64 (i : Int))] rfl _ (built_voteF (i : Int)) ?_) | (refine wpList_store_mid rfl 34 _ _ rfl (w.heap.size + 1 + 1 + 1 + 1) 0 (vcs (nV i)).toArray rfl rfl TZ.out (by kernel_rfl) (all_oneCell_toArray (vcs_one _)) ?_; first | rw [← HZ2.out] | (simp only [List.toList_toArray]; rw [← HZ2.out])))
    go_wp2
    refine bodyPost_ret (results_cell_mid Try.results9 _ _ (w.heap.size + 1 + 1 + 1 + 1) (vcs (nV i)) _ rfl HZ.out.range Try.underlying34 rfl (by kernel_rfl)) rfl ⟨by rw [HQ.out], BZ.out⟩
  | true =>
    by_cases hv1 : v.st = 1
    · have b1 : (v.st != 1) = false := by simp [hv1]
      have HVT : Hid (votedQ v.st = true) := by show _ = _; rw [hv1]; rfl
      have HST := hide hv1
      clear hv1
      have b1e : (v.st == 1) = true := beq_iff_eq.2 HST.out
      obtain ⟨W2, hW2⟩ : ∃ W2, W2 = w1.setCell ⟨w.heap.size, 0, none⟩ (.int .i64 (i : Int)) := ⟨_, rfl⟩
      have BW2 : Hid (Below w.heap.size w W2) := by rw [hW2]; exact below_store BU.out (Nat.le_refl _) _
      have Q1a : Hid (Blk W2 w.heap.size (vcs { v with fr := i })) := by rw [hW2]; exact Q1.out.setAt 0 _
      have oth : ∀ {q : Nat} {cs : List Value}, Blk w1 q cs → w.heap.size < q → Blk W2 q cs := fun h hq => by rw [hW2]; exact h.of_block (heap_setCell_other _ ⟨w.heap.size, 0, none⟩ _ _ (fun e => by have e2 := congrArg id e; simp only [id] at e2; omega))
      have Q2a : Hid (Blk W2 (w.heap.size + 1) [.int .i64 rd, .int .i64 who]) := oth Q2.out (by omega)
      have Q3a : Hid (Blk W2 (w.heap.size + 1 + 1) (ccs c)) := oth Q3.out (by omega)
      have Q4a : Hid (Blk W2 (w.heap.size + 1 + 1 + 1) [.int .i64 seq, .slice a k cap]) := oth Q4.out (by omega)
      have Q5c : Hid (Blk W2 (w.heap.size + 1 + 1 + 1 + 1) zv) := oth Q5.out (by omega)
      have RB1 : Hid (W2.rangeAt w.heap.size 3 [.int .i64 v.rd, .int .i64 v.who]) := vcs_bal (v := { v with fr := i }) Q1a.out
      have RB2 : Hid (W2.rangeAt (w.heap.size + 1) 0 [.int .i64 rd, .int .i64 who]) := Q2a.out.range
      clear oth
      have HW2 := hide hW2
      clear hW2
      go_upto_region 5 with fail
      rw [← HW2.out]
      clear x0 x1 t0
      clear HW2 Q5a BA Q1 Q2 Q3 Q4 Q5 HV BU
      go_wp2_with (first | (refine wpList_load_mid rfl 23 _ rfl w.heap.size 3 rfl [.int .i64 v.rd, .int .i64 v.who] _ RB1.out Try.underlying23 rfl (by kernel_rfl) ?_) | (refine wpList_load_mid rfl 23 _ rfl (w.heap.size + 1) 0 rfl [.int .i64 rd, .int .i64 who] _ RB2.out Try.underlying23 rfl (by kernel_rfl) ?_))
      refine (qbelow_any _ _ _ _ _).mono ?_
      rintro e w2 ⟨rfl, hb2⟩
      obtain ⟨lo, hlo⟩ : ∃ b, blB v.rd v.who rd who = b := ⟨_, rfl⟩
      rw [hlo]
      have HLO := hide hlo
      clear hlo
      have RB1c : Hid (w2.rangeAt w.heap.size 3 [.int .i64 v.rd, .int .i64 v.who]) := range_below RB1.out hb2 Q1a.out.lt
      have RB2c : Hid (w2.rangeAt (w.heap.size + 1) 0 [.int .i64 rd, .int .i64 who]) := range_below RB2.out hb2 Q2a.out.lt
      have HB2 := hide hb2
      clear hb2 RB1 RB2
      go_wp2_with (first | (refine wpList_load_mid rfl 23 _ rfl w.heap.size 3 rfl [.int .i64 v.rd, .int .i64 v.who] _ RB1c.out Try.underlying23 rfl (by kernel_rfl) ?_) | (refine wpList_load_mid rfl 23 _ rfl (w.heap.size + 1) 0 rfl [.int .i64 rd, .int .i64 who] _ RB2c.out Try.underlying23 rfl (by kernel_rfl) ?_))
      refine (qsameBal_any _ _ _ _ _).mono ?_
      rintro e w3 ⟨rfl, hb3⟩
      obtain ⟨ab, hab⟩ : ∃ b, atQ v.rd v.who rd who = b := ⟨_, rfl⟩
      rw [hab]
      have HAB := hide hab
      clear hab
      have BV : Hid (Below W2.heap.size W2 w3) := HB2.out.trans (hb3.mono HB2.out.size)
      have Q1b : Hid (Blk w3 w.heap.size (vcs { v with fr := i })) := Q1a.out.on BV.out
      have Q3b : Hid (Blk w3 (w.heap.size + 1 + 1) (ccs c)) := Q3a.out.on BV.out
      have Q4b : Hid (Blk w3 (w.heap.size + 1 + 1 + 1) [.int .i64 seq, .slice a k cap]) := Q4a.out.on BV.out
      have Q5b : Hid (Blk w3 (w.heap.size + 1 + 1 + 1 + 1) zv) := Q5c.out.on BV.out
      have BW : Hid (Below w.heap.size w w3) := BW2.out.trans (BV.out.mono BW2.out.size)
      have RB1 : Hid (w3.rangeAt w.heap.size 3 [.int .i64 v.rd, .int .i64 v.who]) := vcs_bal (v := { v with fr := i }) Q1b.out
      have x1c : w3.cell? ⟨w.heap.size, 1, none⟩ = some (.int .i64 v.st) := Q1b.out.cell 1 _ rfl
      clear hb3 HB2 RB1c RB2c Q1a Q2a Q3a Q4a Q5c BW2 BV
      cases lo with
      | true =>
        have HQ : Hid (bentQ n i v rd who c seq a k cap l = { v with fr := i }) := by show _ = _; unfold bentQ; rw [if_pos ⟨HSB.out, HVT.out⟩, if_pos (.inl HLO.out)]
        obtain ⟨Z, hZ⟩ : ∃ Z, Z = w3.setCells (w.heap.size + 1 + 1 + 1 + 1) 0 (vcs { v with fr := i }) := ⟨_, rfl⟩
        have HZ : Hid (Blk Z (w.heap.size + 1 + 1 + 1 + 1) (vcs { v with fr := i })) := by rw [hZ]; exact blk_cells Q5b.out rfl
        have BZ : Hid (Below w.heap.size w Z) := by rw [hZ]; exact below_cells (by omega) _ _ _ BW.out
        have TZ := hide Q5b.out.there
        have HZ2 := hide hZ
        clear hZ
        go_wp2_with (first | (refine wpList_load_mid rfl 34 _ rfl w.heap.size 0 rfl (vcs { v with fr := i }) _ Q1b.out.range Try.underlying34 rfl (by kernel_rfl) ?_) | (refine wpList_store_mid rfl 34 _ _ rfl (w.heap.size + 1 + 1 + 1 + 1) 0 (vcs { v with fr := i }).toArray rfl rfl TZ.out (by kernel_rfl) (all_oneCell_toArray (vcs_one _)) ?_; first | rw [← HZ2.out] | (simp only [List.toList_toArray]; rw [← HZ2.out])))
        go_wp2
        refine bodyPost_ret (results_cell_mid Try.results9 _ _ (w.heap.size + 1 + 1 + 1 + 1) (vcs { v with fr := i }) _ rfl HZ.out.range Try.underlying34 rfl (by kernel_rfl)) rfl ⟨by rw [HQ.out], BZ.out⟩
      | false =>
        cases ab with
        | true =>
          have HQ : Hid (bentQ n i v rd who c seq a k cap l = { v with fr := i }) := by show _ = _; unfold bentQ; rw [if_pos ⟨HSB.out, HVT.out⟩, if_pos (.inr ⟨HAB.out, HST.out⟩)]
          obtain ⟨Z, hZ⟩ : ∃ Z, Z = w3.setCells (w.heap.size + 1 + 1 + 1 + 1) 0 (vcs { v with fr := i }) := ⟨_, rfl⟩
          have HZ : Hid (Blk Z (w.heap.size + 1 + 1 + 1 + 1) (vcs { v with fr := i })) := by rw [hZ]; exact blk_cells Q5b.out rfl
          have BZ : Hid (Below w.heap.size w Z) := by rw [hZ]; exact below_cells (by omega) _ _ _ BW.out
          have TZ := hide Q5b.out.there
          have HZ2 := hide hZ
          clear hZ
          go_wp2_with (first | (refine wpList_load_mid rfl 34 _ rfl w.heap.size 0 rfl (vcs { v with fr := i }) _ Q1b.out.range Try.underlying34 rfl (by kernel_rfl) ?_) | (refine wpList_store_mid rfl 34 _ _ rfl (w.heap.size + 1 + 1 + 1 + 1) 0 (vcs { v with fr := i }).toArray rfl rfl TZ.out (by kernel_rfl) (all_oneCell_toArray (vcs_one _)) ?_; first | rw [← HZ2.out] | (simp only [List.toList_toArray]; rw [← HZ2.out])))
          go_wp2
          refine bodyPost_ret (results_cell_mid Try.results9 _ _ (w.heap.size + 1 + 1 + 1 + 1) (vcs { v with fr := i }) _ rfl HZ.out.range Try.underlying34 rfl (by kernel_rfl)) rfl ⟨by rw [HQ.out], BZ.out⟩
        | false =>
          have HQ : Hid (bentQ n i v rd who c seq a k cap l = hV v.rd v.who c seq a k cap l i) := by show _ = _; unfold bentQ; rw [if_pos ⟨HSB.out, HVT.out⟩, if_neg (by rintro (h | ⟨h, -⟩) <;> first | (rw [HLO.out] at h; cases h) | (rw [HAB.out] at h; cases h))]
          have c40 := Q4b.out.cell 0 _ rfl
          have c41 := Q4b.out.cell 1 _ rfl
          obtain ⟨Z, hZ⟩ : ∃ Z, Z = w3.setCells (w.heap.size + 1 + 1 + 1 + 1) 0 (vcs (hV v.rd v.who c seq a k cap l i)) := ⟨_, rfl⟩
          have HZ : Hid (Blk Z (w.heap.size + 1 + 1 + 1 + 1) (vcs (hV v.rd v.who c seq a k cap l i))) := by rw [hZ]; exact blk_cells Q5b.out rfl
          have BZ : Hid (Below w.heap.size w Z) := by rw [hZ]; exact below_cells (by omega) _ _ _ BW.out
          have TZ := hide Q5b.out.there
          have HZ2 := hide hZ
          clear hZ
          go_wp2_with (first | (refine wpList_load_mid rfl 23 _ rfl w.heap.size 3 rfl [.int .i64 v.rd, .int .i64 v.who] _ RB1.out Try.underlying23 rfl (by kernel_rfl) ?_) | (refine wpList_load_mid rfl 25 _ rfl (w.heap.size + 1 + 1) 0 rfl (ccs c) _ Q3b.out.range Try.underlying25 rfl (by kernel_rfl) ?_) | (refine wpList_buildQ rfl 34 _ rfl [(0, .int .i64 (i : Int)), (1, .int .i64 2), (3, .agg #[.int .i64 v.rd, .int .i64 v.who]), (4, .agg (ccs c).toArray), (5, .int .i64 seq), (6, .slice a k cap)] rfl _ (built_voteA (i : Int) 2 v.rd v.who c seq a k cap l) ?_) | (refine wpList_store_mid rfl 34 _ _ rfl (w.heap.size + 1 + 1 + 1 + 1) 0 (vcs (hV v.rd v.who c seq a k cap l i)).toArray rfl rfl TZ.out (by kernel_rfl) (all_oneCell_toArray (vcs_one _)) ?_; first | rw [← HZ2.out] | (simp only [List.toList_toArray]; rw [← HZ2.out])))
          go_wp2
          refine bodyPost_ret (results_cell_mid Try.results9 _ _ (w.heap.size + 1 + 1 + 1 + 1) (vcs (hV v.rd v.who c seq a k cap l i)) _ rfl HZ.out.range Try.underlying34 rfl (by kernel_rfl)) rfl ⟨by rw [HQ.out], BZ.out⟩
    · have b1 : (v.st != 1) = true := by simp [hv1]
      have b1e : (v.st == 1) = false := beq_eq_false_iff_ne.2 hv1
      have HST := hide hv1
      by_cases hv2 : v.st = 2
      · have b2 : (v.st != 2) = false := by simp [hv2]
        have HVT : Hid (votedQ v.st = true) := by show _ = _; rw [hv2]; rfl
        clear hv1 hv2
        obtain ⟨W2, hW2⟩ : ∃ W2, W2 = w1.setCell ⟨w.heap.size, 0, none⟩ (.int .i64 (i : Int)) := ⟨_, rfl⟩
        have BW2 : Hid (Below w.heap.size w W2) := by rw [hW2]; exact below_store BU.out (Nat.le_refl _) _
        have Q1a : Hid (Blk W2 w.heap.size (vcs { v with fr := i })) := by rw [hW2]; exact Q1.out.setAt 0 _
        have oth : ∀ {q : Nat} {cs : List Value}, Blk w1 q cs → w.heap.size < q → Blk W2 q cs := fun h hq => by rw [hW2]; exact h.of_block (heap_setCell_other _ ⟨w.heap.size, 0, none⟩ _ _ (fun e => by have e2 := congrArg id e; simp only [id] at e2; omega))
        have Q2a : Hid (Blk W2 (w.heap.size + 1) [.int .i64 rd, .int .i64 who]) := oth Q2.out (by omega)
        have Q3a : Hid (Blk W2 (w.heap.size + 1 + 1) (ccs c)) := oth Q3.out (by omega)
        have Q4a : Hid (Blk W2 (w.heap.size + 1 + 1 + 1) [.int .i64 seq, .slice a k cap]) := oth Q4.out (by omega)
        have Q5c : Hid (Blk W2 (w.heap.size + 1 + 1 + 1 + 1) zv) := oth Q5.out (by omega)
        have RB1 : Hid (W2.rangeAt w.heap.size 3 [.int .i64 v.rd, .int .i64 v.who]) := vcs_bal (v := { v with fr := i }) Q1a.out
        have RB2 : Hid (W2.rangeAt (w.heap.size + 1) 0 [.int .i64 rd, .int .i64 who]) := Q2a.out.range
        clear oth
        have HW2 := hide hW2
        clear hW2
        go_upto_region 5 with fail
        rw [← HW2.out]
        clear x0 x1 t0
        clear HW2 Q5a BA Q1 Q2 Q3 Q4 Q5 HV BU
        go_wp2_with (first | (refine wpList_load_mid rfl 23 _ rfl w.heap.size 3 rfl [.int .i64 v.rd, .int .i64 v.who] _ RB1.out Try.underlying23 rfl (by kernel_rfl) ?_) | (refine wpList_load_mid rfl 23 _ rfl (w.heap.size + 1) 0 rfl [.int .i64 rd, .int .i64 who] _ RB2.out Try.underlying23 rfl (by kernel_rfl) ?_))
        refine (qbelow_any _ _ _ _ _).mono ?_
        rintro e w2 ⟨rfl, hb2⟩
        obtain ⟨lo, hlo⟩ : ∃ b, blB v.rd v.who rd who = b := ⟨_, rfl⟩
        rw [hlo]
        have HLO := hide hlo
        clear hlo
        have RB1c : Hid (w2.rangeAt w.heap.size 3 [.int .i64 v.rd, .int .i64 v.who]) := range_below RB1.out hb2 Q1a.out.lt
        have RB2c : Hid (w2.rangeAt (w.heap.size + 1) 0 [.int .i64 rd, .int .i64 who]) := range_below RB2.out hb2 Q2a.out.lt
        have HB2 := hide hb2
        clear hb2 RB1 RB2
        go_wp2_with (first | (refine wpList_load_mid rfl 23 _ rfl w.heap.size 3 rfl [.int .i64 v.rd, .int .i64 v.who] _ RB1c.out Try.underlying23 rfl (by kernel_rfl) ?_) | (refine wpList_load_mid rfl 23 _ rfl (w.heap.size + 1) 0 rfl [.int .i64 rd, .int .i64 who] _ RB2c.out Try.underlying23 rfl (by kernel_rfl) ?_))
        refine (qsameBal_any _ _ _ _ _).mono ?_
        rintro e w3 ⟨rfl, hb3⟩
        obtain ⟨ab, hab⟩ : ∃ b, atQ v.rd v.who rd who = b := ⟨_, rfl⟩
        rw [hab]
        have HAB := hide hab
        clear hab
        have BV : Hid (Below W2.heap.size W2 w3) := HB2.out.trans (hb3.mono HB2.out.size)
        have Q1b : Hid (Blk w3 w.heap.size (vcs { v with fr := i })) := Q1a.out.on BV.out
        have Q3b : Hid (Blk w3 (w.heap.size + 1 + 1) (ccs c)) := Q3a.out.on BV.out
        have Q4b : Hid (Blk w3 (w.heap.size + 1 + 1 + 1) [.int .i64 seq, .slice a k cap]) := Q4a.out.on BV.out
        have Q5b : Hid (Blk w3 (w.heap.size + 1 + 1 + 1 + 1) zv) := Q5c.out.on BV.out
        have BW : Hid (Below w.heap.size w w3) := BW2.out.trans (BV.out.mono BW2.out.size)
        have RB1 : Hid (w3.rangeAt w.heap.size 3 [.int .i64 v.rd, .int .i64 v.who]) := vcs_bal (v := { v with fr := i }) Q1b.out
        have x1c : w3.cell? ⟨w.heap.size, 1, none⟩ = some (.int .i64 v.st) := Q1b.out.cell 1 _ rfl
        clear hb3 HB2 RB1c RB2c Q1a Q2a Q3a Q4a Q5c BW2 BV
        cases lo with
        | true =>
          have HQ : Hid (bentQ n i v rd who c seq a k cap l = { v with fr := i }) := by show _ = _; unfold bentQ; rw [if_pos ⟨HSB.out, HVT.out⟩, if_pos (.inl HLO.out)]
          obtain ⟨Z, hZ⟩ : ∃ Z, Z = w3.setCells (w.heap.size + 1 + 1 + 1 + 1) 0 (vcs { v with fr := i }) := ⟨_, rfl⟩
          have HZ : Hid (Blk Z (w.heap.size + 1 + 1 + 1 + 1) (vcs { v with fr := i })) := by rw [hZ]; exact blk_cells Q5b.out rfl
          have BZ : Hid (Below w.heap.size w Z) := by rw [hZ]; exact below_cells (by omega) _ _ _ BW.out
          have TZ := hide Q5b.out.there
          have HZ2 := hide hZ
          clear hZ
          go_wp2_with (first | (refine wpList_load_mid rfl 34 _ rfl w.heap.size 0 rfl (vcs { v with fr := i }) _ Q1b.out.range Try.underlying34 rfl (by kernel_rfl) ?_) | (refine wpList_store_mid rfl 34 _ _ rfl (w.heap.size + 1 + 1 + 1 + 1) 0 (vcs { v with fr := i }).toArray rfl rfl TZ.out (by kernel_rfl) (all_oneCell_toArray (vcs_one _)) ?_; first | rw [← HZ2.out] | (simp only [List.toList_toArray]; rw [← HZ2.out])))
          go_wp2
          refine bodyPost_ret (results_cell_mid Try.results9 _ _ (w.heap.size + 1 + 1 + 1 + 1) (vcs { v with fr := i }) _ rfl HZ.out.range Try.underlying34 rfl (by kernel_rfl)) rfl ⟨by rw [HQ.out], BZ.out⟩
        | false =>
          cases ab with
          | true =>
            have HQ : Hid (bentQ n i v rd who c seq a k cap l = hV v.rd v.who c seq a k cap l i) := by show _ = _; unfold bentQ; rw [if_pos ⟨HSB.out, HVT.out⟩, if_neg (by rintro (h | ⟨-, h⟩) <;> first | exact HST.out h | (rw [HLO.out] at h; cases h))]
            have c40 := Q4b.out.cell 0 _ rfl
            have c41 := Q4b.out.cell 1 _ rfl
            obtain ⟨Z, hZ⟩ : ∃ Z, Z = w3.setCells (w.heap.size + 1 + 1 + 1 + 1) 0 (vcs (hV v.rd v.who c seq a k cap l i)) := ⟨_, rfl⟩
            have HZ : Hid (Blk Z (w.heap.size + 1 + 1 + 1 + 1) (vcs (hV v.rd v.who c seq a k cap l i))) := by rw [hZ]; exact blk_cells Q5b.out rfl
            have BZ : Hid (Below w.heap.size w Z) := by rw [hZ]; exact below_cells (by omega) _ _ _ BW.out
            have TZ := hide Q5b.out.there
            have HZ2 := hide hZ
            clear hZ
            go_wp2_with (first | (refine wpList_load_mid rfl 23 _ rfl w.heap.size 3 rfl [.int .i64 v.rd, .int .i64 v.who] _ RB1.out Try.underlying23 rfl (by kernel_rfl) ?_) | (refine wpList_load_mid rfl 25 _ rfl (w.heap.size + 1 + 1) 0 rfl (ccs c) _ Q3b.out.range Try.underlying25 rfl (by kernel_rfl) ?_) | (refine wpList_buildQ rfl 34 _ rfl [(0, .int .i64 (i : Int)), (1, .int .i64 2), (3, .agg #[.int .i64 v.rd, .int .i64 v.who]), (4, .agg (ccs c).toArray), (5, .int .i64 seq), (6, .slice a k cap)] rfl _ (built_voteA (i : Int) 2 v.rd v.who c seq a k cap l) ?_) | (refine wpList_store_mid rfl 34 _ _ rfl (w.heap.size + 1 + 1 + 1 + 1) 0 (vcs (hV v.rd v.who c seq a k cap l i)).toArray rfl rfl TZ.out (by kernel_rfl) (all_oneCell_toArray (vcs_one _)) ?_; first | rw [← HZ2.out] | (simp only [List.toList_toArray]; rw [← HZ2.out])))
            go_wp2
            refine bodyPost_ret (results_cell_mid Try.results9 _ _ (w.heap.size + 1 + 1 + 1 + 1) (vcs (hV v.rd v.who c seq a k cap l i)) _ rfl HZ.out.range Try.underlying34 rfl (by kernel_rfl)) rfl ⟨by rw [HQ.out], BZ.out⟩
          | false =>
            have HQ : Hid (bentQ n i v rd who c seq a k cap l = hV v.rd v.who c seq a k cap l i) := by show _ = _; unfold bentQ; rw [if_pos ⟨HSB.out, HVT.out⟩, if_neg (by rintro (h | ⟨h, -⟩) <;> first | (rw [HLO.out] at h; cases h) | (rw [HAB.out] at h; cases h))]
            have c40 := Q4b.out.cell 0 _ rfl
            have c41 := Q4b.out.cell 1 _ rfl
            obtain ⟨Z, hZ⟩ : ∃ Z, Z = w3.setCells (w.heap.size + 1 + 1 + 1 + 1) 0 (vcs (hV v.rd v.who c seq a k cap l i)) := ⟨_, rfl⟩
            have HZ : Hid (Blk Z (w.heap.size + 1 + 1 + 1 + 1) (vcs (hV v.rd v.who c seq a k cap l i))) := by rw [hZ]; exact blk_cells Q5b.out rfl
            have BZ : Hid (Below w.heap.size w Z) := by rw [hZ]; exact below_cells (by omega) _ _ _ BW.out
            have TZ := hide Q5b.out.there
            have HZ2 := hide hZ
            clear hZ
            go_wp2_with (first | (refine wpList_load_mid rfl 23 _ rfl w.heap.size 3 rfl [.int .i64 v.rd, .int .i64 v.who] _ RB1.out Try.underlying23 rfl (by kernel_rfl) ?_) | (refine wpList_load_mid rfl 25 _ rfl (w.heap.size + 1 + 1) 0 rfl (ccs c) _ Q3b.out.range Try.underlying25 rfl (by kernel_rfl) ?_) | (refine wpList_buildQ rfl 34 _ rfl [(0, .int .i64 (i : Int)), (1, .int .i64 2), (3, .agg #[.int .i64 v.rd, .int .i64 v.who]), (4, .agg (ccs c).toArray), (5, .int .i64 seq), (6, .slice a k cap)] rfl _ (built_voteA (i : Int) 2 v.rd v.who c seq a k cap l) ?_) | (refine wpList_store_mid rfl 34 _ _ rfl (w.heap.size + 1 + 1 + 1 + 1) 0 (vcs (hV v.rd v.who c seq a k cap l i)).toArray rfl rfl TZ.out (by kernel_rfl) (all_oneCell_toArray (vcs_one _)) ?_; first | rw [← HZ2.out] | (simp only [List.toList_toArray]; rw [← HZ2.out])))
            go_wp2
            refine bodyPost_ret (results_cell_mid Try.results9 _ _ (w.heap.size + 1 + 1 + 1 + 1) (vcs (hV v.rd v.who c seq a k cap l i)) _ rfl HZ.out.range Try.underlying34 rfl (by kernel_rfl)) rfl ⟨by rw [HQ.out], BZ.out⟩
      · have b2 : (v.st != 2) = true := by simp [hv2]
        have HVT : Hid (votedQ v.st = false) := by show _ = _; unfold votedQ; rw [beq_eq_false_iff_ne.2 hv1, beq_eq_false_iff_ne.2 hv2]; rfl
        clear hv1 hv2
        have HQ : Hid (bentQ n i v rd who c seq a k cap l = nV i) := by show _ = _; unfold bentQ; rw [if_neg (fun h => by have h1 := h.2; rw [HVT.out] at h1; cases h1)]
        obtain ⟨Z, hZ⟩ : ∃ Z, Z = w1.setCells (w.heap.size + 1 + 1 + 1 + 1) 0 (vcs (nV i)) := ⟨_, rfl⟩
        have HZ : Hid (Blk Z (w.heap.size + 1 + 1 + 1 + 1) (vcs (nV i))) := by rw [hZ]; exact blk_cells Q5a.out rfl
        have BZ : Hid (Below w.heap.size w Z) := by rw [hZ]; exact below_cells (by omega) _ _ _ BA.out
        have TZ := hide Q5a.out.there
        have HZ2 := hide hZ
        clear hZ
        go_wp2_with (first | (refine wpList_buildQ rfl 34 _ rfl [(0, .int .i64 (i : Int))] rfl _ (built_voteF (i : Int)) ?_) | (refine wpList_store_mid rfl 34 _ _ rfl (w.heap.size + 1 + 1 + 1 + 1) 0 (vcs (nV i)).toArray rfl rfl TZ.out (by kernel_rfl) (all_oneCell_toArray (vcs_one _)) ?_; first | rw [← HZ2.out] | (simp only [List.toList_toArray]; rw [← HZ2.out])))
        go_wp2
        refine bodyPost_ret (results_cell_mid Try.results9 _ _ (w.heap.size + 1 + 1 + 1 + 1) (vcs (nV i)) _ rfl HZ.out.range Try.underlying34 rfl (by kernel_rfl)) rfl ⟨by rw [HQ.out], BZ.out⟩
end Go.Proofs.Ytpbbbbmnboeffaa
