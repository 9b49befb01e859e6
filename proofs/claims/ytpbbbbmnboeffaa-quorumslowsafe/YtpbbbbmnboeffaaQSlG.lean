/- The walk of the statements' own slow. -/
import Derived.Test.YtpbbbbmnboeffaaQSlF
namespace Go.Proofs.Ytpbbbbmnboeffaa
open Go.RowKit Go.Wire1

theorem allF_snoc2 {f : Nat → Vt} (q : Nat) : (List.range (q + 1)).map f = (List.range q).map f ++ [f q] := by rw [List.range_succ, List.map_append]; rfl
set_option maxHeartbeats 8000000 in
set_option maxRecDepth 100000 in
theorem lslow_any (n r : Nat) (rd who : Int) (c : Cm) (seq : Int) (a : Option Addr) (k cap : Nat) (l : List Int) (oa : Option Addr) (M oc : Nat) (os : List Vt) (wa : Option Addr) (Pw wc : Nat) (wh : List Int) (pa : Option Addr) (P pc : Nat) (pick : List Int) (w : World) (hz : szQ (n : Int) = true) (hr : r < n) (hs : SegI w a k l) (hkc : k ≤ cap) (hsn : sndQ n seq l = true)
    (ho : RowS w 15 oa M (os.map vcs)) (hov : ∀ v ∈ os, Vok w v) (hwh : SegI w wa Pw wh) (hPw : Pw ≤ 1152921504606846976) (hp : SegI w pa P pick) (hP : P ≤ 1152921504606846976) :
    Calls Try.prog 5 #[.int .i64 (n : Int), .int .i64 (r : Int), .agg #[.int .i64 rd, .int .i64 who], .agg (ccs c).toArray, .agg #[.int .i64 seq, .slice a k cap], .slice oa M oc, .slice wa Pw wc, .slice pa P pc] w fun e w' => e = .returned (.bool true) ∧ Below w.heap.size w w' := by
  obtain ⟨i0, hii, hz0, hz1, hz2⟩ := info_parts infoVQ
  have hn3 := sz_nat hz
  have hn7 : n ≤ 7 := by omega
  obtain ⟨U, hU⟩ : ∃ U, U = (((w.alloc (.cells #[.int .i64 rd, .int .i64 who] 23)).alloc (.cells (ccs c).toArray 25)).alloc (.cells #[.int .i64 seq, .slice a k cap] 28)) := ⟨_, rfl⟩
  have BU : Hid (Below w.heap.size w U) := by rw [hU]; exact (((Below.refl _ w).alloc (Nat.le_refl _) _).alloc (by simp) _).alloc (by simp; omega) _
  have Q1 : Hid (Blk U w.heap.size [.int .i64 rd, .int .i64 who]) := by
    rw [hU]; exact (blk_new w 23 [.int .i64 rd, .int .i64 who]).on (((Below.refl _ _).alloc (Nat.le_refl _) _).alloc (by simp) _)
  have Q2 : Hid (Blk U (w.heap.size + 1) (ccs c)) := by
    have := blk_new (w.alloc (.cells #[.int .i64 rd, .int .i64 who] 23)) 25 (ccs c)
    rw [World.size_alloc] at this
    rw [hU]; exact this.on ((Below.refl _ _).alloc (Nat.le_refl _) _)
  have Q3 : Hid (Blk U (w.heap.size + 1 + 1) [.int .i64 seq, .slice a k cap]) := by
    have := blk_new ((w.alloc (.cells #[.int .i64 rd, .int .i64 who] 23)).alloc (.cells (ccs c).toArray 25)) 28 [.int .i64 seq, .slice a k cap]
    rw [World.size_alloc, World.size_alloc] at this
    rw [hU]; exact this
  have HS := hide (hs.below BU.out (Nat.le_refl _))
  have HP := hide (hp.below BU.out (Nat.le_refl _))
  have HWH := hide (hwh.below BU.out (Nat.le_refl _))
  have HOR := hide (ho.below BU.out (Nat.le_refl _) (by decide))
  have HOL : Hid (os.length = M) := by have := ho.len; rwa [List.length_map] at this
  have HOV : Hid (∀ v ∈ os, Vok U v) := fun v hv => (hov v hv).below BU.out (Nat.le_refl _)
  have HKC := hide hkc
  have HPL := hide (slow_plan (vs := os) (rd := rd) (who := who) (k := k) (cap := cap) (a := a) (c := c) hz hr hsn wh pick)
  have HCW := hide (chQ_facts n (-1) (n / 2 + 1) wh)
  have HCP := hide (chQ_facts n (-1) (n / 2 + 1) pick)
  have HSN := hide hsn
  have HM := ho.max
  unfold maxLen at HM
  clear hs hkc hp hwh ho hov hsn hz
  go_enter Try.func5, Try.ntmps5
  go_upto_region 1 with fail
  rw [← hU]
  clear hU
  go_wp2_with fail
  go_loopw [17, 18] (fun x i wr => ∃ q : Nat, i = .int .i64 (q : Int) ∧ q ≤ n ∧ Hid (wr.ownsRow U.heap.size 34 15 x ((List.range q).map (sA n os rd who c seq a k cap l)).length ((((List.range q).map (sA n os rd who c seq a k cap l)).map vcs).flatten)) ∧ Hid (Below U.heap.size U wr)) (fun _ i _ => n - (intOf i).toNat)
  case atStart => exact ⟨0, rfl, Nat.zero_le _, World.ownsRow_nil _ _ _ _, Below.refl _ _⟩
  case round =>
    obtain ⟨q, rfl, hq, HO, HB⟩ := hrel
    by_cases hlt : q < n
    · obtain ⟨X, hX⟩ : ∃ X, X = wr.alloc (.cells (zv).toArray 34) := ⟨_, rfl⟩
      have ZX : Hid (Blk X wr.heap.size zv) := by rw [hX]; exact blk_new wr 34 zv
      have TX := hide ZX.out.there
      have BX : Hid (Below wr.heap.size wr X) := by rw [hX]; exact (Below.refl _ _).alloc (Nat.le_refl _) _
      obtain ⟨Y, hY⟩ : ∃ Y, Y = X.setCells wr.heap.size 0 (vcs (nV q)) := ⟨_, rfl⟩
      have HVY : Hid (Blk Y wr.heap.size (vcs (nV q))) := by rw [hY]; exact blk_cells ZX.out rfl
      have BY : Hid (Below wr.heap.size wr Y) := by rw [hY]; exact below_cells (Nat.le_refl _) _ _ _ BX.out
      have HX : Hid (wr.alloc (.cells #[.int .i64 0, .int .i64 0, .bool false, .int .i64 0, .int .i64 0, .int .i64 0, .int .i64 0, .int .i64 0, .string ⟨#[]⟩, .string ⟨#[]⟩, .string ⟨#[]⟩, .string ⟨#[]⟩, .int .i64 0, .int .i64 0, .slice none 0 0] 34) = X) := hX.symm
      have HY := hide hY
      clear hX hY
      go_upto_region 6 with (first | (refine wpList_buildQ rfl 34 _ rfl [(0, .int .i64 (q : Int))] rfl _ (built_voteF (q : Int)) ?_) | (rw [HX.out]; refine wpList_store_mid rfl 34 _ _ rfl wr.heap.size 0 (vcs (nV q)).toArray rfl rfl TX.out (by kernel_rfl) (all_oneCell_toArray (vcs_one _)) ?_; first | rw [← HY.out] | (simp only [List.toList_toArray]; rw [← HY.out])))
      clear HX HY TX ZX BX
      by_cases hqM : q < M
      · obtain ⟨ov, hov⟩ : ∃ v, os[q]? = some v := ⟨_, List.getElem?_eq_getElem (by have := HOL.out; omega)⟩
        have HFE : Hid (sA n os rd who c seq a k cap l q = (bentQ (n : Int) q ov rd who c seq a k cap l)) := by show _ = _; unfold sA; rw [hov]
        have BUY : Hid (Below U.heap.size U Y) := HB.out.trans (BY.out.mono HB.out.size)
        obtain ⟨ob, oo, rfl, hat⟩ := HOR.out.at_ (by omega)
        have HRO0 : Hid (U.rangeAt ob (oo + q * 15) (vcs ov)) := hat q (vcs ov) (by rw [List.getElem?_map, hov]; rfl)
        have HRL0 := rangeAt_lt HRO0.out (by rw [vcs_len]; decide)
        have HRO : Hid (Y.rangeAt ob (oo + q * 15) (vcs ov)) := range_below HRO0.out BUY.out HRL0
        have hUY := BUY.out.size
        have hUw := HB.out.size
        have HRL : Hid (ob < Y.heap.size) := by show _ < _; omega
        have hobw : ob < wr.heap.size := by omega
        have hq3 := Q3.out.lt
        have RQ1 : Hid (Y.rangeAt w.heap.size 0 [.int .i64 rd, .int .i64 who]) := (Q1.out.on BUY.out).range
        have RQ2 : Hid (Y.rangeAt (w.heap.size + 1) 0 (ccs c)) := (Q2.out.on BUY.out).range
        have RQ3 : Hid (Y.rangeAt (w.heap.size + 1 + 1) 0 [.int .i64 seq, .slice a k cap]) := (Q3.out.on BUY.out).range
        have HVD : Hid (Vok (Y.drewN 1) ov) := by
          have h := (HOV.out ov (List.mem_of_getElem? hov)).below BUY.out (Nat.le_refl _)
          exact ⟨h.seg.drewN 1, h.cap, h.bfr⟩
        clear hat hov HRO0 HRL0
        go_upto_region 7 with fail
        refine wp_region_held_drew (S := (fun W' => W'.rangeAt ob (oo + q * 15) (vcs ov) ∧ W'.rangeAt w.heap.size 0 [.int .i64 rd, .int .i64 who] ∧ W'.rangeAt (w.heap.size + 1) 0 (ccs c) ∧ W'.rangeAt (w.heap.size + 1 + 1) 0 [.int .i64 seq, .slice a k cap])) (by kernel_rfl) ⟨HRO.out, RQ1.out, RQ2.out, RQ3.out⟩ (fun hHeld => ?_)
        refine wpAnyH_take (i := 0) (v := ?_) rfl (by kernel_rfl) (by kernel_rfl) (by kernel_rfl) (fun _ _ _ h => h) (Or.inl ⟨by rfl, ?_⟩) (by assumption) ?_
        rotate_left
        · intro w hSw
          try dsimp only at hSw
          go_simp
          try with_reducible rfl
        try simp only [Act.put, List.getElem_toArray, List.getElem_cons_zero, List.setIfInBounds_toArray, List.set_cons_zero, List.set_cons_succ]
        refine wpAnyH_take (i := 1) (v := ?_) rfl (by kernel_rfl) (by kernel_rfl) (by kernel_rfl) (fun _ _ _ h => h) (Or.inl ⟨by rfl, ?_⟩) (by assumption) ?_
        rotate_left
        · intro w hSw
          try dsimp only at hSw
          go_simp
          try with_reducible rfl
        try simp only [Act.put, List.getElem_toArray, List.getElem_cons_succ, List.getElem_cons_zero, List.setIfInBounds_toArray, List.set_cons_zero, List.set_cons_succ]
        refine wpAnyH_take (i := 2) (v := ?_) rfl (by kernel_rfl) (by kernel_rfl) (by kernel_rfl) (fun _ _ _ h => h) (Or.inl ⟨by rfl, ?_⟩) (by assumption) ?_
        rotate_left
        · intro w hSw
          try dsimp only at hSw
          go_simp
          try with_reducible rfl
        try simp only [Act.put, List.getElem_toArray, List.getElem_cons_succ, List.getElem_cons_zero, List.setIfInBounds_toArray, List.set_cons_zero, List.set_cons_succ]
        refine wpAnyH_take (i := 3) (v := ?_) rfl (by kernel_rfl) (by kernel_rfl) (by kernel_rfl) (fun _ _ _ h => h) (Or.inl ⟨by rfl, ?_⟩) (by assumption) ?_
        rotate_left
        · intro w hSw
          try dsimp only at hSw
          go_simp
          try with_reducible rfl
        try simp only [Act.put, List.getElem_toArray, List.getElem_cons_succ, List.getElem_cons_zero, List.setIfInBounds_toArray, List.set_cons_zero, List.set_cons_succ]
        refine wpAnyH_take (i := 4) (v := ?_) rfl (by kernel_rfl) (by kernel_rfl) (by kernel_rfl) (fun _ _ _ h => h) (Or.inl ⟨by rfl, ?_⟩) (by assumption) ?_
        rotate_left
        · intro w hSw
          try dsimp only at hSw
          go_simp
          try with_reducible rfl
        try simp only [Act.put, List.getElem_toArray, List.getElem_cons_succ, List.getElem_cons_zero, List.setIfInBounds_toArray, List.set_cons_zero, List.set_cons_succ]
        refine wpAnyH_take (i := 5) rfl (by kernel_rfl) (by kernel_rfl) (by kernel_rfl) (fun _ _ _ h => h) (yieldsIf_load_mid (by rfl) 34 _ rfl ob (oo + q * 15) rfl (vcs ov) _ (fun _ h => h.1) Try.underlying34 rfl (by kernel_rfl)) (by assumption) ?_
        try simp only [Act.put, List.getElem_toArray, List.getElem_cons_succ, List.getElem_cons_zero, List.setIfInBounds_toArray, List.set_cons_zero, List.set_cons_succ]
        refine wpAnyH_take (i := 6) rfl (by kernel_rfl) (by kernel_rfl) (by kernel_rfl) (fun _ _ _ h => h) (yieldsIf_load_mid (by rfl) 23 _ rfl w.heap.size 0 rfl [.int .i64 rd, .int .i64 who] _ (fun _ h => h.2.1) Try.underlying23 rfl (by kernel_rfl)) (by assumption) ?_
        try simp only [Act.put, List.getElem_toArray, List.getElem_cons_succ, List.getElem_cons_zero, List.setIfInBounds_toArray, List.set_cons_zero, List.set_cons_succ]
        refine wpAnyH_take (i := 7) rfl (by kernel_rfl) (by kernel_rfl) (by kernel_rfl) (fun _ _ _ h => h) (yieldsIf_load_mid (by rfl) 25 _ rfl (w.heap.size + 1) 0 rfl (ccs c) _ (fun _ h => h.2.2.1) Try.underlying25 rfl (by kernel_rfl)) (by assumption) ?_
        try simp only [Act.put, List.getElem_toArray, List.getElem_cons_succ, List.getElem_cons_zero, List.setIfInBounds_toArray, List.set_cons_zero, List.set_cons_succ]
        refine wpAnyH_take (i := 8) rfl (by kernel_rfl) (by kernel_rfl) (by kernel_rfl) (fun _ _ _ h => h) (yieldsIf_load_mid (by rfl) 28 _ rfl (w.heap.size + 1 + 1) 0 rfl [.int .i64 seq, .slice a k cap] _ (fun _ h => h.2.2.2) Try.underlying28 rfl (by kernel_rfl)) (by assumption) ?_
        try simp only [Act.put, List.getElem_toArray, List.getElem_cons_succ, List.getElem_cons_zero, List.setIfInBounds_toArray, List.set_cons_zero, List.set_cons_succ]
        refine wpAnyH_ready (rs := [9]) (by kernel_rfl) (by simp) ?_
        refine AllReadyH.cons rfl (fun K hK => ?_) AllReadyH.nil
        rw [if_pos (by rfl)]
        go_wp2_with fail
        refine (bent_any (n : Int) q ov rd who c seq a k cap l _ HVD.out).mono ?_
        rintro e w5 ⟨rfl, hb5⟩
        have HB5 : Hid (Below Y.heap.size Y w5) := (Below.refl Y.heap.size Y).drew.trans hb5
        have Z5 : Hid (Blk w5 wr.heap.size (vcs (nV q))) := HVY.out.on HB5.out
        have TZ5 := hide Z5.out.there
        have B5w : Hid (Below wr.heap.size wr w5) := BY.out.trans (HB5.out.mono BY.out.size)
        clear hb5
        refine hK.out _ _ ⟨range_below HRO.out HB5.out HRL.out, range_below RQ1.out HB5.out (by omega), range_below RQ2.out HB5.out (by omega), range_below RQ3.out HB5.out (by omega)⟩ (fun hHeld => ?_)
        clear hK K
        try simp only [Act.put, List.getElem_toArray, List.getElem_cons_succ, List.getElem_cons_zero, List.setIfInBounds_toArray, List.set_cons_zero, List.set_cons_succ]
        refine wpAnyH_ready (rs := [10]) (by kernel_rfl) (by simp) ?_
        refine AllReadyH.cons rfl (fun K hK => ?_) AllReadyH.nil
        rw [if_pos (by rfl)]
        refine wp_store_mid 34 _ _ rfl wr.heap.size 0 (vcs (bentQ (n : Int) q ov rd who c seq a k cap l)).toArray rfl rfl TZ5.out (by kernel_rfl) (all_oneCell_toArray (vcs_one _)) ?_
        refine hK.out _ _ ⟨World.rangeAt_setCells_apart hHeld.1 _ _ _ (.inl (by omega)), World.rangeAt_setCells_apart hHeld.2.1 _ _ _ (.inl (by omega)), World.rangeAt_setCells_apart hHeld.2.2.1 _ _ _ (.inl (by omega)), World.rangeAt_setCells_apart hHeld.2.2.2 _ _ _ (.inl (by omega))⟩ (fun hHeld => ?_)
        clear hK K
        try simp only [Act.put, List.getElem_toArray, List.getElem_cons_succ, List.getElem_cons_zero]
        refine wpAnyH_done (by kernel_rfl) ?_ _
        obtain ⟨Z, hZ⟩ : ∃ Z, Z = w5.setCells wr.heap.size 0 (vcs (bentQ (n : Int) q ov rd who c seq a k cap l)) := ⟨_, rfl⟩
        have HZB : Hid (Blk Z wr.heap.size (vcs (bentQ (n : Int) q ov rd who c seq a k cap l))) := by rw [hZ]; exact blk_cells Z5.out rfl
        have BZ : Hid (Below wr.heap.size wr Z) := by rw [hZ]; exact below_cells (Nat.le_refl _) _ _ _ B5w.out
        rw [← hZ]
        clear hZ
        have HFZ : Hid (Blk Z wr.heap.size (vcs (sA n os rd who c seq a k cap l q))) := by rw [HFE.out]; exact HZB.out
        have HBZ : Hid (Below wr.heap.size wr Z) := BZ.out
        have HO1 := hide (vcs_one (sA n os rd who c seq a k cap l q))
        have HSA : Hid ((List.range (q + 1)).map (sA n os rd who c seq a k cap l) = (List.range q).map (sA n os rd who c seq a k cap l) ++ [sA n os rd who c seq a k cap l q]) := allF_snoc2 q
        have HOZ : Hid (Z.ownsRow U.heap.size 34 15 u17 ((List.range q).map (sA n os rd who c seq a k cap l)).length ((((List.range q).map (sA n os rd who c seq a k cap l)).map vcs).flatten)) := own_below HO.out HBZ.out (Nat.le_refl _)
        have hlA : ((List.range q).map (sA n os rd who c seq a k cap l)).length = q := by simp
        have hwz : wr.heap.size < Z.heap.size := HFZ.out.lt
        have hUw := HB.out.size
        clear HO
        generalize hfq : sA n os rd who c seq a k cap l q = fq at *
        generalize (List.range q).map (sA n os rd who c seq a k cap l) = fl at *
        go_wp2_with (first | (refine wpList_load_mid rfl 34 _ rfl wr.heap.size 0 rfl (vcs fq) _ HFZ.out.range Try.underlying34 rfl (by kernel_rfl) ?_) | (refine wpList_buildOne rfl 29 34 _ rfl 15 (vcs fq) rfl rfl i0 _ Try.underlying29 hii hz0 hz1 (by omega) (by omega) ?_) | (at_builtin; refine wpList_append_own_at _ rfl _ _ 29 rfl U.heap.size 34 i0 _ 15 168 Try.underlying29 hii hz0 hz1 hz2 (by kernel_rfl) (by decide) u17 _ _ rfl (World.ownsRow.alloc HOZ.out _) ⟨Z.heap.size, 0, none⟩ 1 1 (vcs fq) rfl rfl (rowVQ_new _ _) HO1.out (by unfold maxLen; omega) (by omega) (by simp; omega) ?_; intro v1 w1 hown4 hgrow4 hnil4 hloc4; have HO4 := hide hown4; have HG4 := hide hgrow4; clear hown4 hgrow4 hnil4 hloc4))
        have BW1 : Hid (Below U.heap.size U w1) := ((HB.out.trans (HBZ.out.mono hUw)).alloc (by omega) _).grown HG4.out (by simp; omega) (fun j hj => (HOZ.out.lt j hj).1)
        have HT1 : Hid (w1.ownsRow U.heap.size 34 15 v1 ((List.range (q + 1)).map (sA n os rd who c seq a k cap l)).length ((((List.range (q + 1)).map (sA n os rd who c seq a k cap l)).map vcs).flatten)) := by
          show World.ownsRow _ _ _ _ _ _ _
          rw [HSA.out, List.map_append, List.flatten_append, List.length_append]
          have := HO4.out
          simpa using this
        go_roundw
        case rel => exact ⟨q + 1, by go_num, by omega, HT1, BW1⟩
        case measure => simp [intOf]; omega
      · have HFE : Hid (sA n os rd who c seq a k cap l q = nV q) := by show _ = _; unfold sA; rw [List.getElem?_eq_none (by have := HOL.out; omega)]
        have HFZ : Hid (Blk Y wr.heap.size (vcs (sA n os rd who c seq a k cap l q))) := by rw [HFE.out]; exact HVY.out
        have HBZ : Hid (Below wr.heap.size wr Y) := BY.out
        have HO1 := hide (vcs_one (sA n os rd who c seq a k cap l q))
        have HSA : Hid ((List.range (q + 1)).map (sA n os rd who c seq a k cap l) = (List.range q).map (sA n os rd who c seq a k cap l) ++ [sA n os rd who c seq a k cap l q]) := allF_snoc2 q
        have HOZ : Hid (Y.ownsRow U.heap.size 34 15 u17 ((List.range q).map (sA n os rd who c seq a k cap l)).length ((((List.range q).map (sA n os rd who c seq a k cap l)).map vcs).flatten)) := own_below HO.out HBZ.out (Nat.le_refl _)
        have hlA : ((List.range q).map (sA n os rd who c seq a k cap l)).length = q := by simp
        have hwz : wr.heap.size < Y.heap.size := HFZ.out.lt
        have hUw := HB.out.size
        clear HO
        generalize hfq : sA n os rd who c seq a k cap l q = fq at *
        generalize (List.range q).map (sA n os rd who c seq a k cap l) = fl at *
        go_wp2_with (first | (refine wpList_load_mid rfl 34 _ rfl wr.heap.size 0 rfl (vcs fq) _ HFZ.out.range Try.underlying34 rfl (by kernel_rfl) ?_) | (refine wpList_buildOne rfl 29 34 _ rfl 15 (vcs fq) rfl rfl i0 _ Try.underlying29 hii hz0 hz1 (by omega) (by omega) ?_) | (at_builtin; refine wpList_append_own_at _ rfl _ _ 29 rfl U.heap.size 34 i0 _ 15 168 Try.underlying29 hii hz0 hz1 hz2 (by kernel_rfl) (by decide) u17 _ _ rfl (World.ownsRow.alloc HOZ.out _) ⟨Y.heap.size, 0, none⟩ 1 1 (vcs fq) rfl rfl (rowVQ_new _ _) HO1.out (by unfold maxLen; omega) (by omega) (by simp; omega) ?_; intro v1 w1 hown4 hgrow4 hnil4 hloc4; have HO4 := hide hown4; have HG4 := hide hgrow4; clear hown4 hgrow4 hnil4 hloc4))
        have BW1 : Hid (Below U.heap.size U w1) := ((HB.out.trans (HBZ.out.mono hUw)).alloc (by omega) _).grown HG4.out (by simp; omega) (fun j hj => (HOZ.out.lt j hj).1)
        have HT1 : Hid (w1.ownsRow U.heap.size 34 15 v1 ((List.range (q + 1)).map (sA n os rd who c seq a k cap l)).length ((((List.range (q + 1)).map (sA n os rd who c seq a k cap l)).map vcs).flatten)) := by
          show World.ownsRow _ _ _ _ _ _ _
          rw [HSA.out, List.map_append, List.flatten_append, List.length_append]
          have := HO4.out
          simpa using this
        go_roundw
        case rel => exact ⟨q + 1, by go_num, by omega, HT1, BW1⟩
        case measure => simp [intOf]; omega
    · obtain hqn : q = n := by omega
      rw [hqn] at HO
      clear hqn hq
      obtain ⟨g, xc, rfl, hgU, hxc, hblk⟩ := blk_of_own HO.out (by simp; omega) (by rw [vcs_flat])
      have hlA : ((List.range n).map (sA n os rd who c seq a k cap l)).length = n := by simp
      rw [← sU_nil] at hblk
      rw [hlA] at hxc ⊢
      have HBK := hide hblk
      have HCH := chosen_any n (n / 2 + 1) (-1) wa Pw wc wh wr hn7 (by omega) hPw (HWH.out.below HB.out (Nat.le_refl _))
      rw [show ((n / 2 + 1 : Nat) : Int) = (n : Int) / 2 + 1 by omega] at HCH
      have HCH2 := hide HCH
      clear HCH hblk HO HWH
      go_upto_region 9 with fail
      clear hlt
      go_wp2_with fail
      refine HCH2.out.mono ?_
      rintro e w1 ⟨hv, rfl, ho1, hb1⟩
      have BW1 : Hid (Below U.heap.size U w1) := HB.out.trans (hb1.mono HB.out.size)
      have HB1 : Hid (Blk w1 g (((List.range n).map (sU n os rd who c seq a k cap l [])).map vcs).flatten) := HBK.out.on hb1
      obtain ⟨hs, hhs⟩ : ∃ hs, chQ n (-1) (n / 2 + 1) wh = hs := ⟨_, rfl⟩
      rw [hhs] at HPL HCW ho1
      have hhl : 0 < hs.length := by rw [← hhs, ch_len (-1) (by decide) (n / 2 + 1) (by omega)]; omega
      obtain ⟨gh, hc, rfl, hmine⟩ := mineI_of ho1 hhl
      have HGH : Hid (g < wr.heap.size ∧ wr.heap.size ≤ gh) := ⟨HBK.out.lt, hmine.2.2.2.2⟩
      have HMI0 := hide hmine
      have HHF := HCW
      have hl8 : hs.length < 9 := by have := HHF.out.2.2.1; omega
      generalize wr.heap.size = D at *
      clear hhs ho1 hb1 hmine HCH2 HB HBK HCW
      generalize hWn : w1 = W1 at *
      clear hWn
      go_wp2_with fail
      go_loopw [21] (fun i wr => ∃ z : Nat, i = .int .i64 (z : Int) ∧ z ≤ hs.length ∧ Hid (Blk wr g (((List.range n).map (sU n os rd who c seq a k cap l (hs.take z))).map vcs).flatten) ∧ Hid (Below U.heap.size U wr) ∧ Hid (MineI wr D gh hs.length hc hs)) (fun i _ => hs.length - (intOf i).toNat)
      case atStart => exact ⟨0, rfl, Nat.zero_le _, HB1, BW1, HMI0⟩
      case round =>
        obtain ⟨q, rfl, hq, HG, HB, HMI⟩ := hrel
        by_cases hlt : q < hs.length
        · have cx := HMI.out.cell hlt
          have hqx : hs[q]? = some (hs.getD q 0) := by rw [List.getD, List.getElem?_eq_getElem hlt]; rfl
          have hxr := HHF.out.2.1 _ (List.mem_of_getElem? hqx)
          obtain ⟨x, hx⟩ : ∃ x : Nat, hs.getD q 0 = (x : Int) := ⟨(hs.getD q 0).toNat, by omega⟩
          rw [hx] at cx hqx hxr
          clear hx
          have hxn : x < n := by omega
          obtain ⟨sv, hsv⟩ : ∃ v, sA n os rd who c seq a k cap l x = v := ⟨_, rfl⟩
          have HSX := hide hsv
          have HST := hide (sU_step (n := n) (os := os) (rd := rd) (who := who) (c := c) (seq := seq) (a := a) (k := k) (cap := cap) (l := l) HHF.out.1 hqx hxn)
          have hat : ((List.range n).map (sU n os rd who c seq a k cap l (hs.take q)))[x]? = some sv := by
            rw [List.getElem?_map, List.getElem?_range hxn, ← hsv, ← sU_at (n := n) (os := os) (rd := rd) (who := who) (c := c) (seq := seq) (a := a) (k := k) (cap := cap) (l := l) HHF.out.1 hqx]
            rfl
          have HVX : Hid (wr.rangeAt g (x * 15) (vcs sv)) := blk_vote HG.out hat
          have hgw : g < wr.heap.size := HG.out.lt
          have RB : Hid (wr.rangeAt w.heap.size 0 [.int .i64 rd, .int .i64 who]) := (Q1.out.on HB.out).range
          have hUw := HB.out.size
          have hq3 := Q3.out.lt
          clear hqx hsv hat
          go_upto_region 14 with fail
          by_cases hst : sv.st = 0
          · have b1 : (sv.st != 0) = false := by simp [hst]
            obtain ⟨WD, hWD⟩ : ∃ WD, WD = wr.drew := ⟨_, rfl⟩
            have HGd : Hid (Blk WD g (((List.range n).map (sU n os rd who c seq a k cap l (hs.take q))).map vcs).flatten) := by rw [hWD]; exact HG.out.drewN 1
            have HBd : Hid (Below U.heap.size U WD) := by rw [hWD]; exact HB.out.drew
            have HMd : Hid (MineI WD D gh hs.length hc hs) := by rw [hWD]; exact HMI.out.drewN 1
            have HWD := hide hWD
            clear hWD
            clear hst
            refine wp_region_held_drew (S := (fun W' => W'.rangeAt g (x * 15) (vcs sv) ∧ W'.rangeAt w.heap.size 0 [.int .i64 rd, .int .i64 who])) (by kernel_rfl) ⟨HVX.out, RB.out⟩ (fun hHeld => ?_)
            refine wpAnyH_take (i := 0) (v := ?_) rfl (by kernel_rfl) (by kernel_rfl) (by kernel_rfl) (fun _ _ _ h => h) (Or.inl ⟨by rfl, ?_⟩) (by assumption) ?_
            rotate_left
            · intro w hSw
              try dsimp only at hSw
              go_simp
              try with_reducible rfl
            try simp only [Act.put, List.getElem_toArray, List.getElem_cons_zero, List.setIfInBounds_toArray, List.set_cons_zero, List.set_cons_succ]
            refine wpAnyH_take (i := 1) (v := ?_) rfl (by kernel_rfl) (by kernel_rfl) (by kernel_rfl) (fun _ _ _ h => h) (Or.inl ⟨by rfl, ?_⟩) (by assumption) ?_
            rotate_left
            · intro w hSw
              try dsimp only at hSw
              go_simp
              try with_reducible rfl
            try simp only [Act.put, List.getElem_toArray, List.getElem_cons_succ, List.getElem_cons_zero, List.setIfInBounds_toArray, List.set_cons_zero, List.set_cons_succ]
            refine wpAnyH_take (i := 2) (v := ?_) rfl (by kernel_rfl) (by kernel_rfl) (by kernel_rfl) (fun _ _ _ h => h) (Or.inl ⟨by rfl, ?_⟩) (by assumption) ?_
            rotate_left
            · intro w hSw
              try dsimp only at hSw
              go_simp
              try with_reducible rfl
            try simp only [Act.put, List.getElem_toArray, List.getElem_cons_succ, List.getElem_cons_zero, List.setIfInBounds_toArray, List.set_cons_zero, List.set_cons_succ]
            refine wpAnyH_take (i := 3) (v := ?_) rfl (by kernel_rfl) (by kernel_rfl) (by kernel_rfl) (fun _ _ _ h => h) (Or.inl ⟨by rfl, ?_⟩) (by assumption) ?_
            rotate_left
            · intro w hSw
              try dsimp only at hSw
              go_simp
              try with_reducible rfl
            try simp only [Act.put, List.getElem_toArray, List.getElem_cons_succ, List.getElem_cons_zero, List.setIfInBounds_toArray, List.set_cons_zero, List.set_cons_succ]
            refine wpAnyH_take (i := 4) (v := ?_) rfl (by kernel_rfl) (by kernel_rfl) (by kernel_rfl) (fun _ _ _ h => h) (Or.inl ⟨by rfl, ?_⟩) (by assumption) ?_
            rotate_left
            · intro w hSw
              try dsimp only at hSw
              have s1 := hSw.1 1 _ (vcs1 sv)
              go_simp
              try with_reducible rfl
            try simp only [Act.put, List.getElem_toArray, List.getElem_cons_succ, List.getElem_cons_zero, List.setIfInBounds_toArray, List.set_cons_zero, List.set_cons_succ]
            refine wpAnyH_take (i := 5) (v := ?_) rfl (by kernel_rfl) (by kernel_rfl) (by kernel_rfl) (fun _ _ _ h => h) (Or.inl ⟨by rfl, ?_⟩) (by assumption) ?_
            rotate_left
            · intro w hSw
              try dsimp only at hSw
              go_simp
              try with_reducible rfl
            try simp only [Act.put, List.getElem_toArray, List.getElem_cons_succ, List.getElem_cons_zero, List.setIfInBounds_toArray, List.set_cons_zero, List.set_cons_succ]
            refine wpAnyH_take (i := 6) (v := ?_) rfl (by kernel_rfl) (by kernel_rfl) (by kernel_rfl) (fun _ _ _ h => h) (Or.inl ⟨by rfl, ?_⟩) (by assumption) ?_
            rotate_left
            · intro w hSw
              try dsimp only at hSw
              go_simp
              try with_reducible rfl
            try simp only [Act.put, List.getElem_toArray, List.getElem_cons_succ, List.getElem_cons_zero, List.setIfInBounds_toArray, List.set_cons_zero, List.set_cons_succ]
            refine wpAnyH_take (i := 7) (v := undef) rfl (by kernel_rfl) (by kernel_rfl) (by kernel_rfl) (fun _ _ _ h => h) (Or.inr ⟨by rfl, rfl⟩) (by assumption) ?_
            try simp only [Act.put, List.getElem_toArray, List.getElem_cons_succ, List.getElem_cons_zero, List.setIfInBounds_toArray, List.set_cons_zero, List.set_cons_succ]
            refine wpAnyH_take (i := 8) (v := undef) rfl (by kernel_rfl) (by kernel_rfl) (by kernel_rfl) (fun _ _ _ h => h) (Or.inr ⟨by rfl, rfl⟩) (by assumption) ?_
            try simp only [Act.put, List.getElem_toArray, List.getElem_cons_succ, List.getElem_cons_zero, List.setIfInBounds_toArray, List.set_cons_zero, List.set_cons_succ]
            refine wpAnyH_take (i := 9) (v := undef) rfl (by kernel_rfl) (by kernel_rfl) (by kernel_rfl) (fun _ _ _ h => h) (Or.inr ⟨by rfl, rfl⟩) (by assumption) ?_
            try simp only [Act.put, List.getElem_toArray, List.getElem_cons_succ, List.getElem_cons_zero, List.setIfInBounds_toArray, List.set_cons_zero, List.set_cons_succ]
            refine wpAnyH_take (i := 10) (v := undef) rfl (by kernel_rfl) (by kernel_rfl) (by kernel_rfl) (fun _ _ _ h => h) (Or.inr ⟨by rfl, rfl⟩) (by assumption) ?_
            try simp only [Act.put, List.getElem_toArray, List.getElem_cons_succ, List.getElem_cons_zero, List.setIfInBounds_toArray, List.set_cons_zero, List.set_cons_succ]
            refine wpAnyH_take (i := 11) (v := undef) rfl (by kernel_rfl) (by kernel_rfl) (by kernel_rfl) (fun _ _ _ h => h) (Or.inr ⟨by rfl, rfl⟩) (by assumption) ?_
            try simp only [Act.put, List.getElem_toArray, List.getElem_cons_succ, List.getElem_cons_zero, List.setIfInBounds_toArray, List.set_cons_zero, List.set_cons_succ]
            refine wpAnyH_take (i := 12) (v := undef) rfl (by kernel_rfl) (by kernel_rfl) (by kernel_rfl) (fun _ _ _ h => h) (Or.inr ⟨by rfl, rfl⟩) (by assumption) ?_
            try simp only [Act.put, List.getElem_toArray, List.getElem_cons_succ, List.getElem_cons_zero, List.setIfInBounds_toArray, List.set_cons_zero, List.set_cons_succ]
            refine wpAnyH_take (i := 13) (v := undef) rfl (by kernel_rfl) (by kernel_rfl) (by kernel_rfl) (fun _ _ _ h => h) (Or.inr ⟨by rfl, rfl⟩) (by assumption) ?_
            try simp only [Act.put, List.getElem_toArray, List.getElem_cons_succ, List.getElem_cons_zero, List.setIfInBounds_toArray, List.set_cons_zero, List.set_cons_succ]
            refine wpAnyH_take (i := 14) (v := ?_) rfl (by kernel_rfl) (by kernel_rfl) (by kernel_rfl) (fun _ _ _ h => h) (Or.inl ⟨by rfl, ?_⟩) (by assumption) ?_
            rotate_left
            · intro w hSw
              try dsimp only at hSw
              go_simp
              try with_reducible rfl
            try simp only [Act.put, List.getElem_toArray, List.getElem_cons_succ, List.getElem_cons_zero, List.setIfInBounds_toArray, List.set_cons_zero, List.set_cons_succ]
            refine wpAnyH_take (i := 15) (v := ?_) rfl (by kernel_rfl) (by kernel_rfl) (by kernel_rfl) (fun _ _ _ h => h) (Or.inl ⟨by rfl, ?_⟩) (by assumption) ?_
            rotate_left
            · intro w hSw
              try dsimp only at hSw
              go_simp
              try with_reducible rfl
            try simp only [Act.put, List.getElem_toArray, List.getElem_cons_succ, List.getElem_cons_zero, List.setIfInBounds_toArray, List.set_cons_zero, List.set_cons_succ]
            refine wpAnyH_done (by kernel_rfl) ?_ _
            rw [show wr.drew = WD from HWD.out.symm]
            have HAB : Hid (abQ rd who (sA n os rd who c seq a k cap l x) = false) := by show _ = _; rw [HSX.out]; unfold abQ; rw [b1]; rfl
            have HG2 : Hid ((List.range n).map (sU n os rd who c seq a k cap l (hs.take (q + 1))) = ((List.range n).map (sU n os rd who c seq a k cap l (hs.take q))).set x (hV rd who c seq a k cap l x)) := by show _ = _; rw [HST.out, if_pos HAB.out]
            have BG5 := hide HGd.out
            have BB5 := hide HBd.out
            have HTH : Hid (World.there WD g (x * 15) 15) := blk_there BG5.out (by simp; omega)
            have R1s : Hid (Blk WD w.heap.size [.int .i64 rd, .int .i64 who]) := Q1.out.on BB5.out
            have R2s : Hid (Blk WD (w.heap.size + 1) (ccs c)) := Q2.out.on BB5.out
            have R3s : Hid (Blk WD (w.heap.size + 1 + 1) [.int .i64 seq, .slice a k cap]) := Q3.out.on BB5.out
            have e30 := R3s.out.cell 0 _ rfl
            have e31 := R3s.out.cell 1 _ rfl
            obtain ⟨Z, hZ⟩ : ∃ Z, Z = World.setCells WD g (x * 15) (vcs (hV rd who c seq a k cap l x)) := ⟨_, rfl⟩
            have BGZ : Hid (Blk Z g ((((List.range n).map (sU n os rd who c seq a k cap l (hs.take q))).set x (hV rd who c seq a k cap l x)).map vcs).flatten) := by rw [hZ]; exact blk_put BG5.out (by simp; omega)
            have BXZ : Hid (MineI Z D gh hs.length hc hs) := by rw [hZ]; exact mine_other (HMd).out (by have h1 := HGH.out.1; have h2 := HGH.out.2; omega)
            have BBZ : Hid (Below U.heap.size U Z) := by rw [hZ]; exact below_cells hgU _ _ _ BB5.out
            have HZ2 := hide hZ
            clear hZ
            go_wp2_with (first | (refine wpList_load_mid rfl 23 _ rfl w.heap.size 0 rfl [.int .i64 rd, .int .i64 who] _ R1s.out.range Try.underlying23 rfl (by kernel_rfl) ?_) | (refine wpList_load_mid rfl 25 _ rfl (w.heap.size + 1) 0 rfl (ccs c) _ R2s.out.range Try.underlying25 rfl (by kernel_rfl) ?_) | (refine wpList_buildQ rfl 34 _ rfl [(0, .int .i64 (x : Int)), (1, .int .i64 2), (3, .agg #[.int .i64 rd, .int .i64 who]), (4, .agg (ccs c).toArray), (5, .int .i64 seq), (6, .slice a k cap)] rfl _ (built_voteA (x : Int) 2 rd who c seq a k cap l) ?_) | (refine wpList_store_mid rfl 34 _ _ rfl g (x * 15) (vcs (hV rd who c seq a k cap l x)).toArray rfl rfl HTH.out (by kernel_rfl) (all_oneCell_toArray (vcs_one _)) ?_; first | rw [← HZ2.out] | (simp only [List.toList_toArray]; rw [← HZ2.out])))
            go_roundw
            case rel => exact ⟨q + 1, by go_num, by omega, by rw [HG2.out]; exact BGZ, BBZ, BXZ⟩
            case measure => simp [intOf]; omega
          · have b1 : (sv.st != 0) = true := by simp [hst]
            clear hst
            refine wp_region_held_drew (S := (fun W' => W'.rangeAt g (x * 15) (vcs sv) ∧ W'.rangeAt w.heap.size 0 [.int .i64 rd, .int .i64 who])) (by kernel_rfl) ⟨HVX.out, RB.out⟩ (fun hHeld => ?_)
            refine wpAnyH_take (i := 0) (v := ?_) rfl (by kernel_rfl) (by kernel_rfl) (by kernel_rfl) (fun _ _ _ h => h) (Or.inl ⟨by rfl, ?_⟩) (by assumption) ?_
            rotate_left
            · intro w hSw
              try dsimp only at hSw
              go_simp
              try with_reducible rfl
            try simp only [Act.put, List.getElem_toArray, List.getElem_cons_zero, List.setIfInBounds_toArray, List.set_cons_zero, List.set_cons_succ]
            refine wpAnyH_take (i := 1) (v := ?_) rfl (by kernel_rfl) (by kernel_rfl) (by kernel_rfl) (fun _ _ _ h => h) (Or.inl ⟨by rfl, ?_⟩) (by assumption) ?_
            rotate_left
            · intro w hSw
              try dsimp only at hSw
              go_simp
              try with_reducible rfl
            try simp only [Act.put, List.getElem_toArray, List.getElem_cons_succ, List.getElem_cons_zero, List.setIfInBounds_toArray, List.set_cons_zero, List.set_cons_succ]
            refine wpAnyH_take (i := 2) (v := ?_) rfl (by kernel_rfl) (by kernel_rfl) (by kernel_rfl) (fun _ _ _ h => h) (Or.inl ⟨by rfl, ?_⟩) (by assumption) ?_
            rotate_left
            · intro w hSw
              try dsimp only at hSw
              go_simp
              try with_reducible rfl
            try simp only [Act.put, List.getElem_toArray, List.getElem_cons_succ, List.getElem_cons_zero, List.setIfInBounds_toArray, List.set_cons_zero, List.set_cons_succ]
            refine wpAnyH_take (i := 3) (v := ?_) rfl (by kernel_rfl) (by kernel_rfl) (by kernel_rfl) (fun _ _ _ h => h) (Or.inl ⟨by rfl, ?_⟩) (by assumption) ?_
            rotate_left
            · intro w hSw
              try dsimp only at hSw
              go_simp
              try with_reducible rfl
            try simp only [Act.put, List.getElem_toArray, List.getElem_cons_succ, List.getElem_cons_zero, List.setIfInBounds_toArray, List.set_cons_zero, List.set_cons_succ]
            refine wpAnyH_take (i := 4) (v := ?_) rfl (by kernel_rfl) (by kernel_rfl) (by kernel_rfl) (fun _ _ _ h => h) (Or.inl ⟨by rfl, ?_⟩) (by assumption) ?_
            rotate_left
            · intro w hSw
              try dsimp only at hSw
              have s1 := hSw.1 1 _ (vcs1 sv)
              go_simp
              try with_reducible rfl
            try simp only [Act.put, List.getElem_toArray, List.getElem_cons_succ, List.getElem_cons_zero, List.setIfInBounds_toArray, List.set_cons_zero, List.set_cons_succ]
            refine wpAnyH_take (i := 5) (v := ?_) rfl (by kernel_rfl) (by kernel_rfl) (by kernel_rfl) (fun _ _ _ h => h) (Or.inl ⟨by rfl, ?_⟩) (by assumption) ?_
            rotate_left
            · intro w hSw
              try dsimp only at hSw
              go_simp
              try with_reducible rfl
            try simp only [Act.put, List.getElem_toArray, List.getElem_cons_succ, List.getElem_cons_zero, List.setIfInBounds_toArray, List.set_cons_zero, List.set_cons_succ]
            refine wpAnyH_take (i := 6) (v := ?_) rfl (by kernel_rfl) (by kernel_rfl) (by kernel_rfl) (fun _ _ _ h => h) (Or.inl ⟨by rfl, ?_⟩) (by assumption) ?_
            rotate_left
            · intro w hSw
              try dsimp only at hSw
              go_simp
              try with_reducible rfl
            try simp only [Act.put, List.getElem_toArray, List.getElem_cons_succ, List.getElem_cons_zero, List.setIfInBounds_toArray, List.set_cons_zero, List.set_cons_succ]
            refine wpAnyH_take (i := 7) rfl (by kernel_rfl) (by kernel_rfl) (by kernel_rfl) (fun _ _ _ h => h) (yieldsIf_load_mid (by rfl) 23 _ rfl w.heap.size 0 rfl [.int .i64 rd, .int .i64 who] _ (fun _ h => h.2) Try.underlying23 rfl (by kernel_rfl)) (by assumption) ?_
            try simp only [Act.put, List.getElem_toArray, List.getElem_cons_succ, List.getElem_cons_zero, List.setIfInBounds_toArray, List.set_cons_zero, List.set_cons_succ]
            refine wpAnyH_take (i := 8) (v := ?_) rfl (by kernel_rfl) (by kernel_rfl) (by kernel_rfl) (fun _ _ _ h => h) (Or.inl ⟨by rfl, ?_⟩) (by assumption) ?_
            rotate_left
            · intro w hSw
              try dsimp only at hSw
              go_simp
              try with_reducible rfl
            try simp only [Act.put, List.getElem_toArray, List.getElem_cons_succ, List.getElem_cons_zero, List.setIfInBounds_toArray, List.set_cons_zero, List.set_cons_succ]
            refine wpAnyH_take (i := 9) (v := ?_) rfl (by kernel_rfl) (by kernel_rfl) (by kernel_rfl) (fun _ _ _ h => h) (Or.inl ⟨by rfl, ?_⟩) (by assumption) ?_
            rotate_left
            · intro w hSw
              try dsimp only at hSw
              go_simp
              try with_reducible rfl
            try simp only [Act.put, List.getElem_toArray, List.getElem_cons_succ, List.getElem_cons_zero, List.setIfInBounds_toArray, List.set_cons_zero, List.set_cons_succ]
            refine wpAnyH_take (i := 10) (v := ?_) rfl (by kernel_rfl) (by kernel_rfl) (by kernel_rfl) (fun _ _ _ h => h) (Or.inl ⟨by rfl, ?_⟩) (by assumption) ?_
            rotate_left
            · intro w hSw
              try dsimp only at hSw
              go_simp
              try with_reducible rfl
            try simp only [Act.put, List.getElem_toArray, List.getElem_cons_succ, List.getElem_cons_zero, List.setIfInBounds_toArray, List.set_cons_zero, List.set_cons_succ]
            refine wpAnyH_take (i := 11) (v := ?_) rfl (by kernel_rfl) (by kernel_rfl) (by kernel_rfl) (fun _ _ _ h => h) (Or.inl ⟨by rfl, ?_⟩) (by assumption) ?_
            rotate_left
            · intro w hSw
              try dsimp only at hSw
              go_simp
              try with_reducible rfl
            try simp only [Act.put, List.getElem_toArray, List.getElem_cons_succ, List.getElem_cons_zero, List.setIfInBounds_toArray, List.set_cons_zero, List.set_cons_succ]
            refine wpAnyH_take (i := 12) rfl (by kernel_rfl) (by kernel_rfl) (by kernel_rfl) (fun _ _ _ h => h) (yieldsIf_load_mid (by rfl) 23 _ rfl g (x * 15 + 3) rfl [.int .i64 sv.rd, .int .i64 sv.who] _ (fun _ h => rng_bal h.1) Try.underlying23 rfl (by kernel_rfl)) (by assumption) ?_
            try simp only [Act.put, List.getElem_toArray, List.getElem_cons_succ, List.getElem_cons_zero, List.setIfInBounds_toArray, List.set_cons_zero, List.set_cons_succ]
            refine wpAnyH_ready (rs := [13]) (by kernel_rfl) (by simp) ?_
            refine AllReadyH.cons rfl (fun K hK => ?_) AllReadyH.nil
            rw [if_pos (by rfl)]
            go_wp2_with fail
            refine (qbelow_any _ _ _ _ _).mono ?_
            rintro e w5 ⟨rfl, hb5⟩
            have HB5 : Hid (Below wr.heap.size wr w5) := (Below.refl wr.heap.size wr).drew.trans hb5
            clear hb5
            refine hK.out _ _ ⟨range_below HVX.out HB5.out hgw, range_below RB.out HB5.out (by omega)⟩ (fun hHeld => ?_)
            clear hK K
            try simp only [Act.put, List.getElem_toArray, List.getElem_cons_succ, List.getElem_cons_zero, List.setIfInBounds_toArray, List.set_cons_zero, List.set_cons_succ]
            refine wpAnyH_take (i := 14) (v := ?_) rfl (by kernel_rfl) (by kernel_rfl) (by kernel_rfl) (fun _ _ _ h => h) (Or.inl ⟨by rfl, ?_⟩) (by assumption) ?_
            rotate_left
            · intro w hSw
              try dsimp only at hSw
              go_simp
              try with_reducible rfl
            try simp only [Act.put, List.getElem_toArray, List.getElem_cons_succ, List.getElem_cons_zero, List.setIfInBounds_toArray, List.set_cons_zero, List.set_cons_succ]
            refine wpAnyH_take (i := 15) (v := ?_) rfl (by kernel_rfl) (by kernel_rfl) (by kernel_rfl) (fun _ _ _ h => h) (Or.inl ⟨by rfl, ?_⟩) (by assumption) ?_
            rotate_left
            · intro w hSw
              try dsimp only at hSw
              go_simp
              try with_reducible rfl
            try simp only [Act.put, List.getElem_toArray, List.getElem_cons_succ, List.getElem_cons_zero, List.setIfInBounds_toArray, List.set_cons_zero, List.set_cons_succ]
            refine wpAnyH_done (by kernel_rfl) ?_ _
            have BW5 : Hid (Below U.heap.size U w5) := HB.out.trans (HB5.out.mono HB.out.size)
            have BM5 : Hid (MineI w5 D gh hs.length hc hs) := HMI.out.below HB5.out (Nat.le_refl _)
            have BGW : Hid (Blk w5 g (((List.range n).map (sU n os rd who c seq a k cap l (hs.take q))).map vcs).flatten) := HG.out.on HB5.out
            cases hbb : blB rd who sv.rd sv.who with
            | true =>
              have HAB : Hid (abQ rd who (sA n os rd who c seq a k cap l x) = true) := by show _ = _; rw [HSX.out]; unfold abQ; rw [b1, hbb]; rfl
              clear hbb
              have HG2 : Hid ((List.range n).map (sU n os rd who c seq a k cap l (hs.take (q + 1))) = (List.range n).map (sU n os rd who c seq a k cap l (hs.take q))) := by show _ = _; rw [HST.out, if_neg (by rw [HAB.out]; simp)]
              go_wp2
              go_roundw
              case rel => exact ⟨q + 1, by go_num, by omega, by rw [HG2.out]; exact BGW, BW5, BM5⟩
              case measure => simp [intOf]; omega
            | false =>
              have HAB : Hid (abQ rd who (sA n os rd who c seq a k cap l x) = false) := by show _ = _; rw [HSX.out]; unfold abQ; rw [hbb, Bool.and_false]
              clear hbb
              have HG2 : Hid ((List.range n).map (sU n os rd who c seq a k cap l (hs.take (q + 1))) = ((List.range n).map (sU n os rd who c seq a k cap l (hs.take q))).set x (hV rd who c seq a k cap l x)) := by show _ = _; rw [HST.out, if_pos HAB.out]
              have BG5 := hide BGW.out
              have BB5 := hide BW5.out
              have HTH : Hid (World.there w5 g (x * 15) 15) := blk_there BG5.out (by simp; omega)
              have R1s : Hid (Blk w5 w.heap.size [.int .i64 rd, .int .i64 who]) := Q1.out.on BB5.out
              have R2s : Hid (Blk w5 (w.heap.size + 1) (ccs c)) := Q2.out.on BB5.out
              have R3s : Hid (Blk w5 (w.heap.size + 1 + 1) [.int .i64 seq, .slice a k cap]) := Q3.out.on BB5.out
              have e30 := R3s.out.cell 0 _ rfl
              have e31 := R3s.out.cell 1 _ rfl
              obtain ⟨Z, hZ⟩ : ∃ Z, Z = World.setCells w5 g (x * 15) (vcs (hV rd who c seq a k cap l x)) := ⟨_, rfl⟩
              have BGZ : Hid (Blk Z g ((((List.range n).map (sU n os rd who c seq a k cap l (hs.take q))).set x (hV rd who c seq a k cap l x)).map vcs).flatten) := by rw [hZ]; exact blk_put BG5.out (by simp; omega)
              have BXZ : Hid (MineI Z D gh hs.length hc hs) := by rw [hZ]; exact mine_other (BM5).out (by have h1 := HGH.out.1; have h2 := HGH.out.2; omega)
              have BBZ : Hid (Below U.heap.size U Z) := by rw [hZ]; exact below_cells hgU _ _ _ BB5.out
              have HZ2 := hide hZ
              clear hZ
              go_wp2_with (first | (refine wpList_load_mid rfl 23 _ rfl w.heap.size 0 rfl [.int .i64 rd, .int .i64 who] _ R1s.out.range Try.underlying23 rfl (by kernel_rfl) ?_) | (refine wpList_load_mid rfl 25 _ rfl (w.heap.size + 1) 0 rfl (ccs c) _ R2s.out.range Try.underlying25 rfl (by kernel_rfl) ?_) | (refine wpList_buildQ rfl 34 _ rfl [(0, .int .i64 (x : Int)), (1, .int .i64 2), (3, .agg #[.int .i64 rd, .int .i64 who]), (4, .agg (ccs c).toArray), (5, .int .i64 seq), (6, .slice a k cap)] rfl _ (built_voteA (x : Int) 2 rd who c seq a k cap l) ?_) | (refine wpList_store_mid rfl 34 _ _ rfl g (x * 15) (vcs (hV rd who c seq a k cap l x)).toArray rfl rfl HTH.out (by kernel_rfl) (all_oneCell_toArray (vcs_one _)) ?_; first | rw [← HZ2.out] | (simp only [List.toList_toArray]; rw [← HZ2.out])))
              go_roundw
              case rel => exact ⟨q + 1, by go_num, by omega, by rw [HG2.out]; exact BGZ, BBZ, BXZ⟩
              case measure => simp [intOf]; omega
        · obtain rfl : q = hs.length := by omega
          have HT : Hid (hs.take hs.length = hs) := List.take_of_length_le (Nat.le_refl _)
          rw [HT.out] at HG
          obtain ⟨AL, hAL⟩ : ∃ AL, AL = (List.range n).map (sU n os rd who c seq a k cap l hs) := ⟨_, rfl⟩
          rw [← hAL] at HG
          have HPL2 : Hid (planQ n (r : Int) (pickV AL (chQ n (-1) (n / 2 + 1) pick)) = (2, c, seq, l)) := by show _ = _; rw [hAL]; exact HPL.out
          have HAN : Hid (AL.length = n) := by show _ = _; rw [hAL]; simp
          have HVA : Hid (∀ v ∈ AL, Vok wr v) := fun v hv => by
            rw [hAL] at hv
            obtain ⟨i, hi, rfl⟩ := List.mem_map.1 hv
            exact (sU_ok hs HS.out HKC.out HOV.out (by have := List.mem_range.1 hi; omega)).below HB.out (Nat.le_refl _)
          have HRX := hide (blk_rowS HG.out (by rw [HAN.out]; unfold maxLen; omega))
          rw [HAN.out] at HRX
          clear hAL HPL HT HG HMI HHF HOV
          have hq3 := Q3.out.lt
          have B0 : Hid (Below w.heap.size w wr) := BU.out.trans (HB.out.mono (by omega))
          have R2 : Hid (Blk wr (w.heap.size + 1) (ccs c)) := Q2.out.on HB.out
          have R3 : Hid (Blk wr (w.heap.size + 1 + 1) [.int .i64 seq, .slice a k cap]) := Q3.out.on HB.out
          have S0 : Hid (SegI wr a k l) := HS.out.below HB.out (Nat.le_refl _)
          have P0 : Hid (SegI wr pa P pick) := HP.out.below HB.out (Nat.le_refl _)
          have HCH3 := chosen_any n (n / 2 + 1) (-1) pa P pc pick wr hn7 (by omega) hP P0.out
          rw [show ((n / 2 + 1 : Nat) : Int) = (n : Int) / 2 + 1 by omega] at HCH3
          have HCH2 := hide HCH3
          clear HCH3
          go_wp2_with fail
          refine HCH2.out.mono ?_
          rintro e w4 ⟨iv, rfl, ho4, hb4⟩
          obtain ⟨ia, ic, rfl, hic, hids⟩ := own_segI ho4 (fit_of (fun x hx => by have := HCP.out.2.1 x hx; omega))
          have HIDS := hide hids
          have B4 : Hid (Below w.heap.size w w4) := B0.out.trans (hb4.mono B0.out.size)
          have R2c : Hid (Blk w4 (w.heap.size + 1) (ccs c)) := R2.out.on hb4
          have R3c : Hid (Blk w4 (w.heap.size + 1 + 1) [.int .i64 seq, .slice a k cap]) := R3.out.on hb4
          have S4c : Hid (SegI w4 a k l) := S0.out.below hb4 (Nat.le_refl _)
          have HAC : Hid (Calls Try.prog 12 #[.int .i64 (n : Int), .int .i64 (r : Int), .slice (some ⟨g, 0, none⟩) n xc, .slice ia (chQ n (-1) (n / 2 + 1) pick).length ic, .agg (ccs c).toArray, .agg #[.int .i64 seq, .slice a k cap]] w4 fun e w' => e = .returned (.bool true) ∧ Below w4.heap.size w4 w') :=
            accepts_any n r (some ⟨g, 0, none⟩) n xc AL ia _ ic _ c seq a k cap l w4 (HRX.out.below hb4 (Nat.le_refl _) (by decide)) (fun v hv => (HVA.out v hv).below hb4 (Nat.le_refl _)) HIDS.out (fun x hx => by have := HCP.out.2.1 x hx; omega) (by have := HCP.out.2.2.1; omega) S4c.out (by omega) HPL2.out
          clear ho4 hb4 hids HIDS HRX HVA HCH2
          go_wp2_with (first | (refine wpList_load_mid rfl 25 _ rfl (w.heap.size + 1) 0 rfl (ccs c) _ R2c.out.range Try.underlying25 rfl (by kernel_rfl) ?_) | (refine wpList_load_mid rfl 28 _ rfl (w.heap.size + 1 + 1) 0 rfl [.int .i64 seq, .slice a k cap] _ R3c.out.range Try.underlying28 rfl (by kernel_rfl) ?_))
          refine HAC.out.mono ?_
          rintro e w5 ⟨rfl, hb5⟩
          have HB5 := hide (B4.out.trans (hb5.mono B4.out.size))
          clear hb5
          go_wp2
          go_ret
          exact ⟨rfl, HB5.out⟩
end Go.Proofs.Ytpbbbbmnboeffaa
