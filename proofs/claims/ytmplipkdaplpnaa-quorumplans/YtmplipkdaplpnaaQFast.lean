/- The contract of Fast. -/
import Derived.Test.YtmplipkdaplpnaaQSlow
namespace Go.Proofs.Ytmplipkdaplpnaa
open Go.RowKit Go.Wire1

set_option maxHeartbeats 4000000 in
set_option maxRecDepth 100000 in
theorem fast_any (n slf seq : Int) (a : Option Addr) (k c : Nat) (l : List Int) (va : Option Addr) (vc : Nat) (vs : List Vt) (w : World) (h : SegI w a k l) (hkc : k ≤ c) (hr : RowS w 15 va vs.length (vs.map vcs)) (hv : ∀ v ∈ vs, Vok w v) :
    Calls Try.prog 13 #[.int .i64 n, .int .i64 slf, .agg #[.int .i64 seq, .slice a k c], .slice va vs.length vc] w fun e w' => AnsP w (fastQ n slf seq l vs) e w' := by
  obtain ⟨U, hU⟩ : ∃ U, U = (w.alloc (.cells #[.int .i64 seq, .slice a k c] 24)).alloc (.cells #[.int .i64 0, .slice none 0 0] 24) := ⟨_, rfl⟩
  have BU : Hid (Below w.heap.size w U) := by rw [hU]; exact ((Below.refl _ w).alloc (Nat.le_refl _) _).alloc (by simp) _
  have QU : Hid (Blk U w.heap.size [.int .i64 seq, .slice a k c]) := by rw [hU]; exact (blk_new w 24 [.int .i64 seq, .slice a k c]).on ((Below.refl _ _).alloc (Nat.le_refl _) _)
  have ZU : Hid (Blk U (w.heap.size + 1) [.int .i64 0, .slice none 0 0]) := by
    have := blk_new (w.alloc (.cells #[.int .i64 seq, .slice a k c] 24)) 24 [.int .i64 0, .slice none 0 0]
    rw [World.size_alloc] at this
    rw [hU]; exact this
  have HS := hide h
  have HKC := hide hkc
  have HR := hide hr
  have HV := hide hv
  have o0 := QU.out.cell 0 _ rfl
  have o1 := QU.out.cell 1 _ rfl
  clear h hkc hr hv
  have W0 : Hid (World.heap w = w.heap) := rfl
  go_enter Try.func13, Try.ntmps13
  go_upto_region 1 with fail
  rw [← hU]
  clear hU
  go_wp2_with fail
  refine (qlead_any n slf seq a k c l _ (HS.out.below BU.out (Nat.le_refl _))).mono ?_
  rintro e w1 ⟨rfl, hb1⟩
  have B1 : Hid (Below w.heap.size w w1) := BU.out.trans (hb1.mono BU.out.size)
  have Q1 : Hid (Blk w1 w.heap.size [.int .i64 seq, .slice a k c]) := QU.out.on hb1
  have Z1 : Hid (Blk w1 (w.heap.size + 1) [.int .i64 0, .slice none 0 0]) := ZU.out.on hb1
  clear hb1 BU QU ZU o0 o1 W0
  cases hl : leadQ n slf seq l with
  | false =>
    have HQ : Hid (fastQ n slf seq l vs = (0, 0, [])) := by show _ = _; unfold fastQ; rw [hl]; rfl
    have z0 := Z1.out.cell 0 _ rfl
    have z1 := Z1.out.cell 1 _ rfl
    have f0 := Z1.out.thaw 0
    have f1 := Z1.out.thaw 1
    have hws := Z1.out.lt
    clear hl
    go_wp2
    rw [HQ.out]
    refine bodyPost_ret (qresults_tmp_cell Try.results13 _ _ (w.heap.size + 1) [.int .i64 0, .slice none 0 0] _ _ rfl rfl (box2_set Z1.out).range Try.underlying24 rfl (by kernel_rfl)) rfl (ansP_zero (below_store (below_store B1.out (by omega) _) (by omega) _))
  | true =>
    obtain ⟨hsz, hrp, hsn⟩ := lead_sz hl
    have HL := hide hl
    have HSZ := hide hsz
    have HSN := hide hsn
    have hn7 := sz_le hsz
    clear hl hsz hrp hsn
    go_wp2_with fail
    refine (gatA_any n slf va vc vs w1 hn7 (HR.out.below B1.out (Nat.le_refl _) (by decide)) (fun v hv => (HV.out v hv).below B1.out (Nat.le_refl _))).mono ?_
    rintro e w2 ⟨rfl, ht2, hb2⟩
    have HT2 := hide ht2
    have Q2 : Hid (Blk w2 w.heap.size [.int .i64 seq, .slice a k c]) := Q1.out.on hb2
    have Z2 : Hid (Blk w2 (w.heap.size + 1) [.int .i64 0, .slice none 0 0]) := Z1.out.on hb2
    have B2 : Hid (Below w.heap.size w w2) := B1.out.trans (hb2.mono B1.out.size)
    clear ht2 hb2 Q1 Z1 B1
    go_wp2_with fail
    refine (ansA_any HT2.out).mono ?_
    rintro e w3 ⟨ta, tc, rfl, htc, hrow, hb3⟩
    have hans : ansQ (talA n slf vs) = (toldA n slf vs).map acs := by unfold talA toldA; exact ansQ_mapV _ _
    rw [hans, List.length_map] at hrow htc ⊢
    have HTR := hide hrow
    have Q3 : Hid (Blk w3 w.heap.size [.int .i64 seq, .slice a k c]) := Q2.out.on hb3
    have Z3 : Hid (Blk w3 (w.heap.size + 1) [.int .i64 0, .slice none 0 0]) := Z2.out.on hb3
    have B3 : Hid (Below w.heap.size w w3) := B2.out.trans (hb3.mono B2.out.size)
    have HTV : Hid (∀ v ∈ toldA n slf vs, Vok w3 v) := fun v hv => (HV.out v (toldA_mem hv)).below B3.out (Nat.le_refl _)
    have HT7 : Hid ((toldA n slf vs).length ≤ 7) := ansQ_le _
    have HS3 : Hid (SegI w3 a k l) := HS.out.below B3.out (Nat.le_refl _)
    clear hrow htc hb3 hans Q2 Z2 B2 HT2 HV HR HS
    obtain ⟨told, htold⟩ : ∃ t, toldA n slf vs = t := ⟨_, rfl⟩
    have HTD := hide htold
    rw [htold] at HTR HTV HT7 ⊢
    clear htold
    have h7 := HT7.out
    have o0 := Q3.out.cell 0 _ rfl
    have o1 := Q3.out.cell 1 _ rfl
    have hws := Z3.out.lt
    have HSP : Hid (∀ W : World, Calls Try.prog 19 #[.int .i64 n] W fun e w' => e = .returned (.int .i64 ((n - 1) / 2)) ∧ W = w') := fun W => qspared_any n HSZ.out W
    obtain ⟨f, hf⟩ : ∃ f, Hid ((n - 1) / 2 = f) := ⟨_, rfl⟩
    have hf3 : 1 ≤ f ∧ f ≤ 3 := by have := HSZ.out; unfold szQ at this; simp only [Bool.or_eq_true, beq_iff_eq] at this; have := hf.out; omega
    have hk0 : 0 < k := by have h1 := (snd_len HSN.out).1; have h2 := HS3.out.1; omega
    have hk7 : k ≤ 7 := by have h1 := (snd_len HSN.out).2; have h2 := HS3.out.1; omega
    have HKL : Hid (l.length = k) := HS3.out.1
    go_upto_region 4 with fail
    refine wp_region_held_drew (S := (fun W' => W'.rangeAt w.heap.size 0 [.int .i64 seq, .slice a k c])) (by kernel_rfl) Q3.out.range (fun hHeld => ?_)
    refine wpAnyH_take (i := 0) (v := ?_) rfl (by kernel_rfl) (by kernel_rfl) (by kernel_rfl) (fun _ _ _ h => h) (Or.inl ⟨by rfl, ?_⟩) (by assumption) ?_
    rotate_left
    · intro w hSw
      try dsimp only at hSw
      go_simp
      try with_reducible rfl
    try simp only [Act.put, List.getElem_toArray, List.getElem_cons_zero, List.setIfInBounds_toArray, List.set_cons_zero, List.set_cons_succ]
    refine wpAnyH_take (i := 2) (v := ?_) rfl (by kernel_rfl) (by kernel_rfl) (by kernel_rfl) (fun _ _ _ h => h) (Or.inl ⟨by rfl, ?_⟩) (by assumption) ?_
    rotate_left
    · intro w hSw
      try dsimp only at hSw
      go_simp
      try with_reducible rfl
    try simp only [Act.put, List.getElem_toArray, List.getElem_cons_succ, List.getElem_cons_zero, List.setIfInBounds_toArray, List.set_cons_zero, List.set_cons_succ]
    refine wpAnyH_take (i := 3) rfl (by kernel_rfl) (by kernel_rfl) (by kernel_rfl) (fun _ _ _ h => h) (yieldsIf_load_mid (by rfl) 24 _ rfl w.heap.size 0 rfl [.int .i64 seq, .slice a k c] _ (fun _ h => h) Try.underlying24 rfl (by kernel_rfl)) (by assumption) ?_
    try simp only [Act.put, List.getElem_toArray, List.getElem_cons_succ, List.getElem_cons_zero, List.setIfInBounds_toArray, List.set_cons_zero, List.set_cons_succ]
    refine wpAnyH_ready (rs := [1]) (by kernel_rfl) (by simp) ?_
    refine AllReadyH.cons rfl (fun K hK => ?_) AllReadyH.nil
    rw [if_pos (by rfl)]
    go_wp2_with fail
    refine (HSP.out _).mono ?_
    rintro e w' ⟨rfl, rfl⟩
    rw [hf.out]
    refine hK.out _ _ hHeld (fun hHeld => ?_)
    clear hK K
    try simp only [Act.put, List.getElem_toArray, List.getElem_cons_succ, List.getElem_cons_zero, List.setIfInBounds_toArray, List.set_cons_zero, List.set_cons_succ]
    refine wpAnyH_ready (rs := [4]) (by kernel_rfl) (by simp) ?_
    refine AllReadyH.cons rfl (fun K hK => ?_) AllReadyH.nil
    rw [if_pos (by rfl)]
    go_wp2_with fail
    refine (count_any seq a k c l ta tc told _ (HS3.out.drewN 1) (HTR.out.drewN 1) (fun v hv => ⟨(HTV.out v hv).seg.drewN 1, (HTV.out v hv).cap, (HTV.out v hv).bfr⟩)).mono ?_
    rintro e w4 ⟨rfl, hb4⟩
    have B34 : Hid (Below w3.heap.size w3 w4) := (Below.refl w3.heap.size w3).drew.trans hb4
    clear hb4
    refine hK.out _ _ (range_below Q3.out.range B34.out Q3.out.lt) (fun hHeld => ?_)
    clear hK K
    try simp only [Act.put, List.getElem_toArray, List.getElem_cons_succ, List.getElem_cons_zero, List.setIfInBounds_toArray, List.set_cons_zero, List.set_cons_succ]
    refine wpAnyH_take (i := 5) (v := ?_) rfl (by kernel_rfl) (by kernel_rfl) (by kernel_rfl) (fun _ _ _ h => h) (Or.inl ⟨by rfl, ?_⟩) (by assumption) ?_
    rotate_left
    · intro w hSw
      try dsimp only at hSw
      go_simp
      try with_reducible rfl
    try simp only [Act.put, List.getElem_toArray, List.getElem_cons_succ, List.getElem_cons_zero, List.setIfInBounds_toArray, List.set_cons_zero, List.set_cons_succ]
    refine wpAnyH_take (i := 6) (v := ?_) rfl (by kernel_rfl) (by kernel_rfl) (by kernel_rfl) (fun _ _ _ h => h) (Or.inl ⟨by rfl, ?_⟩) (by assumption) ?_
    rotate_left
    · intro w hSw
      try dsimp only at hSw
      go_simp
      try with_reducible rfl
    try simp only [Act.put, List.getElem_toArray, List.getElem_cons_succ, List.getElem_cons_zero, List.setIfInBounds_toArray, List.set_cons_zero, List.set_cons_succ]
    refine wpAnyH_done (by kernel_rfl) ?_ _
    have Q4 : Hid (Blk w4 w.heap.size [.int .i64 seq, .slice a k c]) := Q3.out.on B34.out
    have Z4 : Hid (Blk w4 (w.heap.size + 1) [.int .i64 0, .slice none 0 0]) := Z3.out.on B34.out
    have B4 : Hid (Below w.heap.size w w4) := B3.out.trans (B34.out.mono B3.out.size)
    have HS4 : Hid (SegI w4 a k l) := HS3.out.below B34.out (Nat.le_refl _)
    have HTR4 : Hid (RowS w4 2 ta told.length (told.map acs)) := HTR.out.below B34.out (Nat.le_refl _) (by decide)
    have HTV4 : Hid (∀ v ∈ told, Vok w4 v) := fun v hv => (HTV.out v hv).below B34.out (Nat.le_refl _)
    have p0 := Q4.out.cell 0 _ rfl
    have p1 := Q4.out.cell 1 _ rfl
    have hw4 := Z4.out.lt
    have hcl : cntQ seq l told ≤ 7 := Nat.le_trans (List.countP_le_length ..) h7
    clear Q3 Z3 B3 HS3 HTR HTV o0 o1 hws B34
    obtain ⟨ct, hct⟩ : ∃ ct, Hid (cntQ seq l told = ct) := ⟨_, rfl⟩
    rw [hct.out] at hcl ⊢
    by_cases hge : 2 * f - 1 ≤ (ct : Int)
    · have HQ : Hid (fastQ n slf seq l vs = (1, seq, l)) := by show _ = _; unfold fastQ; rw [HL.out, if_pos rfl, HTD.out, hf.out, hct.out, if_pos hge]
      have dge : decide (2 * f - 1 ≤ (ct : Int)) = true := decide_eq_true hge
      go_upto_region 6 with fail
      refine wp_region_held_drew (S := (fun W' => W'.cell? ⟨w.heap.size, 0, none⟩ = some (.int .i64 seq) ∧ W'.cell? ⟨w.heap.size, 1, none⟩ = some (.slice a k c))) (by kernel_rfl) ⟨p0, p1⟩ (fun hHeld => ?_)
      refine wpAnyH_take (i := 0) (v := ?_) rfl (by kernel_rfl) (by kernel_rfl) (by kernel_rfl) (fun _ _ _ h => h) (Or.inl ⟨by rfl, ?_⟩) (by assumption) ?_
      rotate_left
      · intro w hSw
        try dsimp only at hSw
        go_simp
        try with_reducible rfl
      try simp only [Act.put, List.getElem_toArray, List.getElem_cons_zero, List.setIfInBounds_toArray, List.set_cons_zero, List.set_cons_succ]
      refine wpAnyH_take (i := 1) (v := ?_) rfl (by kernel_rfl) (by kernel_rfl) (by kernel_rfl) (fun _ _ _ h => h) (Or.inl ⟨by rfl, ?_⟩) (by assumption) ?_
      rotate_left
      · intro w hSw
        try dsimp only at hSw
        have s0 := hSw.1
        go_simp
        try with_reducible rfl
      try simp only [Act.put, List.getElem_toArray, List.getElem_cons_succ, List.getElem_cons_zero, List.setIfInBounds_toArray, List.set_cons_zero, List.set_cons_succ]
      refine wpAnyH_take (i := 2) (v := ?_) rfl (by kernel_rfl) (by kernel_rfl) (by kernel_rfl) (fun _ _ _ h => h) (Or.inl ⟨by rfl, ?_⟩) (by assumption) ?_
      rotate_left
      · intro w hSw
        try dsimp only at hSw
        go_simp
        try with_reducible rfl
      try simp only [Act.put, List.getElem_toArray, List.getElem_cons_succ, List.getElem_cons_zero, List.setIfInBounds_toArray, List.set_cons_zero, List.set_cons_succ]
      refine wpAnyH_take (i := 3) (v := ?_) rfl (by kernel_rfl) (by kernel_rfl) (by kernel_rfl) (fun _ _ _ h => h) (Or.inl ⟨by rfl, ?_⟩) (by assumption) ?_
      rotate_left
      · intro w hSw
        try dsimp only at hSw
        have s1 := hSw.2
        go_simp
        try with_reducible rfl
      try simp only [Act.put, List.getElem_toArray, List.getElem_cons_succ, List.getElem_cons_zero, List.setIfInBounds_toArray, List.set_cons_zero, List.set_cons_succ]
      refine wpAnyH_ready (rs := [4]) (by kernel_rfl) (by simp) ?_
      refine AllReadyH.cons rfl (fun K hK => ?_) AllReadyH.nil
      rw [if_pos (by rfl)]
      go_wp2_with fail
      refine (cloneI_any a k c l _ (HS4.out.drewN 1) hk0 hk7).mono ?_
      rintro e w5 ⟨ca, cc, rfl, ho5, hb5⟩
      have HO5 := hide ho5
      have B45 : Hid (Below w4.heap.size w4 w5) := (Below.refl w4.heap.size w4).drew.trans hb5
      have B5 : Hid (Below w.heap.size w w5) := B4.out.trans (B45.out.mono B4.out.size)
      have Z5 : Hid (Blk w5 (w.heap.size + 1) [.int .i64 0, .slice none 0 0]) := Z4.out.on B45.out
      have TZ5 : Hid (w5.there (w.heap.size + 1) 0 2) := Z5.out.there
      have Q5 : Hid (Blk w5 w.heap.size [.int .i64 seq, .slice a k c]) := Q4.out.on B45.out
      have hs5 := B45.out.size
      clear ho5 hb5
      refine hK.out _ _ ⟨Q5.out.cell 0 _ rfl, Q5.out.cell 1 _ rfl⟩ (fun hHeld => ?_)
      clear hK K
      try simp only [Act.put, List.getElem_toArray, List.getElem_cons_succ, List.getElem_cons_zero, List.setIfInBounds_toArray, List.set_cons_zero, List.set_cons_succ]
      refine wpAnyH_take (i := 5) (v := ?_) rfl (by kernel_rfl) (by kernel_rfl) (by kernel_rfl) (fun _ _ _ h => h) (Or.inl ⟨by rfl, ?_⟩) (by assumption) ?_
      rotate_left
      · intro w hSw
        try dsimp only at hSw
        go_simp
        try with_reducible rfl
      try simp only [Act.put, List.getElem_toArray, List.getElem_cons_succ, List.getElem_cons_zero, List.setIfInBounds_toArray, List.set_cons_zero, List.set_cons_succ]
      refine wpAnyH_take (i := 6) (v := ?_) rfl (by kernel_rfl) (by kernel_rfl) (by kernel_rfl) (fun _ _ _ h => h) (Or.inl ⟨by rfl, ?_⟩) (by assumption) ?_
      rotate_left
      · intro w hSw
        try dsimp only at hSw
        go_simp
        try with_reducible rfl
      try simp only [Act.put, List.getElem_toArray, List.getElem_cons_succ, List.getElem_cons_zero, List.setIfInBounds_toArray, List.set_cons_zero, List.set_cons_succ]
      refine wpAnyH_ready (rs := [7]) (by kernel_rfl) (by simp) ?_
      refine AllReadyH.cons rfl (fun K hK => ?_) AllReadyH.nil
      rw [if_pos (by rfl)]
      refine wp_store_mid 24 _ _ rfl (w.heap.size + 1) 0 #[.int .i64 seq, .slice ca k cc] rfl rfl TZ5.out (by kernel_rfl) (by kernel_rfl) ?_
      refine hK.out _ _ ⟨by rw [World.cell?_setCells_out _ _ _ _ _ (fun hb _ => absurd hb (by show w.heap.size ≠ _; omega))]; exact Q5.out.cell 0 _ rfl, by rw [World.cell?_setCells_out _ _ _ _ _ (fun hb _ => absurd hb (by show w.heap.size ≠ _; omega))]; exact Q5.out.cell 1 _ rfl⟩ (fun hHeld => ?_)
      clear hK K
      try simp only [Act.put, List.getElem_toArray, List.getElem_cons_succ, List.getElem_cons_zero]
      refine wpAnyH_done (by kernel_rfl) ?_ _
      obtain ⟨Y, hY⟩ : ∃ Y, Y = w5.setCells (w.heap.size + 1) 0 [.int .i64 seq, .slice ca k cc] := ⟨_, rfl⟩
      have HY : Hid (Blk Y (w.heap.size + 1) [.int .i64 seq, .slice ca k cc]) := by rw [hY]; exact blk_cells Z5.out rfl
      have BY : Hid (Below w.heap.size w Y) := by rw [hY]; exact below_cells (by omega) _ _ _ B5.out
      have OY : Hid (Y.ownsRow w4.heap.size 3 1 (.slice ca k cc) k (l.map (Value.int .i64))) := by
        show World.ownsRow _ _ _ _ _ _ _
        have h1 := World.ownsRow.kept (row := some (w.heap.size + 1)) (w' := Y) HO5.out (by rw [hY]; exact (grown_set _ _ _ _).trans (grown_set _ _ _ _)) (by
          rcases HO5.out.2 with ⟨e, _⟩ | ⟨g', cap', cur, e, hB', _⟩
          · rw [e]; exact .inl rfl
          · have hB2 : w4.heap.size ≤ g' := hB'
            rw [e]; refine .inr ?_; intro e2; simp only [Value.ownBlock, Option.some.injEq] at e2; omega)
        exact h1
      rw [← hY]
      clear hY
      go_wp2
      rw [HQ.out]
      refine bodyPost_ret (qresults_tmp_cell Try.results13 _ _ (w.heap.size + 1) [.int .i64 seq, .slice ca k cc] _ _ rfl rfl HY.out.range Try.underlying24 rfl (by kernel_rfl)) rfl ⟨ca, cc, by show _ = _; rw [HKL.out]; rfl, by rw [HKL.out]; exact own_base OY.out (by omega), BY.out⟩
    · by_cases hg2 : f ≤ (told.length : Int)
      · by_cases hg3 : 2 ≤ (told.length : Int) - (ct : Int)
        · have HQ : Hid (fastQ n slf seq l vs = (2, uSeq seq told, uDeps l told)) := by show _ = _; unfold fastQ; rw [HL.out, if_pos rfl, HTD.out, hf.out, hct.out, if_neg hge, if_pos ⟨hg2, hg3⟩]
          go_wp2_with fail
          refine (quni_any seq a k c l ta tc told _ HS4.out HKC.out HTR4.out HTV4.out h7).mono ?_
          rintro e w5 ⟨ua, uc, rfl, ho5, hb5⟩
          have HO5 := hide ho5
          have B5 : Hid (Below w.heap.size w w5) := B4.out.trans (hb5.mono B4.out.size)
          have Z5 : Hid (Blk w5 (w.heap.size + 1) [.int .i64 0, .slice none 0 0]) := Z4.out.on hb5
          have hs5 := hb5.size
          clear ho5 hb5
          have z0 := Z5.out.cell 0 _ rfl
          have z1 := Z5.out.cell 1 _ rfl
          have f0 := Z5.out.thaw 0
          have f1 := Z5.out.thaw 1
          go_wp2
          rw [HQ.out]
          refine bodyPost_ret (qresults_tmp_cell Try.results13 _ _ (w.heap.size + 1) [.int .i64 (uSeq seq told), .slice ua (uDeps l told).length uc] _ _ rfl rfl (box2_set Z5.out).range Try.underlying24 rfl (by kernel_rfl)) rfl ⟨ua, uc, rfl, ?_, below_store (below_store B5.out (by omega) _) (by omega) _⟩
          have h1 := World.ownsRow.kept (row := some (w.heap.size + 1)) (w' := (w5.setCell ⟨w.heap.size + 1, 0, none⟩ (.int .i64 (uSeq seq told))).setCell ⟨w.heap.size + 1, 1, none⟩ (.slice ua (uDeps l told).length uc)) HO5.out ((grown_set _ _ _ _).trans (grown_set _ _ _ _)) (by
            rcases HO5.out.2 with ⟨e, _⟩ | ⟨g', cap', cur, e, hB', _⟩
            · rw [e]; exact .inl rfl
            · rw [e]; refine .inr ?_; intro e2; simp only [Value.ownBlock, Option.some.injEq] at e2; omega)
          exact own_base h1 (by omega)
        · have HQ : Hid (fastQ n slf seq l vs = (0, 0, [])) := by show _ = _; unfold fastQ; rw [HL.out, if_pos rfl, HTD.out, hf.out, hct.out, if_neg hge, if_neg (fun h => hg3 h.2)]
          have z0 := Z4.out.cell 0 _ rfl
          have z1 := Z4.out.cell 1 _ rfl
          have f0 := Z4.out.thaw 0
          have f1 := Z4.out.thaw 1
          go_wp2
          rw [HQ.out]
          refine bodyPost_ret (qresults_tmp_cell Try.results13 _ _ (w.heap.size + 1) [.int .i64 0, .slice none 0 0] _ _ rfl rfl (box2_set Z4.out).range Try.underlying24 rfl (by kernel_rfl)) rfl (ansP_zero (below_store (below_store B4.out (by omega) _) (by omega) _))
      · have HQ : Hid (fastQ n slf seq l vs = (0, 0, [])) := by show _ = _; unfold fastQ; rw [HL.out, if_pos rfl, HTD.out, hf.out, hct.out, if_neg hge, if_neg (fun h => hg2 h.1)]
        have z0 := Z4.out.cell 0 _ rfl
        have z1 := Z4.out.cell 1 _ rfl
        have f0 := Z4.out.thaw 0
        have f1 := Z4.out.thaw 1
        go_wp2
        rw [HQ.out]
        refine bodyPost_ret (qresults_tmp_cell Try.results13 _ _ (w.heap.size + 1) [.int .i64 0, .slice none 0 0] _ _ rfl rfl (box2_set Z4.out).range Try.underlying24 rfl (by kernel_rfl)) rfl (ansP_zero (below_store (below_store B4.out (by omega) _) (by omega) _))
end Go.Proofs.Ytmplipkdaplpnaa
