/- The contract of the document's own Fast. -/
import Derived.Test.YtmplipkdaplpnaaQRep
import Derived.Test.YtmplipkdaplpnaaQMun
import Derived.Test.YtmplipkdaplpnaaQInts
namespace Go.Proofs.Ytmplipkdaplpnaa
open Go.RowKit Go.Wire1

set_option maxHeartbeats 8000000 in
set_option maxRecDepth 100000 in
theorem mfast_any (n slf seq : Int) (a : Option Addr) (k c : Nat) (l : List Int) (va : Option Addr) (N vc : Nat) (vs : List Vt) (w : World) (h : SegI w a k l) (hkc : k ≤ c) (hr : RowS w 15 va N (vs.map vcs)) (hv : ∀ v ∈ vs, Vok w v) :
    Calls Try.prog 14 #[.int .i64 n, .int .i64 slf, .agg #[.int .i64 seq, .slice a k c], .slice va N vc] w fun e w' => AnsP w (fastQ n slf seq l vs) e w' := by
  obtain ⟨U, hU⟩ : ∃ U, U = (w.alloc (.cells #[.int .i64 seq, .slice a k c] 24)).alloc (.cells #[.int .i64 0, .slice none 0 0] 24) := ⟨_, rfl⟩
  have BU : Hid (Below w.heap.size w U) := by rw [hU]; exact ((Below.refl _ w).alloc (Nat.le_refl _) _).alloc (by simp) _
  have QU : Hid (Blk U w.heap.size [.int .i64 seq, .slice a k c]) := by rw [hU]; exact (blk_new w 24 [.int .i64 seq, .slice a k c]).on ((Below.refl _ _).alloc (Nat.le_refl _) _)
  have ZU : Hid (Blk U (w.heap.size + 1) [.int .i64 0, .slice none 0 0]) := by
    have := blk_new (w.alloc (.cells #[.int .i64 seq, .slice a k c] 24)) 24 [.int .i64 0, .slice none 0 0]
    rw [World.size_alloc] at this
    rw [hU]; exact this
  have HS := hide h
  have HKC := hide hkc
  have HR := hide hr
  have HV := hide hv
  clear h hkc hr hv
  go_enter Try.func14, Try.ntmps14
  go_upto_region 1 with fail
  rw [← hU]
  clear hU
  go_wp2_with (first | (refine wpList_load_mid rfl 24 _ rfl w.heap.size 0 rfl [.int .i64 seq, .slice a k c] _ QU.out.range Try.underlying24 rfl (by kernel_rfl) ?_))
  refine (qsized_any n slf seq a k c l _ (HS.out.below BU.out (Nat.le_refl _))).mono ?_
  rintro e w1 ⟨rfl, hb1⟩
  have B1 : Hid (Below w.heap.size w w1) := BU.out.trans (hb1.mono BU.out.size)
  have Q1 : Hid (Blk w1 w.heap.size [.int .i64 seq, .slice a k c]) := QU.out.on hb1
  have Z1 : Hid (Blk w1 (w.heap.size + 1) [.int .i64 0, .slice none 0 0]) := ZU.out.on hb1
  clear hb1 BU QU ZU
  cases hl : leadQ n slf seq l with
  | false =>
    have HQ : Hid (fastQ n slf seq l vs = (0, 0, [])) := by show _ = _; unfold fastQ; rw [hl]; rfl
    clear hl
    have TZ := hide Z1.out.there
    obtain ⟨Y, hY⟩ : ∃ Y, Y = World.setCells w1 (w.heap.size + 1) 0 [.int .i64 0, .slice none 0 0] := ⟨_, rfl⟩
    have HYB : Hid (Blk Y (w.heap.size + 1) [.int .i64 0, .slice none 0 0]) := by rw [hY]; exact blk_cells Z1.out rfl
    have HYW : Hid (Below w.heap.size w Y) := by rw [hY]; exact below_cells (by omega) _ _ _ B1.out
    have HY := hide hY
    clear hY
    go_wp2_with (first | (refine wpList_store_mid rfl 24 _ _ rfl (w.heap.size + 1) 0 #[.int .i64 0, .slice none 0 0] rfl rfl TZ.out (by kernel_rfl) (by kernel_rfl) ?_; first | rw [← HY.out] | (simp only [List.toList_toArray]; rw [← HY.out])))
    rw [HQ.out]
    refine bodyPost_ret (qresults_tmp_cell Try.results14 _ _ (w.heap.size + 1) [.int .i64 0, .slice none 0 0] _ _ rfl rfl HYB.out.range Try.underlying24 rfl (by kernel_rfl)) rfl (ansP_zero HYW.out)
  | true =>
    obtain ⟨hsz, hrp, hsn⟩ := lead_sz hl
    have HL := hide hl
    have HSZ := hide hsz
    have HSN := hide hsn
    have hn3 : n = 3 ∨ n = 5 ∨ n = 7 := by have h := hsz; unfold szQ at h; simpa using h
    clear hl hsz hrp hsn
    go_wp2_with fail
    refine (replies_any n slf va N vc vs w1 HSZ.out (HR.out.below B1.out (Nat.le_refl _) (by decide)) (fun v hv => (HV.out v hv).below B1.out (Nat.le_refl _))).mono ?_
    rintro e w2 ⟨rfl, hbd, hb2⟩
    have HBD := hide hbd
    have Q2 : Hid (Blk w2 w.heap.size [.int .i64 seq, .slice a k c]) := Q1.out.on hb2
    have Z2 : Hid (Blk w2 (w.heap.size + 1) [.int .i64 0, .slice none 0 0]) := Z1.out.on hb2
    have B2 : Hid (Below w.heap.size w w2) := B1.out.trans (hb2.mono B1.out.size)
    have HTO : Hid (ansQ (tal (fun u : Vt => sndQ n u.seq u.deps) n slf vs) = toldA n slf vs) := rfl
    have HTL : Hid ((toldA n slf vs).length = (tal (fun u : Vt => sndQ n u.seq u.deps) n slf vs).length) := told_len n slf (sz_le HSZ.out) vs
    have HT7 : Hid ((toldA n slf vs).length ≤ 7) := ansQ_le _
    have HVT : Hid (∀ v ∈ ansQ (tal (fun u : Vt => sndQ n u.seq u.deps) n slf vs), Vok w v) := fun v hv => HV.out v (toldA_mem hv)
    have h1B : (w.heap.size + 1) < w1.heap.size := Z1.out.lt
    obtain ⟨bb, hbb⟩ : ∃ bb, w1.heap.size = bb := ⟨_, rfl⟩
    rw [hbb] at HBD h1B ⊢
    have hK : Hid (k ≤ 7 ∧ l.length = k) := by have h1 := (snd_len HSN.out).2; have h2 := HS.out.1; exact ⟨by omega, h2⟩
    clear hbd hb2 Q1 Z1 B1 hbb HR HV
    generalize (tal (fun u : Vt => sndQ n u.seq u.deps) n slf vs) = m at *
    obtain ⟨told, htold⟩ : ∃ t, toldA n slf vs = t := ⟨_, rfl⟩
    have HTD := hide htold
    rw [htold] at HTO HTL HT7
    clear htold
    go_wp2_with (first | (refine wpList_load_mid rfl 24 _ rfl w.heap.size 0 rfl [.int .i64 seq, .slice a k c] _ Q2.out.range Try.underlying24 rfl (by kernel_rfl) ?_))
    refine (differ_any seq a k c l bb m _ (HS.out.below B2.out (Nat.le_refl _)) HBD.out (fun v hv => (HVT.out v hv).below B2.out (Nat.le_refl _))).mono ?_
    rintro e w3 ⟨rfl, hb3⟩
    rw [HTO.out]
    have Q3 : Hid (Blk w3 w.heap.size [.int .i64 seq, .slice a k c]) := Q2.out.on hb3
    have Z3 : Hid (Blk w3 (w.heap.size + 1) [.int .i64 0, .slice none 0 0]) := Z2.out.on hb3
    have B3 : Hid (Below w.heap.size w w3) := B2.out.trans (hb3.mono B2.out.size)
    have HBD3 : Hid (Blk w3 bb (bdC m)) := HBD.out.on hb3
    have HS3 : Hid (SegI w3 a k l) := HS.out.below B3.out (Nat.le_refl _)
    have HWB : Hid ((w.heap.size + 1) < w3.heap.size) := Z3.out.lt
    have c112 : w3.cell? ⟨bb, 112, none⟩ = some (.int .i64 (m.length : Int)) := HBD3.out.cell 112 _ (bd_cnt m)
    have ht7 := HT7.out
    rw [← HTL.out] at c112
    obtain ⟨df, hdf⟩ : ∃ d : Nat, told.countP (fun v => !eqB seq l v) = d := ⟨_, rfl⟩
    have HCT : Hid ((cntQ seq l told : Int) + (df : Int) = told.length) := by
      show _ = _
      have h1 : cntQ seq l told = told.countP (eqB seq l) := by unfold cntQ; congr 1; funext v; exact (eqB_eqA seq l v).symm
      have h2 := List.length_eq_countP_add_countP (l := told) (eqB seq l)
      have h3 : told.countP (fun v => decide ¬ eqB seq l v = true) = df := by rw [← hdf]; congr 1; funext v; cases eqB seq l v <;> rfl
      rw [h1]
      omega
    rw [hdf]
    have hct := HCT.out
    have hk7 := hK.out.1
    have hdf7 : df ≤ 7 := by omega
    clear hdf hb3 B2 Q2 Z2 HBD
    by_cases hge : n - 2 ≤ (told.length : Int) - (df : Int)
    · have HQ : Hid (fastQ n slf seq l vs = (1, seq, l)) := by show _ = _; unfold fastQ; rw [HL.out, if_pos rfl, HTD.out, if_pos (by omega)]
      clear hct
      go_upto_region 7 with fail
      refine wp_region_held_drew (S := (fun W' => W'.rangeAt w.heap.size 0 [.int .i64 seq, .slice a k c])) (by kernel_rfl) Q3.out.range (fun hHeld => ?_)
      refine wpAnyH_take (i := 0) (v := ?_) rfl (by kernel_rfl) (by kernel_rfl) (by kernel_rfl) (fun _ _ _ h => h) (Or.inl ⟨by rfl, ?_⟩) (by assumption) ?_
      rotate_left
      · intro w hSw
        try dsimp only at hSw
        go_simp
        try with_reducible rfl
      try simp only [Act.put, List.getElem_toArray, List.getElem_cons_zero, List.setIfInBounds_toArray, List.set_cons_zero, List.set_cons_succ]
      refine wpAnyH_take (i := 1) (v := ?_) rfl (by kernel_rfl) (by kernel_rfl) (by kernel_rfl) (fun _ _ _ h => h) (Or.inl ⟨by rfl, ?_⟩) (by assumption) ?_
      rotate_left
      · intro w hSw
        try dsimp only at hSw
        have s0 := hSw 0 _ rfl
        rw [Nat.zero_add] at s0
        go_simp
        try with_reducible rfl
      try simp only [Act.put, List.getElem_toArray, List.getElem_cons_succ, List.getElem_cons_zero, List.setIfInBounds_toArray, List.set_cons_zero, List.set_cons_succ]
      refine wpAnyH_take (i := 2) (v := ?_) rfl (by kernel_rfl) (by kernel_rfl) (by kernel_rfl) (fun _ _ _ h => h) (Or.inl ⟨by rfl, ?_⟩) (by assumption) ?_
      rotate_left
      · intro w hSw
        try dsimp only at hSw
        go_simp
        try with_reducible rfl
      try simp only [Act.put, List.getElem_toArray, List.getElem_cons_succ, List.getElem_cons_zero, List.setIfInBounds_toArray, List.set_cons_zero, List.set_cons_succ]
      refine wpAnyH_take (i := 3) (v := ?_) rfl (by kernel_rfl) (by kernel_rfl) (by kernel_rfl) (fun _ _ _ h => h) (Or.inl ⟨by rfl, ?_⟩) (by assumption) ?_
      rotate_left
      · intro w hSw
        try dsimp only at hSw
        have s1 := hSw 1 _ rfl
        rw [Nat.zero_add] at s1
        go_simp
        try with_reducible rfl
      try simp only [Act.put, List.getElem_toArray, List.getElem_cons_succ, List.getElem_cons_zero, List.setIfInBounds_toArray, List.set_cons_zero, List.set_cons_succ]
      refine wpAnyH_ready (rs := [4]) (by kernel_rfl) (by simp) ?_
      refine AllReadyH.cons rfl (fun K hK => ?_) AllReadyH.nil
      rw [if_pos (by rfl)]
      go_wp2_with fail
      refine (ints_any a k c l _ (HS3.out.drewN 1) (by omega)).mono ?_
      rintro e w5 ⟨vi, rfl, ho5, hb5⟩
      obtain ⟨ca, cc, rfl⟩ := own_shape ho5
      have HO5 := hide ho5
      have HB5 : Hid (Below w3.heap.size w3 w5) := (Below.refl w3.heap.size w3).drew.trans hb5
      have Z5 : Hid (Blk w5 (w.heap.size + 1) [.int .i64 0, .slice none 0 0]) := Z3.out.on HB5.out
      have TZ5 := hide Z5.out.there
      clear ho5 hb5
      refine hK.out _ _ (range_below Q3.out.range HB5.out Q3.out.lt) (fun hHeld => ?_)
      clear hK K
      try simp only [Act.put, List.getElem_toArray, List.getElem_cons_succ, List.getElem_cons_zero, List.setIfInBounds_toArray, List.set_cons_zero, List.set_cons_succ]
      refine wpAnyH_take (i := 5) (v := ?_) rfl (by kernel_rfl) (by kernel_rfl) (by kernel_rfl) (fun _ _ _ h => h) (Or.inl ⟨by rfl, ?_⟩) (by assumption) ?_
      rotate_left
      · intro w hSw
        try dsimp only at hSw
        go_simp
        try with_reducible rfl
      try simp only [Act.put, List.getElem_toArray, List.getElem_cons_succ, List.getElem_cons_zero, List.setIfInBounds_toArray, List.set_cons_zero, List.set_cons_succ]
      refine wpAnyH_take (i := 6) (v := ?_) rfl (by kernel_rfl) (by kernel_rfl) (by kernel_rfl) (fun _ _ _ h => h) (Or.inl ⟨by rfl, ?_⟩) (by assumption) ?_
      rotate_left
      · intro w hSw
        try dsimp only at hSw
        go_simp
        try with_reducible rfl
      try simp only [Act.put, List.getElem_toArray, List.getElem_cons_succ, List.getElem_cons_zero, List.setIfInBounds_toArray, List.set_cons_zero, List.set_cons_succ]
      refine wpAnyH_ready (rs := [7]) (by kernel_rfl) (by simp) ?_
      refine AllReadyH.cons rfl (fun K hK => ?_) AllReadyH.nil
      rw [if_pos (by rfl)]
      refine wp_store_mid 24 _ _ rfl (w.heap.size + 1) 0 #[.int .i64 seq, .slice ca l.length cc] rfl rfl TZ5.out (by kernel_rfl) (by kernel_rfl) ?_
      refine hK.out _ _ (World.rangeAt_setCells_apart hHeld _ _ _ (.inl (by omega))) (fun hHeld => ?_)
      clear hK K
      try simp only [Act.put, List.getElem_toArray, List.getElem_cons_succ, List.getElem_cons_zero]
      refine wpAnyH_done (by kernel_rfl) ?_ _
      obtain ⟨Y, hY⟩ : ∃ Y, Y = w5.setCells (w.heap.size + 1) 0 [.int .i64 seq, .slice ca l.length cc] := ⟨_, rfl⟩
      have HF : Hid (Blk Y (w.heap.size + 1) [.int .i64 seq, .slice ca l.length cc]) := by rw [hY]; exact blk_cells Z5.out rfl
      have BF : Hid (Below w.heap.size w Y) := by rw [hY]; exact below_cells (by omega) _ _ _ (B3.out.trans (HB5.out.mono B3.out.size))
      have HOF : Hid (Y.ownsRow w.heap.size 3 1 (.slice ca l.length cc) l.length (l.map (Value.int .i64))) := by
        show World.ownsRow _ _ _ _ _ _ _
        have h6 : w5.ownsRow w.heap.size 3 1 (.slice ca l.length cc) l.length (l.map (Value.int .i64)) := own_base HO5.out B3.out.drew.size
        have h1 := World.ownsRow.kept (row := some (w.heap.size + 1)) (w' := Y) h6 (by rw [hY]; exact (grown_set _ _ _ _).trans (grown_set _ _ _ _)) (by
          refine .inr fun e => ?_
          have h1 := HO5.out.lt _ e
          have h2 := HWB.out
          have h3 : (w3.drewN 1).heap.size = w3.heap.size := rfl
          omega)
        exact h1
      rw [← hY]
      clear hY
      go_wp2
      rw [HQ.out]
      refine bodyPost_ret (qresults_tmp_cell Try.results14 _ _ (w.heap.size + 1) [.int .i64 seq, .slice ca l.length cc] _ _ rfl rfl HF.out.range Try.underlying24 rfl (by kernel_rfl)) rfl ⟨ca, cc, rfl, HOF.out, BF.out⟩
    · have dge : decide (n - 2 ≤ (told.length : Int) - (df : Int)) = false := decide_eq_false hge
      by_cases hd2 : 2 ≤ (df : Int)
      · by_cases hf2 : n - 1 ≤ 2 * (told.length : Int)
        · have d3 : decide (n - 1 ≤ 2 * (told.length : Int)) = true := decide_eq_true hf2
          have HQ : Hid (fastQ n slf seq l vs = (2, uSeq seq told, uDeps l told)) := by show _ = _; unfold fastQ; rw [HL.out, if_pos rfl, HTD.out, if_neg (by omega), if_pos ⟨by omega, by omega⟩]
          clear hct
          go_wp2_with (first | (refine wpList_load_mid rfl 24 _ rfl w.heap.size 0 rfl [.int .i64 seq, .slice a k c] _ Q3.out.range Try.underlying24 rfl (by kernel_rfl) ?_))
          refine (munion_any seq a k c l bb m _ (HS.out.below B3.out (Nat.le_refl _)) HBD3.out (fun v hv => (HVT.out v hv).below B3.out (Nat.le_refl _))).mono ?_
          rintro e w5 ⟨ua, uc, rfl, ho5, hb5⟩
          rw [HTO.out] at ho5 ⊢
          have HO5 := hide ho5
          have B5 : Hid (Below w.heap.size w w5) := B3.out.trans (hb5.mono B3.out.size)
          have Z5 : Hid (Blk w5 (w.heap.size + 1) [.int .i64 0, .slice none 0 0]) := Z3.out.on hb5
          have HWS : Hid (w.heap.size ≤ w3.heap.size) := B3.out.size
          clear ho5 hb5
          obtain ⟨ds, hds⟩ : ∃ ds, uDeps l told = ds := ⟨_, rfl⟩
          obtain ⟨sq, hsq⟩ : ∃ sq, uSeq seq told = sq := ⟨_, rfl⟩
          rw [hds, hsq] at HQ
          rw [hds] at HO5
          rw [hds, hsq]
          clear hds hsq
          obtain ⟨X6, hX6⟩ : ∃ X6, X6 = w5.alloc (.cells [.int .i64 0, .slice none 0 0].toArray 24) := ⟨_, rfl⟩
          have ZX6 : Hid (Blk X6 w5.heap.size [.int .i64 0, .slice none 0 0]) := by rw [hX6]; exact blk_new w5 24 [.int .i64 0, .slice none 0 0]
          have TX6 := hide ZX6.out.there
          obtain ⟨Y6, hY6⟩ : ∃ Y6, Y6 = X6.setCells w5.heap.size 0 [.int .i64 sq, .slice ua ds.length uc] := ⟨_, rfl⟩
          have HP6 : Hid (Blk Y6 w5.heap.size [.int .i64 sq, .slice ua ds.length uc]) := by rw [hY6]; exact blk_cells ZX6.out rfl
          have BX6 : Hid (Below w5.heap.size w5 X6) := by rw [hX6]; exact (Below.refl _ _).alloc (Nat.le_refl _) _
          have HW6 : Hid (Below w5.heap.size w5 Y6) := by rw [hY6]; exact below_cells (Nat.le_refl _) _ _ _ BX6.out
          have HO6 : Hid (Y6.ownsRow (w3.heap.size) 3 1 (.slice ua ds.length uc) ds.length (ds.map (Value.int .i64))) := own_below HO5.out HW6.out (Nat.le_refl _)
          have Z6 : Hid (Blk Y6 (w.heap.size + 1) [.int .i64 0, .slice none 0 0]) := Z5.out.on HW6.out
          have B6 : Hid (Below w.heap.size w Y6) := B5.out.trans (HW6.out.mono B5.out.size)
          have HX6 : Hid (w5.alloc (.cells #[.int .i64 0, .slice none 0 0] 24) = X6) := hX6.symm
          have HY6 := hide hY6
          have hw5 := Z5.out.lt
          have TZ6 : Hid (Y6.drew.there (w.heap.size + 1) 0 2) := (Z6.out.drewN 1).there
          clear hX6 hY6
          go_upto_region 10 with (first | (rw [HX6.out]; refine wpList_store_mid rfl 24 _ _ rfl w5.heap.size 0 #[.int .i64 sq, .slice ua ds.length uc] rfl rfl TX6.out (by kernel_rfl) (by kernel_rfl) ?_; first | rw [← HY6.out] | (simp only [List.toList_toArray]; rw [← HY6.out])))
          refine wp_region_held_drew (S := (fun W' => W'.rangeAt w5.heap.size 0 [.int .i64 sq, .slice ua ds.length uc])) (by kernel_rfl) HP6.out.range (fun hHeld => ?_)
          refine wpAnyH_take (i := 0) rfl (by kernel_rfl) (by kernel_rfl) (by kernel_rfl) (fun _ _ _ h => h) (yieldsIf_load_mid (by rfl) 24 _ rfl w5.heap.size 0 rfl [.int .i64 sq, .slice ua ds.length uc] _ (fun _ h => h) Try.underlying24 rfl (by kernel_rfl)) (by assumption) ?_
          try simp only [Act.put, List.getElem_toArray, List.getElem_cons_zero, List.setIfInBounds_toArray, List.set_cons_zero, List.set_cons_succ]
          refine wpAnyH_take (i := 1) (v := ?_) rfl (by kernel_rfl) (by kernel_rfl) (by kernel_rfl) (fun _ _ _ h => h) (Or.inl ⟨by rfl, ?_⟩) (by assumption) ?_
          rotate_left
          · intro w hSw
            try dsimp only at hSw
            go_simp
            try with_reducible rfl
          try simp only [Act.put, List.getElem_toArray, List.getElem_cons_succ, List.getElem_cons_zero, List.setIfInBounds_toArray, List.set_cons_zero, List.set_cons_succ]
          refine wpAnyH_ready (rs := [2]) (by kernel_rfl) (by simp) ?_
          refine AllReadyH.cons rfl (fun K hK => ?_) AllReadyH.nil
          rw [if_pos (by rfl)]
          refine wp_store_mid 24 _ _ rfl (w.heap.size + 1) 0 #[.int .i64 sq, .slice ua ds.length uc] rfl rfl TZ6.out (by kernel_rfl) (by kernel_rfl) ?_
          refine hK.out _ _ (World.rangeAt_setCells_apart (HP6.out.drewN 1).range _ _ _ (.inl (by omega))) (fun hHeld => ?_)
          clear hK K
          try simp only [Act.put, List.getElem_toArray, List.getElem_cons_succ, List.getElem_cons_zero]
          refine wpAnyH_done (by kernel_rfl) ?_ _
          obtain ⟨Y, hY⟩ : ∃ Y, Y = Y6.drew.setCells (w.heap.size + 1) 0 [.int .i64 sq, .slice ua ds.length uc] := ⟨_, rfl⟩
          have HF : Hid (Blk Y (w.heap.size + 1) [.int .i64 sq, .slice ua ds.length uc]) := by rw [hY]; exact blk_cells (Z6.out.drewN 1) rfl
          have BF : Hid (Below w.heap.size w Y) := by rw [hY]; exact below_cells (by omega) _ _ _ B6.out.drew
          have HOF : Hid (Y.ownsRow w.heap.size 3 1 (.slice ua ds.length uc) ds.length (ds.map (Value.int .i64))) := by
            show World.ownsRow _ _ _ _ _ _ _
            have h6 : (Y6.drewN 1).ownsRow w.heap.size 3 1 (.slice ua ds.length uc) ds.length (ds.map (Value.int .i64)) := own_base HO6.out HWS.out
            have h1 := World.ownsRow.kept (row := some (w.heap.size + 1)) (w' := Y) h6 (by rw [hY]; exact (grown_set _ _ _ _).trans (grown_set _ _ _ _)) (by
              refine .inr fun e => ?_
              have := HO6.out.lt _ e
              have := HWB.out
              omega)
            exact h1
          rw [← hY]
          clear hY
          go_wp2
          rw [HQ.out]
          refine bodyPost_ret (qresults_tmp_cell Try.results14 _ _ (w.heap.size + 1) [.int .i64 sq, .slice ua ds.length uc] _ _ rfl rfl HF.out.range Try.underlying24 rfl (by kernel_rfl)) rfl ⟨ua, uc, rfl, HOF.out, BF.out⟩
        · have d3 : decide (n - 1 ≤ 2 * (told.length : Int)) = false := decide_eq_false hf2
          have HQ : Hid (fastQ n slf seq l vs = (0, 0, [])) := by show _ = _; unfold fastQ; rw [HL.out, if_pos rfl, HTD.out, if_neg (by omega), if_neg (by omega)]
          clear hct
          have TZ := hide Z3.out.there
          obtain ⟨Y, hY⟩ : ∃ Y, Y = World.setCells w3 (w.heap.size + 1) 0 [.int .i64 0, .slice none 0 0] := ⟨_, rfl⟩
          have HYB : Hid (Blk Y (w.heap.size + 1) [.int .i64 0, .slice none 0 0]) := by rw [hY]; exact blk_cells Z3.out rfl
          have HYW : Hid (Below w.heap.size w Y) := by rw [hY]; exact below_cells (by omega) _ _ _ B3.out
          have HY := hide hY
          clear hY
          go_wp2_with (first | (refine wpList_store_mid rfl 24 _ _ rfl (w.heap.size + 1) 0 #[.int .i64 0, .slice none 0 0] rfl rfl TZ.out (by kernel_rfl) (by kernel_rfl) ?_; first | rw [← HY.out] | (simp only [List.toList_toArray]; rw [← HY.out])))
          rw [HQ.out]
          refine bodyPost_ret (qresults_tmp_cell Try.results14 _ _ (w.heap.size + 1) [.int .i64 0, .slice none 0 0] _ _ rfl rfl HYB.out.range Try.underlying24 rfl (by kernel_rfl)) rfl (ansP_zero HYW.out)
      · have HQ : Hid (fastQ n slf seq l vs = (0, 0, [])) := by show _ = _; unfold fastQ; rw [HL.out, if_pos rfl, HTD.out, if_neg (by omega), if_neg (by omega)]
        clear hct
        have TZ := hide Z3.out.there
        obtain ⟨Y, hY⟩ : ∃ Y, Y = World.setCells w3 (w.heap.size + 1) 0 [.int .i64 0, .slice none 0 0] := ⟨_, rfl⟩
        have HYB : Hid (Blk Y (w.heap.size + 1) [.int .i64 0, .slice none 0 0]) := by rw [hY]; exact blk_cells Z3.out rfl
        have HYW : Hid (Below w.heap.size w Y) := by rw [hY]; exact below_cells (by omega) _ _ _ B3.out
        have HY := hide hY
        clear hY
        go_wp2_with (first | (refine wpList_store_mid rfl 24 _ _ rfl (w.heap.size + 1) 0 #[.int .i64 0, .slice none 0 0] rfl rfl TZ.out (by kernel_rfl) (by kernel_rfl) ?_; first | rw [← HY.out] | (simp only [List.toList_toArray]; rw [← HY.out])))
        rw [HQ.out]
        refine bodyPost_ret (qresults_tmp_cell Try.results14 _ _ (w.heap.size + 1) [.int .i64 0, .slice none 0 0] _ _ rfl rfl HYB.out.range Try.underlying24 rfl (by kernel_rfl)) rfl (ansP_zero HYW.out)
end Go.Proofs.Ytmplipkdaplpnaa
