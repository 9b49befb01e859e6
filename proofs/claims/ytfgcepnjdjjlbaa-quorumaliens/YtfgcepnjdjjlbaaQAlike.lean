/- The statements' own alike, where all three decisions say the same of both lists. -/
import Derived.Test.YtfgcepnjdjjlbaaQLw2
import Derived.Test.YtfgcepnjdjjlbaaQPrep
import Derived.Test.YtfgcepnjdjjlbaaQSame
namespace Go.Proofs.Ytfgcepnjdjjlbaa
open Go.RowKit Go.Wire1

/-- A list of votes in memory, as a call wants it. -/
structure VSeg (w : World) (a : Option Addr) (n : Nat) (vs : List Vt) : Prop where
  row : RowS w 15 a n (vs.map vcs)
  ok : ∀ v ∈ vs, Vok w v
theorem VSeg.len {w : World} {a : Option Addr} {n : Nat} {vs : List Vt} (h : VSeg w a n vs) : vs.length = n := by have := h.row.len; rwa [List.length_map] at this
theorem VSeg.below {w w' : World} {a : Option Addr} {n B : Nat} {vs : List Vt} (h : VSeg w a n vs) (hb : Below B w w') (hB : w.heap.size ≤ B) : VSeg w' a n vs := ⟨h.row.below hb hB (by decide), fun v hv => (h.ok v hv).below hb hB⟩
theorem VRow.seg {w : World} {a : Option Addr} {n : Nat} {vs : List Vt} (h : VRow w a n vs) : VSeg w a n vs := ⟨h.row, h.ok⟩
theorem blk_other {w : World} {q g : Nat} {cs vs : List Value} (h : Blk w q cs) (hne : q ≠ g) : Blk (w.setCells g 0 vs) q cs := h.of_block ((grown_cells g vs 0 w).block q h.lt (fun e => hne (Option.some.inj e)))
theorem own_other {w : World} {B e s g : Nat} {v : Value} {n : Nat} {xs vs : List Value} (h : w.ownsRow B e s v n xs) (hg : g < B) : (w.setCells g 0 vs).ownsRow B e s v n xs := by
  refine World.ownsRow.kept (row := some g) h (grown_cells _ _ _ _) ?_
  rcases h.2 with ⟨e, _⟩ | ⟨g', cap', cur, e, hB', _⟩
  · rw [e]; exact .inl rfl
  · rw [e]; refine .inr ?_; intro e2; simp only [Value.ownBlock, Option.some.injEq] at e2; omega
theorem fast_fit (n slf seq : Int) {l : List Int} (hl : Fit l) (vs : List Vt) : Fit (fastQ n slf seq l vs).2.2 := by
  unfold fastQ
  split
  · split
    · exact hl
    · split
      · exact fit_union _
      · exact fun j => by simp
  · exact fun j => by simp
theorem slow_fit (n slf seq : Int) (l : List Int) (vs : List Vt) : Fit (slowQ n slf seq l vs).2.2 := by
  unfold slowQ
  split
  · split
    · exact fun j => by simp
    · exact fit_union _
  · exact fun j => by simp
theorem plan_fit {n row : Int} {vs : List Vt} {w : World} (hv : ∀ v ∈ vs, Vok w v) : Fit (planQ n row vs).2.2.2 := by
  have hx : ∀ v ∈ highQ (ansQ (talP n vs)), Fit v.deps := fun v h => (hv v (high_ok h).1).seg.2.2.2
  unfold planQ
  split
  · split
    · exact fun j => by simp
    · split
      · exact fun j => by simp
      · rename_i h hr hq
        split
        · rename_i x t ha
          exact hx x (by rw [hq]; exact (List.mem_filter.1 (by rw [ha]; exact List.mem_cons_self ..)).1)
        · split
          · split
            · rename_i y t ha
              exact hx y (by rw [hq]; exact (List.mem_filter.1 (by rw [ha]; exact List.mem_cons_self ..)).1)
            · exact fun j => by simp
          · exact fun j => by simp
  · exact fun j => by simp
set_option maxHeartbeats 8000000 in
set_option maxRecDepth 100000 in
theorem alike_any (n slf seq : Int) (a : Option Addr) (k c : Nat) (l : List Int) (va : Option Addr) (N vc : Nat) (vs : List Vt) (wa : Option Addr) (M wc : Nat) (ws : List Vt) (w : World) (h : SegI w a k l) (hkc : k ≤ c) (hv : VSeg w va N vs) (hw : VSeg w wa M ws) (hb : -9223372036854775808 ≤ slf ∧ slf ≤ 9223372036854775807)
    (ef : fastQ n slf seq l ws = fastQ n slf seq l vs) (es : slowQ n slf seq l ws = slowQ n slf seq l vs) (ep : planQ n slf ws = planQ n slf vs) :
    Calls Try.prog 8 #[.int .i64 n, .int .i64 slf, .agg #[.int .i64 seq, .slice a k c], .slice va N vc, .slice wa M wc] w fun e w' => e = .returned (.bool true) ∧ Below w.heap.size w w' := by
  have FF : Hid (Fit (fastQ n slf seq l vs).2.2) := fast_fit n slf seq h.2.2.2 vs
  have FS : Hid (Fit (slowQ n slf seq l vs).2.2) := slow_fit n slf seq l vs
  have FP : Hid (Fit (planQ n slf vs).2.2.2) := plan_fit hv.ok
  obtain ⟨U, hU⟩ : ∃ U, U = w.alloc (.cells #[.int .i64 seq, .slice a k c] 24) := ⟨_, rfl⟩
  have B0 : Hid (Below w.heap.size w U) := by rw [hU]; exact (Below.refl _ w).alloc (Nat.le_refl _) _
  have Q0 : Hid (Blk U w.heap.size [.int .i64 seq, .slice a k c]) := by rw [hU]; exact blk_new w 24 [.int .i64 seq, .slice a k c]
  have HCF1 : Hid (∀ W, Below w.heap.size w W → Calls Try.prog 13 #[.int .i64 n, .int .i64 slf, .agg #[.int .i64 seq, .slice a k c], .slice va N vc] W fun e w' => AnsP W (fastQ n slf seq l vs) e w') := fun W hW => by
    have hV := hv.below hW (Nat.le_refl _)
    have := fast_any n slf seq a k c l va vc vs W (h.below hW (Nat.le_refl _)) hkc (by rw [hV.len]; exact hV.row) hV.ok
    rwa [hV.len] at this
  have HCF2 : Hid (∀ W, Below w.heap.size w W → Calls Try.prog 13 #[.int .i64 n, .int .i64 slf, .agg #[.int .i64 seq, .slice a k c], .slice wa M wc] W fun e w' => AnsP W (fastQ n slf seq l vs) e w') := fun W hW => by
    have hV := hw.below hW (Nat.le_refl _)
    have := fast_any n slf seq a k c l wa wc ws W (h.below hW (Nat.le_refl _)) hkc (by rw [hV.len]; exact hV.row) hV.ok
    rwa [hV.len, ef] at this
  have HCS1 : Hid (∀ W, Below w.heap.size w W → Calls Try.prog 16 #[.int .i64 n, .int .i64 slf, .agg #[.int .i64 seq, .slice a k c], .slice va N vc] W fun e w' => AnsP W (slowQ n slf seq l vs) e w') := fun W hW => by
    have hV := hv.below hW (Nat.le_refl _)
    have := slow_any n slf seq a k c l va vc vs W (h.below hW (Nat.le_refl _)) hkc (by rw [hV.len]; exact hV.row) hV.ok
    rwa [hV.len] at this
  have HCS2 : Hid (∀ W, Below w.heap.size w W → Calls Try.prog 16 #[.int .i64 n, .int .i64 slf, .agg #[.int .i64 seq, .slice a k c], .slice wa M wc] W fun e w' => AnsP W (slowQ n slf seq l vs) e w') := fun W hW => by
    have hV := hw.below hW (Nat.le_refl _)
    have := slow_any n slf seq a k c l wa wc ws W (h.below hW (Nat.le_refl _)) hkc (by rw [hV.len]; exact hV.row) hV.ok
    rwa [hV.len, es] at this
  have HCP1 : Hid (∀ W, Below w.heap.size w W → Calls Try.prog 17 #[.int .i64 n, .int .i64 slf, .slice va N vc] W fun e w' => PlanP W (planQ n slf vs) e w') := fun W hW => by
    have hV := hv.below hW (Nat.le_refl _)
    have := prep_any n slf va vc vs W (by rw [hV.len]; exact hV.row) hV.ok hb
    rwa [hV.len] at this
  have HCP2 : Hid (∀ W, Below w.heap.size w W → Calls Try.prog 17 #[.int .i64 n, .int .i64 slf, .slice wa M wc] W fun e w' => PlanP W (planQ n slf vs) e w') := fun W hW => by
    have hV := hw.below hW (Nat.le_refl _)
    have := prep_any n slf wa wc ws W (by rw [hV.len]; exact hV.row) hV.ok hb
    rwa [hV.len, ep] at this
  clear h hkc hv hw hb ef es ep
  generalize fastQ n slf seq l vs = rf at *
  generalize slowQ n slf seq l vs = rs at *
  generalize planQ n slf vs = rp at *
  obtain ⟨k1, s1, d1⟩ := rf
  obtain ⟨k2, s2, d2⟩ := rs
  obtain ⟨k3, c3, s3, d3⟩ := rp
  have hkk1 : (k1 != k1) = false := by simp
  have hkk2 : (k2 != k2) = false := by simp
  go_enter Try.func8, Try.ntmps8
  go_upto_region 1 with fail
  rw [← hU]
  clear hU
  go_wp2_with (first | (refine wpList_load_mid rfl 24 _ rfl w.heap.size 0 rfl [.int .i64 seq, .slice a k c] _ Q0.out.range Try.underlying24 rfl (by kernel_rfl) ?_))
  refine (HCF1.out _ B0.out).mono ?_
  rintro e w1 ⟨u1, t1, rfl, ho1, hb1⟩
  dsimp only
  obtain ⟨X1, hX1⟩ : ∃ X1, X1 = w1.alloc (.cells [.int .i64 0, .slice none 0 0].toArray 24) := ⟨_, rfl⟩
  have ZX1 : Hid (Blk X1 w1.heap.size [.int .i64 0, .slice none 0 0]) := by rw [hX1]; exact blk_new w1 24 [.int .i64 0, .slice none 0 0]
  have TX1 := hide ZX1.out.there
  obtain ⟨Y1, hY1⟩ : ∃ Y1, Y1 = X1.setCells w1.heap.size 0 [.int .i64 s1, .slice u1 d1.length t1] := ⟨_, rfl⟩
  have HP1 : Hid (Blk Y1 w1.heap.size [.int .i64 s1, .slice u1 d1.length t1]) := by rw [hY1]; exact blk_cells ZX1.out rfl
  have HW1 : Hid (Below w1.heap.size w1 Y1) := by rw [hY1]; exact below_cells (Nat.le_refl _) _ _ _ (by rw [hX1]; exact (Below.refl _ _).alloc (Nat.le_refl _) _)
  have HS1 : Hid (SegI Y1 u1 d1.length d1) := by
    obtain ⟨u', t', he, -, hseg⟩ := own_segI ho1 FF.out
    injection he with e1 e2 e3
    rw [e1]; exact hseg.below HW1.out (Nat.le_refl _)
  have HX1 : Hid (w1.alloc (.cells #[.int .i64 0, .slice none 0 0] 24) = X1) := hX1.symm
  have HY1 := hide hY1
  have HV1 : Hid (Below U.heap.size U Y1) := hb1.trans (HW1.out.mono hb1.size)
  have B1 : Hid (Below w.heap.size w Y1) := B0.out.trans (HV1.out.mono B0.out.size)
  have Q1 : Hid (Blk Y1 w.heap.size [.int .i64 seq, .slice a k c]) := Q0.out.on HV1.out
  have hs1 := hb1.size
  clear hX1 hY1 hb1 ho1
  go_wp2_with (first | (rw [HX1.out]; refine wpList_store_mid rfl 24 _ _ rfl w1.heap.size 0 #[.int .i64 s1, .slice u1 d1.length t1] rfl rfl TX1.out (by kernel_rfl) (by kernel_rfl) ?_; first | rw [← HY1.out] | (simp only [List.toList_toArray]; rw [← HY1.out])) | (refine wpList_load_mid rfl 24 _ rfl w.heap.size 0 rfl [.int .i64 seq, .slice a k c] _ Q1.out.range Try.underlying24 rfl (by kernel_rfl) ?_))
  refine (HCF2.out _ B1.out).mono ?_
  rintro e w2 ⟨u2, t2, rfl, ho2, hb2⟩
  dsimp only
  obtain ⟨X2, hX2⟩ : ∃ X2, X2 = w2.alloc (.cells [.int .i64 0, .slice none 0 0].toArray 24) := ⟨_, rfl⟩
  have ZX2 : Hid (Blk X2 w2.heap.size [.int .i64 0, .slice none 0 0]) := by rw [hX2]; exact blk_new w2 24 [.int .i64 0, .slice none 0 0]
  have TX2 := hide ZX2.out.there
  obtain ⟨Y2, hY2⟩ : ∃ Y2, Y2 = X2.setCells w2.heap.size 0 [.int .i64 s1, .slice u2 d1.length t2] := ⟨_, rfl⟩
  have HP2 : Hid (Blk Y2 w2.heap.size [.int .i64 s1, .slice u2 d1.length t2]) := by rw [hY2]; exact blk_cells ZX2.out rfl
  have HW2 : Hid (Below w2.heap.size w2 Y2) := by rw [hY2]; exact below_cells (Nat.le_refl _) _ _ _ (by rw [hX2]; exact (Below.refl _ _).alloc (Nat.le_refl _) _)
  have HS2 : Hid (SegI Y2 u2 d1.length d1) := by
    obtain ⟨u', t', he, -, hseg⟩ := own_segI ho2 FF.out
    injection he with e1 e2 e3
    rw [e1]; exact hseg.below HW2.out (Nat.le_refl _)
  have HX2 : Hid (w2.alloc (.cells #[.int .i64 0, .slice none 0 0] 24) = X2) := hX2.symm
  have HY2 := hide hY2
  have HV2 : Hid (Below Y1.heap.size Y1 Y2) := hb2.trans (HW2.out.mono hb2.size)
  have B2 : Hid (Below w.heap.size w Y2) := B1.out.trans (HV2.out.mono B1.out.size)
  have Q2 : Hid (Blk Y2 w.heap.size [.int .i64 seq, .slice a k c]) := Q1.out.on HV2.out
  have hs2 := hb2.size
  have HPA2 : Hid (Blk Y2 w1.heap.size [.int .i64 s1, .slice u1 d1.length t1]) := HP1.out.on HV2.out
  have HSA2 : Hid (SegI Y2 u1 d1.length d1) := HS1.out.below HV2.out (Nat.le_refl _)
  clear hX2 hY2 hb2 ho2
  go_wp2_with (first | (rw [HX2.out]; refine wpList_store_mid rfl 24 _ _ rfl w2.heap.size 0 #[.int .i64 s1, .slice u2 d1.length t2] rfl rfl TX2.out (by kernel_rfl) (by kernel_rfl) ?_; first | rw [← HY2.out] | (simp only [List.toList_toArray]; rw [← HY2.out])) | (refine wpList_load_mid rfl 24 _ rfl w1.heap.size 0 rfl [.int .i64 s1, .slice u1 d1.length t1] _ HPA2.out.range Try.underlying24 rfl (by kernel_rfl) ?_) | (refine wpList_load_mid rfl 24 _ rfl w2.heap.size 0 rfl [.int .i64 s1, .slice u2 d1.length t2] _ HP2.out.range Try.underlying24 rfl (by kernel_rfl) ?_))
  refine (sameAttr_any s1 s1 _ _ _ _ _ _ d1 d1 _ HSA2.out HS2.out (b := true) (by simp [sameB])).mono ?_
  rintro e w3 ⟨rfl, hb3⟩
  have B3 : Hid (Below w.heap.size w w3) := B2.out.trans (hb3.mono B2.out.size)
  have Q3 : Hid (Blk w3 w.heap.size [.int .i64 seq, .slice a k c]) := Q2.out.on hb3
  have PA3 : Hid (Blk w3 w1.heap.size [.int .i64 s1, .slice u1 d1.length t1]) := HPA2.out.on hb3
  have PB3 : Hid (Blk w3 w2.heap.size [.int .i64 s1, .slice u2 d1.length t2]) := HP2.out.on hb3
  have hp1 : w.heap.size < w1.heap.size := Nat.lt_of_lt_of_le Q0.out.lt hs1
  have hp2 : w1.heap.size < w2.heap.size := Nat.lt_of_lt_of_le HP1.out.lt hs2
  have hp3 : w2.heap.size < w3.heap.size := PB3.out.lt
  clear hb3 B1 B2 Q1 Q2 HP1 HP2 HPA2 HSA2 HS1 HS2 HX1 HX2 HY1 HY2 TX1 TX2 ZX1 ZX2 HV1 HV2 HW1 HW2 HCF1 HCF2 Q0 B0 FF
  have TA3 := hide PA3.out.there
  go_wp2_with (first | (refine wpList_load_mid rfl 24 _ rfl w.heap.size 0 rfl [.int .i64 seq, .slice a k c] _ Q3.out.range Try.underlying24 rfl (by kernel_rfl) ?_))
  refine (HCS1.out _ B3.out).mono ?_
  rintro e w5 ⟨u5, t5, rfl, ho5, hb5⟩
  dsimp only
  have B5' : Hid (Below w.heap.size w w5) := B3.out.trans (hb5.mono B3.out.size)
  have PA5' : Hid (Blk w5 w1.heap.size [.int .i64 s1, .slice u1 d1.length t1]) := PA3.out.on hb5
  have TA5 := hide PA5'.out.there
  obtain ⟨Y5, hY5⟩ : ∃ Y5, Y5 = w5.setCells w1.heap.size 0 [.int .i64 s2, .slice u5 d2.length t5] := ⟨_, rfl⟩
  have PA5 : Hid (Blk Y5 w1.heap.size [.int .i64 s2, .slice u5 d2.length t5]) := by rw [hY5]; exact blk_cells PA5'.out rfl
  have Q5 : Hid (Blk Y5 w.heap.size [.int .i64 seq, .slice a k c]) := by rw [hY5]; exact blk_other (Q3.out.on hb5) (by omega)
  have PB5 : Hid (Blk Y5 w2.heap.size [.int .i64 s1, .slice u2 d1.length t2]) := by rw [hY5]; exact blk_other (PB3.out.on hb5) (by omega)
  have B5 : Hid (Below w.heap.size w Y5) := by rw [hY5]; exact below_cells (by omega) _ _ _ B5'.out
  have O5 : Hid (Y5.ownsRow w3.heap.size 3 1 (.slice u5 d2.length t5) d2.length (d2.map (Value.int .i64))) := by rw [hY5]; exact own_other ho5 (by omega)
  have HY5 := hide hY5
  have hz5 := hb5.size
  clear hY5 ho5 hb5 B5' PA5' TA3 PA3 PB3 Q3 B3
  go_wp2_with (first | (refine wpList_store_mid rfl 24 _ _ rfl w1.heap.size 0 #[.int .i64 s2, .slice u5 d2.length t5] rfl rfl TA5.out (by kernel_rfl) (by kernel_rfl) ?_; first | rw [← HY5.out] | (simp only [List.toList_toArray]; rw [← HY5.out])) | (refine wpList_load_mid rfl 24 _ rfl w.heap.size 0 rfl [.int .i64 seq, .slice a k c] _ Q5.out.range Try.underlying24 rfl (by kernel_rfl) ?_))
  refine (HCS2.out _ B5.out).mono ?_
  rintro e w6 ⟨u6, t6, rfl, ho6, hb6⟩
  dsimp only
  have B6' : Hid (Below w.heap.size w w6) := B5.out.trans (hb6.mono B5.out.size)
  have PB6' : Hid (Blk w6 w2.heap.size [.int .i64 s1, .slice u2 d1.length t2]) := PB5.out.on hb6
  have TB6 := hide PB6'.out.there
  have hz6 : w3.heap.size ≤ Y5.heap.size := by rw [HY5.out]; have := PB6'.out.lt; simpa [World.setCells, World.setCell] using hz5
  obtain ⟨Y6, hY6⟩ : ∃ Y6, Y6 = w6.setCells w2.heap.size 0 [.int .i64 s2, .slice u6 d2.length t6] := ⟨_, rfl⟩
  have PB6 : Hid (Blk Y6 w2.heap.size [.int .i64 s2, .slice u6 d2.length t6]) := by rw [hY6]; exact blk_cells PB6'.out rfl
  have PA6 : Hid (Blk Y6 w1.heap.size [.int .i64 s2, .slice u5 d2.length t5]) := by rw [hY6]; exact blk_other (PA5.out.on hb6) (by omega)
  have B6 : Hid (Below w.heap.size w Y6) := by rw [hY6]; exact below_cells (by omega) _ _ _ B6'.out
  have S6 : Hid (SegI Y6 u6 d2.length d2) := by
    obtain ⟨u', t', he, -, hseg⟩ := own_segI (own_other (g := w2.heap.size) (vs := [.int .i64 s2, .slice u6 d2.length t6]) ho6 (by omega)) FS.out
    injection he with e1 e2 e3
    rw [e1, hY6]; exact hseg
  have S5 : Hid (SegI Y6 u5 d2.length d2) := by
    obtain ⟨u', t', he, -, hseg⟩ := own_segI (own_other (g := w2.heap.size) (vs := [.int .i64 s2, .slice u6 d2.length t6]) (own_below O5.out hb6 (Nat.le_refl _)) (by omega)) FS.out
    injection he with e1 e2 e3
    rw [e1, hY6]; exact hseg
  have HY6 := hide hY6
  clear hY6 ho6 hb6 B6' PB6' PA5 PB5 Q5 B5 O5 TA5 HY5 HCS1 HCS2 FS
  go_wp2_with (first | (refine wpList_store_mid rfl 24 _ _ rfl w2.heap.size 0 #[.int .i64 s2, .slice u6 d2.length t6] rfl rfl TB6.out (by kernel_rfl) (by kernel_rfl) ?_; first | rw [← HY6.out] | (simp only [List.toList_toArray]; rw [← HY6.out])) | (refine wpList_load_mid rfl 24 _ rfl w1.heap.size 0 rfl [.int .i64 s2, .slice u5 d2.length t5] _ PA6.out.range Try.underlying24 rfl (by kernel_rfl) ?_) | (refine wpList_load_mid rfl 24 _ rfl w2.heap.size 0 rfl [.int .i64 s2, .slice u6 d2.length t6] _ PB6.out.range Try.underlying24 rfl (by kernel_rfl) ?_))
  refine (sameAttr_any s2 s2 _ _ _ _ _ _ d2 d2 _ S5.out S6.out (b := true) (by simp [sameB])).mono ?_
  rintro e w7 ⟨rfl, hb7⟩
  have B7 : Hid (Below w.heap.size w w7) := B6.out.trans (hb7.mono B6.out.size)
  clear hb7 B6 S5 S6 PA6 PB6 HY6 TB6 hz5 hz6
  go_wp2_with fail
  refine (HCP1.out _ B7.out).mono ?_
  rintro e w8 ⟨u8, t8, rfl, ho8, hb8⟩
  dsimp only
  obtain ⟨X8, hX8⟩ : ∃ X8, X8 = w8.alloc (.cells zP.toArray 46) := ⟨_, rfl⟩
  have ZX8 : Hid (Blk X8 w8.heap.size zP) := by rw [hX8]; exact blk_new w8 46 zP
  have TX8 := hide ZX8.out.there
  obtain ⟨Y8, hY8⟩ : ∃ Y8, Y8 = X8.setCells w8.heap.size 0 (pcs k3 c3 s3 u8 d3.length t8) := ⟨_, rfl⟩
  have HP8 : Hid (Blk Y8 w8.heap.size (pcs k3 c3 s3 u8 d3.length t8)) := by rw [hY8]; exact blk_cells ZX8.out rfl
  have HW8 : Hid (Below w8.heap.size w8 Y8) := by rw [hY8]; exact below_cells (Nat.le_refl _) _ _ _ (by rw [hX8]; exact (Below.refl _ _).alloc (Nat.le_refl _) _)
  have HS8 : Hid (SegI Y8 u8 d3.length d3) := by
    obtain ⟨u', t', he, -, hseg⟩ := own_segI ho8 FP.out
    injection he with e1 e2 e3
    rw [e1]; exact hseg.below HW8.out (Nat.le_refl _)
  have HX8 : Hid (w8.alloc (.cells #[.int .i64 0, .int .i64 0, .int .i64 0, .int .i64 0, .string ⟨#[]⟩, .string ⟨#[]⟩, .string ⟨#[]⟩, .string ⟨#[]⟩, .int .i64 0, .int .i64 0, .slice none 0 0] 46) = X8) := hX8.symm
  have HY8 := hide hY8
  have HV8 : Hid (Below w7.heap.size w7 Y8) := hb8.trans (HW8.out.mono hb8.size)
  have B8 : Hid (Below w.heap.size w Y8) := B7.out.trans (HV8.out.mono B7.out.size)
  clear hX8 hY8 hb8 ho8
  go_wp2_with (rw [HX8.out]; refine wpList_store_mid rfl 46 _ _ rfl w8.heap.size 0 (pcs k3 c3 s3 u8 d3.length t8).toArray rfl rfl TX8.out (by kernel_rfl) (all_oneCell_toArray (pcs_one _ _ _ _ _ _)) ?_; first | rw [← HY8.out] | (simp only [List.toList_toArray]; rw [← HY8.out]))
  refine (HCP2.out _ B8.out).mono ?_
  rintro e w9 ⟨u9, t9, rfl, ho9, hb9⟩
  dsimp only
  obtain ⟨X9, hX9⟩ : ∃ X9, X9 = w9.alloc (.cells zP.toArray 46) := ⟨_, rfl⟩
  have ZX9 : Hid (Blk X9 w9.heap.size zP) := by rw [hX9]; exact blk_new w9 46 zP
  have TX9 := hide ZX9.out.there
  obtain ⟨Y9, hY9⟩ : ∃ Y9, Y9 = X9.setCells w9.heap.size 0 (pcs k3 c3 s3 u9 d3.length t9) := ⟨_, rfl⟩
  have HP9 : Hid (Blk Y9 w9.heap.size (pcs k3 c3 s3 u9 d3.length t9)) := by rw [hY9]; exact blk_cells ZX9.out rfl
  have HW9 : Hid (Below w9.heap.size w9 Y9) := by rw [hY9]; exact below_cells (Nat.le_refl _) _ _ _ (by rw [hX9]; exact (Below.refl _ _).alloc (Nat.le_refl _) _)
  have HS9 : Hid (SegI Y9 u9 d3.length d3) := by
    obtain ⟨u', t', he, -, hseg⟩ := own_segI ho9 FP.out
    injection he with e1 e2 e3
    rw [e1]; exact hseg.below HW9.out (Nat.le_refl _)
  have HX9 : Hid (w9.alloc (.cells #[.int .i64 0, .int .i64 0, .int .i64 0, .int .i64 0, .string ⟨#[]⟩, .string ⟨#[]⟩, .string ⟨#[]⟩, .string ⟨#[]⟩, .int .i64 0, .int .i64 0, .slice none 0 0] 46) = X9) := hX9.symm
  have HY9 := hide hY9
  have HV9 : Hid (Below Y8.heap.size Y8 Y9) := hb9.trans (HW9.out.mono hb9.size)
  have B9 : Hid (Below w.heap.size w Y9) := B8.out.trans (HV9.out.mono B8.out.size)
  have HPA9 : Hid (Blk Y9 w8.heap.size (pcs k3 c3 s3 u8 d3.length t8)) := HP8.out.on HV9.out
  have HSA9 : Hid (SegI Y9 u8 d3.length d3) := HS8.out.below HV9.out (Nat.le_refl _)
  clear hX9 hY9 hb9 ho9
  go_wp2_with (first | (rw [HX9.out]; refine wpList_store_mid rfl 46 _ _ rfl w9.heap.size 0 (pcs k3 c3 s3 u9 d3.length t9).toArray rfl rfl TX9.out (by kernel_rfl) (all_oneCell_toArray (pcs_one _ _ _ _ _ _)) ?_; first | rw [← HY9.out] | (simp only [List.toList_toArray]; rw [← HY9.out])) | (refine wpList_load_mid rfl 46 _ rfl w8.heap.size 0 rfl (pcs k3 c3 s3 u8 d3.length t8) _ HPA9.out.range Try.underlying46 rfl (by kernel_rfl) ?_) | (refine wpList_load_mid rfl 46 _ rfl w9.heap.size 0 rfl (pcs k3 c3 s3 u9 d3.length t9) _ HP9.out.range Try.underlying46 rfl (by kernel_rfl) ?_))
  refine (samePlan_same k3 c3 s3 _ _ _ _ _ _ d3 _ HSA9.out HS9.out).mono ?_
  rintro e w10 ⟨rfl, hb10⟩
  have B10 : Hid (Below w.heap.size w w10) := B9.out.trans (hb10.mono B9.out.size)
  clear hb10
  go_wp2
  go_ret
  exact ⟨rfl, B10.out⟩
end Go.Proofs.Ytfgcepnjdjjlbaa
