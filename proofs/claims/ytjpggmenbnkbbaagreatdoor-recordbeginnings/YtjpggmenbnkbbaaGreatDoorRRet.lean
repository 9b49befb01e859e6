/- The contracts of mootlaw6's returns and there. -/
import Derived.Test.YtjpggmenbnkbbaaGreatDoorRBack
import Derived.Test.YtjpggmenbnkbbaaGreatDoorRWEnc
import Derived.Test.YtjpggmenbnkbbaaGreatDoorRSame
import Derived.Test.YtjpggmenbnkbbaaGreatDoorRPlain
import Derived.Test.YtjpggmenbnkbbaaGreatDoorDSpoilt
import Derived.Test.YtjpggmenbnkbbaaGreatDoorVSrc
namespace Go.Proofs.YtjpggmenbnkbbaaGreatDoor
open Go.RowKit Go.Wire1

theorem er_lay {r s : Rc} (h : er r = er s) : s = r.lay s.da s.dn s.dc := by
  obtain ⟨a0, a1, a2, a3, a4, a5, a6, a7, a8, a9, b0, b1, b2, b3⟩ := r
  obtain ⟨c0, c1, c2, c3, c4, c5, c6, c7, c8, c9, d0, d1, d2, d3⟩ := s
  simp only [er, Rc.lay, Rc.mk.injEq] at h ⊢
  simp only [h, and_self]
theorem sameRec_same (r s : Rc) (w : World) (he : er r = er s) (h1 : SegI w r.da r.dn r.deps) (h2 : SegI w s.da s.dn s.deps) :
    Calls Tryz.prog 13 #[.agg (rcs r).toArray, .agg (rcs s).toArray] w fun e w' => e = .returned (.bool true) ∧ Below w.heap.size w w' := by
  have e := er_lay he
  have ed : s.deps = r.deps := by rw [e]; rfl
  rw [ed] at h2
  rw [e]
  exact sameRec_lay r _ _ _ w h1 h2
theorem rown_src {w : World} {B : Nat} {v : Value} {l : List Int} (h : w.ownsRow B 5 1 v l.length (l.map (Value.int .u8))) : ∃ a cap, v = .slice a l.length cap ∧ Src a l.length cap ∧ Seg w a l.length l := by
  obtain ⟨a, cap, hv, h1, h2, h3⟩ := seg_own h
  subst hv
  refine ⟨a, cap, rfl, ?_, h3⟩
  rcases h.2 with ⟨e, h0⟩ | ⟨g, cp, cur, e, _⟩
  · injection e with e1 e2 e3
    exact .inl ⟨h0, e3⟩
  · injection e with e1 e2 e3
    exact .inr ⟨⟨g, 0, e1⟩, h1, h2⟩
theorem wrF_small {r : Rc} {x : Nat} (hx : Ltr x) (h9 : x ≠ 99) (h : fitF r x) : (wrF r x).length ≤ 100 := by
  have e10 : ∀ y : Nat, y < 18446744073709551616 → (enc y).length ≤ 10 := fun y hy => (enc_le y hy).2
  rcases hx with rfl | rfl | rfl | rfl | rfl | rfl | rfl | rfl
  · obtain ⟨h1, h2⟩ := h; have := e10 r.id.toNat (by omega); exact Nat.le_trans this (by omega)
  · obtain ⟨h1, h2⟩ := h; have := e10 r.n.toNat (by omega); exact Nat.le_trans this (by omega)
  · obtain ⟨h1, h2, h3, h4⟩ := h; have := e10 (8 * r.num + r.row).toNat (by omega); exact Nat.le_trans this (by omega)
  · obtain ⟨h1, h2, h3, h4⟩ := h; have := e10 (8 * r.round + r.who).toNat (by omega); exact Nat.le_trans this (by omega)
  · show 1 ≤ _; omega
  · exact absurd rfl h9
  · obtain ⟨h1, h2⟩ := h
    show (if noopR r then [] else enc r.seq.toNat).length ≤ _
    split
    · exact Nat.zero_le _
    · have := e10 r.seq.toNat (by omega); omega
  · show (if noopR r then [] else packL 2 r.deps).length ≤ _
    have hv : isVec r.deps = true := h
    split
    · exact Nat.zero_le _
    · rw [← packR_vec (.inr rfl) hv]
      exact (packR_pos (.inr rfl) hv).2
theorem row_ltr {k x : Nat} (hk : k < 6) (hx : x ∈ rowL.getD k []) : Ltr x := by
  rcases (by omega : k = 0 ∨ k = 1 ∨ k = 2 ∨ k = 3 ∨ k = 4 ∨ k = 5) with rfl | rfl | rfl | rfl | rfl | rfl
  · exact absurd hx List.not_mem_nil
  all_goals
    simp only [rowL, List.getD_eq_getElem?_getD, List.getElem?_cons_zero, List.getElem?_cons_succ, Option.getD_some, List.mem_cons, List.not_mem_nil, or_false] at hx
    unfold Ltr
    omega
theorem recB_len {n : Int} {r : Rc} (h : chkR n r = 0) : 0 < (recB r).length ∧ (recB r).length < 262144 := by
  obtain ⟨-, hk, -, -⟩ := chkR_zero h
  have hfit := fit_of_chk h
  obtain ⟨j, hj, hj6⟩ := kindR_nat hk
  have er : rowR r.kind = rowL.getD j [] := by rw [hj]; rfl
  rw [er] at hfit
  have hs : ∀ x ∈ rowL.getD j [], x ≠ 99 → (wrF r x).length ≤ 100 := fun x hx h9 => wrF_small (row_ltr hj6 hx) h9 (hfit x hx)
  have hc : ∀ x ∈ rowL.getD j [], (wrF r x).length ≤ 131281 := fun x hx => wrF_le (row_ltr hj6 hx) (hfit x hx)
  unfold recB
  rw [er, List.length_cons]
  refine ⟨by omega, ?_⟩
  rcases (by omega : j = 0 ∨ j = 1 ∨ j = 2 ∨ j = 3 ∨ j = 4 ∨ j = 5) with rfl | rfl | rfl | rfl | rfl | rfl
  · show 0 + 1 < _; omega
  all_goals
    simp only [rowL, List.getD_eq_getElem?_getD, List.getElem?_cons_zero, List.getElem?_cons_succ, Option.getD_some, List.mem_cons, List.not_mem_nil, or_false, forall_eq_or_imp, forall_eq] at hs hc
    simp only [rowL, List.getD_eq_getElem?_getD, List.getElem?_cons_zero, List.getElem?_cons_succ, Option.getD_some, List.flatMap_cons, List.flatMap_nil, List.length_append, List.length_nil]
    omega
theorem byt_recB {n : Int} {r : Rc} (h : chkR n r = 0) : Byt (recB r) := by
  obtain ⟨-, hk, -, -⟩ := chkR_zero h
  have hfit := fit_of_chk h
  obtain ⟨j, hj, hj6⟩ := kindR_nat hk
  have er : rowR r.kind = rowL.getD j [] := by rw [hj]; rfl
  intro z hz
  unfold recB at hz
  rcases List.mem_cons.1 hz with rfl | hz
  · omega
  · obtain ⟨x, hx, hz⟩ := List.mem_flatMap.1 hz
    have hf := hfit x hx
    rw [er] at hx
    rcases row_ltr hj6 hx with rfl | rfl | rfl | rfl | rfl | rfl | rfl | rfl
    · exact byt_enc _ z hz
    · exact byt_enc _ z hz
    · exact byt_enc _ z hz
    · exact byt_enc _ z hz
    · have : z = if r.same then 1 else 0 := List.mem_singleton.1 hz
      rw [this]
      split <;> omega
    · have hc : chk 2 r.c = 0 := hf
      exact byt_encC (sound_of hc).k0 (sound_of hc).k8 z hz
    · have hz : z ∈ (if noopR r then [] else enc r.seq.toNat) := hz
      split at hz
      · exact absurd hz List.not_mem_nil
      · exact byt_enc _ z hz
    · have hz : z ∈ (if noopR r then [] else packL 2 r.deps) := hz
      have hv : isVec r.deps = true := hf
      split at hz
      · exact absurd hz List.not_mem_nil
      · rw [← packR_vec (.inr rfl) hv] at hz
        exact byt_packR _ _ z hz

set_option maxHeartbeats 4000000 in
set_option maxRecDepth 100000 in
theorem returns6_any (n : Int) (r : Rc) (a : Nat → Addr) (w : World) (hr : Rok w r) (hR : Rws w) (hK : Knd w) (he : Errs w a) (hn1 : -9223372036854775808 ≤ r.c.n) (hn2 : r.c.n ≤ 9223372036854775807) :
    Calls Tryz.prog 15 #[.int .i64 n, .agg (rcs r).toArray] w fun e w' => e = .returned (.bool true) ∧ Below w.heap.size w w' := by
  obtain ⟨V, hV⟩ : ∃ V, V = w.alloc (.cells (rcs r).toArray 30) := ⟨_, rfl⟩
  have Q : Hid (Blk V w.heap.size (rcs r)) := by rw [hV]; exact blk_new w 30 (rcs r)
  have BV : Hid (Below w.heap.size w V) := by rw [hV]; exact (Below.refl _ _).alloc (Nat.le_refl _) _
  have hVs : w.heap.size < V.heap.size := Q.out.lt
  have HR := hide hr
  have HW := hide hR
  have HK := hide hK
  have HE := hide he
  have HN1 := hide hn1
  have HN2 := hide hn2
  clear hr hR hK he hn1 hn2
  by_cases hz : chkR n r = 0
  · have HZ := hide hz
    have LEN := hide (recB_len hz)
    have BYT := hide (byt_recB hz)
    have BACK := hide (decR_back hz HN1.out HN2.out)
    clear hz
    go_enter Tryz.func15, Tryz.ntmps15
    go_upto_region 1 with fail
    rw [← hV]
    clear hV
    go_wp2_with (first | (refine wpList_load_mid rfl 30 _ rfl w.heap.size 0 rfl (rcs r) _ (Q.out.range) Tryz.underlying30 rfl (by kernel_rfl) ?_))
    refine (recCheck_any n r _ (HR.out.below BV.out (Nat.le_refl _)) (HW.out.below BV.out (Nat.le_refl _)) (HK.out.below BV.out (Nat.le_refl _))).mono ?_
    rintro e w1 ⟨rfl, hb⟩
    rw [HZ.out]
    have B1 : Hid (Below w.heap.size w w1) := BV.out.trans (hb.mono (by omega))
    have Q1 : Hid (Blk w1 w.heap.size (rcs r)) := Q.out.on hb
    have z1 : w.heap.size < w1.heap.size := Q1.out.lt
    clear hb
    go_wp2_with (first | (refine wpList_load_mid rfl 30 _ rfl w.heap.size 0 rfl (rcs r) _ (Q1.out.range) Tryz.underlying30 rfl (by kernel_rfl) ?_))
    refine (renc_any n r _ (HR.out.below B1.out (Nat.le_refl _)) (HW.out.below B1.out (Nat.le_refl _)) (HK.out.below B1.out (Nat.le_refl _)) HN1.out HN2.out HZ.out).mono ?_
    rintro e w2 ⟨u, rfl, ho, hb⟩
    obtain ⟨sa, cap, rfl, hsrc, hseg⟩ := rown_src ho
    have SRC := hide hsrc
    have SEG := hide hseg
    have B2 : Hid (Below w.heap.size w w2) := B1.out.trans (hb.mono (by omega))
    have Q2 : Hid (Blk w2 w.heap.size (rcs r)) := Q1.out.on hb
    have z2 : w.heap.size < w2.heap.size := Q2.out.lt
    clear hb ho hsrc hseg
    obtain ⟨L, hL⟩ : ∃ L, Hid (recB r = L) := ⟨_, rfl⟩
    rw [hL.out] at LEN BYT BACK SRC SEG ⊢
    have l1 : 0 < L.length := LEN.out.1
    have l2 : L.length < 262144 := LEN.out.2
    clear hL LEN
    go_wp2_with (first | (go_at_call 11; refine (num6_any _ _).mono ?_; rintro e w' ⟨rfl, rfl⟩))
    refine (rdec_any n _ _ _ L a _ SEG.out SRC.out BYT.out (HE.out.below B2.out (Nat.le_refl _)) (HK.out.below B2.out (Nat.le_refl _)) (HW.out.below B2.out (Nat.le_refl _))).mono ?_
    rintro e w3 ⟨rr, rfl, her, hsg, hb⟩
    rw [BACK.out.2]
    have ER : Hid (er r = er rr) := (her.trans BACK.out.1).symm
    have SG3 : Hid (SegI w3 rr.da rr.dn rr.deps) := hsg
    have B3 : Hid (Below w.heap.size w w3) := B2.out.trans (hb.mono (by omega))
    have Q3 : Hid (Blk w3 w.heap.size (rcs r)) := Q2.out.on hb
    have z3 : w.heap.size < w3.heap.size := Q3.out.lt
    clear hb her hsg BACK BYT SEG SRC
    obtain ⟨U, hU⟩ : ∃ U, U = w3.alloc (.cells zeroL.toArray 30) := ⟨_, rfl⟩
    have BU : Hid (Below w3.heap.size w3 U) := by rw [hU]; exact (Below.refl _ _).alloc (Nat.le_refl _) _
    have QU : Hid (Blk U w3.heap.size zeroL) := by rw [hU]; exact blk_new w3 30 zeroL
    have TH : Hid (U.there w3.heap.size 0 18) := QU.out.there
    obtain ⟨X, hX⟩ : ∃ X, X = U.setCells w3.heap.size 0 (rcs rr) := ⟨_, rfl⟩
    have RX := hide (box_stored (w := w3) QU.out (by rfl) BU.out (Nat.le_refl _) hX)
    have BX : Hid (Below w.heap.size w X) := B3.out.trans (RX.out.2.mono (by omega))
    have QX : Hid (Blk X w.heap.size (rcs r)) := Q3.out.on RX.out.2
    have SX : Hid (SegI X rr.da rr.dn rr.deps) := SG3.out.below RX.out.2 (Nat.le_refl _)
    have HU := hide hU
    have HX := hide hX
    clear hU hX
    have eU : w3.alloc (.cells #[.int .i64 0, .int .i64 0, .int .i64 0, .int .i64 0, .int .i64 0, .bool false, .int .i64 0, .int .i64 0, .int .i64 0, .string ⟨#[]⟩, .string ⟨#[]⟩, .string ⟨#[]⟩, .string ⟨#[]⟩, .int .i64 0, .int .i64 0, .slice none 0 0, .int .i64 0, .int .i64 0] 30) = U := HU.out.symm
    have zX : w3.heap.size < X.heap.size := RX.out.1.lt
    go_upto_region 8 with (first | (refine wpList_store_mid rfl 30 _ _ rfl w3.heap.size 0 (rcs rr).toArray rfl rfl (by first | exact TH.out | (rw [eU]; exact TH.out)) (by kernel_rfl) (by kernel_rfl) ?_; first | rw [← HX.out] | (rw [eU, ← HX.out])))
    go_wp2_with (first | (refine wpList_load_mid rfl 30 _ rfl w.heap.size 0 rfl (rcs r) _ (QX.out.range) Tryz.underlying30 rfl (by kernel_rfl) ?_) | (refine wpList_load_mid rfl 30 _ rfl w3.heap.size 0 rfl (rcs rr) _ (RX.out.1.range) Tryz.underlying30 rfl (by kernel_rfl) ?_))
    refine (sameRec_same r rr _ ER.out (HR.out.below BX.out (Nat.le_refl _)).seg SX.out).mono ?_
    rintro e w4 ⟨rfl, hb⟩
    have B4 : Hid (Below w.heap.size w w4) := BX.out.trans (hb.mono (by omega))
    clear hb eU
    have g1 : ((L.length : Int) > 0) := by omega
    have g2 : ((L.length : Int) < 262144) := by omega
    go_wp2_with (first | (go_at_call 11; refine (num6_any _ _).mono ?_; rintro e w' ⟨rfl, rfl⟩))
    go_ret
    exact ⟨rfl, B4.out⟩
  · obtain ⟨z, hzz⟩ : ∃ z, Hid (chkR n r = z) := ⟨_, rfl⟩
    have HZ := hide hz
    rw [hzz.out] at hz
    have g1 : (((z : Nat) : Int) != 0) = true := by rw [bne_iff_ne]; omega
    clear hz
    go_enter Tryz.func15, Tryz.ntmps15
    go_upto_region 1 with fail
    rw [← hV]
    clear hV
    go_wp2_with (first | (refine wpList_load_mid rfl 30 _ rfl w.heap.size 0 rfl (rcs r) _ (Q.out.range) Tryz.underlying30 rfl (by kernel_rfl) ?_))
    refine (recCheck_any n r _ (HR.out.below BV.out (Nat.le_refl _)) (HW.out.below BV.out (Nat.le_refl _)) (HK.out.below BV.out (Nat.le_refl _))).mono ?_
    rintro e w1 ⟨rfl, hb⟩
    rw [hzz.out]
    have B1 : Hid (Below w.heap.size w w1) := BV.out.trans (hb.mono (by omega))
    have Q1 : Hid (Blk w1 w.heap.size (rcs r)) := Q.out.on hb
    have z1 : w.heap.size < w1.heap.size := Q1.out.lt
    clear hb
    go_wp2_with (first | (refine wpList_load_mid rfl 30 _ rfl w.heap.size 0 rfl (rcs r) _ (Q1.out.range) Tryz.underlying30 rfl (by kernel_rfl) ?_))
    refine (renc_no n r _ (HR.out.below B1.out (Nat.le_refl _)) (HW.out.below B1.out (Nat.le_refl _)) (HK.out.below B1.out (Nat.le_refl _)) HZ.out).mono ?_
    rintro e w2 ⟨rfl, hb⟩
    rw [hzz.out]
    have B2 : Hid (Below w.heap.size w w2) := B1.out.trans (hb.mono (by omega))
    clear hb
    go_wp2_with (first | (go_at_call 11; refine (num6_any _ _).mono ?_; rintro e w' ⟨rfl, rfl⟩))
    go_ret
    exact ⟨rfl, B2.out⟩

set_option maxHeartbeats 4000000 in
set_option maxRecDepth 100000 in
theorem there6_any (a : Nat → Addr) (w : World) (hR : Rws w) (hK : Knd w) (he : Errs w a) :
    Calls Tryz.prog 14 #[] w fun e w' => e = .returned (.bool true) ∧ Below w.heap.size w w' := by
  have HW := hide hR
  have HK := hide hK
  have HE := hide he
  clear hR hK he
  go_enter Tryz.func14, Tryz.ntmps14
  go_wp2_with fail
  refine (plain6_any _).mono ?_
  rintro e w1 ⟨rfl, S1, hb⟩
  obtain ⟨B, hB⟩ : ∃ B, w.heap.size + 1 = B := ⟨_, rfl⟩
  rw [hB] at S1 ⊢
  clear hB
  have B1 : Hid (Below w.heap.size w w1) := hb
  have z1 : w.heap.size ≤ w1.heap.size := B1.out.size
  have SS1 := hide S1
  clear hb S1
  go_wp2_with fail
  refine (recCheck_any 3 (plainR B) _ (plain_ok SS1.out) (HW.out.below B1.out (Nat.le_refl _)) (HK.out.below B1.out (Nat.le_refl _))).mono ?_
  rintro e w2 ⟨rfl, hb⟩
  rw [plain_chk]
  have B2 : Hid (Below w.heap.size w w2) := B1.out.trans (hb.mono (by omega))
  have z2 : w.heap.size ≤ w2.heap.size := B2.out.size
  clear hb
  go_wp2_with fail
  refine (plain6_any _).mono ?_
  rintro e w3 ⟨rfl, S3, hb⟩
  obtain ⟨C, hC⟩ : ∃ C, w2.heap.size + 1 = C := ⟨_, rfl⟩
  rw [hC] at S3 ⊢
  clear hC
  have B3 : Hid (Below w.heap.size w w3) := B2.out.trans (hb.mono (by omega))
  have z3 : w.heap.size ≤ w3.heap.size := B3.out.size
  have SS3 := hide S3
  clear hb S3
  go_wp2_with fail
  refine (returns6_any 3 (plainR C) a _ (plain_ok SS3.out) (HW.out.below B3.out (Nat.le_refl _)) (HK.out.below B3.out (Nat.le_refl _)) (HE.out.below B3.out (Nat.le_refl _)) (by show _ ≤ (0 : Int); omega) (by show (0 : Int) ≤ _; omega)).mono ?_
  rintro e w4 ⟨rfl, hb⟩
  have B4 : Hid (Below w.heap.size w w4) := B3.out.trans (hb.mono (by omega))
  clear hb
  go_wp2_with (first | (go_at_call 11; refine (num6_any _ _).mono ?_; rintro e w' ⟨rfl, rfl⟩))
  go_ret
  exact ⟨rfl, B4.out⟩
end Go.Proofs.YtjpggmenbnkbbaaGreatDoor
