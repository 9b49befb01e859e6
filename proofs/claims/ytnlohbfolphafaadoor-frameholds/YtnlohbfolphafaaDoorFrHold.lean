/- FrameHolds' walk. -/
import Derived.Test.YtnlohbfolphafaaDoorFrHoldA
namespace Go.Proofs.YtnlohbfolphafaaDoor
open Go.RowKit Go.Wire1 Go.Crc2 Go.Frm

set_option maxHeartbeats 8000000 in
set_option maxRecDepth 100000 in
theorem holds_good (v : Nat) (hv : v ≤ 2) (sa : Option Addr) (n cap : Nat) (l : List Int) (ca : Option Addr) (cn ccap : Nat) (cl : List Int) (a : Nat → Addr) (w : World) (hs : Seg w sa n l) (hnc : n ≤ cap) (hc : cap ≤ maxLen) (hy : Byt l) (hI : SegI w ca cn cl) (hcc : cn ≤ ccap) (hH : Hal w) (hE : Errs w a) :
    Calls Tryd.prog 4 #[.int .i64 (v : Int), .slice sa n cap, .slice ca cn ccap] w fun e w' => e = .returned (.bool true) ∧ Below w.heap.size w w' := by
  have q1 : ¬ ((v : Int) < 0) := by omega
  have q2 : ¬ (2 < (v : Int)) := by omega
  have HS := hide hs
  have HY := hide hy
  have HI := hide hI
  have HCM := hide hc
  have HNL := hide hs.1
  have EN0 : Hid (Env w a w.heap.size) := ⟨hH, hE, hE.lt, hE.five⟩
  have hc63 : cap ≤ 9223372036854775807 := by unfold maxLen at hc; omega
  clear hs hy hI hH hE hc
  obtain ⟨b, hb⟩ : ∃ b, b = w.heap.size := ⟨_, rfl⟩
  go_enter Tryd.func4, Tryd.ntmps4
  go_wp2_with fail
  refine (newStream_yes v _ (by omega) w.heap.size (Nat.le_refl _)).mono ?_
  rintro r w1 ⟨rfl, S1, hb1, hz1⟩
  rw [← hb] at S1 hb1 hz1 EN0 ⊢
  have HB := hide hb
  have HS1 := hide S1
  have HB1 := hide hb1
  have HZ1 := hide hz1
  clear S1 hb1 hz1 hb
  go_wp2_with fail
  refine (cut_any sa n cap l ca cn ccap cl w1 (HS.out.below HB1.out (by rw [HB.out]; exact Nat.le_refl _)) hnc HCM.out (HI.out.later (by have := HB1.out; rw [HB.out] at this; exact this)) hcc).mono ?_
  rintro r w2 ⟨val, ps, rfl, hrow, hpcs, hp20, hb2⟩
  rw [HZ1.out] at hrow hb2
  obtain ⟨qa, qc, rfl⟩ := own_shape hrow
  have hqs : Hid (∀ i, i < ps.length → ∃ qb, qa = some ⟨qb, 0, none⟩) := by
    show ∀ i, _
    intro i hi
    rcases hrow.2 with ⟨e, h0⟩ | ⟨g, cap', cur, e, _⟩
    · omega
    · cases e; exact ⟨g, rfl⟩
  obtain ⟨np, hnp⟩ : ∃ np, ps.length = np := ⟨_, rfl⟩
  obtain ⟨vals, hvals⟩ : ∃ vals, vals = ps.map (pcv sa cap) := ⟨_, rfl⟩
  have J0 : Hid (HJ w w2 b (.slice qa np qc) vals w2.heap.size (fresh v 0) (.slice none 0 0)) := by
    rw [hnp, ← hvals] at hrow
    refine ⟨HS1.out.later (by rw [HZ1.out]; exact hb2), (fun k hk => by cases hk), ?_, (fun k hk => (hrow.lt k hk).2), HB1.out.trans (hb2.mono (by omega)), Nat.le_refl _⟩
    have : vals.length = np := by rw [hvals, List.length_map, hnp]
    rw [this]; exact hrow
  have HPC := hide hpcs
  have HVL := hide hvals
  have HNP := hide hnp
  obtain ⟨W2, hW2⟩ : ∃ W2, W2 = w2.heap.size := ⟨_, rfl⟩
  rw [← hW2] at J0
  rw [hnp] at hp20 hqs ⊢
  clear hrow hpcs hb2 hvals hnp hW2
  go_wp2
  go_loopw [9, 10] (fun tv iv wr => ∃ (i took pl : Nat) (h : List Int) (s : Sm) (pv : Value), tv = .int .i64 (took : Int) ∧ iv = .int .i64 (i : Int) ∧ i ≤ np ∧ Hid (took = pl + h.length) ∧ Hid (Pcs took (ps.drop i) n) ∧ Hid (Liv v pl h s) ∧ Hid (HJ w wr b (.slice qa np qc) vals W2 s pv)) (fun _ iv _ => np - (intOf iv).toNat)
  case atStart => exact ⟨0, 0, 0, [], _, _, rfl, rfl, Nat.zero_le _, rfl, HPC, liv_fresh v 0, J0⟩
  case round =>
    obtain ⟨i, took, pl, h, s, pv, rfl, rfl, hi, htk, HPS, HLV, HJJ⟩ := hrel
    have htn : took ≤ n := HPS.out.le
    by_cases hlt : i < np
    · obtain ⟨qb, rfl⟩ := hqs.out i hlt
      have hil : i < ps.length := by have := HNP.out; omega
      obtain ⟨e1, e2⟩ := pcs_at hil HPS.out
      have hcell : wr.cell? ⟨qb, i, none⟩ = some (pcv sa cap (ps.getD i (0, 0))) := by
        have hr := HJJ.out.row
        rw [show vals.length = np by rw [HVL.out, List.length_map]; exact HNP.out] at hr
        rw [hr.cellAt i (by omega), HVL.out, List.getElem?_map, List.getD, List.getElem?_eq_getElem hil]; rfl
      obtain ⟨m, hm⟩ : ∃ m, (ps.getD i (0, 0)).2 = m := ⟨_, rfl⟩
      rw [hm] at e2
      have hpv : pcv sa cap (ps.getD i (0, 0)) = .slice (sa.map (fun x => x.add took)) m (cap - took) := by unfold pcv; rw [e1, hm]
      rw [hpv] at hcell
      have HPN := hide e2
      have htm : took + m ≤ n := e2.le
      have HSG : Hid (Seg w (sa.map (fun x => x.add took)) m ((l.drop took).take m)) := HS.out.cut htm (fun _ b off e => by rw [e]; simp [Addr.add])
      have HYG : Hid (Byt ((l.drop took).take m)) := byt_take (byt_drop HY.out took) m
      obtain ⟨ra0, hra⟩ : ∃ ra0, sa.map (fun x => x.add took) = ra0 := ⟨_, rfl⟩
      rw [hra] at hcell HSG
      clear e1 e2 hm hpv hra hil
      go_wp2
      go_loopw [9, 11] (fun tv rv wq => ∃ (t pl : Nat) (h : List Int) (s : Sm) (pv : Value) (ra : Option Addr) (rm rc : Nat) (lr : List Int), tv = .int .i64 (t : Int) ∧ rv = .slice ra rm rc ∧ Hid (t = pl + h.length) ∧ Hid (t + rm = took + m) ∧ rm ≤ rc ∧ rc ≤ 9223372036854775807 ∧ Hid (Seg w ra rm lr) ∧ Hid (Byt lr) ∧ Hid (Liv v pl h s) ∧ Hid (HJ w wq b (.slice (some ⟨qb, 0, none⟩) np qc) vals W2 s pv)) (fun _ rv _ => slen rv)
      case atStart => exact ⟨took, pl, h, s, pv, ra0, m, cap - took, _, rfl, rfl, htk, rfl, by omega, by omega, HSG, HYG, HLV, HJJ⟩
      case round =>
        clear HLV HJJ HSG HYG htk hcell
        obtain ⟨t, pl, h, s, pv, ra, rm, rc, lr, rfl, rfl, htk, htr, hrm, hrc, HSG, HYG, HLV, HJJ⟩ := hrel
        by_cases hm0 : rm = 0
        · subst hm0
          obtain rfl : t = took + m := by have := htr.out; omega
          go_wp2
          go_roundw
          case rel => exact ⟨i + 1, took + m, pl, h, s, pv, rfl, by go_num, by omega, htk, HPN, HLV, HJJ⟩
          case measure => simp [intOf]; omega
        · obtain ⟨rb, ro, rfl, _⟩ := HSG.out.2.2 (by omega)
          have hmn : t + rm ≤ n := by have := htr.out; omega
          have HEN := hide (EN0.out.below HJJ.out.bel)
          have SG := hide (HSG.out.below HJJ.out.bel (by rw [HB.out]; exact Nat.le_refl _))
          have hsep : Hid (∀ x, some (⟨rb, ro, none⟩ : Addr) = some x → 0 < rm → x.block ≠ b ∧ some x.block ≠ pv.ownBlock) := by
            show ∀ x, _
            intro x hx hn
            have h1 := HSG.out.lt hn hx
            have h2 := HB.out
            exact ⟨by omega, fun e => by have := HJJ.out.str.ownLow x.block e.symm; omega⟩
          have hlr : Hid (lr.length = rm) := HSG.out.1
          have hnc2 : n ≤ 9223372036854775807 := by omega
          go_wp2_with fail
          refine (feed_live _ b s pv b v pl h (some ⟨rb, ro, none⟩) rm rc lr a HJJ.out.str HLV.out SG.out hrm (by unfold maxLen; omega) HYG.out hsep.out HEN.out).mono ?_
          rintro r wA ⟨k, s2, pv2, rfl, F, hk⟩
          have hk0 : 0 < k := fed_pos HJJ.out.str HLV.out F hk (by rw [hlr.out]; omega)
          have hkm : k ≤ rm := by have := F.le; rw [hlr.out] at this; exact this
          have JA := hide (HJJ.out.step F.stp)
          have hHL := HLV.out
          have HTK2 : Hid (t + k = pl + (h.length + k)) := by show _ = _; have := htk.out; omega
          have FL := fed_look F hk
          clear F hk SG hsep HJJ
          rcases FL with ⟨h1, h2, h3⟩ | ⟨f, t2, h1, h2, h3, h4, h5⟩ | ⟨e, h1, h2, h3, h4⟩
          · have fA := h3.fault
            have gA := h3.place
            obtain ⟨hd2, ehd⟩ : ∃ hd2, s2.held = hd2 := ⟨_, rfl⟩
            have hle2 : hd2 ≤ 1048586 := by rw [← ehd]; exact (live_bounds h3).1
            have HD2 : Hid (hd2 = h.length + k) := by show _ = _; rw [← ehd, h3.held, List.length_append, h2]
            have eq2 : (pl : Int) + (hd2 : Int) = (t : Int) + (k : Int) := by have := HTK2.out; have := HD2.out; omega
            have hkr : k = rm := by rw [h2]; exact hlr.out
            have HL2 := hide h3
            have HSH := hide h1
            have HKR := hide hkr
            have hkr2 : rm - k = 0 := by omega
            clear h1 h2 h3 hHL hkr
            go_wp2_with fail
            refine (state_any _ b s2 pv2 b JA.out.str).mono ?_
            rintro r wB ⟨rfl, q, rfl⟩
            rw [fA, gA, ehd]
            have JB := hide (JA.out.drewN q)
            generalize wA.drewN q = wB at *
            clear JA
            have EN2 := hide (EN0.out.below JB.out.bel)
            by_cases hend : rc = k
            · subst hend
              go_wp2_with fail
              refine (feed_live _ b s2 pv2 b v pl (h ++ lr) none 0 0 [] a JB.out.str HL2.out (seg_empty _ _) (Nat.le_refl _) (by unfold maxLen; omega) (fun z hz => by cases hz) (fun x e => by cases e) EN2.out).mono ?_
              rintro r wC ⟨k3, s3, pv3, rfl, F3, hk3⟩
              obtain rfl : k3 = 0 := by have := F3.le; simpa using this
              have JC := hide (JB.out.step F3.stp)
              have L3 : Hid (Liv v pl (h ++ lr) s3) := by
                show Liv v pl (h ++ lr) s3
                rcases fed_look F3 hk3 with ⟨g1, g2, g3⟩ | ⟨f, t3, g1, _⟩ | ⟨e, g1, _⟩
                · simpa using g3
                · rw [List.append_nil, HSH.out] at g1; cases g1
                · rw [List.append_nil, HSH.out] at g1; cases g1
              have f3 := L3.out.fault
              have g3 := L3.out.place
              have i3 : s3.held = hd2 := by rw [L3.out.held, List.length_append, hlr.out, HD2.out, HKR.out]
              have n3 : s3.part ≠ 5 := by have := live_part L3.out; omega
              clear F3 hk3 JB HL2 HSH
              go_wp2_with fail
              refine (num_any 0 _).mono ?_
              rintro r wD ⟨rfl, rfl⟩
              go_wp2_with fail
              refine (take_no _ b s3 pv3 b JC.out.str n3).mono ?_
              rintro r wD ⟨rfl, rfl⟩
              go_wp2_with fail
              refine (state_any _ b s3 pv3 b JC.out.str).mono ?_
              rintro r wD ⟨rfl, q2, rfl⟩
              rw [f3, g3, i3]
              have JD := hide (JC.out.drewN q2)
              generalize wC.drewN q2 = wD at *
              clear JC
              go_wp2_with fail
              refine (num_any 0 _).mono ?_
              rintro r wE ⟨rfl, rfl⟩
              go_wp2
              go_roundw
              case rel => exact ⟨t + rc, pl, h ++ lr, s3, pv3, _, 0, _, [], by go_num, rfl, by show _ = _; have := HTK2.out; have := hlr.out; have := HKR.out; rw [List.length_append]; omega, by show _ = _; have := htr.out; have := HKR.out; omega, Nat.zero_le _, by omega, seg_empty _ _, (fun z hz => by cases hz), L3, JD⟩
              case measure => simp [slen]; omega
            · go_wp2_with fail
              refine (feed_live _ b s2 pv2 b v pl (h ++ lr) none 0 0 [] a JB.out.str HL2.out (seg_empty _ _) (Nat.le_refl _) (by unfold maxLen; omega) (fun z hz => by cases hz) (fun x e => by cases e) EN2.out).mono ?_
              rintro r wC ⟨k3, s3, pv3, rfl, F3, hk3⟩
              obtain rfl : k3 = 0 := by have := F3.le; simpa using this
              have JC := hide (JB.out.step F3.stp)
              have L3 : Hid (Liv v pl (h ++ lr) s3) := by
                show Liv v pl (h ++ lr) s3
                rcases fed_look F3 hk3 with ⟨g1, g2, g3⟩ | ⟨f, t3, g1, _⟩ | ⟨e, g1, _⟩
                · simpa using g3
                · rw [List.append_nil, HSH.out] at g1; cases g1
                · rw [List.append_nil, HSH.out] at g1; cases g1
              have f3 := L3.out.fault
              have g3 := L3.out.place
              have i3 : s3.held = hd2 := by rw [L3.out.held, List.length_append, hlr.out, HD2.out, HKR.out]
              have n3 : s3.part ≠ 5 := by have := live_part L3.out; omega
              clear F3 hk3 JB HL2 HSH
              go_wp2_with fail
              refine (num_any 0 _).mono ?_
              rintro r wD ⟨rfl, rfl⟩
              go_wp2_with fail
              refine (take_no _ b s3 pv3 b JC.out.str n3).mono ?_
              rintro r wD ⟨rfl, rfl⟩
              go_wp2_with fail
              refine (state_any _ b s3 pv3 b JC.out.str).mono ?_
              rintro r wD ⟨rfl, q2, rfl⟩
              rw [f3, g3, i3]
              have JD := hide (JC.out.drewN q2)
              generalize wC.drewN q2 = wD at *
              clear JC
              go_wp2_with fail
              refine (num_any 0 _).mono ?_
              rintro r wE ⟨rfl, rfl⟩
              go_wp2
              go_roundw
              case rel => exact ⟨t + k, pl, h ++ lr, s3, pv3, _, 0, _, [], by go_num, rfl, by show _ = _; have := HTK2.out; have := hlr.out; have := HKR.out; rw [List.length_append]; omega, by show _ = _; have := htr.out; have := HKR.out; omega, Nat.zero_le _, by omega, seg_empty _ _, (fun z hz => by cases hz), L3, JD⟩
              case measure => simp [slen]; omega
          · have fB := h3.fault
            have gB := h3.place
            have pB := h3.part
            have vB := h3.ver
            obtain ⟨w8, w9, w10, w11⟩ := wai_len h3
            have HHD : Hid (s2.held = h.length + k) := by show _ = _; rw [h3.held, List.length_take, List.length_append, hlr.out, h2]; have := hlr.out; omega
            obtain ⟨hd2, ehd⟩ : ∃ hd2, s2.held = hd2 := ⟨_, rfl⟩
            obtain ⟨pn, epn⟩ : ∃ pn, s2.pay.length = pn := ⟨_, rfl⟩
            rw [ehd] at w8 w9 w10 HHD
            rw [epn] at w9 w11
            have eq2 : (pl : Int) + (hd2 : Int) = (t : Int) + (k : Int) := by have := HTK2.out; have := HHD.out; omega
            have HPL : Hid (pl + hd2 = t + k) := by show _ = _; omega
            clear h1 h2 h3 h4 h5 hHL
            go_wp2_with fail
            refine (state_any _ b s2 pv2 b JA.out.str).mono ?_
            rintro r wB ⟨rfl, q, rfl⟩
            rw [fB, gB, ehd]
            have JB := hide (JA.out.drewN q)
            generalize wA.drewN q = wB at *
            clear JA
            by_cases hrest : k < rm
            · have hne : ¬ rc = k := by omega
              have hrs : 0 < rm - k := by omega
              have HSR := hide (HSG.out.from hkm)
              have HYR := hide (byt_drop HYG.out k)
              go_wp2_with fail
              refine (feed_idle _ b s2 pv2 b none 0 0 JB.out.str (.inl pB) (by unfold maxLen; omega)).mono ?_
              rintro r wC ⟨rfl, rfl⟩
              go_wp2_with fail
              refine (num_any 0 _).mono ?_
              rintro r wC ⟨rfl, rfl⟩
              go_wp2_with fail
              refine (feed_idle _ b s2 pv2 b _ _ _ JB.out.str (.inl pB) (by unfold maxLen; omega)).mono ?_
              rintro r wC ⟨rfl, rfl⟩
              go_wp2_with fail
              refine (take_yes _ b s2 pv2 b JB.out.str pB (by omega) (by omega)).mono ?_
              rintro r wC ⟨rfl, _, S3⟩
              have JC := hide (JB.out.step S3)
              rw [vB, gB, ehd, HPL.out] at JC
              rw [epn]
              clear S3 JB
              go_wp2_with fail
              refine (state_any _ b _ _ b JC.out.str).mono ?_
              rintro r wD ⟨rfl, q2, rfl⟩
              simp only [fresh]
              have JD := hide (JC.out.drewN q2)
              generalize wC.drewN q2 = wD at *
              clear JC
              go_wp2_with fail
              refine (num_any 0 _).mono ?_
              rintro r wE ⟨rfl, rfl⟩
              go_wp2
              go_roundw
              case rel => exact ⟨t + k, t + k, [], fresh v (t + k), .slice none 0 0, _, rm - k, _, lr.drop k, by go_num, rfl, rfl, by show _ = _; have := htr.out; omega, by omega, by omega, HSR, HYR, liv_fresh v (t + k), JD⟩
              case measure => simp [slen]; omega
            · obtain rfl : k = rm := by omega
              by_cases hend : rc = k
              · subst hend
                go_wp2_with fail
                refine (feed_idle _ b s2 pv2 b none 0 0 JB.out.str (.inl pB) (by unfold maxLen; omega)).mono ?_
                rintro r wC ⟨rfl, rfl⟩
                go_wp2_with fail
                refine (num_any 0 _).mono ?_
                rintro r wC ⟨rfl, rfl⟩
                go_wp2_with fail
                refine (take_yes _ b s2 pv2 b JB.out.str pB (by omega) (by omega)).mono ?_
                rintro r wC ⟨rfl, _, S3⟩
                have JC := hide (JB.out.step S3)
                rw [vB, gB, ehd, HPL.out] at JC
                rw [epn]
                clear S3 JB
                go_wp2_with fail
                refine (state_any _ b _ _ b JC.out.str).mono ?_
                rintro r wD ⟨rfl, q2, rfl⟩
                simp only [fresh]
                have JD := hide (JC.out.drewN q2)
                generalize wC.drewN q2 = wD at *
                clear JC
                go_wp2_with fail
                refine (num_any 0 _).mono ?_
                rintro r wE ⟨rfl, rfl⟩
                go_wp2
                go_roundw
                case rel => exact ⟨t + rc, t + rc, [], fresh v (t + rc), .slice none 0 0, _, 0, _, [], by go_num, rfl, rfl, by show _ = _; have := htr.out; omega, by omega, by omega, seg_empty _ _, (fun z hz => by cases hz), liv_fresh v (t + rc), JD⟩
                case measure => simp [slen]; omega
              · go_wp2_with fail
                refine (feed_idle _ b s2 pv2 b none 0 0 JB.out.str (.inl pB) (by unfold maxLen; omega)).mono ?_
                rintro r wC ⟨rfl, rfl⟩
                go_wp2_with fail
                refine (num_any 0 _).mono ?_
                rintro r wC ⟨rfl, rfl⟩
                go_wp2_with fail
                refine (take_yes _ b s2 pv2 b JB.out.str pB (by omega) (by omega)).mono ?_
                rintro r wC ⟨rfl, _, S3⟩
                have JC := hide (JB.out.step S3)
                rw [vB, gB, ehd, HPL.out] at JC
                rw [epn]
                clear S3 JB
                go_wp2_with fail
                refine (state_any _ b _ _ b JC.out.str).mono ?_
                rintro r wD ⟨rfl, q2, rfl⟩
                simp only [fresh]
                have JD := hide (JC.out.drewN q2)
                generalize wC.drewN q2 = wD at *
                clear JC
                go_wp2_with fail
                refine (num_any 0 _).mono ?_
                rintro r wE ⟨rfl, rfl⟩
                go_wp2
                go_roundw
                case rel => exact ⟨t + k, t + k, [], fresh v (t + k), .slice none 0 0, _, 0, _, [], by go_num, rfl, rfl, by show _ = _; have := htr.out; omega, by omega, by omega, seg_empty _ _, (fun z hz => by cases hz), liv_fresh v (t + k), JD⟩
                case measure => simp [slen]; omega
          · have he1 : ((e : Int) != 0) = true := by rw [bne_iff_ne]; omega
            have p6 : s2.part = 6 := by rw [h2]; rfl
            have f6 : s2.fault = e := by rw [h2]; rfl
            have g6 : s2.place = pl := by rw [h2]; rfl
            have i6 : s2.held = 0 := by rw [h2]; rfl
            have hlt2 : (pl : Int) < (t : Int) + (k : Int) := by have := HTK2.out; omega
            clear h1 h2 h3 h4 hHL
            go_wp2_with fail
            refine (state_any _ b s2 pv2 b JA.out.str).mono ?_
            rintro r wB ⟨rfl, q, rfl⟩
            rw [f6, g6, i6]
            have JB := hide (JA.out.drewN q)
            generalize wA.drewN q = wB at *
            clear JA
            by_cases hend : rc = k
            · subst hend
              go_wp2_with fail
              refine (feed_idle _ b s2 pv2 b none 0 0 JB.out.str (.inr p6) (by unfold maxLen; omega)).mono ?_
              rintro r wC ⟨rfl, rfl⟩
              go_wp2_with fail
              refine (num_any (e : Int) _).mono ?_
              rintro r wC ⟨rfl, rfl⟩
              go_wp2_with fail
              refine (feed_idle _ b s2 pv2 b _ _ _ JB.out.str (.inr p6) (by unfold maxLen; omega)).mono ?_
              rintro r wC ⟨rfl, rfl⟩
              go_wp2_with fail
              refine (take_no _ b s2 pv2 b JB.out.str (by omega)).mono ?_
              rintro r wC ⟨rfl, rfl⟩
              go_wp2_with fail
              refine (state_any _ b s2 pv2 b JB.out.str).mono ?_
              rintro r wC ⟨rfl, q2, rfl⟩
              rw [f6, g6, i6]
              go_wp2
              go_ret
              exact ⟨rfl, by have := below_drewN JB.out.bel q2; rw [HB.out] at this; exact this⟩
            · go_wp2_with fail
              refine (feed_idle _ b s2 pv2 b none 0 0 JB.out.str (.inr p6) (by unfold maxLen; omega)).mono ?_
              rintro r wC ⟨rfl, rfl⟩
              go_wp2_with fail
              refine (num_any (e : Int) _).mono ?_
              rintro r wC ⟨rfl, rfl⟩
              go_wp2_with fail
              refine (feed_idle _ b s2 pv2 b _ _ _ JB.out.str (.inr p6) (by unfold maxLen; omega)).mono ?_
              rintro r wC ⟨rfl, rfl⟩
              go_wp2_with fail
              refine (take_no _ b s2 pv2 b JB.out.str (by omega)).mono ?_
              rintro r wC ⟨rfl, rfl⟩
              go_wp2_with fail
              refine (state_any _ b s2 pv2 b JB.out.str).mono ?_
              rintro r wC ⟨rfl, q2, rfl⟩
              rw [f6, g6, i6]
              go_wp2
              go_ret
              exact ⟨rfl, by have := below_drewN JB.out.bel q2; rw [HB.out] at this; exact this⟩
    · go_wp2
      go_ret
      exact ⟨rfl, by have := HJJ.out.bel; rw [HB.out] at this; exact this⟩

end Go.Proofs.YtnlohbfolphafaaDoor
