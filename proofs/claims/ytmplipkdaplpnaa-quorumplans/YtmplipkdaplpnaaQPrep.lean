/- The contract of Prepared. -/
import Derived.Test.YtmplipkdaplpnaaQAcc
import Derived.Test.YtmplipkdaplpnaaQGatV
import Derived.Test.YtmplipkdaplpnaaQSlow
namespace Go.Proofs.Ytmplipkdaplpnaa
open Go.RowKit Go.Wire1

def talP (n : Int) (vs : List Vt) : List (Int × Vt) := tal (okV n) n (-1) vs
def accQ (v : Vt) : Bool := v.st == 2
/-- How a recovery goes on: a kind, a command, a Seq, Deps. -/
def planQ (n row : Int) (vs : List Vt) : Int × Cm × Int × List Int :=
  if szQ n && repQ n row then
    (if ((talP n vs).length : Int) < (n - 1) / 2 + 1 then (0, cmZ, 0, [])
     else match highQ (ansQ (talP n vs)) with
      | [] => (1, cmZ, 0, [])
      | h :: hr => match (h :: hr).filter accQ with
        | x :: _ => (2, x.c, x.seq, x.deps)
        | [] => if h.rd = 0 ∧ h.who = row ∧ (lkm (talP n vs) row).isSome = false ∧ (n - 1) / 2 ≤ (((h :: hr).filter (·.same)).length : Int) then
            (match (h :: hr).filter (·.same) with
              | y :: _ => (2, y.c, y.seq, y.deps)
              | [] => (0, cmZ, 0, []))
          else (3, h.c, 0, []))
  else (0, cmZ, 0, [])
def PlanP (w : World) (r : Int × Cm × Int × List Int) (e : Ending) (w' : World) : Prop :=
  ∃ ua uc, e = .returned (.agg (pcs r.1 r.2.1 r.2.2.1 ua r.2.2.2.length uc).toArray) ∧ w'.ownsRow w.heap.size 3 1 (.slice ua r.2.2.2.length uc) r.2.2.2.length (r.2.2.2.map (Value.int .i64)) ∧ Below w.heap.size w w'
theorem talP_ok {n : Int} {vs : List Vt} {v : Vt} (h : v ∈ ansQ (talP n vs)) : v ∈ vs ∧ okV n v = true := by
  obtain ⟨k, hk⟩ := ansQ_mem h
  have := tal_sub _ hk
  exact ⟨this.1, this.2.1⟩
theorem vcs_cmdO {W : World} {b o : Nat} {v : Vt} (h : W.rangeAt b o (vcs v)) : W.rangeAt b (o + 5) (ccs v.c) := fun j x hj => by
  have := h (5 + j) x (by
    match j, hj with
    | 0, hj => exact hj
    | 1, hj => exact hj
    | 2, hj => exact hj
    | 3, hj => exact hj
    | 4, hj => exact hj
    | 5, hj => exact hj
    | 6, hj => exact hj
    | 7, hj => exact hj
    | j + 8, hj => simp [ccs] at hj)
  rwa [← Nat.add_assoc] at this
theorem high_ok {n : Int} {vs : List Vt} {v : Vt} (h : v ∈ highQ (ansQ (talP n vs))) : v ∈ vs ∧ 0 < v.deps.length ∧ v.deps.length ≤ 7 := by
  obtain ⟨h1, h2⟩ := highQ_mem h
  obtain ⟨h3, h4⟩ := talP_ok h1
  unfold okV at h4
  rw [h2] at h4
  exact ⟨h3, snd_len h4⟩
theorem get_fits {n : Int} {vs : List Vt} (row : Int) : ∃ cs : List Value, cs.length = 15 ∧ (∀ u ∈ cs, u.oneCell' = true) ∧ (lkm (talV n (-1) vs) row).getD zv = cs := by
  unfold talV
  rw [lkm_mapV]
  cases lkm (tal (okV n) n (-1) vs) row with
  | none => exact ⟨zv, rfl, by decide, rfl⟩
  | some v => exact ⟨vcs v, rfl, vcs_one v, rfl⟩

set_option maxHeartbeats 8000000 in
set_option maxRecDepth 100000 in
theorem prep_any (n row : Int) (va : Option Addr) (vc : Nat) (vs : List Vt) (w : World) (hr : RowS w 15 va vs.length (vs.map vcs)) (hv : ∀ v ∈ vs, Vok w v) (hb : -9223372036854775808 ≤ row ∧ row ≤ 9223372036854775807) :
    Calls Try.prog 10 #[.int .i64 n, .int .i64 row, .slice va vs.length vc] w fun e w' => PlanP w (planQ n row vs) e w' := by
  obtain ⟨U, hU⟩ : ∃ U, U = w.alloc (.cells #[.int .i64 0, .int .i64 0, .int .i64 0, .int .i64 0, .string ⟨#[]⟩, .string ⟨#[]⟩, .string ⟨#[]⟩, .string ⟨#[]⟩, .int .i64 0, .int .i64 0, .slice none 0 0] 38) := ⟨_, rfl⟩
  have BU : Hid (Below w.heap.size w U) := by rw [hU]; exact (Below.refl _ w).alloc (Nat.le_refl _) _
  have ZU : Hid (Blk U w.heap.size zP) := by rw [hU]; exact blk_new w 38 zP
  have HR := hide hr
  have HV := hide hv
  have HBR := hide hb
  clear hr hv hb
  cases h1 : szQ n with
  | false =>
    have HQ : Hid (planQ n row vs = (0, cmZ, 0, [])) := by show _ = _; unfold planQ; rw [h1]; rfl
    have h2 : repQ n row = repQ n row := rfl
    go_enter Try.func10, Try.ntmps10
    go_upto_region 1 with fail
    rw [← hU]
    clear hU
    have TZ := hide ZU.out.there
    obtain ⟨Y, hY⟩ : ∃ Y, Y = U.setCells w.heap.size 0 (pcs 0 cmZ 0 none 0 0) := ⟨_, rfl⟩
    have HYB : Hid (Blk Y w.heap.size (pcs 0 cmZ 0 none 0 0)) := by rw [hY]; exact blk_cells ZU.out rfl
    have HYW : Hid (Below w.heap.size w Y) := by rw [hY]; exact below_cells (Nat.le_refl _) _ _ _ BU.out
    have HY := hide hY
    clear hY
    go_wp2_with (first | (go_at_call 25; refine (qsize_any n _).mono ?_; rintro e w1 ⟨rfl, rfl⟩; rw [h1]) | (go_at_call 26; refine (qrep_any n row _).mono ?_; rintro e w1 ⟨rfl, rfl⟩; rw [h2]) | (refine wpList_store_mid rfl 38 _ _ rfl w.heap.size 0 (pcs 0 cmZ 0 none 0 0).toArray rfl rfl TZ.out (by kernel_rfl) (by kernel_rfl) ?_; first | rw [← HY.out] | (simp only [List.toList_toArray]; rw [← HY.out])))
    rw [HQ.out]
    refine bodyPost_ret (results_cell_mid Try.results10 _ _ w.heap.size (pcs 0 cmZ 0 none 0 0) _ rfl HYB.out.range Try.underlying38 rfl (by kernel_rfl)) rfl ⟨none, 0, rfl, World.ownsRow_nil _ _ _ _, HYW.out⟩
  | true =>
    cases h2 : repQ n row with
    | false =>
      have HQ : Hid (planQ n row vs = (0, cmZ, 0, [])) := by show _ = _; unfold planQ; rw [h2]; simp
      go_enter Try.func10, Try.ntmps10
      go_upto_region 1 with fail
      rw [← hU]
      clear hU
      have TZ := hide ZU.out.there
      obtain ⟨Y, hY⟩ : ∃ Y, Y = U.setCells w.heap.size 0 (pcs 0 cmZ 0 none 0 0) := ⟨_, rfl⟩
      have HYB : Hid (Blk Y w.heap.size (pcs 0 cmZ 0 none 0 0)) := by rw [hY]; exact blk_cells ZU.out rfl
      have HYW : Hid (Below w.heap.size w Y) := by rw [hY]; exact below_cells (Nat.le_refl _) _ _ _ BU.out
      have HY := hide hY
      clear hY
      go_wp2_with (first | (go_at_call 25; refine (qsize_any n _).mono ?_; rintro e w1 ⟨rfl, rfl⟩; rw [h1]) | (go_at_call 26; refine (qrep_any n row _).mono ?_; rintro e w1 ⟨rfl, rfl⟩; rw [h2]) | (refine wpList_store_mid rfl 38 _ _ rfl w.heap.size 0 (pcs 0 cmZ 0 none 0 0).toArray rfl rfl TZ.out (by kernel_rfl) (by kernel_rfl) ?_; first | rw [← HY.out] | (simp only [List.toList_toArray]; rw [← HY.out])))
      rw [HQ.out]
      refine bodyPost_ret (results_cell_mid Try.results10 _ _ w.heap.size (pcs 0 cmZ 0 none 0 0) _ rfl HYB.out.range Try.underlying38 rfl (by kernel_rfl)) rfl ⟨none, 0, rfl, World.ownsRow_nil _ _ _ _, HYW.out⟩
    | true =>
      have HSZ := hide h1
      have HRP := hide h2
      have hn7 := sz_le h1
      go_enter Try.func10, Try.ntmps10
      go_upto_region 1 with fail
      rw [← hU]
      clear hU
      go_upto_region 3 with (first | (go_at_call 25; refine (qsize_any n _).mono ?_; rintro e w1 ⟨rfl, rfl⟩; rw [h1]) | (go_at_call 26; refine (qrep_any n row _).mono ?_; rintro e w1 ⟨rfl, rfl⟩; rw [h2]))
      clear h1 h2
      go_wp2_with fail
      refine (gatV_any n (-1) va vc vs U hn7 (HR.out.below BU.out (Nat.le_refl _) (by decide)) (fun v hv => (HV.out v hv).below BU.out (Nat.le_refl _))).mono ?_
      rintro e w2 ⟨rfl, ht2, hb2⟩
      have HT2 := hide ht2
      have Z2 : Hid (Blk w2 w.heap.size zP) := ZU.out.on hb2
      have B2 : Hid (Below w.heap.size w w2) := BU.out.trans (hb2.mono BU.out.size)
      clear ht2 hb2 ZU BU
      generalize U.heap.size + 1 = tb at *
      generalize U.heap.size = mb at *
      obtain ⟨f, hf⟩ : ∃ f, Hid ((n - 1) / 2 = f) := ⟨_, rfl⟩
      have hf3 : 1 ≤ f ∧ f ≤ 3 := by have := HSZ.out; unfold szQ at this; simp only [Bool.or_eq_true, beq_iff_eq] at this; have := hf.out; omega
      have htl : (talV n (-1) vs).length = (talP n vs).length := by unfold talV talP mapV; rw [List.length_map]
      have hT7 : (talP n vs).length ≤ 7 := by rw [← htl]; exact len_le7 HT2.out.keys HT2.out.r7
      obtain ⟨tl, htl2⟩ : ∃ tl, Hid ((talP n vs).length = tl) := ⟨_, rfl⟩
      rw [htl2.out] at htl hT7
      have HTL := hide htl
      clear htl
      by_cases hlt : (tl : Int) < f + 1
      · have HQ : Hid (planQ n row vs = (0, cmZ, 0, [])) := by show _ = _; unfold planQ; rw [HSZ.out, HRP.out]; simp only [Bool.and_self, if_true]; rw [htl2.out, hf.out, if_pos hlt]
        go_upto_region 5 with (first | (go_at_call 29; refine (countV_any HT2.out).mono ?_; rintro e w' ⟨rfl, rfl⟩; rw [HTL.out]) | (go_at_call 19; refine (qspared_any n HSZ.out _).mono ?_; rintro e w' ⟨rfl, rfl⟩; rw [hf.out]))
        have TZ := hide Z2.out.there
        obtain ⟨Y, hY⟩ : ∃ Y, Y = w2.setCells w.heap.size 0 (pcs 0 cmZ 0 none 0 0) := ⟨_, rfl⟩
        have HYB : Hid (Blk Y w.heap.size (pcs 0 cmZ 0 none 0 0)) := by rw [hY]; exact blk_cells Z2.out rfl
        have HYW : Hid (Below w.heap.size w Y) := by rw [hY]; exact below_cells (Nat.le_refl _) _ _ _ B2.out
        have HY := hide hY
        clear hY
        go_wp2_with (first | (refine wpList_store_mid rfl 38 _ _ rfl w.heap.size 0 (pcs 0 cmZ 0 none 0 0).toArray rfl rfl TZ.out (by kernel_rfl) (by kernel_rfl) ?_; first | rw [← HY.out] | (simp only [List.toList_toArray]; rw [← HY.out])))
        rw [HQ.out]
        refine bodyPost_ret (results_cell_mid Try.results10 _ _ w.heap.size (pcs 0 cmZ 0 none 0 0) _ rfl HYB.out.range Try.underlying38 rfl (by kernel_rfl)) rfl ⟨none, 0, rfl, World.ownsRow_nil _ _ _ _, HYW.out⟩
      · go_upto_region 6 with (first | (go_at_call 29; refine (countV_any HT2.out).mono ?_; rintro e w' ⟨rfl, rfl⟩; rw [HTL.out]) | (go_at_call 19; refine (qspared_any n HSZ.out _).mono ?_; rintro e w' ⟨rfl, rfl⟩; rw [hf.out]))
        go_wp2_with fail
        refine (ansV_any HT2.out).mono ?_
        rintro e w3 ⟨ta, tc, rfl, -, hrow, hb3⟩
        have hans : ansQ (talV n (-1) vs) = (ansQ (talP n vs)).map vcs := by unfold talV talP; exact ansQ_mapV _ _
        rw [hans, List.length_map] at hrow ⊢
        have HTR := hide hrow
        have HT3 := hide (HT2.out.on hb3)
        have Z3 : Hid (Blk w3 w.heap.size zP) := Z2.out.on hb3
        have B3 : Hid (Below w.heap.size w w3) := B2.out.trans (hb3.mono B2.out.size)
        clear hrow hb3 hans HT2 Z2 B2
        go_wp2_with fail
        refine (high_any ta tc _ w3 HTR.out (ansQ_le _)).mono ?_
        rintro e w4 ⟨ha, hc, rfl, hrow, hb4⟩
        have HHR := hide hrow
        have HT4 := hide (HT3.out.on hb4)
        have Z4 : Hid (Blk w4 w.heap.size zP) := Z3.out.on hb4
        have B4 : Hid (Below w.heap.size w w4) := B3.out.trans (hb4.mono B3.out.size)
        have HH7 : Hid ((highQ (ansQ (talP n vs))).length ≤ 7) := by
          show _ ≤ _
          unfold highQ
          split
          · simp
          · exact Nat.le_trans (List.length_filter_le _ _) (Nat.le_trans (List.length_filter_le _ _) (ansQ_le _))
        have HOK : Hid (∀ v ∈ highQ (ansQ (talP n vs)), v ∈ vs ∧ 0 < v.deps.length ∧ v.deps.length ≤ 7) := fun v hv => high_ok hv
        clear hrow hb4 HT3 Z3 B3 HTR
        cases hh : highQ (ansQ (talP n vs)) with
        | nil =>
          have HQ : Hid (planQ n row vs = (1, cmZ, 0, [])) := by show _ = _; unfold planQ; rw [HSZ.out, HRP.out]; simp only [Bool.and_self, if_true]; rw [htl2.out, hf.out, if_neg (by omega), hh]
          rw [hh] at HHR HH7
          have hl0 : ([] : List Vt).length = 0 := rfl
          rw [hl0]
          clear hh hl0
          go_upto_region 8 with fail
          have TZ := hide Z4.out.there
          obtain ⟨Y, hY⟩ : ∃ Y, Y = w4.setCells w.heap.size 0 (pcs 1 cmZ 0 none 0 0) := ⟨_, rfl⟩
          have HYB : Hid (Blk Y w.heap.size (pcs 1 cmZ 0 none 0 0)) := by rw [hY]; exact blk_cells Z4.out rfl
          have HYW : Hid (Below w.heap.size w Y) := by rw [hY]; exact below_cells (Nat.le_refl _) _ _ _ B4.out
          have HY := hide hY
          clear hY
          go_wp2_with (first | (refine wpList_store_mid rfl 38 _ _ rfl w.heap.size 0 (pcs 1 cmZ 0 none 0 0).toArray rfl rfl TZ.out (by kernel_rfl) (by kernel_rfl) ?_; first | rw [← HY.out] | (simp only [List.toList_toArray]; rw [← HY.out])))
          rw [HQ.out]
          refine bodyPost_ret (results_cell_mid Try.results10 _ _ w.heap.size (pcs 1 cmZ 0 none 0 0) _ rfl HYB.out.range Try.underlying38 rfl (by kernel_rfl)) rfl ⟨none, 0, rfl, World.ownsRow_nil _ _ _ _, HYW.out⟩
        | cons h hrs =>
          rw [hh] at HHR HH7 HOK
          have HP : Hid (planQ n row vs = match (h :: hrs).filter accQ with
            | x :: _ => (2, x.c, x.seq, x.deps)
            | [] => if h.rd = 0 ∧ h.who = row ∧ (lkm (talP n vs) row).isSome = false ∧ f ≤ (((h :: hrs).filter (·.same)).length : Int) then
                (match (h :: hrs).filter (·.same) with
                  | y :: _ => (2, y.c, y.seq, y.deps)
                  | [] => (0, cmZ, 0, []))
              else (3, h.c, 0, [])) := by show _ = _; unfold planQ; rw [HSZ.out, HRP.out]; simp only [Bool.and_self, if_true]; rw [htl2.out, hf.out, if_neg (by omega), hh]
          have hb0 : (((h :: hrs).length : Int) == 0) = false := by rw [beq_eq_false_iff_ne]; simp only [List.length_cons]; omega
          have HOA := hide (only_any 33 #[] accQ ha hc (h :: hrs) w4 HHR.out HH7.out (enters_of Try.func33 (by kernel_rfl) rfl) (fun W _ v => qacc_any v W))
          obtain ⟨H, hH⟩ : ∃ H, h :: hrs = H := ⟨_, rfl⟩
          have HHH := hide hH
          rw [hH] at HHR HH7 HOK HP hb0 HOA ⊢
          clear hh hlt hH
          obtain ⟨N, hN⟩ : ∃ N, Hid (H.length = N) := ⟨_, rfl⟩
          rw [hN.out] at HHR hb0 HOA ⊢
          go_wp2_with fail
          refine HOA.out.mono ?_
          rintro e w5 ⟨aa, ac, rfl, -, hra, hb5⟩
          have HRA := hide hra
          have HHR5 : Hid (RowS w5 15 ha N (H.map vcs)) := HHR.out.below hb5 (Nat.le_refl _) (by decide)
          have HT5 := hide (HT4.out.on hb5)
          have Z5 : Hid (Blk w5 w.heap.size zP) := Z4.out.on hb5
          have B5 : Hid (Below w.heap.size w w5) := B4.out.trans (hb5.mono B4.out.size)
          clear hra hb5 HOA HHR HT4 Z4 B4
          cases hac : H.filter accQ with
          | cons x xs =>
            have HQ : Hid (planQ n row vs = (2, x.c, x.seq, x.deps)) := by show _ = _; rw [HP.out, hac]
            have hxm : x ∈ H := (List.mem_filter.1 (by rw [hac]; exact List.mem_cons_self ..)).1
            have HXV : Hid (Vok w5 x) := (HV.out x (HOK.out x hxm).1).below B5.out (Nat.le_refl _)
            have HXN : Hid (0 < x.dn ∧ x.dn ≤ 7) := by have h1 := (HOK.out x hxm).2; have h2 := HXV.out.seg.1; rw [h2] at h1; exact h1
            rw [hac] at HRA
            have hl1 : ((x :: xs).length : Int) = (xs.length : Int) + 1 := by simp
            have hl2 : (x :: xs).length = xs.length + 1 := rfl
            rw [hl2] at HRA ⊢
            clear hac hxm hl1 hl2
            go_upto_region 11 with fail
            obtain ⟨b, off, rfl, hat⟩ := HRA.out.at_ (by simp)
            have HRG : Hid (w5.rangeAt b off (vcs x)) := by have := hat 0 (vcs x) rfl; rw [Nat.zero_mul, Nat.add_zero] at this; exact this
            clear hat
            go_wp2_with (first | (refine wpList_load_mid rfl 33 _ rfl b off rfl (vcs x) _ HRG.out Try.underlying33 rfl (by kernel_rfl) ?_))
            refine (accept_any x _ HXV.out HXN.out.1 HXN.out.2).mono ?_
            rintro e w9 ⟨ca, cc, rfl, ho9, hb9⟩
            have HO9 := hide ho9
            have Z9 : Hid (Blk w9 w.heap.size zP) := Z5.out.on hb9
            have B9 : Hid (Below w.heap.size w w9) := B5.out.trans (hb9.mono B5.out.size)
            have hs9 := hb9.size
            have hz9 := Z5.out.lt
            clear ho9 hb9
            have TZ := hide Z9.out.there
            have HXL := hide HXV.out.seg.1
            obtain ⟨Y, hY⟩ : ∃ Y, Y = w9.setCells w.heap.size 0 (pcs 2 x.c x.seq ca x.dn cc) := ⟨_, rfl⟩
            have HYB : Hid (Blk Y w.heap.size (pcs 2 x.c x.seq ca x.dn cc)) := by rw [hY]; exact blk_cells Z9.out rfl
            have HYW : Hid (Below w.heap.size w Y) := by rw [hY]; exact below_cells (Nat.le_refl _) _ _ _ B9.out
            have OY : Hid (Y.ownsRow w5.heap.size 3 1 (.slice ca x.dn cc) x.dn (x.deps.map (Value.int .i64))) := by
              show World.ownsRow _ _ _ _ _ _ _
              refine World.ownsRow.kept (row := some w.heap.size) HO9.out (by rw [hY]; exact grown_cells _ _ _ _) ?_
              rcases HO9.out.2 with ⟨e, _⟩ | ⟨g', cap', cur, e, hB', _⟩
              · rw [e]; exact .inl rfl
              · have hB2 : w5.heap.size ≤ g' := hB'
                rw [e]; refine .inr ?_; intro e2; simp only [Value.ownBlock, Option.some.injEq] at e2; omega
            have HY := hide hY
            clear hY
            go_wp2_with (first | (refine wpList_store_mid rfl 38 _ _ rfl w.heap.size 0 (pcs 2 x.c x.seq ca x.dn cc).toArray rfl rfl TZ.out (by kernel_rfl) (all_oneCell_toArray (pcs_one _ _ _ _ _ _)) ?_; first | rw [← HY.out] | (simp only [List.toList_toArray]; rw [← HY.out])))
            rw [HQ.out]
            refine bodyPost_ret (results_cell_mid Try.results10 _ _ w.heap.size (pcs 2 x.c x.seq ca x.dn cc) _ rfl HYB.out.range Try.underlying38 rfl (by kernel_rfl)) rfl ⟨ca, cc, by rw [HXL.out], by rw [HXL.out]; exact own_base OY.out (by omega), HYW.out⟩
          | nil =>
            rw [hac] at HRA
            have hl0 : ([] : List Vt).length = 0 := rfl
            rw [hl0] at HRA ⊢
            have HP2 : Hid (planQ n row vs = ((if h.rd = 0 ∧ h.who = row ∧ (lkm (talP n vs) row).isSome = false ∧ f ≤ ((H.filter (·.same)).length : Int) then
                (match H.filter (·.same) with
                  | y :: _ => ((2, y.c, y.seq, y.deps) : Int × Cm × Int × List Int)
                  | [] => (0, cmZ, 0, []))
              else (3, h.c, 0, [])) : Int × Cm × Int × List Int)) := by show _ = _; rw [HP.out, hac]
            clear hac hl0 HP HRA
            obtain ⟨cs, hc15, hc1, hcz⟩ := get_fits (n := n) (vs := vs) row
            have HG := hide (getV_any HT5.out row HBR.out)
            have HKO : Hid ((lkm (talV n (-1) vs) row).isSome = (lkm (talP n vs) row).isSome) := by show _ = _; unfold talV talP; rw [lkm_mapV]; simp
            rw [hcz, HKO.out] at HG
            have HC1 := hide hc1
            have HCS : Hid ((Try.prog.info? 33).map (·.size) = some cs.toArray.size) := by show _ = _; rw [List.size_toArray, hc15]; kernel_rfl
            have HC15 := hide hc15
            obtain ⟨ok, hok⟩ : ∃ ok, Hid ((lkm (talP n vs) row).isSome = ok) := ⟨_, rfl⟩
            rw [hok.out] at HG HP2
            clear hc15 hc1 hcz HKO
            go_upto_region 12 with fail
            go_wp2_with fail
            refine HG.out.mono ?_
            rintro e w6 ⟨rfl, hb6⟩
            have HHR6 : Hid (RowS w6 15 ha N (H.map vcs)) := HHR5.out.below hb6 (Nat.le_refl _) (by decide)
            have Z6 : Hid (Blk w6 w.heap.size zP) := Z5.out.on hb6
            have B6 : Hid (Below w.heap.size w w6) := B5.out.trans (hb6.mono B5.out.size)
            clear hb6 HG HHR5 HT5 Z5 B5
            obtain ⟨W2, hW2⟩ : ∃ W2, W2 = w6.alloc (.cells zv.toArray 33) := ⟨_, rfl⟩
            have HB2 : Hid (Blk W2 w6.heap.size zv) := by rw [hW2]; exact blk_new w6 33 zv
            have TH : Hid (W2.there w6.heap.size 0 cs.toArray.size) := by have hz : cs.toArray.size = 15 := HC15.out; show World.there _ _ _ _; rw [hz]; exact HB2.out.there
            have hW2' : Hid (w6.alloc (.cells #[.int .i64 0, .int .i64 0, .bool false, .int .i64 0, .int .i64 0, .int .i64 0, .int .i64 0, .int .i64 0, .string ⟨#[]⟩, .string ⟨#[]⟩, .string ⟨#[]⟩, .string ⟨#[]⟩, .int .i64 0, .int .i64 0, .slice none 0 0] 33) = W2) := hW2.symm
            obtain ⟨W3, hW3⟩ : ∃ W3, W3 = W2.setCells w6.heap.size 0 cs.toArray.toList := ⟨_, rfl⟩
            have BE : Hid (Below w6.heap.size w6 W3) := by rw [hW3]; exact below_cells (Nat.le_refl _) _ _ _ (by rw [hW2]; exact (Below.refl _ _).alloc (Nat.le_refl _) _)
            have HW3 := hide hW3
            have HHR7 : Hid (RowS W3 15 ha N (H.map vcs)) := HHR6.out.below BE.out (Nat.le_refl _) (by decide)
            have Z7 : Hid (Blk W3 w.heap.size zP) := Z6.out.on BE.out
            have B7 : Hid (Below w.heap.size w W3) := B6.out.trans (BE.out.mono B6.out.size)
            have HOS := only_any 36 #[] (·.same) ha hc H W3 (by rw [hN.out]; exact HHR7.out) HH7.out (enters_of Try.func36 (by kernel_rfl) rfl) (fun W _ v => qsame_any v W)
            rw [hN.out] at HOS
            have HOS := hide HOS
            clear hW3 hW2 HHR6 Z6 B6
            go_upto_region 13 with (first | (rw [hW2'.out]; refine wpList_store_mid rfl 33 _ _ rfl w6.heap.size 0 cs.toArray rfl rfl TH.out HCS.out (all_oneCell_toArray HC1.out) ?_; rw [← HW3.out]))
            clear TH hW2' HW3 HB2 BE
            go_wp2_with fail
            refine HOS.out.mono ?_
            rintro e w8 ⟨sa, sc, rfl, -, hrs8, hb8⟩
            have HRS := hide hrs8
            have HHR8 : Hid (RowS w8 15 ha N (H.map vcs)) := HHR7.out.below hb8 (Nat.le_refl _) (by decide)
            have Z8 : Hid (Blk w8 w.heap.size zP) := Z7.out.on hb8
            have B8 : Hid (Below w.heap.size w w8) := B7.out.trans (hb8.mono B7.out.size)
            have hN0 : 0 < N := by rw [← hN.out, ← HHH.out]; simp
            clear hrs8 hb8 HOS HHR7 Z7 B7
            obtain ⟨b0, off0, rfl, hat⟩ := HHR8.out.at_ hN0
            have HRG : Hid (w8.rangeAt b0 off0 (vcs h)) := by have := hat 0 (vcs h) (by rw [← HHH.out]; rfl); rw [Nat.zero_mul, Nat.add_zero] at this; exact this
            have k3 : w8.cell? ⟨b0, off0 + 3, none⟩ = some (.int .i64 h.rd) := HRG.out 3 _ rfl
            have k4 : w8.cell? ⟨b0, off0 + 3 + 1, none⟩ = some (.int .i64 h.who) := HRG.out 4 _ rfl
            have HRC : Hid (w8.rangeAt b0 (off0 + 5) [.int .i64 h.c.kind, .int .i64 h.c.client, .int .i64 h.c.req, .string h.c.key, .string h.c.key2, .string h.c.val, .string h.c.old, .int .i64 h.c.n]) := vcs_cmdO HRG.out
            clear hat
            obtain ⟨sl, hsl⟩ : ∃ sl, Hid ((H.filter (·.same)).length = sl) := ⟨_, rfl⟩
            rw [hsl.out] at HRS HP2 ⊢
            obtain ⟨hrd, hhrd⟩ : ∃ x, Hid (h.rd = x) := ⟨_, rfl⟩
            obtain ⟨hwh, hhwh⟩ : ∃ x, Hid (h.who = x) := ⟨_, rfl⟩
            rw [hhrd.out] at k3 HP2
            rw [hhwh.out] at k4 HP2
            by_cases g1 : hrd = 0
            · by_cases g2 : hwh = row
              · cases ok with
                | false =>
                  by_cases g4 : f ≤ (sl : Int)
                  · obtain ⟨y, ys, hys⟩ : ∃ y ys, H.filter (·.same) = y :: ys := by
                      cases hq : H.filter (·.same) with
                      | nil => have := hsl.out; rw [hq] at this; simp at this; omega
                      | cons y ys => exact ⟨y, ys, rfl⟩
                    have HQ : Hid (planQ n row vs = (2, y.c, y.seq, y.deps)) := by show _ = _; rw [HP2.out, if_pos ⟨g1, g2, rfl, g4⟩, hys]
                    have hym : y ∈ H := (List.mem_filter.1 (by rw [hys]; exact List.mem_cons_self ..)).1
                    have HXV : Hid (Vok w8 y) := (HV.out y (HOK.out y hym).1).below B8.out (Nat.le_refl _)
                    have HXN : Hid (0 < y.dn ∧ y.dn ≤ 7) := by have h1 := (HOK.out y hym).2; have h2 := HXV.out.seg.1; rw [h2] at h1; exact h1
                    have hsl1 : sl = ys.length + 1 := by rw [← hsl.out, hys]; rfl
                    rw [hys, hsl1] at HRS
                    rw [hsl1] at g4 ⊢
                    have HP3 := HRS
                    subst g1 g2
                    clear hys hym hsl1 HP2
                    go_upto_region 15 with (first | (go_at_call 19; refine (qspared_any n HSZ.out _).mono ?_; rintro e w' ⟨rfl, rfl⟩; rw [hf.out]))
                    obtain ⟨b, off, rfl, hat⟩ := HRS.out.at_ (by simp)
                    have HRG : Hid (w8.rangeAt b off (vcs y)) := by have := hat 0 (vcs y) rfl; rw [Nat.zero_mul, Nat.add_zero] at this; exact this
                    clear hat
                    go_wp2_with (first | (refine wpList_load_mid rfl 33 _ rfl b off rfl (vcs y) _ HRG.out Try.underlying33 rfl (by kernel_rfl) ?_))
                    refine (accept_any y _ HXV.out HXN.out.1 HXN.out.2).mono ?_
                    rintro e w9 ⟨ca, cc, rfl, ho9, hb9⟩
                    have HO9 := hide ho9
                    have Z9 : Hid (Blk w9 w.heap.size zP) := Z8.out.on hb9
                    have B9 : Hid (Below w.heap.size w w9) := B8.out.trans (hb9.mono B8.out.size)
                    have hs9 := hb9.size
                    have hz9 := Z8.out.lt
                    clear ho9 hb9
                    have TZ := hide Z9.out.there
                    have HXL := hide HXV.out.seg.1
                    obtain ⟨Y, hY⟩ : ∃ Y, Y = w9.setCells w.heap.size 0 (pcs 2 y.c y.seq ca y.dn cc) := ⟨_, rfl⟩
                    have HYB : Hid (Blk Y w.heap.size (pcs 2 y.c y.seq ca y.dn cc)) := by rw [hY]; exact blk_cells Z9.out rfl
                    have HYW : Hid (Below w.heap.size w Y) := by rw [hY]; exact below_cells (Nat.le_refl _) _ _ _ B9.out
                    have OY : Hid (Y.ownsRow w8.heap.size 3 1 (.slice ca y.dn cc) y.dn (y.deps.map (Value.int .i64))) := by
                      show World.ownsRow _ _ _ _ _ _ _
                      refine World.ownsRow.kept (row := some w.heap.size) HO9.out (by rw [hY]; exact grown_cells _ _ _ _) ?_
                      rcases HO9.out.2 with ⟨e, _⟩ | ⟨g', cap', cur, e, hB', _⟩
                      · rw [e]; exact .inl rfl
                      · have hB2 : w8.heap.size ≤ g' := hB'
                        rw [e]; refine .inr ?_; intro e2; simp only [Value.ownBlock, Option.some.injEq] at e2; omega
                    have HY := hide hY
                    clear hY
                    go_wp2_with (first | (refine wpList_store_mid rfl 38 _ _ rfl w.heap.size 0 (pcs 2 y.c y.seq ca y.dn cc).toArray rfl rfl TZ.out (by kernel_rfl) (all_oneCell_toArray (pcs_one _ _ _ _ _ _)) ?_; first | rw [← HY.out] | (simp only [List.toList_toArray]; rw [← HY.out])))
                    rw [HQ.out]
                    refine bodyPost_ret (results_cell_mid Try.results10 _ _ w.heap.size (pcs 2 y.c y.seq ca y.dn cc) _ rfl HYB.out.range Try.underlying38 rfl (by kernel_rfl)) rfl ⟨ca, cc, by rw [HXL.out], by rw [HXL.out]; exact own_base OY.out (by omega), HYW.out⟩
                  · have HQ : Hid (planQ n row vs = (3, h.c, 0, [])) := by show _ = _; rw [HP2.out, if_neg (fun hx => g4 hx.2.2.2)]
                    have dg4 : decide (f ≤ (sl : Int)) = false := decide_eq_false g4
                    subst g1 g2
                    clear g4 HP2
                    go_upto_region 16 with (first | (go_at_call 19; refine (qspared_any n HSZ.out _).mono ?_; rintro e w' ⟨rfl, rfl⟩; rw [hf.out]))
                    have TZ := hide Z8.out.there
                    obtain ⟨Y, hY⟩ : ∃ Y, Y = w8.setCells w.heap.size 0 (pcs 3 h.c 0 none 0 0) := ⟨_, rfl⟩
                    have HYB : Hid (Blk Y w.heap.size (pcs 3 h.c 0 none 0 0)) := by rw [hY]; exact blk_cells Z8.out rfl
                    have HYW : Hid (Below w.heap.size w Y) := by rw [hY]; exact below_cells (Nat.le_refl _) _ _ _ B8.out
                    have HY := hide hY
                    clear hY
                    go_wp2_with (first | (refine wpList_load_mid rfl 31 _ rfl b0 (off0 + 5) rfl _ _ HRC.out Try.underlying31 rfl (by kernel_rfl) ?_) | (refine wpList_store_mid rfl 38 _ _ rfl w.heap.size 0 (pcs 3 h.c 0 none 0 0).toArray rfl rfl TZ.out (by kernel_rfl) (by kernel_rfl) ?_; first | rw [← HY.out] | (simp only [List.toList_toArray]; rw [← HY.out])))
                    rw [HQ.out]
                    refine bodyPost_ret (results_cell_mid Try.results10 _ _ w.heap.size (pcs 3 h.c 0 none 0 0) _ rfl HYB.out.range Try.underlying38 rfl (by kernel_rfl)) rfl ⟨none, 0, rfl, World.ownsRow_nil _ _ _ _, HYW.out⟩
                | true =>
                  have HQ : Hid (planQ n row vs = (3, h.c, 0, [])) := by show _ = _; rw [HP2.out, if_neg (fun hx => by have := hx.2.2.1; cases this)]
                  subst g1 g2
                  clear HP2
                  go_upto_region 16 with (first | (go_at_call 19; refine (qspared_any n HSZ.out _).mono ?_; rintro e w' ⟨rfl, rfl⟩; rw [hf.out]))
                  have TZ := hide Z8.out.there
                  obtain ⟨Y, hY⟩ : ∃ Y, Y = w8.setCells w.heap.size 0 (pcs 3 h.c 0 none 0 0) := ⟨_, rfl⟩
                  have HYB : Hid (Blk Y w.heap.size (pcs 3 h.c 0 none 0 0)) := by rw [hY]; exact blk_cells Z8.out rfl
                  have HYW : Hid (Below w.heap.size w Y) := by rw [hY]; exact below_cells (Nat.le_refl _) _ _ _ B8.out
                  have HY := hide hY
                  clear hY
                  go_wp2_with (first | (refine wpList_load_mid rfl 31 _ rfl b0 (off0 + 5) rfl _ _ HRC.out Try.underlying31 rfl (by kernel_rfl) ?_) | (refine wpList_store_mid rfl 38 _ _ rfl w.heap.size 0 (pcs 3 h.c 0 none 0 0).toArray rfl rfl TZ.out (by kernel_rfl) (by kernel_rfl) ?_; first | rw [← HY.out] | (simp only [List.toList_toArray]; rw [← HY.out])))
                  rw [HQ.out]
                  refine bodyPost_ret (results_cell_mid Try.results10 _ _ w.heap.size (pcs 3 h.c 0 none 0 0) _ rfl HYB.out.range Try.underlying38 rfl (by kernel_rfl)) rfl ⟨none, 0, rfl, World.ownsRow_nil _ _ _ _, HYW.out⟩
              · have HQ : Hid (planQ n row vs = (3, h.c, 0, [])) := by show _ = _; rw [HP2.out, if_neg (fun hx => g2 hx.2.1)]
                have b2 : (hwh == row) = false := beq_eq_false_iff_ne.2 g2
                subst g1
                clear g2 HP2
                go_upto_region 16 with (first | (go_at_call 19; refine (qspared_any n HSZ.out _).mono ?_; rintro e w' ⟨rfl, rfl⟩; rw [hf.out]))
                have TZ := hide Z8.out.there
                obtain ⟨Y, hY⟩ : ∃ Y, Y = w8.setCells w.heap.size 0 (pcs 3 h.c 0 none 0 0) := ⟨_, rfl⟩
                have HYB : Hid (Blk Y w.heap.size (pcs 3 h.c 0 none 0 0)) := by rw [hY]; exact blk_cells Z8.out rfl
                have HYW : Hid (Below w.heap.size w Y) := by rw [hY]; exact below_cells (Nat.le_refl _) _ _ _ B8.out
                have HY := hide hY
                clear hY
                go_wp2_with (first | (refine wpList_load_mid rfl 31 _ rfl b0 (off0 + 5) rfl _ _ HRC.out Try.underlying31 rfl (by kernel_rfl) ?_) | (refine wpList_store_mid rfl 38 _ _ rfl w.heap.size 0 (pcs 3 h.c 0 none 0 0).toArray rfl rfl TZ.out (by kernel_rfl) (by kernel_rfl) ?_; first | rw [← HY.out] | (simp only [List.toList_toArray]; rw [← HY.out])))
                rw [HQ.out]
                refine bodyPost_ret (results_cell_mid Try.results10 _ _ w.heap.size (pcs 3 h.c 0 none 0 0) _ rfl HYB.out.range Try.underlying38 rfl (by kernel_rfl)) rfl ⟨none, 0, rfl, World.ownsRow_nil _ _ _ _, HYW.out⟩
            · have HQ : Hid (planQ n row vs = (3, h.c, 0, [])) := by show _ = _; rw [HP2.out, if_neg (fun hx => g1 hx.1)]
              have b1 : (hrd == 0) = false := beq_eq_false_iff_ne.2 g1
              clear g1 HP2
              go_upto_region 16 with (first | (go_at_call 19; refine (qspared_any n HSZ.out _).mono ?_; rintro e w' ⟨rfl, rfl⟩; rw [hf.out]))
              have TZ := hide Z8.out.there
              obtain ⟨Y, hY⟩ : ∃ Y, Y = w8.setCells w.heap.size 0 (pcs 3 h.c 0 none 0 0) := ⟨_, rfl⟩
              have HYB : Hid (Blk Y w.heap.size (pcs 3 h.c 0 none 0 0)) := by rw [hY]; exact blk_cells Z8.out rfl
              have HYW : Hid (Below w.heap.size w Y) := by rw [hY]; exact below_cells (Nat.le_refl _) _ _ _ B8.out
              have HY := hide hY
              clear hY
              go_wp2_with (first | (refine wpList_load_mid rfl 31 _ rfl b0 (off0 + 5) rfl _ _ HRC.out Try.underlying31 rfl (by kernel_rfl) ?_) | (refine wpList_store_mid rfl 38 _ _ rfl w.heap.size 0 (pcs 3 h.c 0 none 0 0).toArray rfl rfl TZ.out (by kernel_rfl) (by kernel_rfl) ?_; first | rw [← HY.out] | (simp only [List.toList_toArray]; rw [← HY.out])))
              rw [HQ.out]
              refine bodyPost_ret (results_cell_mid Try.results10 _ _ w.heap.size (pcs 3 h.c 0 none 0 0) _ rfl HYB.out.range Try.underlying38 rfl (by kernel_rfl)) rfl ⟨none, 0, rfl, World.ownsRow_nil _ _ _ _, HYW.out⟩
end Go.Proofs.Ytmplipkdaplpnaa
