/- The contract of the document's own Prepared. -/
import Derived.Test.YtmplipkdaplpnaaQPlM
import Derived.Test.YtmplipkdaplpnaaQTol
namespace Go.Proofs.Ytmplipkdaplpnaa
open Go.RowKit Go.Wire1

theorem built_plan0 : Try.prog.built 38 [] = some (pcs 0 cmZ 0 none 0 0).toArray := by kernel_rfl
theorem built_plan11 (k : Int) : Try.prog.built 38 [(0, .int .i64 k)] = some (pcs k cmZ 0 none 0 0).toArray := by kernel_rfl
theorem built_plan31 (k : Int) (c : Cm) : Try.prog.built 38 [(0, .int .i64 k), (1, .agg (ccs c).toArray)] = some (pcs k c 0 none 0 0).toArray := by kernel_rfl
theorem plan_done {n r : Nat} {vs : List Vt} (hz : szQ (n : Int) = true) (hr : r < n) (h : ¬ 2 * ((talP n vs).length : Int) < (n : Int) + 1) (_hna : ∀ i, i < n → (hiB (talP (n : Int) vs) i && accQ (bvt (talP (n : Int) vs) i)) = false) {kp : Bool} (hk : kepB (talP (n : Int) vs) n r = kp) (hno : ∀ i, i < n → (hiB (talP (n : Int) vs) i && (!kp || (bvt (talP (n : Int) vs) i).same)) = false) : planQ n r vs = (1, cmZ, 0, []) := by
  cases kp with
  | false => exact plan_noop hz hr h (fun i hi => by have := hno i hi; simpa using this)
  | true =>
    refine plan_noop hz hr h (fun i hi => ?_)
    -- with rule 4 one that is Same is among the highest
    exfalso
    unfold kepB at hk
    rw [Bool.and_eq_true, decide_eq_true_eq] at hk
    have hn : n = 3 ∨ n = 5 ∨ n = 7 := by unfold szQ at hz; simp only [Bool.or_eq_true, beq_iff_eq] at hz; omega
    have h0 : kepK (talP (n : Int) vs) r n = 0 := by
      unfold kepK
      rw [List.countP_eq_zero]
      intro j hj
      have := hno j (List.mem_range.1 hj)
      simp only [Bool.not_true, Bool.false_or] at this
      cases hh : hiB (talP (n : Int) vs) j with
      | false => simp
      | true => rw [hh, Bool.true_and] at this; rw [this]; simp
    have := hk.2
    rw [h0] at this
    omega
set_option maxHeartbeats 8000000 in
set_option maxRecDepth 100000 in
theorem mprep_nat (n r : Nat) (va : Option Addr) (N vc : Nat) (vs : List Vt) (w : World) (hz : szQ (n : Int) = true) (hr : r < n) (hv0 : RowS w 15 va N (vs.map vcs)) (hv : ∀ v ∈ vs, Vok w v) :
    Calls Try.prog 12 #[.int .i64 (n : Int), .int .i64 (r : Int), .slice va N vc] w fun e w' => PlanP w (planQ (n : Int) (r : Int) vs) e w' := by
  have hn3 : n = 3 ∨ n = 5 ∨ n = 7 := by have h := hz; unfold szQ at h; simp only [Bool.or_eq_true, beq_iff_eq] at h; omega
  have hn7 : n ≤ 7 := by omega
  obtain ⟨U, hU⟩ : ∃ U, U = w.alloc (.cells #[.int .i64 0, .int .i64 0, .int .i64 0, .int .i64 0, .string ⟨#[]⟩, .string ⟨#[]⟩, .string ⟨#[]⟩, .string ⟨#[]⟩, .int .i64 0, .int .i64 0, .slice none 0 0] 38) := ⟨_, rfl⟩
  have BU : Hid (Below w.heap.size w U) := by rw [hU]; exact (Below.refl _ w).alloc (Nat.le_refl _) _
  have ZU : Hid (Blk U w.heap.size zP) := by rw [hU]; exact blk_new w 38 zP
  have HR := hide (hv0.below BU.out (Nat.le_refl _) (by decide))
  have HVU : Hid (∀ v ∈ vs, Vok U v) := fun v hv2 => (hv v hv2).below BU.out (Nat.le_refl _)
  have HV := hide hv
  have HZ := hide hz
  clear hv0 hv hz
  go_enter Try.func12, Try.ntmps12
  go_upto_region 1 with fail
  rw [← hU]
  clear hU
  go_wp2_with fail
  refine (qSize_any (n : Int) _).mono ?_
  rintro e w1 ⟨rfl, rfl⟩
  rw [HZ.out]
  go_wp2_with fail
  refine (told_any (n : Int) va N vc vs _ HZ.out HR.out HVU.out).mono ?_
  rintro e w2 ⟨rfl, hbd, hb2⟩
  have HBD : Hid (Blk w2 U.heap.size (bdC (talP (n : Int) vs))) := hbd
  have Z2 : Hid (Blk w2 w.heap.size zP) := ZU.out.on hb2
  have B2 : Hid (Below w.heap.size w w2) := BU.out.trans (hb2.mono BU.out.size)
  have hml : (talP (n : Int) vs).length ≤ 7 := tal_le7 (sz_le HZ.out) _ _ _
  have c112 : w2.cell? ⟨U.heap.size, 112, none⟩ = some (.int .i64 (((talP (n : Int) vs)).length : Int)) := HBD.out.cell 112 _ (bd_cnt _)
  generalize U.heap.size = bb at *
  clear hbd hb2 HR HVU BU ZU
  by_cases hfw : 2 * ((talP (n : Int) vs).length : Int) < (n : Int) + 1
  · have HQ : Hid (planQ (n : Int) (r : Int) vs = (0, cmZ, 0, [])) := plan_few HZ.out (by unfold repQ; rw [decide_eq_true (by omega), decide_eq_true (by omega)]; rfl) hfw
    have TZ := hide Z2.out.there
    obtain ⟨Y, hY⟩ : ∃ Y, Y = World.setCells w2 w.heap.size 0 (pcs 0 cmZ 0 none 0 0) := ⟨_, rfl⟩
    have HYB : Hid (Blk Y w.heap.size (pcs 0 cmZ 0 none 0 0)) := by rw [hY]; exact blk_cells Z2.out rfl
    have HYW : Hid (Below w.heap.size w Y) := by rw [hY]; exact below_cells (Nat.le_refl _) _ _ _ B2.out
    have HY := hide hY
    clear hY
    go_wp2_with (first | (refine wpList_buildB rfl 38 _ rfl [] rfl _ built_plan0 ?_) | (refine wpList_store_mid rfl 38 _ _ rfl w.heap.size 0 (pcs 0 cmZ 0 none 0 0).toArray rfl rfl TZ.out (by kernel_rfl) (all_oneCell_toArray (pcs_one _ _ _ _ _ _)) ?_; first | rw [← HY.out] | (simp only [List.toList_toArray]; rw [← HY.out])))
    rw [HQ.out]
    refine bodyPost_ret (results_cell_mid Try.results12 _ _ w.heap.size (pcs 0 cmZ 0 none 0 0) _ rfl HYB.out.range Try.underlying38 rfl (by kernel_rfl)) rfl ⟨none, 0, rfl, World.ownsRow_nil _ _ _ _, HYW.out⟩
  · have HFW := hide hfw
    go_upto_region 8 with fail
    clear hfw c112 hml
    go_loopw [9] (fun i wr => ∃ q : Nat, i = .int .i64 (q : Int) ∧ q ≤ n ∧ Hid (∀ i, i < q → (hiB (talP (n : Int) vs) i && accQ (bvt (talP (n : Int) vs) i)) = false) ∧ Hid (Below w2.heap.size w2 wr)) (fun i _ => n - (intOf i).toNat)
    case atStart => exact ⟨0, rfl, Nat.zero_le _, fun i h => absurd h (Nat.not_lt_zero _), Below.refl _ _⟩
    case round =>
      obtain ⟨q, rfl, hq, HNO, HB⟩ := hrel
      by_cases hlt : q < n
      · have hq7 : (q : Int) < 7 := by omega
        have QBr : Hid (Blk wr bb (bdC (talP (n : Int) vs))) := HBD.out.on HB.out
        have HCH := hide (highest_any bb q (talP (n : Int) vs) wr (by omega) QBr.out)
        have hU2 := Z2.out.lt
        go_wp2_with fail
        refine HCH.out.mono ?_
        rintro e w4 ⟨rfl, hb4⟩
        obtain ⟨hi, hhi⟩ : ∃ b, hiB (talP (n : Int) vs) q = b := ⟨_, rfl⟩
        rw [hhi]
        have HHI := hide hhi
        have BB4 : Hid (Below w2.heap.size w2 w4) := HB.out.trans (hb4.mono HB.out.size)
        have B4 : Hid (Below w.heap.size w w4) := B2.out.trans (BB4.out.mono B2.out.size)
        have QB4 : Hid (Blk w4 bb (bdC (talP (n : Int) vs))) := HBD.out.on BB4.out
        have Z4 : Hid (Blk w4 w.heap.size zP) := Z2.out.on BB4.out
        obtain ⟨bq, hbq⟩ : ∃ bq, bvt (talP (n : Int) vs) q = bq := ⟨_, rfl⟩
        have HBQ := hide hbq
        have RB : Hid (w4.rangeAt bb (7 + q * 15) (vcs bq)) := by rw [← hbq]; exact bd_range QB4.out (by omega)
        clear hb4 hhi hbq HCH QBr
        have s1 : w4.cell? ⟨bb, 7 + q * 15 + 1, none⟩ = some (.int .i64 bq.st) := RB.out 1 _ (vcs1 bq)
        cases hi with
        | false =>
          have HN2 : Hid (∀ i, i < q + 1 → (hiB (talP (n : Int) vs) i && accQ (bvt (talP (n : Int) vs) i)) = false) := fun i hi2 => by
            by_cases e : i < q
            · exact HNO.out i e
            · obtain rfl : i = q := by omega
              rw [HHI.out]; rfl
          go_wp2
          go_roundw
          case rel => exact ⟨q + 1, by go_num, by omega, HN2, BB4⟩
          case measure => simp [intOf]; omega
        | true =>
          by_cases hst : bq.st = 2
          · have b1 : (bq.st == 2) = true := beq_iff_eq.2 hst
            have HST : Hid ((bvt (talP (n : Int) vs) q).st = 2) := by show _ = _; rw [HBQ.out]; exact hst
            clear hst
            obtain ⟨u, hu1, hu2, hu3⟩ := (hiB_iff (brd_tal (sz_le HZ.out) vs) (by omega)).1 HHI.out
            have hok := high_ok hu3
            have HVU0 := HV.out u hok.1
            have hdn : u.dn ≤ 7 := by have := HVU0.seg.1; omega
            have HUU : Hid (bvt (talP (n : Int) vs) q = u) := hu2
            have RQ : Hid (w4.rangeAt bb (7 + q * 15) (vcs u)) := by rw [← HUU.out]; exact bd_range QB4.out (by omega)
            have HCP := hide (mplan_any 2 u w4 (HVU0.below B4.out (Nat.le_refl _)) hdn)
            clear hu1 hu2 hu3 hok HVU0
            go_upto_region 12 with fail
            go_wp2_with (first | (refine wpList_load_mid rfl 33 _ rfl bb (7 + q * 15) rfl (vcs u) _ RQ.out Try.underlying33 rfl (by kernel_rfl) ?_))
            refine HCP.out.mono ?_
            rintro e w5 ⟨ca, cc, rfl, ho5, hb5⟩
            have HO5 := hide ho5
            have Z5 : Hid (Blk w5 w.heap.size zP) := Z4.out.on hb5
            have B5 : Hid (Below w.heap.size w w5) := B4.out.trans (hb5.mono B4.out.size)
            have HQ : Hid (planQ (n : Int) (r : Int) vs = (2, u.c, u.seq, u.deps)) := by show _ = _; rw [plan_accept HZ.out hr (by have hfw := HFW.out; omega) hlt HHI.out HST.out HNO.out, HUU.out]
            have hw4 : w.heap.size < w4.heap.size := Z4.out.lt
            clear ho5 hb5 HCP RQ
            have TZ := hide Z5.out.there
            obtain ⟨Y, hY⟩ : ∃ Y, Y = World.setCells w5 w.heap.size 0 (pcs 2 u.c u.seq ca u.deps.length cc) := ⟨_, rfl⟩
            have HYB : Hid (Blk Y w.heap.size (pcs 2 u.c u.seq ca u.deps.length cc)) := by rw [hY]; exact blk_cells Z5.out rfl
            have HYW : Hid (Below w.heap.size w Y) := by rw [hY]; exact below_cells (Nat.le_refl _) _ _ _ B5.out
            have HOY : Hid (Y.ownsRow w.heap.size 3 1 (.slice ca u.deps.length cc) u.deps.length (u.deps.map (Value.int .i64))) := by
              show World.ownsRow _ _ _ _ _ _ _
              have h1 : Y.ownsRow w4.heap.size 3 1 (.slice ca u.deps.length cc) u.deps.length (u.deps.map (Value.int .i64)) := by
                refine World.ownsRow.kept (row := some w.heap.size) HO5.out (by rw [hY]; exact grown_cells _ _ _ _) (.inr fun e => ?_)
                have := HO5.out.lt _ e
                omega
              exact own_base h1 B4.out.size
            have HY := hide hY
            clear hY
            go_wp2_with (first | (refine wpList_store_mid rfl 38 _ _ rfl w.heap.size 0 (pcs 2 u.c u.seq ca u.deps.length cc).toArray rfl rfl TZ.out (by kernel_rfl) (all_oneCell_toArray (pcs_one _ _ _ _ _ _)) ?_; first | rw [← HY.out] | (simp only [List.toList_toArray]; rw [← HY.out])))
            rw [HQ.out]
            refine bodyPost_ret (results_cell_mid Try.results12 _ _ w.heap.size (pcs 2 u.c u.seq ca u.deps.length cc) _ rfl HYB.out.range Try.underlying38 rfl (by kernel_rfl)) rfl ⟨ca, cc, rfl, HOY.out, HYW.out⟩
          · have b1 : (bq.st == 2) = false := beq_eq_false_iff_ne.2 hst
            have HST := hide hst
            clear hst
            have HN2 : Hid (∀ i, i < q + 1 → (hiB (talP (n : Int) vs) i && accQ (bvt (talP (n : Int) vs) i)) = false) := fun i hi2 => by
              by_cases e : i < q
              · exact HNO.out i e
              · obtain rfl : i = q := by omega
                rw [HBQ.out]; unfold accQ; rw [beq_eq_false_iff_ne.2 HST.out, Bool.and_false]
            go_wp2
            go_roundw
            case rel => exact ⟨q + 1, by go_num, by omega, HN2, BB4⟩
            case measure => simp [intOf]; omega
      · obtain hqn : q = n := by omega
        have HNA : Hid (∀ i, i < n → (hiB (talP (n : Int) vs) i && accQ (bvt (talP (n : Int) vs) i)) = false) := by rw [hqn] at HNO; exact HNO
        clear HNO
        go_upto_region 13 with fail
        clear hqn hlt hq
        have HCK := hide (kept_any bb n r (talP (n : Int) vs) wr (by omega) hr (HBD.out.on HB.out))
        go_wp2_with fail
        refine HCK.out.mono ?_
        rintro e w3 ⟨rfl, hb3⟩
        obtain ⟨kp, hkp⟩ : ∃ b, kepB (talP (n : Int) vs) n r = b := ⟨_, rfl⟩
        rw [hkp]
        have HKP := hide hkp
        have HB3 : Hid (Below w2.heap.size w2 w3) := HB.out.trans (hb3.mono HB.out.size)
        clear hkp hb3 HCK HB
        go_wp2
        go_loopw [12] (fun i wr => ∃ q : Nat, i = .int .i64 (q : Int) ∧ q ≤ n ∧ Hid (∀ i, i < q → (hiB (talP (n : Int) vs) i && (!kp || (bvt (talP (n : Int) vs) i).same)) = false) ∧ Hid (Below w2.heap.size w2 wr)) (fun i _ => n - (intOf i).toNat)
        case atStart => exact ⟨0, rfl, Nat.zero_le _, fun i h => absurd h (Nat.not_lt_zero _), HB3⟩
        case round =>
          obtain ⟨q, rfl, hq, HNO, HB⟩ := hrel
          by_cases hlt : q < n
          · have hq7 : (q : Int) < 7 := by omega
            have QBr : Hid (Blk wr bb (bdC (talP (n : Int) vs))) := HBD.out.on HB.out
            have HCH := hide (highest_any bb q (talP (n : Int) vs) wr (by omega) QBr.out)
            have hU2 := Z2.out.lt
            go_wp2_with fail
            refine HCH.out.mono ?_
            rintro e w4 ⟨rfl, hb4⟩
            obtain ⟨hi, hhi⟩ : ∃ b, hiB (talP (n : Int) vs) q = b := ⟨_, rfl⟩
            rw [hhi]
            have HHI := hide hhi
            have BB4 : Hid (Below w2.heap.size w2 w4) := HB.out.trans (hb4.mono HB.out.size)
            have B4 : Hid (Below w.heap.size w w4) := B2.out.trans (BB4.out.mono B2.out.size)
            have QB4 : Hid (Blk w4 bb (bdC (talP (n : Int) vs))) := HBD.out.on BB4.out
            have Z4 : Hid (Blk w4 w.heap.size zP) := Z2.out.on BB4.out
            obtain ⟨bq, hbq⟩ : ∃ bq, bvt (talP (n : Int) vs) q = bq := ⟨_, rfl⟩
            have HBQ := hide hbq
            have RB : Hid (w4.rangeAt bb (7 + q * 15) (vcs bq)) := by rw [← hbq]; exact bd_range QB4.out (by omega)
            clear hb4 hhi hbq HCH QBr
            have s2 : w4.cell? ⟨bb, 7 + q * 15 + 2, none⟩ = some (.bool bq.same) := RB.out 2 _ (vcs2 bq)
            cases hi with
            | false =>
              have HN2 : Hid (∀ i, i < q + 1 → (hiB (talP (n : Int) vs) i && (!kp || (bvt (talP (n : Int) vs) i).same)) = false) := fun i hi2 => by
                by_cases e : i < q
                · exact HNO.out i e
                · obtain rfl : i = q := by omega
                  rw [HHI.out]; rfl
              go_wp2
              go_roundw
              case rel => exact ⟨q + 1, by go_num, by omega, HN2, BB4⟩
              case measure => simp [intOf]; omega
            | true =>
              cases kp with
              | true =>
                cases hsm : bq.same with
                | true =>
                  rw [hsm] at s2
                  have HSM : Hid ((bvt (talP (n : Int) vs) q).same = true) := by show _ = _; rw [HBQ.out]; exact hsm
                  clear hsm
                  obtain ⟨u, hu1, hu2, hu3⟩ := (hiB_iff (brd_tal (sz_le HZ.out) vs) (by omega)).1 HHI.out
                  have hok := high_ok hu3
                  have HVU0 := HV.out u hok.1
                  have hdn : u.dn ≤ 7 := by have := HVU0.seg.1; omega
                  have HUU : Hid (bvt (talP (n : Int) vs) q = u) := hu2
                  have RQ : Hid (w4.rangeAt bb (7 + q * 15) (vcs u)) := by rw [← HUU.out]; exact bd_range QB4.out (by omega)
                  have HCP := hide (mplan_any 2 u w4 (HVU0.below B4.out (Nat.le_refl _)) hdn)
                  clear hu1 hu2 hu3 hok HVU0
                  go_upto_region 19 with fail
                  go_wp2_with (first | (refine wpList_load_mid rfl 33 _ rfl bb (7 + q * 15) rfl (vcs u) _ RQ.out Try.underlying33 rfl (by kernel_rfl) ?_))
                  refine HCP.out.mono ?_
                  rintro e w5 ⟨ca, cc, rfl, ho5, hb5⟩
                  have HO5 := hide ho5
                  have Z5 : Hid (Blk w5 w.heap.size zP) := Z4.out.on hb5
                  have B5 : Hid (Below w.heap.size w w5) := B4.out.trans (hb5.mono B4.out.size)
                  have HQ : Hid (planQ (n : Int) (r : Int) vs = (2, u.c, u.seq, u.deps)) := by show _ = _; rw [(plan_rest HZ.out hr (by have hfw := HFW.out; omega) HNA.out hlt HHI.out).1 HKP.out HSM.out (fun i hi2 => by have := HNO.out i hi2; simpa using this), HUU.out]
                  have hw4 : w.heap.size < w4.heap.size := Z4.out.lt
                  clear ho5 hb5 HCP RQ
                  have TZ := hide Z5.out.there
                  obtain ⟨Y, hY⟩ : ∃ Y, Y = World.setCells w5 w.heap.size 0 (pcs 2 u.c u.seq ca u.deps.length cc) := ⟨_, rfl⟩
                  have HYB : Hid (Blk Y w.heap.size (pcs 2 u.c u.seq ca u.deps.length cc)) := by rw [hY]; exact blk_cells Z5.out rfl
                  have HYW : Hid (Below w.heap.size w Y) := by rw [hY]; exact below_cells (Nat.le_refl _) _ _ _ B5.out
                  have HOY : Hid (Y.ownsRow w.heap.size 3 1 (.slice ca u.deps.length cc) u.deps.length (u.deps.map (Value.int .i64))) := by
                    show World.ownsRow _ _ _ _ _ _ _
                    have h1 : Y.ownsRow w4.heap.size 3 1 (.slice ca u.deps.length cc) u.deps.length (u.deps.map (Value.int .i64)) := by
                      refine World.ownsRow.kept (row := some w.heap.size) HO5.out (by rw [hY]; exact grown_cells _ _ _ _) (.inr fun e => ?_)
                      have := HO5.out.lt _ e
                      omega
                    exact own_base h1 B4.out.size
                  have HY := hide hY
                  clear hY
                  go_wp2_with (first | (refine wpList_store_mid rfl 38 _ _ rfl w.heap.size 0 (pcs 2 u.c u.seq ca u.deps.length cc).toArray rfl rfl TZ.out (by kernel_rfl) (all_oneCell_toArray (pcs_one _ _ _ _ _ _)) ?_; first | rw [← HY.out] | (simp only [List.toList_toArray]; rw [← HY.out])))
                  rw [HQ.out]
                  refine bodyPost_ret (results_cell_mid Try.results12 _ _ w.heap.size (pcs 2 u.c u.seq ca u.deps.length cc) _ rfl HYB.out.range Try.underlying38 rfl (by kernel_rfl)) rfl ⟨ca, cc, rfl, HOY.out, HYW.out⟩
                | false =>
                  rw [hsm] at s2
                  have HSM := hide hsm
                  clear hsm
                  have HN2 : Hid (∀ i, i < q + 1 → (hiB (talP (n : Int) vs) i && (!true || (bvt (talP (n : Int) vs) i).same)) = false) := fun i hi2 => by
                    by_cases e : i < q
                    · exact HNO.out i e
                    · obtain rfl : i = q := by omega
                      rw [HBQ.out, HSM.out, Bool.not_true, Bool.false_or, Bool.and_false]
                  go_wp2
                  go_roundw
                  case rel => exact ⟨q + 1, by go_num, by omega, HN2, BB4⟩
                  case measure => simp [intOf]; omega
              | false =>
                have HQ : Hid (planQ (n : Int) (r : Int) vs = (3, bq.c, 0, [])) := by
                  show _ = _
                  rw [(plan_rest HZ.out hr (by have hfw := HFW.out; omega) HNA.out hlt HHI.out).2 HKP.out (fun i hi2 => by have := HNO.out i hi2; simpa using this), HBQ.out]
                have RC : Hid (w4.rangeAt bb (7 + q * 15 + 5) (ccs bq.c)) := vcs_cmdO RB.out
                have TZ := hide Z4.out.there
                obtain ⟨Y, hY⟩ : ∃ Y, Y = World.setCells w4 w.heap.size 0 (pcs 3 bq.c 0 none 0 0) := ⟨_, rfl⟩
                have HYB : Hid (Blk Y w.heap.size (pcs 3 bq.c 0 none 0 0)) := by rw [hY]; exact blk_cells Z4.out rfl
                have HYW : Hid (Below w.heap.size w Y) := by rw [hY]; exact below_cells (Nat.le_refl _) _ _ _ B4.out
                have HY := hide hY
                clear hY
                go_wp2_with (first | (refine wpList_load_mid rfl 31 _ rfl bb (7 + q * 15 + 5) rfl (ccs bq.c) _ RC.out Try.underlying31 rfl (by kernel_rfl) ?_) | (refine wpList_buildB rfl 38 _ rfl [(0, .int .i64 3), (1, .agg (ccs bq.c).toArray)] rfl _ (built_plan31 3 bq.c) ?_) | (refine wpList_store_mid rfl 38 _ _ rfl w.heap.size 0 (pcs 3 bq.c 0 none 0 0).toArray rfl rfl TZ.out (by kernel_rfl) (all_oneCell_toArray (pcs_one _ _ _ _ _ _)) ?_; first | rw [← HY.out] | (simp only [List.toList_toArray]; rw [← HY.out])))
                rw [HQ.out]
                refine bodyPost_ret (results_cell_mid Try.results12 _ _ w.heap.size (pcs 3 bq.c 0 none 0 0) _ rfl HYB.out.range Try.underlying38 rfl (by kernel_rfl)) rfl ⟨none, 0, rfl, World.ownsRow_nil _ _ _ _, HYW.out⟩
          · have HQ : Hid (planQ (n : Int) (r : Int) vs = (1, cmZ, 0, [])) := by
              show _ = _
              have hqn : q = n := by omega
              rw [hqn] at HNO
              exact plan_done HZ.out hr (by have hfw := HFW.out; omega) HNA.out HKP.out HNO.out
            have B4 : Hid (Below w.heap.size w wr) := B2.out.trans (HB.out.mono B2.out.size)
            have Z4 : Hid (Blk wr w.heap.size zP) := Z2.out.on HB.out
            have TZ := hide Z4.out.there
            obtain ⟨Y, hY⟩ : ∃ Y, Y = World.setCells wr w.heap.size 0 (pcs 1 cmZ 0 none 0 0) := ⟨_, rfl⟩
            have HYB : Hid (Blk Y w.heap.size (pcs 1 cmZ 0 none 0 0)) := by rw [hY]; exact blk_cells Z4.out rfl
            have HYW : Hid (Below w.heap.size w Y) := by rw [hY]; exact below_cells (Nat.le_refl _) _ _ _ B4.out
            have HY := hide hY
            clear hY
            go_wp2_with (first | (refine wpList_buildB rfl 38 _ rfl [(0, .int .i64 1)] rfl _ (built_plan11 1) ?_) | (refine wpList_store_mid rfl 38 _ _ rfl w.heap.size 0 (pcs 1 cmZ 0 none 0 0).toArray rfl rfl TZ.out (by kernel_rfl) (all_oneCell_toArray (pcs_one _ _ _ _ _ _)) ?_; first | rw [← HY.out] | (simp only [List.toList_toArray]; rw [← HY.out])))
            rw [HQ.out]
            refine bodyPost_ret (results_cell_mid Try.results12 _ _ w.heap.size (pcs 1 cmZ 0 none 0 0) _ rfl HYB.out.range Try.underlying38 rfl (by kernel_rfl)) rfl ⟨none, 0, rfl, World.ownsRow_nil _ _ _ _, HYW.out⟩
set_option maxHeartbeats 2000000 in
set_option maxRecDepth 100000 in
theorem mprep_any (n row : Int) (va : Option Addr) (N vc : Nat) (vs : List Vt) (w : World) (hr : RowS w 15 va N (vs.map vcs)) (hv : ∀ v ∈ vs, Vok w v) :
    Calls Try.prog 12 #[.int .i64 n, .int .i64 row, .slice va N vc] w fun e w' => PlanP w (planQ n row vs) e w' := by
  cases hs : szQ n with
  | true =>
    cases hp : repQ n row with
    | true =>
      have h1 := hp
      unfold repQ at h1
      simp only [Bool.and_eq_true, decide_eq_true_eq] at h1
      have h2 := sz_le hs
      obtain ⟨N', rfl⟩ : ∃ N' : Nat, n = (N' : Int) := ⟨n.toNat, by omega⟩
      obtain ⟨R', rfl⟩ : ∃ R' : Nat, row = (R' : Int) := ⟨row.toNat, by omega⟩
      exact mprep_nat N' R' va N vc vs w hs (by omega) hr hv
    | false =>
      have HQ : Hid (planQ n row vs = (0, cmZ, 0, [])) := by show _ = _; unfold planQ; rw [hs, hp]; rfl
      have hlt : row < 0 ∨ n ≤ row := by
        unfold repQ at hp
        rw [Bool.and_eq_false_iff, decide_eq_false_iff_not, decide_eq_false_iff_not] at hp
        omega
      have HSZ := hide hs
      obtain ⟨U, hU⟩ : ∃ U, U = w.alloc (.cells #[.int .i64 0, .int .i64 0, .int .i64 0, .int .i64 0, .string ⟨#[]⟩, .string ⟨#[]⟩, .string ⟨#[]⟩, .string ⟨#[]⟩, .int .i64 0, .int .i64 0, .slice none 0 0] 38) := ⟨_, rfl⟩
      have BU : Hid (Below w.heap.size w U) := by rw [hU]; exact (Below.refl _ w).alloc (Nat.le_refl _) _
      have ZU : Hid (Blk U w.heap.size zP) := by rw [hU]; exact blk_new w 38 zP
      clear hs hr hv hp
      go_enter Try.func12, Try.ntmps12
      go_upto_region 1 with fail
      rw [← hU]
      clear hU
      go_wp2_with fail
      refine (qSize_any n _).mono ?_
      rintro e w1 ⟨rfl, rfl⟩
      rw [HSZ.out]
      rcases hlt with hlt | hlt
      · have TZ := hide ZU.out.there
        obtain ⟨Y, hY⟩ : ∃ Y, Y = World.setCells U w.heap.size 0 (pcs 0 cmZ 0 none 0 0) := ⟨_, rfl⟩
        have HYB : Hid (Blk Y w.heap.size (pcs 0 cmZ 0 none 0 0)) := by rw [hY]; exact blk_cells ZU.out rfl
        have HYW : Hid (Below w.heap.size w Y) := by rw [hY]; exact below_cells (Nat.le_refl _) _ _ _ BU.out
        have HY := hide hY
        clear hY
        go_wp2_with (first | (refine wpList_buildB rfl 38 _ rfl [] rfl _ built_plan0 ?_) | (refine wpList_store_mid rfl 38 _ _ rfl w.heap.size 0 (pcs 0 cmZ 0 none 0 0).toArray rfl rfl TZ.out (by kernel_rfl) (all_oneCell_toArray (pcs_one _ _ _ _ _ _)) ?_; first | rw [← HY.out] | (simp only [List.toList_toArray]; rw [← HY.out])))
        rw [HQ.out]
        refine bodyPost_ret (results_cell_mid Try.results12 _ _ w.heap.size (pcs 0 cmZ 0 none 0 0) _ rfl HYB.out.range Try.underlying38 rfl (by kernel_rfl)) rfl ⟨none, 0, rfl, World.ownsRow_nil _ _ _ _, HYW.out⟩
      · by_cases hneg : row < 0
        · have TZ := hide ZU.out.there
          obtain ⟨Y, hY⟩ : ∃ Y, Y = World.setCells U w.heap.size 0 (pcs 0 cmZ 0 none 0 0) := ⟨_, rfl⟩
          have HYB : Hid (Blk Y w.heap.size (pcs 0 cmZ 0 none 0 0)) := by rw [hY]; exact blk_cells ZU.out rfl
          have HYW : Hid (Below w.heap.size w Y) := by rw [hY]; exact below_cells (Nat.le_refl _) _ _ _ BU.out
          have HY := hide hY
          clear hY
          go_wp2_with (first | (refine wpList_buildB rfl 38 _ rfl [] rfl _ built_plan0 ?_) | (refine wpList_store_mid rfl 38 _ _ rfl w.heap.size 0 (pcs 0 cmZ 0 none 0 0).toArray rfl rfl TZ.out (by kernel_rfl) (all_oneCell_toArray (pcs_one _ _ _ _ _ _)) ?_; first | rw [← HY.out] | (simp only [List.toList_toArray]; rw [← HY.out])))
          rw [HQ.out]
          refine bodyPost_ret (results_cell_mid Try.results12 _ _ w.heap.size (pcs 0 cmZ 0 none 0 0) _ rfl HYB.out.range Try.underlying38 rfl (by kernel_rfl)) rfl ⟨none, 0, rfl, World.ownsRow_nil _ _ _ _, HYW.out⟩
        · have TZ := hide ZU.out.there
          obtain ⟨Y, hY⟩ : ∃ Y, Y = World.setCells U w.heap.size 0 (pcs 0 cmZ 0 none 0 0) := ⟨_, rfl⟩
          have HYB : Hid (Blk Y w.heap.size (pcs 0 cmZ 0 none 0 0)) := by rw [hY]; exact blk_cells ZU.out rfl
          have HYW : Hid (Below w.heap.size w Y) := by rw [hY]; exact below_cells (Nat.le_refl _) _ _ _ BU.out
          have HY := hide hY
          clear hY
          go_wp2_with (first | (refine wpList_buildB rfl 38 _ rfl [] rfl _ built_plan0 ?_) | (refine wpList_store_mid rfl 38 _ _ rfl w.heap.size 0 (pcs 0 cmZ 0 none 0 0).toArray rfl rfl TZ.out (by kernel_rfl) (all_oneCell_toArray (pcs_one _ _ _ _ _ _)) ?_; first | rw [← HY.out] | (simp only [List.toList_toArray]; rw [← HY.out])))
          rw [HQ.out]
          refine bodyPost_ret (results_cell_mid Try.results12 _ _ w.heap.size (pcs 0 cmZ 0 none 0 0) _ rfl HYB.out.range Try.underlying38 rfl (by kernel_rfl)) rfl ⟨none, 0, rfl, World.ownsRow_nil _ _ _ _, HYW.out⟩
  | false =>
    have HQ : Hid (planQ n row vs = (0, cmZ, 0, [])) := by show _ = _; unfold planQ; rw [hs]; rfl
    have HSZ := hide hs
    obtain ⟨U, hU⟩ : ∃ U, U = w.alloc (.cells #[.int .i64 0, .int .i64 0, .int .i64 0, .int .i64 0, .string ⟨#[]⟩, .string ⟨#[]⟩, .string ⟨#[]⟩, .string ⟨#[]⟩, .int .i64 0, .int .i64 0, .slice none 0 0] 38) := ⟨_, rfl⟩
    have BU : Hid (Below w.heap.size w U) := by rw [hU]; exact (Below.refl _ w).alloc (Nat.le_refl _) _
    have ZU : Hid (Blk U w.heap.size zP) := by rw [hU]; exact blk_new w 38 zP
    clear hs hr hv
    go_enter Try.func12, Try.ntmps12
    go_upto_region 1 with fail
    rw [← hU]
    clear hU
    go_wp2_with fail
    refine (qSize_any n _).mono ?_
    rintro e w1 ⟨rfl, rfl⟩
    rw [HSZ.out]
    have TZ := hide ZU.out.there
    obtain ⟨Y, hY⟩ : ∃ Y, Y = World.setCells U w.heap.size 0 (pcs 0 cmZ 0 none 0 0) := ⟨_, rfl⟩
    have HYB : Hid (Blk Y w.heap.size (pcs 0 cmZ 0 none 0 0)) := by rw [hY]; exact blk_cells ZU.out rfl
    have HYW : Hid (Below w.heap.size w Y) := by rw [hY]; exact below_cells (Nat.le_refl _) _ _ _ BU.out
    have HY := hide hY
    clear hY
    go_wp2_with (first | (refine wpList_buildB rfl 38 _ rfl [] rfl _ built_plan0 ?_) | (refine wpList_store_mid rfl 38 _ _ rfl w.heap.size 0 (pcs 0 cmZ 0 none 0 0).toArray rfl rfl TZ.out (by kernel_rfl) (all_oneCell_toArray (pcs_one _ _ _ _ _ _)) ?_; first | rw [← HY.out] | (simp only [List.toList_toArray]; rw [← HY.out])))
    rw [HQ.out]
    refine bodyPost_ret (results_cell_mid Try.results12 _ _ w.heap.size (pcs 0 cmZ 0 none 0 0) _ rfl HYB.out.range Try.underlying38 rfl (by kernel_rfl)) rfl ⟨none, 0, rfl, World.ownsRow_nil _ _ _ _, HYW.out⟩
end Go.Proofs.Ytmplipkdaplpnaa
