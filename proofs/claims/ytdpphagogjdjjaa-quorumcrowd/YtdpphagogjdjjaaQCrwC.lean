/- The walk of QuorumCrowd: a number that is too high. -/
import Derived.Test.YtdpphagogjdjjaaQCwM
import Derived.Test.YtdpphagogjdjjaaSameI
import Derived.Test.YtdpphagogjdjjaaVArgs
import Derived.Test.YtdpphagogjdjjaaVLit
import Derived.Test.YtdpphagogjdjjaaQCrwA
namespace Go.Proofs.Ytdpphagogjdjjaa
open Go.RowKit Go.Wire1

set_option maxHeartbeats 16000000 in
set_option maxRecDepth 100000 in
theorem crowd_hi (n : Int) (a : Option Addr) (P pc : Nat) (vs : List Int) (w : World) (hs : SegI w a P vs) (hlo : ¬ n < 1) (hhi : 40 < n) :
    Calls Try.prog 3 #[.int .i64 n, .slice a P pc] w fun e w' => e = .returned (.bool true) ∧ Below w.heap.size w w' := by
  obtain ⟨i0, hii, hz0, hz1, hz2⟩ := info_parts infoPT
  have HS := hide hs
  have HVL : Hid (vs.length = P) := hs.1
  have hP := hs.2.1
  unfold maxLen at hP
  clear hs
  go_enter Try.func3, Try.ntmps3
  go_upto_region 3 with fail
  clear hlo hhi
  obtain ⟨N, hN, h1, h40⟩ : ∃ N : Nat, (40 : Int) = (N : Int) ∧ 1 ≤ N ∧ N ≤ 40 := ⟨40, rfl, by decide, by decide⟩
  rw [hN]
  clear hN
  by_cases hPA : P ≤ 60
  · go_wp2_with fail
    go_loopw [5, 6] (fun x i wr => ∃ q : Nat, i = .int .i64 (q : Int) ∧ q ≤ N ∧ ∃ ps : List (Nat × Nat), ps.length = q ∧ Hid (World.ownsRow wr w.heap.size 24 1 x (ps).length ((ps).map ptr)) ∧ Hid (∀ p ∈ ps, Value.ownBlock x ≠ some p.1 ∧ Value.ownBlock x ≠ some p.2) ∧ Hid (Cw wr w.heap.size ps ((List.range q).map (mCw N []))) ∧ Hid (Below w.heap.size w wr)) (fun _ i _ => N - (intOf i).toNat)
    case atStart => exact ⟨0, rfl, Nat.zero_le _, [], rfl, World.ownsRow_nil _ _ _ _, (fun p h => by cases h), cw_nil _ _, Below.refl _ _⟩
    case round =>
      obtain ⟨q, rfl, hq, ps, hpl, HO, HX, HC, HB⟩ := hrel
      by_cases hlt : q < N
      · have hww := HB.out.size
        have hf1 : (f1Q q : Int) = 1 + (q : Int) % 6 := rfl
        go_wp2_with fail
        refine (newT7_any wr).mono ?_
        rintro e w1 ⟨rfl, ht1, hb1⟩
        have HT1 := hide ht1
        have HC1 : Hid (Cw w1 w.heap.size ps ((List.range q).map (mCw N []))) := HC.out.on hb1
        have HO1 : Hid (World.ownsRow w1 w.heap.size 24 1 u5 (ps).length ((ps).map ptr)) := own_below HO.out hb1 (Nat.le_refl _)
        have HB1 : Hid (Below w.heap.size w w1) := HB.out.trans (hb1.mono hww)
        have hw1 := hb1.size
        have HOB : Hid (∀ j, Value.ownBlock u5 = some j → j < wr.heap.size) := fun j hj => (HO.out.lt j hj).2
        have HPL : Hid (∀ p ∈ ps, p.1 < wr.heap.size ∧ p.2 < wr.heap.size) := HC.out.lt
        have HW1 : Hid (wr.heap.size + 1 < w1.heap.size) := HT1.out.lt
        have hCA := addI_any HT1.out (f1Q q) (q : Int) (by have := (f_rng q).1; omega)
        have HOK : Hid (okT 7 0 ([] : List (Int × Int)) (f1Q q) = true) := by show _ = _; have := (f_rng q).1; unfold okT lkm; rw [decide_eq_true (by omega), beq_eq_false_iff_ne.2 (by omega : f1Q q ≠ 0)]; rfl
        have HAM : Hid (addM 7 0 ([] : List (Int × Int)) (f1Q q) (q : Int) = mCw N [] q) := by show _ = _; rw [(addM_yes HOK.out).2]; rfl
        rw [HOK.out, HAM.out, hf1] at hCA
        have HCA := hide hCA
        clear ht1 hb1 hCA
        go_wp2_with fail
        refine HCA.out.mono ?_
        rintro e w2 ⟨rfl, ht2, hg2⟩
        have HT2 := hide ht2
        have HC2 : Hid (Cw w2 w.heap.size ps ((List.range q).map (mCw N []))) := HC1.out.far hg2 (fun p hp => by have := HPL.out p hp; omega)
        have HO2 : Hid (World.ownsRow w2 w.heap.size 24 1 u5 (ps).length ((ps).map ptr)) := by
          show World.ownsRow _ _ _ _ _ _ _
          refine HO1.out.kept hg2 ?_
          refine .inr fun e => ?_
          have := HOB.out _ e
          omega
        have HB2 : Hid (Below w.heap.size w w2) := HB1.out.grown hg2 HB1.out.size (fun j hj => by injection hj with hj; omega)
        have hw2 := hg2.size
        have HPL2 : Hid (ps.length = q) := hpl
        have HCP : Hid (Cw w2 w.heap.size (ps ++ [(wr.heap.size + 1, wr.heap.size)]) ((List.range q).map (mCw N []) ++ [mCw N [] q])) := HC.out.push HT2.out HC2.out (by omega) (Nat.le_refl _) hww
        clear ht2 hg2 HCA HC1 HO1
        obtain ⟨X, hX⟩ : ∃ X, X = w2.alloc (.cells #[.pointer (some ⟨wr.heap.size + 1, 0, none⟩)] 24) := ⟨_, rfl⟩
        go_wp2_with (first | (at_builtin; refine wpList_append_own_at _ rfl _ _ 23 rfl w.heap.size 24 i0 (.pointer none) 1 8 Try.underlying23 hii hz0 hz1 hz2 rfl (by decide) u5 _ _ rfl (World.ownsRow.alloc HO2.out _) ⟨w2.heap.size, 0, none⟩ 1 1 [.pointer (some ⟨wr.heap.size + 1, 0, none⟩)] rfl rfl (cell_one_new w2 _ _) (by intro u hu; simp only [List.mem_singleton] at hu; subst hu; rfl) (by unfold maxLen; omega) (by omega) (by simp; omega) ?_; intro v4 w4 hown4 hgrow4 hnil4 hloc4; have HO4 := hide hown4; have HG4 := hide hgrow4; have HL4 := hide hloc4; clear hown4 hgrow4 hnil4 hloc4))
        have HP5 : Hid (Cw w4 w.heap.size (ps ++ [(wr.heap.size + 1, wr.heap.size)]) ((List.range (q + 1)).map (mCw N []))) := by
          have e : (List.range (q + 1)).map (mCw N []) = (List.range q).map (mCw N []) ++ [mCw N [] q] := by rw [List.range_succ, List.map_append]; rfl
          show Cw _ _ _ _
          rw [e]
          refine (HCP.out.on ((Below.refl _ _).alloc (Nat.le_refl _) _)).far0 HG4.out (fun p hp => ?_)
          rcases List.mem_append.1 hp with hp | hp
          · exact HX.out p hp
          · simp only [List.mem_singleton] at hp
            subst hp
            exact ⟨fun e => by have := HOB.out _ e; omega, fun e => by have := HOB.out _ e; omega⟩
        have HO5 : Hid (World.ownsRow w4 w.heap.size 24 1 v4 ((ps ++ [(wr.heap.size + 1, wr.heap.size)])).length (((ps ++ [(wr.heap.size + 1, wr.heap.size)])).map ptr)) := by
          show World.ownsRow _ _ _ _ _ _ _
          have := HO4.out
          rw [List.map_append, List.length_append]
          exact this
        have HB5 : Hid (Below w.heap.size w w4) := (HB2.out.alloc (by omega) _).grown HG4.out (by simp; omega) (fun j hj => (HO2.out.lt j hj).1)
        have HX5 : Hid (∀ p ∈ ps ++ [(wr.heap.size + 1, wr.heap.size)], Value.ownBlock v4 ≠ some p.1 ∧ Value.ownBlock v4 ≠ some p.2) := by
          have hn : ∀ p ∈ ps ++ [(wr.heap.size + 1, wr.heap.size)], (Value.ownBlock u5 ≠ some p.1 ∧ Value.ownBlock u5 ≠ some p.2) ∧ p.1 < w2.heap.size ∧ p.2 < w2.heap.size := by
            intro p hp
            rcases List.mem_append.1 hp with hp | hp
            · have h1 := HX.out p hp
              have h2 := HPL.out p hp
              exact ⟨h1, by omega, by omega⟩
            · simp only [List.mem_singleton] at hp
              subst hp
              have := HW1.out
              exact ⟨⟨fun e => by have := HOB.out _ e; omega, fun e => by have := HOB.out _ e; omega⟩, by show wr.heap.size + 1 < _; omega, by show wr.heap.size < _; omega⟩
          intro p hp
          have h1 := hn p hp
          rcases HL4.out with e | e
          · rw [e]; exact h1.1
          · rw [e]
            constructor
            · intro e2; injection e2 with e2; simp at e2; omega
            · intro e2; injection e2 with e2; simp at e2; omega
        clear hX HC2 HO2
        go_roundw
        case rel => exact ⟨q + 1, by go_num, by omega, _, by simp [HPL2.out], HO5, HX5, HP5, HB5⟩
        case measure => simp [intOf]; omega
      · obtain rfl : q = N := by omega
        obtain ⟨g, gc, rfl, hgc⟩ : ∃ g cap, u5 = .slice (some ⟨g, 0, none⟩) ps.length cap ∧ ∀ i p, ps[i]? = some p → wr.cell? ⟨g, i, none⟩ = some (ptr p) := by
          rcases HO.out.2 with ⟨_, e⟩ | ⟨g, cap, cur, e, hB, hh, h3, h4, h5, h6⟩
          · omega
          · refine ⟨g, cap, e, fun i p hi => ?_⟩
            have := World.ownsRow.cells HO.out (g := g) (by rw [e]; rfl) i (ptr p) (by rw [List.getElem?_map, hi]; rfl)
            rwa [Addr.add_mid, Nat.zero_add] at this
        have HGC := hide hgc
        have HGX : Hid (∀ p ∈ ps, g ≠ p.2) := fun p hp e => (HX.out p hp).2 (by rw [← e]; rfl)
        have HGL : Hid (g < wr.heap.size) := (HO.out.lt g rfl).2
        rw [hpl]
        have HPL := hide hpl
        have HMS : Hid (Cw wr w.heap.size ps (msCw q (vs.take 0))) := HC.out
        clear hgc HO HX HC hpl
        generalize hNq : q = N at *
        clear hNq
        have hlt2 : ¬ (N : Int) < (N : Int) := by omega
        generalize hW1 : wr = W1 at *
        clear hW1
        go_wp2
        clear hlt hlt2 hq
        go_loopw [9] (fun x wr => ∃ k : Nat, x = .int .i64 (k : Int) ∧ k ≤ P ∧ k ≤ 60 ∧ Hid (∀ i p, ps[i]? = some p → wr.cell? ⟨g, i, none⟩ = some (ptr p)) ∧ Hid (Cw wr w.heap.size ps (msCw N (vs.take k))) ∧ Hid (Below w.heap.size w wr)) (fun x _ => P - (intOf x).toNat)
        case atStart => exact ⟨0, rfl, Nat.zero_le _, Nat.zero_le _, HGC, HMS, HB⟩
        case round =>
          clear HGC HMS HB
          obtain ⟨k, rfl, hk, hk60, HR, HC, HB⟩ := hrel
          by_cases hlk : k < P
          · have hlP : k < P := by omega
            have hl60 : k < 60 := by omega
            obtain ⟨ab, ao, rfl, hic⟩ := (HS.out.below HB.out (Nat.le_refl _)).2.2.1 (by omega)
            have cx := hic k hlP
            have hfv := (HS.out.2.2.2) k
            have hvk : vs[k]? = some (vs.getD k 0) := by rw [List.getD, List.getElem?_eq_getElem (by have := HVL.out; omega)]; rfl
            have HTK : Hid (vs.take (k + 1) = vs.take k ++ [vs.getD k 0]) := by show _ = _; rw [List.take_add_one, hvk]; rfl
            clear hic hvk
            generalize vs.getD k 0 = v at *
            have HIX := hide (ix_eq h1 v)
            have hin := HIX.out.2
            have hwr : (wrap64 (Int.tmod v (N : Int) + (N : Int))).tmod (N : Int) = (ixQ N v : Int) := ix_wrap h1 h40 v
            obtain ⟨p, hp⟩ : ∃ p, ps[ixQ N v]? = some p := ⟨_, List.getElem?_eq_getElem (by have := HPL.out; omega)⟩
            have HP := hide hp
            have cg : wr.cell? ⟨g, ixQ N v, none⟩ = some (.pointer (some ⟨p.1, 0, none⟩)) := HR.out _ p hp
            have HTI : Hid (Tli wr p.1 p.2 7 0 (mCw N (vs.take k) (ixQ N v))) := HC.out.at_ _ p _ hp (by unfold msCw; rw [List.getElem?_map, List.getElem?_range HIX.out.2]; rfl)
            have HMS2 := hide (ms_step h1 (vs.take k) v)
            have hCA := addI_any HTI.out (f2Q (ixQ N v)) (1000 + (ixQ N v : Int)) (by have := (f_rng (ixQ N v)).2; omega)
            rw [show f2Q (ixQ N v) = 1 + ((ixQ N v : Int) + 1) % 6 from rfl] at hCA
            have HCA := hide hCA
            have HGP : Hid (g ≠ p.2) := HGX.out p (List.mem_of_getElem? hp)
            have HLO : Hid (w.heap.size ≤ p.2) := (HC.out.lo p (List.mem_of_getElem? hp)).2
            clear hCA hp
            go_upto_region 18 with fail
            try rw [hwr]
            clear hwr
            generalize ixQ N v = I at *
            go_wp2_with fail
            refine HCA.out.mono ?_
            rintro e w2 ⟨rfl, ht2, hg2⟩
            have HR2 : Hid (∀ i p, ps[i]? = some p → w2.cell? ⟨g, i, none⟩ = some (ptr p)) := fun i p' hp' => hg2.cell (HR.out i p' hp') (by intro e; injection e with e; exact HGP.out e)
            have HC2 : Hid (Cw w2 w.heap.size ps (msCw N (vs.take (k + 1)))) := by
              show Cw _ _ _ _
              rw [HTK.out, HMS2.out]
              exact HC.out.turn HP.out ht2 hg2
            have HB2 : Hid (Below w.heap.size w w2) := HB.out.grown hg2 HB.out.size (fun j hj => by injection hj with hj; have := HLO.out; omega)
            clear ht2 hg2 HCA
            go_wp2
            go_roundw
            case rel => exact ⟨k + 1, by go_num, by omega, by omega, HR2, HC2, HB2⟩
            case measure => simp [intOf]; omega
          · have hnP : ¬ k < P := hlk
            have HTV : Hid (vs.take k = vs.take 60) := by show _ = _; rw [List.take_of_length_le (by have := HVL.out; omega), List.take_of_length_le (by have := HVL.out; omega)]
            rw [HTV.out] at HC
            clear HTV
            have HC0 := HC
            have HR0 := HR
            have HB0 := HB
            clear HC HR HB
            obtain ⟨i1, hji, hj0, hj1, hj2⟩ := info_parts Try.info3
            generalize hW2 : wr = W2 at *
            clear hW2
            go_wp2
            go_loopw [11] (fun x wr => ∃ i : Nat, x = .int .i64 (i : Int) ∧ i ≤ N ∧ Hid (∀ i p, ps[i]? = some p → wr.cell? ⟨g, i, none⟩ = some (ptr p)) ∧ Hid (Cw wr w.heap.size ps (msCw N (vs.take 60))) ∧ Hid (Below w.heap.size w wr)) (fun x _ => N - (intOf x).toNat)
            case atStart => exact ⟨0, rfl, Nat.zero_le _, HR0, HC0, HB0⟩
            case round =>
              clear HR0 HC0 HB0
              obtain ⟨i, rfl, hi, HR, HC, HB⟩ := hrel
              by_cases hli : i < N
              · obtain ⟨p, hp⟩ : ∃ p, ps[i]? = some p := ⟨_, List.getElem?_eq_getElem (by have := HPL.out; omega)⟩
                have cg : wr.cell? ⟨g, i, none⟩ = some (.pointer (some ⟨p.1, 0, none⟩)) := HR.out _ p hp
                have HTI : Hid (Tli wr p.1 p.2 7 0 (mCw N (vs.take 60) i)) := HC.out.at_ _ p _ hp (by unfold msCw; rw [List.getElem?_map, List.getElem?_range hli]; rfl)
                have hG1 := getI_any HTI.out (1 + (i : Int) % 6) (by omega)
                rw [show lkm (mCw N (vs.take 60) i) (1 + (i : Int) % 6) = some (i : Int) from lkm_f1 N (vs.take 60) i] at hG1
                have hG2 := getI_any HTI.out (1 + ((i : Int) + 1) % 6) (by omega)
                rw [show lkm (mCw N (vs.take 60) i) (1 + ((i : Int) + 1) % 6) = if hitQ N (vs.take 60) i then some (1000 + (i : Int)) else none from lkm_f2 N (vs.take 60) i] at hG2
                have HG1 := hide hG1
                have HG2 := hide hG2
                have hF := fromI_any HTI.out
                rw [ids_want] at hF
                have HF := hide hF
                have HWL : Hid ((mCw N (vs.take 60) i).length = (wantQ N (vs.take 60) i).length) := by show _ = _; unfold mCw wantQ; cases hitQ N (vs.take 60) i with
                  | false => rfl
                  | true =>
                    show 2 = (if f2Q i < f1Q i then [f2Q i, f1Q i] else [f1Q i, f2Q i]).length
                    split <;> rfl
                have hii : ((i : Int) != (i : Int)) = false := by simp
                have hgl : g < wr.heap.size := cell_lt cg
                clear hG1 hG2 hF hp
                go_wp2_with fail
                refine HG1.out.mono ?_
                rintro e w1 ⟨rfl, rfl⟩
                go_upto_region 27 with fail
                clear HG1 hii
                go_loop [14, 15] (fun m x => ∃ k : Nat, x = .int .i64 (k : Int) ∧ k ≤ P ∧ k ≤ 60 ∧ m = .bool (hitQ N (vs.take k) i)) (fun _ x => P - (intOf x).toNat)
                case atStart => exact ⟨0, rfl, Nat.zero_le _, Nat.zero_le _, rfl⟩
                case round =>
                  obtain ⟨k, rfl, hk, hk60, hm⟩ := hrel
                  subst hm
                  by_cases hlk : k < P
                  · have hlP : k < P := by omega
                    have hl60 : k < 60 := by omega
                    obtain ⟨ab, ao, rfl, hic⟩ := (HS.out.below HB.out (Nat.le_refl _)).2.2.1 (by omega)
                    have cx := hic k hlP
                    have hfv := (HS.out.2.2.2) k
                    have hvk : vs[k]? = some (vs.getD k 0) := by rw [List.getD, List.getElem?_eq_getElem (by have := HVL.out; omega)]; rfl
                    have HTK : Hid (vs.take (k + 1) = vs.take k ++ [vs.getD k 0]) := by show _ = _; rw [List.take_add_one, hvk]; rfl
                    clear hic hvk
                    generalize vs.getD k 0 = v at *
                    have hwr : (wrap64 (Int.tmod v (N : Int) + (N : Int))).tmod (N : Int) = (ixQ N v : Int) := ix_wrap h1 h40 v
                    have HHS : Hid (hitQ N (vs.take (k + 1)) i = (hitQ N (vs.take k) i || (ixQ N v == i))) := by show _ = _; rw [HTK.out, hit_snoc]
                    obtain ⟨hn, hhn⟩ : ∃ b, hitQ N (vs.take (k + 1)) i = b := ⟨_, rfl⟩
                    rw [hhn] at HHS
                    have HHN := hide hhn
                    clear hhn
                    generalize hitQ N (vs.take k) i = ho at *
                    cases ho with
                    | true =>
                      obtain rfl : hn = true := by rw [HHS.out]; rfl
                      clear hwr HHS
                      go_wp2
                      go_round
                      case rel => exact ⟨k + 1, by go_num, by omega, by omega, by rw [HHN.out]⟩
                      case measure => simp [intOf]; omega
                    | false =>
                      have hne : ((ixQ N v : Nat) : Int) = (i : Int) ↔ ixQ N v = i := by omega
                      by_cases e : ixQ N v = i
                      · have hb : (((ixQ N v : Nat) : Int) == (i : Int)) = true := beq_iff_eq.2 (hne.2 e)
                        obtain rfl : hn = true := by rw [HHS.out, e]; simp
                        clear HHS e hne
                        generalize ixQ N v = I at *
                        go_wp2
                        go_round
                        case rel => exact ⟨k + 1, by go_num, by omega, by omega, by rw [HHN.out]⟩
                        case measure => simp [intOf]; omega
                      · have hb : (((ixQ N v : Nat) : Int) == (i : Int)) = false := beq_eq_false_iff_ne.2 (fun h => e (hne.1 h))
                        obtain rfl : hn = false := by rw [HHS.out, Bool.false_or]; exact beq_eq_false_iff_ne.2 e
                        clear HHS e hne
                        generalize ixQ N v = I at *
                        go_wp2
                        go_round
                        case rel => exact ⟨k + 1, by go_num, by omega, by omega, by rw [HHN.out]⟩
                        case measure => simp [intOf]; omega
                  · have hnP : ¬ k < P := hlk
                    have HTV2 : Hid (vs.take k = vs.take 60) := by show _ = _; rw [List.take_of_length_le (by have := HVL.out; omega), List.take_of_length_le (by have := HVL.out; omega)]
                    rw [HTV2.out]
                    obtain ⟨hv, hhv⟩ : ∃ b, hitQ N (vs.take 60) i = b := ⟨_, rfl⟩
                    have HHV := hide hhv
                    rw [hhv] at HG2 ⊢
                    clear hhv
                    cases hv with
                    | false =>
                      go_wp2_with fail
                      refine HG2.out.mono ?_
                      rintro e w1 ⟨rfl, rfl⟩
                      go_wp2_with fail
                      refine HF.out.mono ?_
                      rintro e w2 ⟨g2, c2, rfl, hm2, hb2⟩
                      have HWQ : Hid (wantQ N (vs.take 60) i = [(1 + (i : Int) % 6)]) := by show _ = _; unfold wantQ; rw [HHV.out]; rfl
                      rw [HWL.out, HWQ.out] at hm2 ⊢
                      have HSI : Hid (SegI w2 (some ⟨g2, 0, none⟩) 1 [(1 + (i : Int) % 6)]) := hm2.seg (fit_of (fun x hx => by have h1 := Int.emod_nonneg (i : Int) (b := 6) (by decide); have h2 := Int.emod_lt_of_pos (i : Int) (b := 6) (by decide); have h3 := Int.emod_nonneg ((i : Int) + 1) (b := 6) (by decide); have h4 := Int.emod_lt_of_pos ((i : Int) + 1) (b := 6) (by decide); simp at hx; omega))
                      have HB2 := hide hb2
                      clear hm2 hb2
                      obtain ⟨W5, hW5⟩ : ∃ W5, W5 = w2.alloc (.cells #[.int .i64 (1 + (i : Int) % 6)] 3) := ⟨_, rfl⟩
                      have HSB : Hid (SegI W5 (some ⟨w2.heap.size, 0, none⟩) 1 [(1 + (i : Int) % 6)]) := by
                        rw [hW5]
                        exact segI_lit [(1 + (i : Int) % 6)] (fit_of (fun x hx => by have h1 := Int.emod_nonneg (i : Int) (b := 6) (by decide); have h2 := Int.emod_lt_of_pos (i : Int) (b := 6) (by decide); have h3 := Int.emod_nonneg ((i : Int) + 1) (b := 6) (by decide); have h4 := Int.emod_lt_of_pos ((i : Int) + 1) (b := 6) (by decide); simp at hx; omega)) (by unfold maxLen; simp only [List.length_cons, List.length_nil]; omega) rfl rfl rfl
                      have B5 : Hid (Below wr.heap.size wr W5) := by rw [hW5]; exact HB2.out.alloc HB2.out.size _
                      have HSA : Hid (SegI W5 (some ⟨g2, 0, none⟩) 1 [(1 + (i : Int) % 6)]) := by rw [hW5]; exact HSI.out.below ((Below.refl _ _).alloc (Nat.le_refl _) _) (Nat.le_refl _)
                      have HW5 : Hid (w2.alloc (.cells #[.int .i64 (1 + (i : Int) % 6)] 3) = W5) := hW5.symm
                      clear hW5
                      go_wp2_with fail
                      rw [HW5.out]
                      refine (sameI_any _ _ _ _ _ _ [(1 + (i : Int) % 6)] [(1 + (i : Int) % 6)] _ HSA.out HSB.out).mono ?_
                      rintro e w9 ⟨rfl, qd, rfl⟩
                      rw [show sameB [(1 + (i : Int) % 6)] [(1 + (i : Int) % 6)] = true by unfold sameB; simp]
                      have BX9 : Hid (Below wr.heap.size wr (W5.drewN qd)) := below_drewN B5.out _
                      have HR9 : Hid (∀ i p, ps[i]? = some p → (W5.drewN qd).cell? ⟨g, i, none⟩ = some (ptr p)) := fun j p' hp' => by rw [(BX9.out).cell (p := ⟨g, j, none⟩) hgl]; exact HR.out j p' hp'
                      have HC9 : Hid (Cw (W5.drewN qd) w.heap.size ps (msCw N (vs.take 60))) := HC.out.on (BX9.out)
                      have HB9 : Hid (Below w.heap.size w (W5.drewN qd)) := HB.out.trans ((BX9.out).mono HB.out.size)
                      go_wp2
                      go_roundw
                      case rel => exact ⟨i + 1, by go_num, by omega, HR9, HC9, HB9⟩
                      case measure => simp [intOf]; omega
                    | true =>
                      go_wp2_with fail
                      refine HG2.out.mono ?_
                      rintro e w1 ⟨rfl, rfl⟩
                      go_wp2_with fail
                      refine HF.out.mono ?_
                      rintro e w2 ⟨g2, c2, rfl, hm2, hb2⟩
                      rw [HWL.out] at hm2 ⊢
                      have hl2 : (wantQ N (vs.take 60) i).length = 2 := by unfold wantQ; rw [HHV.out, if_pos rfl]; split <;> rfl
                      have HSI : Hid (SegI w2 (some ⟨g2, 0, none⟩) (wantQ N (vs.take 60) i).length (wantQ N (vs.take 60) i)) := hm2.seg (by
                        refine fit_of (fun x hx => ?_)
                        have h := f_rng i
                        have : x = f1Q i ∨ x = f2Q i := by
                          unfold wantQ at hx
                          rw [HHV.out, if_pos rfl] at hx
                          split at hx <;> simp at hx <;> omega
                        omega)
                      have HB2 := hide hb2
                      clear hm2 hb2
                      have hws := HB2.out.size
                      have OW3 : Hid ((w2.alloc (.cells #[.int .i64 (1 + (i : Int) % 6)] 3)).ownsRow w2.heap.size 3 1 (.slice (some ⟨w2.heap.size, 0, none⟩) 1 1) 1 [.int .i64 (1 + (i : Int) % 6)]) :=
                        ⟨rfl, .inr ⟨w2.heap.size, 1, #[.int .i64 (1 + (i : Int) % 6)], rfl, Nat.le_refl _, heap_alloc_new w2 _, Nat.le_refl _, by unfold maxLen; omega, rfl, rfl⟩⟩
                      have hs3 : (w2.alloc (.cells #[.int .i64 (1 + (i : Int) % 6)] 3)).heap.size = w2.heap.size + 1 := by simp
                      rw [hl2]
                      go_upto_region 35 with (first | (at_builtin; refine wpList_append_own_at _ rfl _ _ 22 rfl w2.heap.size 3 i1 (.int .i64 0) 1 8 Try.underlying22 hji hj0 hj1 hj2 rfl (by decide) (.slice (some ⟨w2.heap.size, 0, none⟩) 1 1) _ _ rfl (World.ownsRow.alloc OW3.out _) ⟨w2.heap.size + 1, 0, none⟩ 1 1 [.int .i64 (1 + ((i : Int) + 1) % 6)] rfl rfl (c1_at hs3) (by intro u hu; simp only [List.mem_singleton] at hu; subst hu; rfl) (by unfold maxLen; omega) (by omega) (by simp; omega) ?_; intro v5 w5 hown5 hgrow5 hnil5 hloc5; have HO5 := hide hown5; have HG5 := hide hgrow5; clear hown5 hgrow5 hnil5 hloc5))
                      have B25a : Hid (Below w2.heap.size w2 w5) := (((Below.refl _ w2).alloc (Nat.le_refl _) _).alloc (by simp) _).grown HG5.out (by simp; omega) (fun j hj => (OW3.out.lt j hj).1)
                      have B5a : Hid (Below wr.heap.size wr w5) := HB2.out.trans (B25a.out.mono hws)
                      have HO6 : w5.ownsRow w2.heap.size 3 1 v5 [(1 + (i : Int) % 6), (1 + ((i : Int) + 1) % 6)].length ([(1 + (i : Int) % 6), (1 + ((i : Int) + 1) % 6)].map (Value.int .i64)) := HO5.out
                      obtain ⟨g4, c4, rfl, hm4⟩ := mineI_of HO6 (by simp)
                      have HM4 := hide hm4
                      have q0 : w5.cell? ⟨g4, 0, none⟩ = some (.int .i64 (1 + (i : Int) % 6)) := hm4.cell (j := 0) (by simp)
                      have q1 : w5.cell? ⟨g4, 1, none⟩ = some (.int .i64 (1 + ((i : Int) + 1) % 6)) := hm4.cell (j := 1) (by simp)
                      clear hm4 HO6 HO5 HG5 OW3
                      refine wp_region_held_drew (S := (fun W' => W'.cell? ⟨g4, 0, none⟩ = some (.int .i64 (1 + (i : Int) % 6)) ∧ W'.cell? ⟨g4, 1, none⟩ = some (.int .i64 (1 + ((i : Int) + 1) % 6)))) (by kernel_rfl) ⟨q0, q1⟩ (fun hHeld => ?_)
                      refine wpAnyH_take (i := 0) (v := ?_) rfl (by kernel_rfl) (by kernel_rfl) (by kernel_rfl) (fun _ _ _ h => h) (Or.inl ⟨by rfl, ?_⟩) (by assumption) ?_
                      rotate_left
                      · intro w hSw
                        try dsimp only at hSw
                        go_simp
                        try with_reducible rfl
                      try simp only [Act.put, List.getElem_toArray, List.getElem_cons_zero, List.setIfInBounds_toArray, List.set_cons_zero, List.set_cons_succ]
                      refine wpAnyH_take (i := 1) (v := ?_) rfl (by kernel_rfl) (by kernel_rfl) (by kernel_rfl) (fun _ _ _ h => h) (Or.inl ⟨by rfl, ?_⟩) (by assumption) ?_
                      rotate_left
                      · intro w hSw
                        try dsimp only at hSw
                        go_simp
                        try with_reducible rfl
                      try simp only [Act.put, List.getElem_toArray, List.getElem_cons_succ, List.getElem_cons_zero, List.setIfInBounds_toArray, List.set_cons_zero, List.set_cons_succ]
                      refine wpAnyH_take (i := 2) (v := ?_) rfl (by kernel_rfl) (by kernel_rfl) (by kernel_rfl) (fun _ _ _ h => h) (Or.inl ⟨by rfl, ?_⟩) (by assumption) ?_
                      rotate_left
                      · intro w hSw
                        try dsimp only at hSw
                        have s1 := hSw.2
                        go_simp
                        try with_reducible rfl
                      try simp only [Act.put, List.getElem_toArray, List.getElem_cons_succ, List.getElem_cons_zero, List.setIfInBounds_toArray, List.set_cons_zero, List.set_cons_succ]
                      refine wpAnyH_take (i := 3) (v := ?_) rfl (by kernel_rfl) (by kernel_rfl) (by kernel_rfl) (fun _ _ _ h => h) (Or.inl ⟨by rfl, ?_⟩) (by assumption) ?_
                      rotate_left
                      · intro w hSw
                        try dsimp only at hSw
                        go_simp
                        try with_reducible rfl
                      try simp only [Act.put, List.getElem_toArray, List.getElem_cons_succ, List.getElem_cons_zero, List.setIfInBounds_toArray, List.set_cons_zero, List.set_cons_succ]
                      refine wpAnyH_take (i := 4) (v := ?_) rfl (by kernel_rfl) (by kernel_rfl) (by kernel_rfl) (fun _ _ _ h => h) (Or.inl ⟨by rfl, ?_⟩) (by assumption) ?_
                      rotate_left
                      · intro w hSw
                        try dsimp only at hSw
                        go_simp
                        try with_reducible rfl
                      try simp only [Act.put, List.getElem_toArray, List.getElem_cons_succ, List.getElem_cons_zero, List.setIfInBounds_toArray, List.set_cons_zero, List.set_cons_succ]
                      refine wpAnyH_take (i := 5) (v := ?_) rfl (by kernel_rfl) (by kernel_rfl) (by kernel_rfl) (fun _ _ _ h => h) (Or.inl ⟨by rfl, ?_⟩) (by assumption) ?_
                      rotate_left
                      · intro w hSw
                        try dsimp only at hSw
                        have s0 := hSw.1
                        go_simp
                        try with_reducible rfl
                      try simp only [Act.put, List.getElem_toArray, List.getElem_cons_succ, List.getElem_cons_zero, List.setIfInBounds_toArray, List.set_cons_zero, List.set_cons_succ]
                      refine wpAnyH_take (i := 6) (v := ?_) rfl (by kernel_rfl) (by kernel_rfl) (by kernel_rfl) (fun _ _ _ h => h) (Or.inl ⟨by rfl, ?_⟩) (by assumption) ?_
                      rotate_left
                      · intro w hSw
                        try dsimp only at hSw
                        go_simp
                        try with_reducible rfl
                      try simp only [Act.put, List.getElem_toArray, List.getElem_cons_succ, List.getElem_cons_zero, List.setIfInBounds_toArray, List.set_cons_zero, List.set_cons_succ]
                      refine wpAnyH_done (by kernel_rfl) ?_ _
                      obtain ⟨W5, hW5⟩ : ∃ W5, W5 = w5.drew := ⟨_, rfl⟩
                      have B5 : Hid (Below wr.heap.size wr W5) := by rw [hW5]; exact B5a.out.drew
                      have B25 : Hid (Below w2.heap.size w2 W5) := by rw [hW5]; exact B25a.out.drew
                      have HM5 : Hid (MineI W5 w2.heap.size g4 2 c4 [(1 + (i : Int) % 6), (1 + ((i : Int) + 1) % 6)]) := by rw [hW5]; exact HM4.out.drewN 1
                      rw [← hW5]
                      clear hW5 q0 q1
                      by_cases hsw : (1 + ((i : Int) + 1) % 6) < (1 + (i : Int) % 6)
                      · have HWQ : Hid (wantQ N (vs.take 60) i = [(1 + ((i : Int) + 1) % 6), (1 + (i : Int) % 6)]) := by show _ = _; unfold wantQ; rw [HHV.out, if_pos rfl, if_pos (show f2Q i < f1Q i from hsw)]; rfl
                        have q0 := HM5.out.cell (j := 0) (by omega)
                        have q1 := HM5.out.cell (j := 1) (by omega)
                        have q0 : W5.cell? ⟨g4, 0, none⟩ = some (.int .i64 (1 + (i : Int) % 6)) := q0
                        have q1 : W5.cell? ⟨g4, 1, none⟩ = some (.int .i64 (1 + ((i : Int) + 1) % 6)) := q1
                        have hlen : (wantQ N (vs.take 60) i).length = 2 := by rw [HWQ.out]; rfl
                        rw [hlen] at HSI
                        go_upto_region 36 with fail
                        refine wp_region_held_drew (S := (fun W' => W'.cell? ⟨g4, 0, none⟩ = some (.int .i64 (1 + (i : Int) % 6)) ∧ W'.cell? ⟨g4, 1, none⟩ = some (.int .i64 (1 + ((i : Int) + 1) % 6)))) (by kernel_rfl) ⟨q0, q1⟩ (fun hHeld => ?_)
                        refine wpAnyH_take (i := 0) (v := ?_) rfl (by kernel_rfl) (by kernel_rfl) (by kernel_rfl) (fun _ _ _ h => h) (Or.inl ⟨by rfl, ?_⟩) (by assumption) ?_
                        rotate_left
                        · intro w hSw
                          try dsimp only at hSw
                          go_simp
                          try with_reducible rfl
                        try simp only [Act.put, List.getElem_toArray, List.getElem_cons_zero, List.setIfInBounds_toArray, List.set_cons_zero, List.set_cons_succ]
                        refine wpAnyH_take (i := 1) (v := ?_) rfl (by kernel_rfl) (by kernel_rfl) (by kernel_rfl) (fun _ _ _ h => h) (Or.inl ⟨by rfl, ?_⟩) (by assumption) ?_
                        rotate_left
                        · intro w hSw
                          try dsimp only at hSw
                          go_simp
                          try with_reducible rfl
                        try simp only [Act.put, List.getElem_toArray, List.getElem_cons_succ, List.getElem_cons_zero, List.setIfInBounds_toArray, List.set_cons_zero, List.set_cons_succ]
                        refine wpAnyH_take (i := 2) (v := ?_) rfl (by kernel_rfl) (by kernel_rfl) (by kernel_rfl) (fun _ _ _ h => h) (Or.inl ⟨by rfl, ?_⟩) (by assumption) ?_
                        rotate_left
                        · intro w hSw
                          try dsimp only at hSw
                          have s1 := hSw.2
                          go_simp
                          try with_reducible rfl
                        try simp only [Act.put, List.getElem_toArray, List.getElem_cons_succ, List.getElem_cons_zero, List.setIfInBounds_toArray, List.set_cons_zero, List.set_cons_succ]
                        refine wpAnyH_take (i := 3) (v := ?_) rfl (by kernel_rfl) (by kernel_rfl) (by kernel_rfl) (fun _ _ _ h => h) (Or.inl ⟨by rfl, ?_⟩) (by assumption) ?_
                        rotate_left
                        · intro w hSw
                          try dsimp only at hSw
                          go_simp
                          try with_reducible rfl
                        try simp only [Act.put, List.getElem_toArray, List.getElem_cons_succ, List.getElem_cons_zero, List.setIfInBounds_toArray, List.set_cons_zero, List.set_cons_succ]
                        refine wpAnyH_take (i := 4) (v := ?_) rfl (by kernel_rfl) (by kernel_rfl) (by kernel_rfl) (fun _ _ _ h => h) (Or.inl ⟨by rfl, ?_⟩) (by assumption) ?_
                        rotate_left
                        · intro w hSw
                          try dsimp only at hSw
                          go_simp
                          try with_reducible rfl
                        try simp only [Act.put, List.getElem_toArray, List.getElem_cons_succ, List.getElem_cons_zero, List.setIfInBounds_toArray, List.set_cons_zero, List.set_cons_succ]
                        refine wpAnyH_take (i := 5) (v := ?_) rfl (by kernel_rfl) (by kernel_rfl) (by kernel_rfl) (fun _ _ _ h => h) (Or.inl ⟨by rfl, ?_⟩) (by assumption) ?_
                        rotate_left
                        · intro w hSw
                          try dsimp only at hSw
                          have s0 := hSw.1
                          go_simp
                          try with_reducible rfl
                        try simp only [Act.put, List.getElem_toArray, List.getElem_cons_succ, List.getElem_cons_zero, List.setIfInBounds_toArray, List.set_cons_zero, List.set_cons_succ]
                        refine wpAnyH_ready (rs := [6]) (by kernel_rfl) (by simp) ?_
                        refine AllReadyH.cons rfl (fun K hK => ?_) AllReadyH.nil
                        rw [if_pos (by rfl)]
                        go_wp2_with fail
                        refine hK.out _ _ ⟨Lib.cell?_alloc_some _ hHeld.1, Lib.cell?_alloc_some _ hHeld.2⟩ (fun hHeld => ?_)
                        clear hK K
                        try simp only [Act.put, List.getElem_toArray, List.getElem_cons_succ, List.getElem_cons_zero, List.setIfInBounds_toArray, List.set_cons_zero, List.set_cons_succ]
                        refine wpAnyH_take (i := 7) (v := ?_) rfl (by kernel_rfl) (by kernel_rfl) (by kernel_rfl) (fun _ _ _ h => h) (Or.inl ⟨by rfl, ?_⟩) (by assumption) ?_
                        rotate_left
                        · intro w hSw
                          try dsimp only at hSw
                          go_simp
                          try with_reducible rfl
                        try simp only [Act.put, List.getElem_toArray, List.getElem_cons_succ, List.getElem_cons_zero, List.setIfInBounds_toArray, List.set_cons_zero, List.set_cons_succ]
                        refine wpAnyH_done (by kernel_rfl) ?_ _
                        obtain ⟨W6, hW6⟩ : ∃ W6, W6 = (W5.alloc (.cells #[.int .i64 (1 + ((i : Int) + 1) % 6), .int .i64 (1 + (i : Int) % 6)] 3)).drew := ⟨_, rfl⟩
                        have HSB : Hid (SegI W6 (some ⟨W5.heap.size, 0, none⟩) 2 [(1 + ((i : Int) + 1) % 6), (1 + (i : Int) % 6)]) := by
                          rw [hW6]
                          exact (segI_lit [(1 + ((i : Int) + 1) % 6), (1 + (i : Int) % 6)] (fit_of (fun x hx => by have h1 := Int.emod_nonneg (i : Int) (b := 6) (by decide); have h2 := Int.emod_lt_of_pos (i : Int) (b := 6) (by decide); have h3 := Int.emod_nonneg ((i : Int) + 1) (b := 6) (by decide); have h4 := Int.emod_lt_of_pos ((i : Int) + 1) (b := 6) (by decide); simp at hx; omega)) (by unfold maxLen; simp only [List.length_cons, List.length_nil]; omega) rfl rfl rfl).drewN 1
                        have B6 : Hid (Below wr.heap.size wr W6) := by rw [hW6]; exact (B5.out.alloc B5.out.size _).drew
                        have HSA : Hid (SegI W6 (some ⟨g2, 0, none⟩) 2 [(1 + ((i : Int) + 1) % 6), (1 + (i : Int) % 6)]) := by
                          have h1 : SegI W5 (some ⟨g2, 0, none⟩) 2 [(1 + ((i : Int) + 1) % 6), (1 + (i : Int) % 6)] := by rw [← HWQ.out]; exact HSI.out.below B25.out (Nat.le_refl _)
                          exact h1.below (by rw [hW6]; exact ((Below.refl W5.heap.size W5).alloc (Nat.le_refl _) _).drew) (Nat.le_refl _)
                        rw [← hW6]
                        clear hW6
                        go_wp2_with fail
                        refine (sameI_any _ _ _ _ _ _ [(1 + ((i : Int) + 1) % 6), (1 + (i : Int) % 6)] [(1 + ((i : Int) + 1) % 6), (1 + (i : Int) % 6)] _ HSA.out HSB.out).mono ?_
                        rintro e w9 ⟨rfl, qd, rfl⟩
                        rw [show sameB [(1 + ((i : Int) + 1) % 6), (1 + (i : Int) % 6)] [(1 + ((i : Int) + 1) % 6), (1 + (i : Int) % 6)] = true by unfold sameB; simp]
                        have BX9 : Hid (Below wr.heap.size wr (W6.drewN qd)) := below_drewN B6.out _
                        have HR9 : Hid (∀ i p, ps[i]? = some p → (W6.drewN qd).cell? ⟨g, i, none⟩ = some (ptr p)) := fun j p' hp' => by rw [(BX9.out).cell (p := ⟨g, j, none⟩) hgl]; exact HR.out j p' hp'
                        have HC9 : Hid (Cw (W6.drewN qd) w.heap.size ps (msCw N (vs.take 60))) := HC.out.on (BX9.out)
                        have HB9 : Hid (Below w.heap.size w (W6.drewN qd)) := HB.out.trans ((BX9.out).mono HB.out.size)
                        go_wp2
                        go_roundw
                        case rel => exact ⟨i + 1, by go_num, by omega, HR9, HC9, HB9⟩
                        case measure => simp [intOf]; omega
                      · have HWQ : Hid (wantQ N (vs.take 60) i = [(1 + (i : Int) % 6), (1 + ((i : Int) + 1) % 6)]) := by show _ = _; unfold wantQ; rw [HHV.out, if_pos rfl, if_neg (show ¬ f2Q i < f1Q i from hsw)]; rfl
                        have hlen : (wantQ N (vs.take 60) i).length = 2 := by rw [HWQ.out]; rfl
                        rw [hlen] at HSI
                        have HSB : Hid (SegI W5 (some ⟨g4, 0, none⟩) 2 [(1 + (i : Int) % 6), (1 + ((i : Int) + 1) % 6)]) := HM5.out.seg (fit_of (fun x hx => by have h1 := Int.emod_nonneg (i : Int) (b := 6) (by decide); have h2 := Int.emod_lt_of_pos (i : Int) (b := 6) (by decide); have h3 := Int.emod_nonneg ((i : Int) + 1) (b := 6) (by decide); have h4 := Int.emod_lt_of_pos ((i : Int) + 1) (b := 6) (by decide); simp at hx; omega))
                        have HSA : Hid (SegI W5 (some ⟨g2, 0, none⟩) 2 [(1 + (i : Int) % 6), (1 + ((i : Int) + 1) % 6)]) := by rw [← HWQ.out]; exact HSI.out.below B25.out (Nat.le_refl _)
                        go_wp2_with fail
                        refine (sameI_any _ _ _ _ _ _ [(1 + (i : Int) % 6), (1 + ((i : Int) + 1) % 6)] [(1 + (i : Int) % 6), (1 + ((i : Int) + 1) % 6)] _ HSA.out HSB.out).mono ?_
                        rintro e w9 ⟨rfl, qd, rfl⟩
                        rw [show sameB [(1 + (i : Int) % 6), (1 + ((i : Int) + 1) % 6)] [(1 + (i : Int) % 6), (1 + ((i : Int) + 1) % 6)] = true by unfold sameB; simp]
                        have BX9 : Hid (Below wr.heap.size wr (W5.drewN qd)) := below_drewN B5.out _
                        have HR9 : Hid (∀ i p, ps[i]? = some p → (W5.drewN qd).cell? ⟨g, i, none⟩ = some (ptr p)) := fun j p' hp' => by rw [(BX9.out).cell (p := ⟨g, j, none⟩) hgl]; exact HR.out j p' hp'
                        have HC9 : Hid (Cw (W5.drewN qd) w.heap.size ps (msCw N (vs.take 60))) := HC.out.on (BX9.out)
                        have HB9 : Hid (Below w.heap.size w (W5.drewN qd)) := HB.out.trans ((BX9.out).mono HB.out.size)
                        go_wp2
                        go_roundw
                        case rel => exact ⟨i + 1, by go_num, by omega, HR9, HC9, HB9⟩
                        case measure => simp [intOf]; omega
              · have hni : i = N := by omega
                go_wp2
                go_ret
                exact ⟨rfl, HB.out⟩
  · go_wp2_with fail
    go_loopw [5, 6] (fun x i wr => ∃ q : Nat, i = .int .i64 (q : Int) ∧ q ≤ N ∧ ∃ ps : List (Nat × Nat), ps.length = q ∧ Hid (World.ownsRow wr w.heap.size 24 1 x (ps).length ((ps).map ptr)) ∧ Hid (∀ p ∈ ps, Value.ownBlock x ≠ some p.1 ∧ Value.ownBlock x ≠ some p.2) ∧ Hid (Cw wr w.heap.size ps ((List.range q).map (mCw N []))) ∧ Hid (Below w.heap.size w wr)) (fun _ i _ => N - (intOf i).toNat)
    case atStart => exact ⟨0, rfl, Nat.zero_le _, [], rfl, World.ownsRow_nil _ _ _ _, (fun p h => by cases h), cw_nil _ _, Below.refl _ _⟩
    case round =>
      obtain ⟨q, rfl, hq, ps, hpl, HO, HX, HC, HB⟩ := hrel
      by_cases hlt : q < N
      · have hww := HB.out.size
        have hf1 : (f1Q q : Int) = 1 + (q : Int) % 6 := rfl
        go_wp2_with fail
        refine (newT7_any wr).mono ?_
        rintro e w1 ⟨rfl, ht1, hb1⟩
        have HT1 := hide ht1
        have HC1 : Hid (Cw w1 w.heap.size ps ((List.range q).map (mCw N []))) := HC.out.on hb1
        have HO1 : Hid (World.ownsRow w1 w.heap.size 24 1 u5 (ps).length ((ps).map ptr)) := own_below HO.out hb1 (Nat.le_refl _)
        have HB1 : Hid (Below w.heap.size w w1) := HB.out.trans (hb1.mono hww)
        have hw1 := hb1.size
        have HOB : Hid (∀ j, Value.ownBlock u5 = some j → j < wr.heap.size) := fun j hj => (HO.out.lt j hj).2
        have HPL : Hid (∀ p ∈ ps, p.1 < wr.heap.size ∧ p.2 < wr.heap.size) := HC.out.lt
        have HW1 : Hid (wr.heap.size + 1 < w1.heap.size) := HT1.out.lt
        have hCA := addI_any HT1.out (f1Q q) (q : Int) (by have := (f_rng q).1; omega)
        have HOK : Hid (okT 7 0 ([] : List (Int × Int)) (f1Q q) = true) := by show _ = _; have := (f_rng q).1; unfold okT lkm; rw [decide_eq_true (by omega), beq_eq_false_iff_ne.2 (by omega : f1Q q ≠ 0)]; rfl
        have HAM : Hid (addM 7 0 ([] : List (Int × Int)) (f1Q q) (q : Int) = mCw N [] q) := by show _ = _; rw [(addM_yes HOK.out).2]; rfl
        rw [HOK.out, HAM.out, hf1] at hCA
        have HCA := hide hCA
        clear ht1 hb1 hCA
        go_wp2_with fail
        refine HCA.out.mono ?_
        rintro e w2 ⟨rfl, ht2, hg2⟩
        have HT2 := hide ht2
        have HC2 : Hid (Cw w2 w.heap.size ps ((List.range q).map (mCw N []))) := HC1.out.far hg2 (fun p hp => by have := HPL.out p hp; omega)
        have HO2 : Hid (World.ownsRow w2 w.heap.size 24 1 u5 (ps).length ((ps).map ptr)) := by
          show World.ownsRow _ _ _ _ _ _ _
          refine HO1.out.kept hg2 ?_
          refine .inr fun e => ?_
          have := HOB.out _ e
          omega
        have HB2 : Hid (Below w.heap.size w w2) := HB1.out.grown hg2 HB1.out.size (fun j hj => by injection hj with hj; omega)
        have hw2 := hg2.size
        have HPL2 : Hid (ps.length = q) := hpl
        have HCP : Hid (Cw w2 w.heap.size (ps ++ [(wr.heap.size + 1, wr.heap.size)]) ((List.range q).map (mCw N []) ++ [mCw N [] q])) := HC.out.push HT2.out HC2.out (by omega) (Nat.le_refl _) hww
        clear ht2 hg2 HCA HC1 HO1
        obtain ⟨X, hX⟩ : ∃ X, X = w2.alloc (.cells #[.pointer (some ⟨wr.heap.size + 1, 0, none⟩)] 24) := ⟨_, rfl⟩
        go_wp2_with (first | (at_builtin; refine wpList_append_own_at _ rfl _ _ 23 rfl w.heap.size 24 i0 (.pointer none) 1 8 Try.underlying23 hii hz0 hz1 hz2 rfl (by decide) u5 _ _ rfl (World.ownsRow.alloc HO2.out _) ⟨w2.heap.size, 0, none⟩ 1 1 [.pointer (some ⟨wr.heap.size + 1, 0, none⟩)] rfl rfl (cell_one_new w2 _ _) (by intro u hu; simp only [List.mem_singleton] at hu; subst hu; rfl) (by unfold maxLen; omega) (by omega) (by simp; omega) ?_; intro v4 w4 hown4 hgrow4 hnil4 hloc4; have HO4 := hide hown4; have HG4 := hide hgrow4; have HL4 := hide hloc4; clear hown4 hgrow4 hnil4 hloc4))
        have HP5 : Hid (Cw w4 w.heap.size (ps ++ [(wr.heap.size + 1, wr.heap.size)]) ((List.range (q + 1)).map (mCw N []))) := by
          have e : (List.range (q + 1)).map (mCw N []) = (List.range q).map (mCw N []) ++ [mCw N [] q] := by rw [List.range_succ, List.map_append]; rfl
          show Cw _ _ _ _
          rw [e]
          refine (HCP.out.on ((Below.refl _ _).alloc (Nat.le_refl _) _)).far0 HG4.out (fun p hp => ?_)
          rcases List.mem_append.1 hp with hp | hp
          · exact HX.out p hp
          · simp only [List.mem_singleton] at hp
            subst hp
            exact ⟨fun e => by have := HOB.out _ e; omega, fun e => by have := HOB.out _ e; omega⟩
        have HO5 : Hid (World.ownsRow w4 w.heap.size 24 1 v4 ((ps ++ [(wr.heap.size + 1, wr.heap.size)])).length (((ps ++ [(wr.heap.size + 1, wr.heap.size)])).map ptr)) := by
          show World.ownsRow _ _ _ _ _ _ _
          have := HO4.out
          rw [List.map_append, List.length_append]
          exact this
        have HB5 : Hid (Below w.heap.size w w4) := (HB2.out.alloc (by omega) _).grown HG4.out (by simp; omega) (fun j hj => (HO2.out.lt j hj).1)
        have HX5 : Hid (∀ p ∈ ps ++ [(wr.heap.size + 1, wr.heap.size)], Value.ownBlock v4 ≠ some p.1 ∧ Value.ownBlock v4 ≠ some p.2) := by
          have hn : ∀ p ∈ ps ++ [(wr.heap.size + 1, wr.heap.size)], (Value.ownBlock u5 ≠ some p.1 ∧ Value.ownBlock u5 ≠ some p.2) ∧ p.1 < w2.heap.size ∧ p.2 < w2.heap.size := by
            intro p hp
            rcases List.mem_append.1 hp with hp | hp
            · have h1 := HX.out p hp
              have h2 := HPL.out p hp
              exact ⟨h1, by omega, by omega⟩
            · simp only [List.mem_singleton] at hp
              subst hp
              have := HW1.out
              exact ⟨⟨fun e => by have := HOB.out _ e; omega, fun e => by have := HOB.out _ e; omega⟩, by show wr.heap.size + 1 < _; omega, by show wr.heap.size < _; omega⟩
          intro p hp
          have h1 := hn p hp
          rcases HL4.out with e | e
          · rw [e]; exact h1.1
          · rw [e]
            constructor
            · intro e2; injection e2 with e2; simp at e2; omega
            · intro e2; injection e2 with e2; simp at e2; omega
        clear hX HC2 HO2
        go_roundw
        case rel => exact ⟨q + 1, by go_num, by omega, _, by simp [HPL2.out], HO5, HX5, HP5, HB5⟩
        case measure => simp [intOf]; omega
      · obtain rfl : q = N := by omega
        obtain ⟨g, gc, rfl, hgc⟩ : ∃ g cap, u5 = .slice (some ⟨g, 0, none⟩) ps.length cap ∧ ∀ i p, ps[i]? = some p → wr.cell? ⟨g, i, none⟩ = some (ptr p) := by
          rcases HO.out.2 with ⟨_, e⟩ | ⟨g, cap, cur, e, hB, hh, h3, h4, h5, h6⟩
          · omega
          · refine ⟨g, cap, e, fun i p hi => ?_⟩
            have := World.ownsRow.cells HO.out (g := g) (by rw [e]; rfl) i (ptr p) (by rw [List.getElem?_map, hi]; rfl)
            rwa [Addr.add_mid, Nat.zero_add] at this
        have HGC := hide hgc
        have HGX : Hid (∀ p ∈ ps, g ≠ p.2) := fun p hp e => (HX.out p hp).2 (by rw [← e]; rfl)
        have HGL : Hid (g < wr.heap.size) := (HO.out.lt g rfl).2
        rw [hpl]
        have HPL := hide hpl
        have HMS : Hid (Cw wr w.heap.size ps (msCw q (vs.take 0))) := HC.out
        clear hgc HO HX HC hpl
        generalize hNq : q = N at *
        clear hNq
        have hlt2 : ¬ (N : Int) < (N : Int) := by omega
        generalize hW1 : wr = W1 at *
        clear hW1
        go_wp2
        clear hlt hlt2 hq
        go_loopw [9] (fun x wr => ∃ k : Nat, x = .int .i64 (k : Int) ∧ k ≤ P ∧ k ≤ 60 ∧ Hid (∀ i p, ps[i]? = some p → wr.cell? ⟨g, i, none⟩ = some (ptr p)) ∧ Hid (Cw wr w.heap.size ps (msCw N (vs.take k))) ∧ Hid (Below w.heap.size w wr)) (fun x _ => P - (intOf x).toNat)
        case atStart => exact ⟨0, rfl, Nat.zero_le _, Nat.zero_le _, HGC, HMS, HB⟩
        case round =>
          clear HGC HMS HB
          obtain ⟨k, rfl, hk, hk60, HR, HC, HB⟩ := hrel
          by_cases hlk : k < 60
          · have hlP : k < P := by omega
            have hl60 : k < 60 := by omega
            obtain ⟨ab, ao, rfl, hic⟩ := (HS.out.below HB.out (Nat.le_refl _)).2.2.1 (by omega)
            have cx := hic k hlP
            have hfv := (HS.out.2.2.2) k
            have hvk : vs[k]? = some (vs.getD k 0) := by rw [List.getD, List.getElem?_eq_getElem (by have := HVL.out; omega)]; rfl
            have HTK : Hid (vs.take (k + 1) = vs.take k ++ [vs.getD k 0]) := by show _ = _; rw [List.take_add_one, hvk]; rfl
            clear hic hvk
            generalize vs.getD k 0 = v at *
            have HIX := hide (ix_eq h1 v)
            have hin := HIX.out.2
            have hwr : (wrap64 (Int.tmod v (N : Int) + (N : Int))).tmod (N : Int) = (ixQ N v : Int) := ix_wrap h1 h40 v
            obtain ⟨p, hp⟩ : ∃ p, ps[ixQ N v]? = some p := ⟨_, List.getElem?_eq_getElem (by have := HPL.out; omega)⟩
            have HP := hide hp
            have cg : wr.cell? ⟨g, ixQ N v, none⟩ = some (.pointer (some ⟨p.1, 0, none⟩)) := HR.out _ p hp
            have HTI : Hid (Tli wr p.1 p.2 7 0 (mCw N (vs.take k) (ixQ N v))) := HC.out.at_ _ p _ hp (by unfold msCw; rw [List.getElem?_map, List.getElem?_range HIX.out.2]; rfl)
            have HMS2 := hide (ms_step h1 (vs.take k) v)
            have hCA := addI_any HTI.out (f2Q (ixQ N v)) (1000 + (ixQ N v : Int)) (by have := (f_rng (ixQ N v)).2; omega)
            rw [show f2Q (ixQ N v) = 1 + ((ixQ N v : Int) + 1) % 6 from rfl] at hCA
            have HCA := hide hCA
            have HGP : Hid (g ≠ p.2) := HGX.out p (List.mem_of_getElem? hp)
            have HLO : Hid (w.heap.size ≤ p.2) := (HC.out.lo p (List.mem_of_getElem? hp)).2
            clear hCA hp
            go_upto_region 18 with fail
            try rw [hwr]
            clear hwr
            generalize ixQ N v = I at *
            go_wp2_with fail
            refine HCA.out.mono ?_
            rintro e w2 ⟨rfl, ht2, hg2⟩
            have HR2 : Hid (∀ i p, ps[i]? = some p → w2.cell? ⟨g, i, none⟩ = some (ptr p)) := fun i p' hp' => hg2.cell (HR.out i p' hp') (by intro e; injection e with e; exact HGP.out e)
            have HC2 : Hid (Cw w2 w.heap.size ps (msCw N (vs.take (k + 1)))) := by
              show Cw _ _ _ _
              rw [HTK.out, HMS2.out]
              exact HC.out.turn HP.out ht2 hg2
            have HB2 : Hid (Below w.heap.size w w2) := HB.out.grown hg2 HB.out.size (fun j hj => by injection hj with hj; have := HLO.out; omega)
            clear ht2 hg2 HCA
            go_wp2
            go_roundw
            case rel => exact ⟨k + 1, by go_num, by omega, by omega, HR2, HC2, HB2⟩
            case measure => simp [intOf]; omega
          · have hlP : k < P := by omega
            have HTV : Hid (vs.take k = vs.take 60) := by show _ = _; rw [show k = 60 by omega]
            rw [HTV.out] at HC
            clear HTV
            have HC0 := HC
            have HR0 := HR
            have HB0 := HB
            clear HC HR HB
            obtain ⟨i1, hji, hj0, hj1, hj2⟩ := info_parts Try.info3
            generalize hW2 : wr = W2 at *
            clear hW2
            go_wp2
            go_loopw [11] (fun x wr => ∃ i : Nat, x = .int .i64 (i : Int) ∧ i ≤ N ∧ Hid (∀ i p, ps[i]? = some p → wr.cell? ⟨g, i, none⟩ = some (ptr p)) ∧ Hid (Cw wr w.heap.size ps (msCw N (vs.take 60))) ∧ Hid (Below w.heap.size w wr)) (fun x _ => N - (intOf x).toNat)
            case atStart => exact ⟨0, rfl, Nat.zero_le _, HR0, HC0, HB0⟩
            case round =>
              clear HR0 HC0 HB0
              obtain ⟨i, rfl, hi, HR, HC, HB⟩ := hrel
              by_cases hli : i < N
              · obtain ⟨p, hp⟩ : ∃ p, ps[i]? = some p := ⟨_, List.getElem?_eq_getElem (by have := HPL.out; omega)⟩
                have cg : wr.cell? ⟨g, i, none⟩ = some (.pointer (some ⟨p.1, 0, none⟩)) := HR.out _ p hp
                have HTI : Hid (Tli wr p.1 p.2 7 0 (mCw N (vs.take 60) i)) := HC.out.at_ _ p _ hp (by unfold msCw; rw [List.getElem?_map, List.getElem?_range hli]; rfl)
                have hG1 := getI_any HTI.out (1 + (i : Int) % 6) (by omega)
                rw [show lkm (mCw N (vs.take 60) i) (1 + (i : Int) % 6) = some (i : Int) from lkm_f1 N (vs.take 60) i] at hG1
                have hG2 := getI_any HTI.out (1 + ((i : Int) + 1) % 6) (by omega)
                rw [show lkm (mCw N (vs.take 60) i) (1 + ((i : Int) + 1) % 6) = if hitQ N (vs.take 60) i then some (1000 + (i : Int)) else none from lkm_f2 N (vs.take 60) i] at hG2
                have HG1 := hide hG1
                have HG2 := hide hG2
                have hF := fromI_any HTI.out
                rw [ids_want] at hF
                have HF := hide hF
                have HWL : Hid ((mCw N (vs.take 60) i).length = (wantQ N (vs.take 60) i).length) := by show _ = _; unfold mCw wantQ; cases hitQ N (vs.take 60) i with
                  | false => rfl
                  | true =>
                    show 2 = (if f2Q i < f1Q i then [f2Q i, f1Q i] else [f1Q i, f2Q i]).length
                    split <;> rfl
                have hii : ((i : Int) != (i : Int)) = false := by simp
                have hgl : g < wr.heap.size := cell_lt cg
                clear hG1 hG2 hF hp
                go_wp2_with fail
                refine HG1.out.mono ?_
                rintro e w1 ⟨rfl, rfl⟩
                go_upto_region 27 with fail
                clear HG1 hii
                go_loop [14, 15] (fun m x => ∃ k : Nat, x = .int .i64 (k : Int) ∧ k ≤ P ∧ k ≤ 60 ∧ m = .bool (hitQ N (vs.take k) i)) (fun _ x => P - (intOf x).toNat)
                case atStart => exact ⟨0, rfl, Nat.zero_le _, Nat.zero_le _, rfl⟩
                case round =>
                  obtain ⟨k, rfl, hk, hk60, hm⟩ := hrel
                  subst hm
                  by_cases hlk : k < 60
                  · have hlP : k < P := by omega
                    have hl60 : k < 60 := by omega
                    obtain ⟨ab, ao, rfl, hic⟩ := (HS.out.below HB.out (Nat.le_refl _)).2.2.1 (by omega)
                    have cx := hic k hlP
                    have hfv := (HS.out.2.2.2) k
                    have hvk : vs[k]? = some (vs.getD k 0) := by rw [List.getD, List.getElem?_eq_getElem (by have := HVL.out; omega)]; rfl
                    have HTK : Hid (vs.take (k + 1) = vs.take k ++ [vs.getD k 0]) := by show _ = _; rw [List.take_add_one, hvk]; rfl
                    clear hic hvk
                    generalize vs.getD k 0 = v at *
                    have hwr : (wrap64 (Int.tmod v (N : Int) + (N : Int))).tmod (N : Int) = (ixQ N v : Int) := ix_wrap h1 h40 v
                    have HHS : Hid (hitQ N (vs.take (k + 1)) i = (hitQ N (vs.take k) i || (ixQ N v == i))) := by show _ = _; rw [HTK.out, hit_snoc]
                    obtain ⟨hn, hhn⟩ : ∃ b, hitQ N (vs.take (k + 1)) i = b := ⟨_, rfl⟩
                    rw [hhn] at HHS
                    have HHN := hide hhn
                    clear hhn
                    generalize hitQ N (vs.take k) i = ho at *
                    cases ho with
                    | true =>
                      obtain rfl : hn = true := by rw [HHS.out]; rfl
                      clear hwr HHS
                      go_wp2
                      go_round
                      case rel => exact ⟨k + 1, by go_num, by omega, by omega, by rw [HHN.out]⟩
                      case measure => simp [intOf]; omega
                    | false =>
                      have hne : ((ixQ N v : Nat) : Int) = (i : Int) ↔ ixQ N v = i := by omega
                      by_cases e : ixQ N v = i
                      · have hb : (((ixQ N v : Nat) : Int) == (i : Int)) = true := beq_iff_eq.2 (hne.2 e)
                        obtain rfl : hn = true := by rw [HHS.out, e]; simp
                        clear HHS e hne
                        generalize ixQ N v = I at *
                        go_wp2
                        go_round
                        case rel => exact ⟨k + 1, by go_num, by omega, by omega, by rw [HHN.out]⟩
                        case measure => simp [intOf]; omega
                      · have hb : (((ixQ N v : Nat) : Int) == (i : Int)) = false := beq_eq_false_iff_ne.2 (fun h => e (hne.1 h))
                        obtain rfl : hn = false := by rw [HHS.out, Bool.false_or]; exact beq_eq_false_iff_ne.2 e
                        clear HHS e hne
                        generalize ixQ N v = I at *
                        go_wp2
                        go_round
                        case rel => exact ⟨k + 1, by go_num, by omega, by omega, by rw [HHN.out]⟩
                        case measure => simp [intOf]; omega
                  · have hlP : k < P := by omega
                    have HTV2 : Hid (vs.take k = vs.take 60) := by show _ = _; rw [show k = 60 by omega]
                    rw [HTV2.out]
                    obtain ⟨hv, hhv⟩ : ∃ b, hitQ N (vs.take 60) i = b := ⟨_, rfl⟩
                    have HHV := hide hhv
                    rw [hhv] at HG2 ⊢
                    clear hhv
                    cases hv with
                    | false =>
                      go_wp2_with fail
                      refine HG2.out.mono ?_
                      rintro e w1 ⟨rfl, rfl⟩
                      go_wp2_with fail
                      refine HF.out.mono ?_
                      rintro e w2 ⟨g2, c2, rfl, hm2, hb2⟩
                      have HWQ : Hid (wantQ N (vs.take 60) i = [(1 + (i : Int) % 6)]) := by show _ = _; unfold wantQ; rw [HHV.out]; rfl
                      rw [HWL.out, HWQ.out] at hm2 ⊢
                      have HSI : Hid (SegI w2 (some ⟨g2, 0, none⟩) 1 [(1 + (i : Int) % 6)]) := hm2.seg (fit_of (fun x hx => by have h1 := Int.emod_nonneg (i : Int) (b := 6) (by decide); have h2 := Int.emod_lt_of_pos (i : Int) (b := 6) (by decide); have h3 := Int.emod_nonneg ((i : Int) + 1) (b := 6) (by decide); have h4 := Int.emod_lt_of_pos ((i : Int) + 1) (b := 6) (by decide); simp at hx; omega))
                      have HB2 := hide hb2
                      clear hm2 hb2
                      obtain ⟨W5, hW5⟩ : ∃ W5, W5 = w2.alloc (.cells #[.int .i64 (1 + (i : Int) % 6)] 3) := ⟨_, rfl⟩
                      have HSB : Hid (SegI W5 (some ⟨w2.heap.size, 0, none⟩) 1 [(1 + (i : Int) % 6)]) := by
                        rw [hW5]
                        exact segI_lit [(1 + (i : Int) % 6)] (fit_of (fun x hx => by have h1 := Int.emod_nonneg (i : Int) (b := 6) (by decide); have h2 := Int.emod_lt_of_pos (i : Int) (b := 6) (by decide); have h3 := Int.emod_nonneg ((i : Int) + 1) (b := 6) (by decide); have h4 := Int.emod_lt_of_pos ((i : Int) + 1) (b := 6) (by decide); simp at hx; omega)) (by unfold maxLen; simp only [List.length_cons, List.length_nil]; omega) rfl rfl rfl
                      have B5 : Hid (Below wr.heap.size wr W5) := by rw [hW5]; exact HB2.out.alloc HB2.out.size _
                      have HSA : Hid (SegI W5 (some ⟨g2, 0, none⟩) 1 [(1 + (i : Int) % 6)]) := by rw [hW5]; exact HSI.out.below ((Below.refl _ _).alloc (Nat.le_refl _) _) (Nat.le_refl _)
                      have HW5 : Hid (w2.alloc (.cells #[.int .i64 (1 + (i : Int) % 6)] 3) = W5) := hW5.symm
                      clear hW5
                      go_wp2_with fail
                      rw [HW5.out]
                      refine (sameI_any _ _ _ _ _ _ [(1 + (i : Int) % 6)] [(1 + (i : Int) % 6)] _ HSA.out HSB.out).mono ?_
                      rintro e w9 ⟨rfl, qd, rfl⟩
                      rw [show sameB [(1 + (i : Int) % 6)] [(1 + (i : Int) % 6)] = true by unfold sameB; simp]
                      have BX9 : Hid (Below wr.heap.size wr (W5.drewN qd)) := below_drewN B5.out _
                      have HR9 : Hid (∀ i p, ps[i]? = some p → (W5.drewN qd).cell? ⟨g, i, none⟩ = some (ptr p)) := fun j p' hp' => by rw [(BX9.out).cell (p := ⟨g, j, none⟩) hgl]; exact HR.out j p' hp'
                      have HC9 : Hid (Cw (W5.drewN qd) w.heap.size ps (msCw N (vs.take 60))) := HC.out.on (BX9.out)
                      have HB9 : Hid (Below w.heap.size w (W5.drewN qd)) := HB.out.trans ((BX9.out).mono HB.out.size)
                      go_wp2
                      go_roundw
                      case rel => exact ⟨i + 1, by go_num, by omega, HR9, HC9, HB9⟩
                      case measure => simp [intOf]; omega
                    | true =>
                      go_wp2_with fail
                      refine HG2.out.mono ?_
                      rintro e w1 ⟨rfl, rfl⟩
                      go_wp2_with fail
                      refine HF.out.mono ?_
                      rintro e w2 ⟨g2, c2, rfl, hm2, hb2⟩
                      rw [HWL.out] at hm2 ⊢
                      have hl2 : (wantQ N (vs.take 60) i).length = 2 := by unfold wantQ; rw [HHV.out, if_pos rfl]; split <;> rfl
                      have HSI : Hid (SegI w2 (some ⟨g2, 0, none⟩) (wantQ N (vs.take 60) i).length (wantQ N (vs.take 60) i)) := hm2.seg (by
                        refine fit_of (fun x hx => ?_)
                        have h := f_rng i
                        have : x = f1Q i ∨ x = f2Q i := by
                          unfold wantQ at hx
                          rw [HHV.out, if_pos rfl] at hx
                          split at hx <;> simp at hx <;> omega
                        omega)
                      have HB2 := hide hb2
                      clear hm2 hb2
                      have hws := HB2.out.size
                      have OW3 : Hid ((w2.alloc (.cells #[.int .i64 (1 + (i : Int) % 6)] 3)).ownsRow w2.heap.size 3 1 (.slice (some ⟨w2.heap.size, 0, none⟩) 1 1) 1 [.int .i64 (1 + (i : Int) % 6)]) :=
                        ⟨rfl, .inr ⟨w2.heap.size, 1, #[.int .i64 (1 + (i : Int) % 6)], rfl, Nat.le_refl _, heap_alloc_new w2 _, Nat.le_refl _, by unfold maxLen; omega, rfl, rfl⟩⟩
                      have hs3 : (w2.alloc (.cells #[.int .i64 (1 + (i : Int) % 6)] 3)).heap.size = w2.heap.size + 1 := by simp
                      rw [hl2]
                      go_upto_region 35 with (first | (at_builtin; refine wpList_append_own_at _ rfl _ _ 22 rfl w2.heap.size 3 i1 (.int .i64 0) 1 8 Try.underlying22 hji hj0 hj1 hj2 rfl (by decide) (.slice (some ⟨w2.heap.size, 0, none⟩) 1 1) _ _ rfl (World.ownsRow.alloc OW3.out _) ⟨w2.heap.size + 1, 0, none⟩ 1 1 [.int .i64 (1 + ((i : Int) + 1) % 6)] rfl rfl (c1_at hs3) (by intro u hu; simp only [List.mem_singleton] at hu; subst hu; rfl) (by unfold maxLen; omega) (by omega) (by simp; omega) ?_; intro v5 w5 hown5 hgrow5 hnil5 hloc5; have HO5 := hide hown5; have HG5 := hide hgrow5; clear hown5 hgrow5 hnil5 hloc5))
                      have B25a : Hid (Below w2.heap.size w2 w5) := (((Below.refl _ w2).alloc (Nat.le_refl _) _).alloc (by simp) _).grown HG5.out (by simp; omega) (fun j hj => (OW3.out.lt j hj).1)
                      have B5a : Hid (Below wr.heap.size wr w5) := HB2.out.trans (B25a.out.mono hws)
                      have HO6 : w5.ownsRow w2.heap.size 3 1 v5 [(1 + (i : Int) % 6), (1 + ((i : Int) + 1) % 6)].length ([(1 + (i : Int) % 6), (1 + ((i : Int) + 1) % 6)].map (Value.int .i64)) := HO5.out
                      obtain ⟨g4, c4, rfl, hm4⟩ := mineI_of HO6 (by simp)
                      have HM4 := hide hm4
                      have q0 : w5.cell? ⟨g4, 0, none⟩ = some (.int .i64 (1 + (i : Int) % 6)) := hm4.cell (j := 0) (by simp)
                      have q1 : w5.cell? ⟨g4, 1, none⟩ = some (.int .i64 (1 + ((i : Int) + 1) % 6)) := hm4.cell (j := 1) (by simp)
                      clear hm4 HO6 HO5 HG5 OW3
                      refine wp_region_held_drew (S := (fun W' => W'.cell? ⟨g4, 0, none⟩ = some (.int .i64 (1 + (i : Int) % 6)) ∧ W'.cell? ⟨g4, 1, none⟩ = some (.int .i64 (1 + ((i : Int) + 1) % 6)))) (by kernel_rfl) ⟨q0, q1⟩ (fun hHeld => ?_)
                      refine wpAnyH_take (i := 0) (v := ?_) rfl (by kernel_rfl) (by kernel_rfl) (by kernel_rfl) (fun _ _ _ h => h) (Or.inl ⟨by rfl, ?_⟩) (by assumption) ?_
                      rotate_left
                      · intro w hSw
                        try dsimp only at hSw
                        go_simp
                        try with_reducible rfl
                      try simp only [Act.put, List.getElem_toArray, List.getElem_cons_zero, List.setIfInBounds_toArray, List.set_cons_zero, List.set_cons_succ]
                      refine wpAnyH_take (i := 1) (v := ?_) rfl (by kernel_rfl) (by kernel_rfl) (by kernel_rfl) (fun _ _ _ h => h) (Or.inl ⟨by rfl, ?_⟩) (by assumption) ?_
                      rotate_left
                      · intro w hSw
                        try dsimp only at hSw
                        go_simp
                        try with_reducible rfl
                      try simp only [Act.put, List.getElem_toArray, List.getElem_cons_succ, List.getElem_cons_zero, List.setIfInBounds_toArray, List.set_cons_zero, List.set_cons_succ]
                      refine wpAnyH_take (i := 2) (v := ?_) rfl (by kernel_rfl) (by kernel_rfl) (by kernel_rfl) (fun _ _ _ h => h) (Or.inl ⟨by rfl, ?_⟩) (by assumption) ?_
                      rotate_left
                      · intro w hSw
                        try dsimp only at hSw
                        have s1 := hSw.2
                        go_simp
                        try with_reducible rfl
                      try simp only [Act.put, List.getElem_toArray, List.getElem_cons_succ, List.getElem_cons_zero, List.setIfInBounds_toArray, List.set_cons_zero, List.set_cons_succ]
                      refine wpAnyH_take (i := 3) (v := ?_) rfl (by kernel_rfl) (by kernel_rfl) (by kernel_rfl) (fun _ _ _ h => h) (Or.inl ⟨by rfl, ?_⟩) (by assumption) ?_
                      rotate_left
                      · intro w hSw
                        try dsimp only at hSw
                        go_simp
                        try with_reducible rfl
                      try simp only [Act.put, List.getElem_toArray, List.getElem_cons_succ, List.getElem_cons_zero, List.setIfInBounds_toArray, List.set_cons_zero, List.set_cons_succ]
                      refine wpAnyH_take (i := 4) (v := ?_) rfl (by kernel_rfl) (by kernel_rfl) (by kernel_rfl) (fun _ _ _ h => h) (Or.inl ⟨by rfl, ?_⟩) (by assumption) ?_
                      rotate_left
                      · intro w hSw
                        try dsimp only at hSw
                        go_simp
                        try with_reducible rfl
                      try simp only [Act.put, List.getElem_toArray, List.getElem_cons_succ, List.getElem_cons_zero, List.setIfInBounds_toArray, List.set_cons_zero, List.set_cons_succ]
                      refine wpAnyH_take (i := 5) (v := ?_) rfl (by kernel_rfl) (by kernel_rfl) (by kernel_rfl) (fun _ _ _ h => h) (Or.inl ⟨by rfl, ?_⟩) (by assumption) ?_
                      rotate_left
                      · intro w hSw
                        try dsimp only at hSw
                        have s0 := hSw.1
                        go_simp
                        try with_reducible rfl
                      try simp only [Act.put, List.getElem_toArray, List.getElem_cons_succ, List.getElem_cons_zero, List.setIfInBounds_toArray, List.set_cons_zero, List.set_cons_succ]
                      refine wpAnyH_take (i := 6) (v := ?_) rfl (by kernel_rfl) (by kernel_rfl) (by kernel_rfl) (fun _ _ _ h => h) (Or.inl ⟨by rfl, ?_⟩) (by assumption) ?_
                      rotate_left
                      · intro w hSw
                        try dsimp only at hSw
                        go_simp
                        try with_reducible rfl
                      try simp only [Act.put, List.getElem_toArray, List.getElem_cons_succ, List.getElem_cons_zero, List.setIfInBounds_toArray, List.set_cons_zero, List.set_cons_succ]
                      refine wpAnyH_done (by kernel_rfl) ?_ _
                      obtain ⟨W5, hW5⟩ : ∃ W5, W5 = w5.drew := ⟨_, rfl⟩
                      have B5 : Hid (Below wr.heap.size wr W5) := by rw [hW5]; exact B5a.out.drew
                      have B25 : Hid (Below w2.heap.size w2 W5) := by rw [hW5]; exact B25a.out.drew
                      have HM5 : Hid (MineI W5 w2.heap.size g4 2 c4 [(1 + (i : Int) % 6), (1 + ((i : Int) + 1) % 6)]) := by rw [hW5]; exact HM4.out.drewN 1
                      rw [← hW5]
                      clear hW5 q0 q1
                      by_cases hsw : (1 + ((i : Int) + 1) % 6) < (1 + (i : Int) % 6)
                      · have HWQ : Hid (wantQ N (vs.take 60) i = [(1 + ((i : Int) + 1) % 6), (1 + (i : Int) % 6)]) := by show _ = _; unfold wantQ; rw [HHV.out, if_pos rfl, if_pos (show f2Q i < f1Q i from hsw)]; rfl
                        have q0 := HM5.out.cell (j := 0) (by omega)
                        have q1 := HM5.out.cell (j := 1) (by omega)
                        have q0 : W5.cell? ⟨g4, 0, none⟩ = some (.int .i64 (1 + (i : Int) % 6)) := q0
                        have q1 : W5.cell? ⟨g4, 1, none⟩ = some (.int .i64 (1 + ((i : Int) + 1) % 6)) := q1
                        have hlen : (wantQ N (vs.take 60) i).length = 2 := by rw [HWQ.out]; rfl
                        rw [hlen] at HSI
                        go_upto_region 36 with fail
                        refine wp_region_held_drew (S := (fun W' => W'.cell? ⟨g4, 0, none⟩ = some (.int .i64 (1 + (i : Int) % 6)) ∧ W'.cell? ⟨g4, 1, none⟩ = some (.int .i64 (1 + ((i : Int) + 1) % 6)))) (by kernel_rfl) ⟨q0, q1⟩ (fun hHeld => ?_)
                        refine wpAnyH_take (i := 0) (v := ?_) rfl (by kernel_rfl) (by kernel_rfl) (by kernel_rfl) (fun _ _ _ h => h) (Or.inl ⟨by rfl, ?_⟩) (by assumption) ?_
                        rotate_left
                        · intro w hSw
                          try dsimp only at hSw
                          go_simp
                          try with_reducible rfl
                        try simp only [Act.put, List.getElem_toArray, List.getElem_cons_zero, List.setIfInBounds_toArray, List.set_cons_zero, List.set_cons_succ]
                        refine wpAnyH_take (i := 1) (v := ?_) rfl (by kernel_rfl) (by kernel_rfl) (by kernel_rfl) (fun _ _ _ h => h) (Or.inl ⟨by rfl, ?_⟩) (by assumption) ?_
                        rotate_left
                        · intro w hSw
                          try dsimp only at hSw
                          go_simp
                          try with_reducible rfl
                        try simp only [Act.put, List.getElem_toArray, List.getElem_cons_succ, List.getElem_cons_zero, List.setIfInBounds_toArray, List.set_cons_zero, List.set_cons_succ]
                        refine wpAnyH_take (i := 2) (v := ?_) rfl (by kernel_rfl) (by kernel_rfl) (by kernel_rfl) (fun _ _ _ h => h) (Or.inl ⟨by rfl, ?_⟩) (by assumption) ?_
                        rotate_left
                        · intro w hSw
                          try dsimp only at hSw
                          have s1 := hSw.2
                          go_simp
                          try with_reducible rfl
                        try simp only [Act.put, List.getElem_toArray, List.getElem_cons_succ, List.getElem_cons_zero, List.setIfInBounds_toArray, List.set_cons_zero, List.set_cons_succ]
                        refine wpAnyH_take (i := 3) (v := ?_) rfl (by kernel_rfl) (by kernel_rfl) (by kernel_rfl) (fun _ _ _ h => h) (Or.inl ⟨by rfl, ?_⟩) (by assumption) ?_
                        rotate_left
                        · intro w hSw
                          try dsimp only at hSw
                          go_simp
                          try with_reducible rfl
                        try simp only [Act.put, List.getElem_toArray, List.getElem_cons_succ, List.getElem_cons_zero, List.setIfInBounds_toArray, List.set_cons_zero, List.set_cons_succ]
                        refine wpAnyH_take (i := 4) (v := ?_) rfl (by kernel_rfl) (by kernel_rfl) (by kernel_rfl) (fun _ _ _ h => h) (Or.inl ⟨by rfl, ?_⟩) (by assumption) ?_
                        rotate_left
                        · intro w hSw
                          try dsimp only at hSw
                          go_simp
                          try with_reducible rfl
                        try simp only [Act.put, List.getElem_toArray, List.getElem_cons_succ, List.getElem_cons_zero, List.setIfInBounds_toArray, List.set_cons_zero, List.set_cons_succ]
                        refine wpAnyH_take (i := 5) (v := ?_) rfl (by kernel_rfl) (by kernel_rfl) (by kernel_rfl) (fun _ _ _ h => h) (Or.inl ⟨by rfl, ?_⟩) (by assumption) ?_
                        rotate_left
                        · intro w hSw
                          try dsimp only at hSw
                          have s0 := hSw.1
                          go_simp
                          try with_reducible rfl
                        try simp only [Act.put, List.getElem_toArray, List.getElem_cons_succ, List.getElem_cons_zero, List.setIfInBounds_toArray, List.set_cons_zero, List.set_cons_succ]
                        refine wpAnyH_ready (rs := [6]) (by kernel_rfl) (by simp) ?_
                        refine AllReadyH.cons rfl (fun K hK => ?_) AllReadyH.nil
                        rw [if_pos (by rfl)]
                        go_wp2_with fail
                        refine hK.out _ _ ⟨Lib.cell?_alloc_some _ hHeld.1, Lib.cell?_alloc_some _ hHeld.2⟩ (fun hHeld => ?_)
                        clear hK K
                        try simp only [Act.put, List.getElem_toArray, List.getElem_cons_succ, List.getElem_cons_zero, List.setIfInBounds_toArray, List.set_cons_zero, List.set_cons_succ]
                        refine wpAnyH_take (i := 7) (v := ?_) rfl (by kernel_rfl) (by kernel_rfl) (by kernel_rfl) (fun _ _ _ h => h) (Or.inl ⟨by rfl, ?_⟩) (by assumption) ?_
                        rotate_left
                        · intro w hSw
                          try dsimp only at hSw
                          go_simp
                          try with_reducible rfl
                        try simp only [Act.put, List.getElem_toArray, List.getElem_cons_succ, List.getElem_cons_zero, List.setIfInBounds_toArray, List.set_cons_zero, List.set_cons_succ]
                        refine wpAnyH_done (by kernel_rfl) ?_ _
                        obtain ⟨W6, hW6⟩ : ∃ W6, W6 = (W5.alloc (.cells #[.int .i64 (1 + ((i : Int) + 1) % 6), .int .i64 (1 + (i : Int) % 6)] 3)).drew := ⟨_, rfl⟩
                        have HSB : Hid (SegI W6 (some ⟨W5.heap.size, 0, none⟩) 2 [(1 + ((i : Int) + 1) % 6), (1 + (i : Int) % 6)]) := by
                          rw [hW6]
                          exact (segI_lit [(1 + ((i : Int) + 1) % 6), (1 + (i : Int) % 6)] (fit_of (fun x hx => by have h1 := Int.emod_nonneg (i : Int) (b := 6) (by decide); have h2 := Int.emod_lt_of_pos (i : Int) (b := 6) (by decide); have h3 := Int.emod_nonneg ((i : Int) + 1) (b := 6) (by decide); have h4 := Int.emod_lt_of_pos ((i : Int) + 1) (b := 6) (by decide); simp at hx; omega)) (by unfold maxLen; simp only [List.length_cons, List.length_nil]; omega) rfl rfl rfl).drewN 1
                        have B6 : Hid (Below wr.heap.size wr W6) := by rw [hW6]; exact (B5.out.alloc B5.out.size _).drew
                        have HSA : Hid (SegI W6 (some ⟨g2, 0, none⟩) 2 [(1 + ((i : Int) + 1) % 6), (1 + (i : Int) % 6)]) := by
                          have h1 : SegI W5 (some ⟨g2, 0, none⟩) 2 [(1 + ((i : Int) + 1) % 6), (1 + (i : Int) % 6)] := by rw [← HWQ.out]; exact HSI.out.below B25.out (Nat.le_refl _)
                          exact h1.below (by rw [hW6]; exact ((Below.refl W5.heap.size W5).alloc (Nat.le_refl _) _).drew) (Nat.le_refl _)
                        rw [← hW6]
                        clear hW6
                        go_wp2_with fail
                        refine (sameI_any _ _ _ _ _ _ [(1 + ((i : Int) + 1) % 6), (1 + (i : Int) % 6)] [(1 + ((i : Int) + 1) % 6), (1 + (i : Int) % 6)] _ HSA.out HSB.out).mono ?_
                        rintro e w9 ⟨rfl, qd, rfl⟩
                        rw [show sameB [(1 + ((i : Int) + 1) % 6), (1 + (i : Int) % 6)] [(1 + ((i : Int) + 1) % 6), (1 + (i : Int) % 6)] = true by unfold sameB; simp]
                        have BX9 : Hid (Below wr.heap.size wr (W6.drewN qd)) := below_drewN B6.out _
                        have HR9 : Hid (∀ i p, ps[i]? = some p → (W6.drewN qd).cell? ⟨g, i, none⟩ = some (ptr p)) := fun j p' hp' => by rw [(BX9.out).cell (p := ⟨g, j, none⟩) hgl]; exact HR.out j p' hp'
                        have HC9 : Hid (Cw (W6.drewN qd) w.heap.size ps (msCw N (vs.take 60))) := HC.out.on (BX9.out)
                        have HB9 : Hid (Below w.heap.size w (W6.drewN qd)) := HB.out.trans ((BX9.out).mono HB.out.size)
                        go_wp2
                        go_roundw
                        case rel => exact ⟨i + 1, by go_num, by omega, HR9, HC9, HB9⟩
                        case measure => simp [intOf]; omega
                      · have HWQ : Hid (wantQ N (vs.take 60) i = [(1 + (i : Int) % 6), (1 + ((i : Int) + 1) % 6)]) := by show _ = _; unfold wantQ; rw [HHV.out, if_pos rfl, if_neg (show ¬ f2Q i < f1Q i from hsw)]; rfl
                        have hlen : (wantQ N (vs.take 60) i).length = 2 := by rw [HWQ.out]; rfl
                        rw [hlen] at HSI
                        have HSB : Hid (SegI W5 (some ⟨g4, 0, none⟩) 2 [(1 + (i : Int) % 6), (1 + ((i : Int) + 1) % 6)]) := HM5.out.seg (fit_of (fun x hx => by have h1 := Int.emod_nonneg (i : Int) (b := 6) (by decide); have h2 := Int.emod_lt_of_pos (i : Int) (b := 6) (by decide); have h3 := Int.emod_nonneg ((i : Int) + 1) (b := 6) (by decide); have h4 := Int.emod_lt_of_pos ((i : Int) + 1) (b := 6) (by decide); simp at hx; omega))
                        have HSA : Hid (SegI W5 (some ⟨g2, 0, none⟩) 2 [(1 + (i : Int) % 6), (1 + ((i : Int) + 1) % 6)]) := by rw [← HWQ.out]; exact HSI.out.below B25.out (Nat.le_refl _)
                        go_wp2_with fail
                        refine (sameI_any _ _ _ _ _ _ [(1 + (i : Int) % 6), (1 + ((i : Int) + 1) % 6)] [(1 + (i : Int) % 6), (1 + ((i : Int) + 1) % 6)] _ HSA.out HSB.out).mono ?_
                        rintro e w9 ⟨rfl, qd, rfl⟩
                        rw [show sameB [(1 + (i : Int) % 6), (1 + ((i : Int) + 1) % 6)] [(1 + (i : Int) % 6), (1 + ((i : Int) + 1) % 6)] = true by unfold sameB; simp]
                        have BX9 : Hid (Below wr.heap.size wr (W5.drewN qd)) := below_drewN B5.out _
                        have HR9 : Hid (∀ i p, ps[i]? = some p → (W5.drewN qd).cell? ⟨g, i, none⟩ = some (ptr p)) := fun j p' hp' => by rw [(BX9.out).cell (p := ⟨g, j, none⟩) hgl]; exact HR.out j p' hp'
                        have HC9 : Hid (Cw (W5.drewN qd) w.heap.size ps (msCw N (vs.take 60))) := HC.out.on (BX9.out)
                        have HB9 : Hid (Below w.heap.size w (W5.drewN qd)) := HB.out.trans ((BX9.out).mono HB.out.size)
                        go_wp2
                        go_roundw
                        case rel => exact ⟨i + 1, by go_num, by omega, HR9, HC9, HB9⟩
                        case measure => simp [intOf]; omega
              · have hni : i = N := by omega
                go_wp2
                go_ret
                exact ⟨rfl, HB.out⟩
end Go.Proofs.Ytdpphagogjdjjaa
