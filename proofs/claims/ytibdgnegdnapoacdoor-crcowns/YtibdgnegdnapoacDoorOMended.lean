/- The contract of the first part of CrcOwns: the answers of Mend are new memory each. -/
import Derived.Test.YtibdgnegdnapoacDoorRMend
import Derived.Test.YtibdgnegdnapoacDoorOFill
import Derived.Test.YtibdgnegdnapoacDoorMArgs
import Derived.Test.YtibdgnegdnapoacDoorCSame
import Derived.Deep.RegionHeld3
import Derived.Deep.QuietTactic
import Derived.BigQuiet
namespace Go.Proofs.YtibdgnegdnapoacDoor
open Go.RowKit Go.Wire1 Go.Crc2

theorem below_drewN2 {B : Nat} {a w : World} (h : Below B a w) (d : Nat) : Below B a (w.drewN d) := ⟨h.os, h.tape, h.output, h.size, h.block⟩
/-- Lists of four, with no room behind. -/
def Fours (ps : List PL) : Prop := ∀ p ∈ ps, p.n = 4 ∧ p.cap = 4

set_option maxHeartbeats 4000000 in
set_option maxRecDepth 100000 in
theorem mended_any (a : Option Addr) (n cap : Nat) (l : List (R × R)) (w : World) (hs : MSeg w a n l) (hH : Hal w) :
    Calls Tryd.prog 14 #[.slice a n cap] w fun e w' => e = .returned (.bool true) ∧ Below w.heap.size w w' := by
  obtain ⟨i0, hi, hz0, hz1, hz2⟩ := info_parts infoL
  have HH : Hid (Hal w) := hH
  have HS : Hid (MSeg w a n l) := hs
  have hn := hs.2.1
  unfold maxLen at hn
  clear hH hs
  go_enter Tryd.func14, Tryd.ntmps14
  go_wp2_with fail
  refine (known_any _ HH.out).mono ?_
  rintro e w1 ⟨rfl, hbel⟩
  have HB0 := hide hbel
  clear hbel
  go_wp2_with fail
  go_loopw [3, 5] (fun v x wr => ∃ (i : Nat) (ps : List PL), x = .int .i64 (i : Int) ∧ i ≤ n ∧ i ≤ 60 ∧ Hid (LRows wr w.heap.size v ps) ∧ Hid (ps.length = 2 * i) ∧ Hid (Apart ps) ∧ Hid (Fours ps) ∧ Hid (Below w.heap.size w wr)) (fun _ x _ => n - (intOf x).toNat)
  case atStart => exact ⟨0, [], rfl, by omega, by omega, LRows.nil _ _, rfl, (fun i j _ h => absurd h (Nat.not_lt_zero _)), (fun p hp => absurd hp List.not_mem_nil), HB0⟩
  case round =>
    clear HB0
    obtain ⟨i, ps, rfl, hi1, hi60, HL, HN, HA, HF, HW⟩ := hrel
    have hsz := HW.out.size
    obtain ⟨va, vc, rfl⟩ := HL.out.shape
    have hpl : ps.length ≤ 120 := by have := HN.out; omega
    by_cases hlt : i < n ∧ i < 60
    · obtain ⟨hl1, hl2⟩ := hlt
      obtain ⟨sb, so, rfl, hc⟩ := (HS.out.below HW.out (Nat.le_refl _)).2.2 (by omega)
      obtain ⟨c0, c1⟩ := hc i hl1
      clear hc
      obtain ⟨oc, ow, HO⟩ : ∃ oc ow, Hid (l.getD i (0#32, 0#32) = (oc, ow)) := ⟨_, _, hide rfl⟩
      rw [HO.out] at c0 c1
      simp only at c0 c1
      have d1 : decide ((i : Int) < (n : Int)) = true := by simp only [decide_eq_true_eq]; omega
      have d2 : decide ((i : Int) < 60) = true := by simp only [decide_eq_true_eq]; omega
      have i1 : (0 : Int) ≤ (i : Int) := by omega
      have i2 : (i : Int) < (n : Int) := by omega
      go_wp2_with fail
      go_region_held3 (fun w' => w'.cell? ⟨sb, so + i * 2, none⟩ = some (nr oc) ∧ w'.cell? ⟨sb, so + i * 2 + 1, none⟩ = some (nr ow)) (first | go_keep | (refine ⟨?_, ?_⟩ <;> (rw [hbel3.cell (by first | exact cell_lt c0 | exact cell_lt c1)]; assumption))) ((go_at_call 10; refine (rmend_any oc ow _).mono ?_; rintro e w3 ⟨g', rfl, hm3, hbel3⟩))
      have hb3 : Below wr.heap.size wr w3 := ((Below.refl wr.heap.size wr).drew).trans hbel3
      have HL3 := hide (HL.out.below hb3 (Nat.le_refl _))
      have HW3 := hide (HW.out.trans (hb3.mono hsz))
      have HS3 : Hid (Mine w3 w.heap.size g' 4 4 (fb (mend oc ow))) := ⟨own_base hm3.1 hsz, hm3.2.1, hm3.2.2.1, hm3.2.2.2.1, Nat.le_trans hsz hm3.2.2.2.2⟩
      clear hbel3 hb3 hm3 c0 c1 HL HW hsz
      obtain ⟨L, hL⟩ : ∃ L, Hid (fb (mend oc ow) = L) := ⟨_, hide rfl⟩
      rw [hL.out] at HS3
      obtain ⟨pn, hpn⟩ : ∃ k, Hid (ps.length = k) := ⟨_, hide rfl⟩
      rw [hpn.out] at HL3 hpl HN ⊢
      go_wp2_with fail
      go_loopw [3, 7] (fun v x wr => ∃ (k : Nat) (qs : List PL), x = .int .i64 (k : Int) ∧ k ≤ 2 ∧ Hid (LRows wr w.heap.size v qs) ∧ Hid (qs.length = 2 * i + k) ∧ Hid (Apart qs) ∧ Hid (Fours qs) ∧ Hid (Below w.heap.size w wr) ∧ Hid (Mine wr w.heap.size g' 4 4 L)) (fun _ x _ => 2 - (intOf x).toNat)
      case atStart => exact ⟨0, ps, rfl, by omega, HL3, (by show _ = _; rw [hpn.out, HN.out]; rfl), HA, HF, HW3, HS3⟩
      case round =>
        clear HL3 HW3 HS3 HA HF HN hpn
        obtain ⟨k, qs, rfl, hk, HL, HN, HA, HF, HW, HG⟩ := hrel
        have hsz := HW.out.size
        obtain ⟨qa, qc, rfl⟩ := HL.out.shape
        have hql : qs.length ≤ 130 := by have := HN.out; omega
        obtain ⟨qn, hqn⟩ : ∃ k, Hid (qs.length = k) := ⟨_, hide rfl⟩
        rw [hqn.out] at HL hql HN ⊢
        by_cases hk2 : k < 2
        · obtain ⟨sb', so', e', hc⟩ := (HS.out.below HW.out (Nat.le_refl _)).2.2 (by omega)
          injection e' with e'
          injection e' with e1 e2
          subst e1 e2
          have hcc := hc i hl1
          rw [HO.out] at hcc
          obtain ⟨c0, c1⟩ := hcc
          clear hc
          simp only at c0 c1
          go_wp2_with fail
          go_region_held3 (fun w' => w'.cell? ⟨sb, so + i * 2, none⟩ = some (nr oc) ∧ w'.cell? ⟨sb, so + i * 2 + 1, none⟩ = some (nr ow)) (first | go_keep | (refine ⟨?_, ?_⟩ <;> (apply Lib.cell?_alloc_marked; assumption))) ((go_at_call 9; refine (mend_any oc ow _).mono ?_; rintro e w4 ⟨rfl, rfl⟩))
          have HM4 : Hid (Mine ((wr.alloc (.cells (fourCells (mend oc ow)) 5)).drew) w.heap.size wr.heap.size 4 4 L) := by rw [← hL.out]; exact mine_four wr _ _ hsz
          have hb4 : Below wr.heap.size wr ((wr.alloc (.cells (fourCells (mend oc ow)) 5)).drew) := ((Below.refl _ _).alloc (Nat.le_refl _) _).drew
          have HL4 := hide (HL.out.below hb4 (Nat.le_refl _))
          have HW4 := hide (HW.out.trans (hb4.mono hsz))
          have HG4 := hide (HG.out.below hb4 (Nat.le_refl _))
          have HAP : Hid (∀ p ∈ qs, p.g ≠ wr.heap.size) := fun p hp => by have := MineP.lt (HL.out.2 p hp); omega
          clear hb4 HL HW HG c0 c1
          generalize (wr.alloc (.cells (fourCells (mend oc ow)) 5)).drew = W4 at *
          generalize wr.heap.size = gm at *
          go_wp2_with fail
          refine (same_any _ _ 4 4 4 4 L L _ HM4.out.seg HG4.out.seg).mono ?_
          rintro e w5 ⟨rfl, q, rfl⟩
          rw [same_yes rfl]
          replace HM4 := hide (HM4.out.drewN q)
          replace HL4 := hide (HL4.out.drewN q)
          replace HG4 := hide (HG4.out.drewN q)
          replace HW4 := hide (below_drewN2 HW4.out q)
          generalize W4.drewN q = W5 at *
          have hsz5 := HW4.out.size
          have HOA := hide (HL4.out.1.alloc (.cells #[.slice (some ⟨gm, 0, none⟩) 4 4] 30))
          rw [hqn.out] at HOA
          go_wp2_with (first
            | (at_builtin; refine wpList_append_own2 rfl _ _ 36 rfl w.heap.size 30 i0 (.slice none 0 0) 1 24 Tryd.underlying36 hi hz0 hz1 hz2 rfl (by decide) _ _ _ rfl HOA.out ⟨W5.heap.size, 0, none⟩ 1 1 [.slice (some ⟨gm, 0, none⟩) 4 4] rfl rfl ?c1 ?c2 (by omega) ?c3 ?c4 ?c5 ?_))
          case c1 =>
            intro j u hj
            match j, hj with
            | 0, hj => simp at hj; subst hj; simp [Addr.add]
          case c2 => intro u hu; simp at hu; subst hu; rfl
          case c3 => unfold maxLen; omega
          case c4 => omega
          case c5 => simp; omega
          intro vn wn hown' hgrow _
          have hgr : W5.grownBy wn (Value.ownBlock (.slice qa qn qc)) := ⟨hgrow.os, hgrow.tape, hgrow.output, by have := hgrow.size; simp at this; omega, fun k hk hne => by rw [hgrow.block k (by simp; omega) hne]; exact Below.heap_alloc W5 _ k hk⟩
          have HL6 : Hid (LRows wn w.heap.size vn (qs ++ [⟨gm, 4, 4, L⟩])) := by
            refine LRows.more HL4.out (p := ⟨gm, 4, 4, L⟩) HM4.out ?_ hgr
            rw [hqn.out]; exact hown'
          have HW6 : Hid (Below w.heap.size w wn) := by
            refine Below.grown HW4.out hgr hsz5 (fun k hk => ?_)
            exact (HL4.out.1.lt k hk).1
          have HG6 : Hid (Mine wn w.heap.size g' 4 4 L) := by
            have hp : MineP W5 w.heap.size ⟨g', 4, 4, L⟩ := HG4.out
            exact Mine.of_block HG4.out (hgr.block _ hp.lt (mine_apart hp HL4.out.1))
          have HA6 : Hid (Apart (qs ++ [⟨gm, 4, 4, L⟩])) := HA.out.more _ HAP.out
          have HF6 : Hid (Fours (qs ++ [⟨gm, 4, 4, L⟩])) := fun p hp => by
            rcases List.mem_append.1 hp with h | h
            · exact HF.out p h
            · simp only [List.mem_singleton] at h; subst h; exact ⟨rfl, rfl⟩
          have HN6 : Hid ((qs ++ [(⟨gm, 4, 4, L⟩ : PL)]).length = 2 * i + (k + 1)) := by show _ = _; rw [List.length_append, hqn.out, HN.out]; rfl
          clear HOA hown' hgrow hgr HL4 HW4 HG4 HM4 HA HF HAP HN hqn
          generalize qs ++ [(⟨gm, 4, 4, L⟩ : PL)] = rs at *
          go_wp2
          go_roundw
          case rel => exact ⟨k + 1, rs, by go_num, by omega, HL6, HN6, HA6, HF6, HW6, HG6⟩
          case measure => simp [intOf]; omega
        · have HN2 : Hid (qs.length = 2 * (i + 1)) := by have := HN.out; have := hqn.out; show _ = _; omega
          go_wp2
          go_roundw
          case rel => exact ⟨i + 1, qs, by go_num, by omega, by omega, (by rw [← hqn.out]; rw [← hqn.out] at HL; exact HL), HN2, HA, HF, HW⟩
          case measure => simp [intOf]; omega
    · have hex : (¬ i < n) ∨ (i < n ∧ ¬ i < 60) := by omega
      clear hlt
      obtain ⟨pn, hpn⟩ : ∃ k, Hid (ps.length = k) := ⟨_, hide rfl⟩
      have HPN := hpn
      rw [hpn.out] at HL hpl HN ⊢
      clear hpn
      rcases hex with d1 | ⟨d1, d2⟩
      · go_wp2_with fail
        go_loopw [9] (fun x wr => ∃ (j : Nat) (qs : List PL), x = .int .i64 (j : Int) ∧ j ≤ pn ∧ Hid (LRows wr w.heap.size (.slice va pn vc) qs) ∧ Hid (qs.length = pn) ∧ Hid (Apart qs) ∧ Hid (Fours qs) ∧ Hid (∀ t, t < j → (qs.getD t plZ).L = List.replicate 4 (1 + (t : Int))) ∧ Hid (Below w.heap.size w wr)) (fun x _ => pn - (intOf x).toNat)
        case atStart => exact ⟨0, ps, rfl, by omega, HL, HPN, HA, HF, (fun t ht => absurd ht (Nat.not_lt_zero _)), HW⟩
        case round =>
          clear HL HN HA HF HW hsz HPN
          obtain ⟨j, qs, rfl, hj, HL, HN, HA, HF, HM, HW⟩ := hrel
          have hsz := HW.out.size
          by_cases hjl : j < pn
          · obtain ⟨rb, rfl, cj, hmj⟩ := HL.out.at (i := j) (by rw [HN.out]; exact hjl)
            have hfj : (qs.getD j plZ).n = 4 ∧ (qs.getD j plZ).cap = 4 := by
              have : qs.getD j plZ ∈ qs := by rw [List.getD, List.getElem?_eq_getElem (by rw [HN.out]; exact hjl)]; exact List.getElem_mem _
              exact HF.out _ this
            obtain ⟨P, hP⟩ : ∃ P, Hid (qs.getD j plZ = P) := ⟨_, hide rfl⟩
            rw [hP.out] at cj hmj hfj
            obtain ⟨pg, pnn, pcap, pL⟩ := P
            simp only at hfj
            obtain ⟨rfl, rfl⟩ := hfj
            have HMJ : Hid (Mine wr w.heap.size pg 4 4 pL) := hmj
            have cj' : wr.cell? ⟨rb, j, none⟩ = some (.slice (some ⟨pg, 0, none⟩) 4 4) := cj
            clear cj hmj
            go_wp2_with fail
            refine (fill_any w.heap.size pg 4 4 pL (1 + (j : Int)) _ HMJ.out).mono ?_
            rintro e w6 ⟨vv, rfl, hm6, hg6⟩
            have HL6 : Hid (LRows w6 w.heap.size (.slice (some ⟨rb, 0, none⟩) pn vc) (qs.set j { qs.getD j plZ with L := List.replicate 4 (1 + (j : Int)) })) := by
              refine LRows.set HL.out (by rw [HN.out]; exact hjl) HA.out _ ?_ ?_
              · rw [hP.out]; exact hg6
              · rw [hP.out]; exact hm6
            have HA6 : Hid (Apart (qs.set j { qs.getD j plZ with L := List.replicate 4 (1 + (j : Int)) })) := HA.out.set j _
            have HF6 : Hid (Fours (qs.set j { qs.getD j plZ with L := List.replicate 4 (1 + (j : Int)) })) := fun p hp => by
              rcases List.mem_or_eq_of_mem_set hp with h | h
              · exact HF.out p h
              · rw [h, hP.out]; exact ⟨rfl, rfl⟩
            have HN6 : Hid ((qs.set j { qs.getD j plZ with L := List.replicate 4 (1 + (j : Int)) }).length = pn) := by show _ = _; rw [List.length_set]; exact HN.out
            have HM6 : Hid (∀ t, t < j + 1 → ((qs.set j { qs.getD j plZ with L := List.replicate 4 (1 + (j : Int)) }).getD t plZ).L = List.replicate 4 (1 + (t : Int))) := fun t ht => by
              rw [List.getD, List.getElem?_set]
              by_cases e : j = t
              · subst e; rw [if_pos rfl, if_pos (by rw [HN.out]; exact hjl)]; rfl
              · rw [if_neg e]; exact HM.out t (by omega)
            have HW6 : Hid (Below w.heap.size w w6) := by
              refine Below.grown HW.out hg6 hsz (fun k hk => ?_)
              injection hk with hk
              subst hk
              exact HMJ.out.2.2.2.2
            clear hm6 hg6 HL HA HF HN HM HW HMJ cj' hP
            generalize qs.set j { qs.getD j plZ with L := List.replicate 4 (1 + (j : Int)) } = rs at *
            go_wp2
            go_roundw
            case rel => exact ⟨j + 1, rs, by go_num, by omega, HL6, HN6, HA6, HF6, HM6, HW6⟩
            case measure => simp [intOf]; omega
          · have HMM : Hid (∀ t, t < pn → (qs.getD t plZ).L = List.replicate 4 (1 + (t : Int))) := fun t ht => HM.out t (by omega)
            clear HM HA
            go_wp2_with fail
            obtain ⟨w4, hw4⟩ : ∃ w4, Hid (wr = w4) := ⟨_, hide rfl⟩
            rw [hw4.out] at HL HW hsz ⊢
            clear hw4
            clear wr
            go_loopw [4, 10] (fun v x wr => ∃ (m : Nat) (fs : List PL), x = .int .i64 (m : Int) ∧ m ≤ pn ∧ Hid (LRows wr w4.heap.size v fs) ∧ Hid (fs.length = m) ∧ Hid (∀ t, t < m → (fs.getD t plZ).n = 100 ∧ (fs.getD t plZ).L = List.replicate 100 (1 + (t : Int))) ∧ Hid (Below w4.heap.size w4 wr)) (fun _ x _ => pn - (intOf x).toNat)
            case atStart => exact ⟨0, [], rfl, by omega, LRows.nil _ _, rfl, (fun t ht => absurd ht (Nat.not_lt_zero _)), Below.refl _ _⟩
            case round =>
              obtain ⟨m, fs, rfl, hm, HFL, HFN, HFM, HV⟩ := hrel
              have hsv := HV.out.size
              obtain ⟨fa, fc, rfl⟩ := HFL.out.shape
              have HL1 := hide (HL.out.below HV.out (Nat.le_refl _))
              by_cases hml : m < pn
              · obtain ⟨rb, rfl, cj, hmj⟩ := HL1.out.at (i := m) (by rw [HN.out]; exact hml)
                have hfj : (qs.getD m plZ).n = 4 ∧ (qs.getD m plZ).cap = 4 := by
                  have : qs.getD m plZ ∈ qs := by rw [List.getD, List.getElem?_eq_getElem (by rw [HN.out]; exact hml)]; exact List.getElem_mem _
                  exact HF.out _ this
                have hLj := HMM.out m hml
                generalize qs.getD m plZ = P at *
                obtain ⟨pg, pnn, pcap, pL⟩ := P
                simp only at hfj hLj
                obtain ⟨rfl, rfl⟩ := hfj
                subst hLj
                have HMJ : Hid (Mine wr w.heap.size pg 4 4 (List.replicate 4 (1 + (m : Int)))) := hmj
                have cj' : wr.cell? ⟨rb, m, none⟩ = some (.slice (some ⟨pg, 0, none⟩) 4 4) := cj
                clear cj hmj HL1
                obtain ⟨fn, hfn⟩ : ∃ k, Hid (fs.length = k) := ⟨_, hide rfl⟩
                rw [hfn.out] at HFL HFN ⊢
                have hfn1 : fn ≤ 120 := by have := HFN.out; omega
                go_wp2_with fail
                refine (grown_any w.heap.size pg 4 (1 + (m : Int)) _ HMJ.out (by omega)).mono ?_
                rintro e w6 ⟨gg, gc, rfl, hm6, hb6⟩
                have HM6 : Hid (Mine w6 w4.heap.size gg 100 gc (List.replicate 100 (1 + (m : Int)))) := ⟨own_base hm6.1 hsv, hm6.2.1, hm6.2.2.1, hm6.2.2.2.1, Nat.le_trans hsv hm6.2.2.2.2⟩
                have HFL6 := hide (HFL.out.below hb6 (Nat.le_refl _))
                have HV6 := hide (HV.out.trans (hb6.mono hsv))
                clear hm6 hb6 HFL HV HMJ cj'
                have hsv6 := HV6.out.size
                have HOA := hide (HFL6.out.1.alloc (.cells #[.slice (some ⟨gg, 0, none⟩) 100 gc] 30))
                rw [hfn.out] at HOA
                go_wp2_with (first
                  | (at_builtin; refine wpList_append_own2 rfl _ _ 36 rfl w4.heap.size 30 i0 (.slice none 0 0) 1 24 Tryd.underlying36 hi hz0 hz1 hz2 rfl (by decide) _ _ _ rfl HOA.out ⟨w6.heap.size, 0, none⟩ 1 1 [.slice (some ⟨gg, 0, none⟩) 100 gc] rfl rfl ?c1 ?c2 (by omega) ?c3 ?c4 ?c5 ?_))
                case c1 =>
                  intro j u hj
                  match j, hj with
                  | 0, hj => simp at hj; subst hj; simp [Addr.add]
                case c2 => intro u hu; simp at hu; subst hu; rfl
                case c3 => unfold maxLen; omega
                case c4 => omega
                case c5 => simp; omega
                intro vn wn hown' hgrow _
                have hgr : w6.grownBy wn (Value.ownBlock (.slice fa fn fc)) := ⟨hgrow.os, hgrow.tape, hgrow.output, by have := hgrow.size; simp at this; omega, fun k hk hne => by rw [hgrow.block k (by simp; omega) hne]; exact Below.heap_alloc w6 _ k hk⟩
                have HFL7 : Hid (LRows wn w4.heap.size vn (fs ++ [⟨gg, 100, gc, List.replicate 100 (1 + (m : Int))⟩])) := by
                  refine LRows.more HFL6.out (p := ⟨gg, 100, gc, List.replicate 100 (1 + (m : Int))⟩) HM6.out ?_ hgr
                  rw [hfn.out]; exact hown'
                have HV7 : Hid (Below w4.heap.size w4 wn) := by
                  refine Below.grown HV6.out hgr hsv6 (fun k hk => ?_)
                  exact (HFL6.out.1.lt k hk).1
                have HFN7 : Hid ((fs ++ [(⟨gg, 100, gc, List.replicate 100 (1 + (m : Int))⟩ : PL)]).length = m + 1) := by show _ = _; rw [List.length_append, hfn.out, HFN.out]; rfl
                have HFM7 : Hid (∀ t, t < m + 1 → ((fs ++ [(⟨gg, 100, gc, List.replicate 100 (1 + (m : Int))⟩ : PL)]).getD t plZ).n = 100 ∧ ((fs ++ [(⟨gg, 100, gc, List.replicate 100 (1 + (m : Int))⟩ : PL)]).getD t plZ).L = List.replicate 100 (1 + (t : Int))) := fun t ht => by
                  have hfl : fs.length = m := by rw [hfn.out, HFN.out]
                  by_cases e : t < m
                  · rw [List.getD, List.getElem?_append_left (by omega)]; exact HFM.out t e
                  · obtain rfl : t = m := by omega
                    rw [List.getD, List.getElem?_append_right (by omega), hfl, Nat.sub_self]; exact ⟨rfl, rfl⟩
                clear HOA hown' hgrow hgr HFL6 HV6 HM6 HFM HFN hfn
                generalize fs ++ [(⟨gg, 100, gc, List.replicate 100 (1 + (m : Int))⟩ : PL)] = hs at *
                go_wp2
                go_roundw
                case rel => exact ⟨m + 1, hs, by go_num, by omega, HFL7, HFN7, HFM7, HV7⟩
                case measure => simp [intOf]; omega
              · obtain ⟨fn, hfn⟩ : ∃ k, Hid (fs.length = k) := ⟨_, hide rfl⟩
                rw [hfn.out] at HFL HFN ⊢
                have HFN2 : Hid (fs.length = pn) := by have := HFN.out; have := hfn.out; show _ = _; omega
                have HFM2 : Hid (∀ t, t < pn → (fs.getD t plZ).n = 100 ∧ (fs.getD t plZ).L = List.replicate 100 (1 + (t : Int))) := fun t ht => HFM.out t (by omega)
                have HWW := hide (HW.out.trans (HV.out.mono hsz))
                clear HFM HFN HV HL HW
                obtain ⟨w5, hw5⟩ : ∃ w5, Hid (wr = w5) := ⟨_, hide rfl⟩
                rw [hw5.out] at HL1 HFL HWW ⊢
                clear hw5
                go_wp2_with fail
                go_loop [11] (fun x => ∃ t : Nat, x = .int .i64 (t : Int) ∧ t ≤ pn) (fun x => pn - (intOf x).toNat)
                case atStart => exact ⟨0, rfl, by omega⟩
                case round =>
                  obtain ⟨t, rfl, ht⟩ := hrel
                  by_cases htl : t < pn
                  · obtain ⟨rb, rfl, cj, hmj⟩ := HL1.out.at (i := t) (by rw [HN.out]; exact htl)
                    have htf : t < fn := by have := HFN2.out; have := hfn.out; omega
                    obtain ⟨fb, rfl, ck, hmk⟩ := HFL.out.at (i := t) (by rw [HFN2.out]; exact htl)
                    have hfj : (qs.getD t plZ).n = 4 ∧ (qs.getD t plZ).cap = 4 := by
                      have : qs.getD t plZ ∈ qs := by rw [List.getD, List.getElem?_eq_getElem (by rw [HN.out]; exact htl)]; exact List.getElem_mem _
                      exact HF.out _ this
                    have hLj := HMM.out t htl
                    have hLk := HFM2.out t htl
                    generalize qs.getD t plZ = P at *
                    generalize fs.getD t plZ = Q at *
                    obtain ⟨pg, pnn, pcap, pL⟩ := P
                    obtain ⟨qg, qn, qcap, qL⟩ := Q
                    simp only at hfj hLj hLk
                    obtain ⟨rfl, rfl⟩ := hfj
                    obtain ⟨rfl, rfl⟩ := hLk
                    subst hLj
                    have HMJ : Hid (Seg w5 (some ⟨pg, 0, none⟩) 4 (List.replicate 4 (1 + (t : Int)))) := hmj.seg
                    have HMK : Hid (Seg w5 (some ⟨qg, 0, none⟩) 100 (List.replicate 100 (1 + (t : Int)))) := hmk.seg
                    have cj' : w5.cell? ⟨rb, t, none⟩ = some (.slice (some ⟨pg, 0, none⟩) 4 4) := cj
                    have ck' : w5.cell? ⟨fb, t, none⟩ = some (.slice (some ⟨qg, 0, none⟩) 100 qcap) := ck
                    clear cj hmj ck hmk
                    go_wp2_with fail
                    refine (all_any _ 4 4 (1 + (t : Int)) _ HMJ.out).mono ?_
                    rintro e w6 ⟨rfl, rfl⟩
                    go_wp2_with fail
                    refine (all_any _ 100 qcap (1 + (t : Int)) _ HMK.out).mono ?_
                    rintro e w7 ⟨rfl, rfl⟩
                    go_wp2
                    go_round
                    case rel => exact ⟨t + 1, by go_num, by omega⟩
                    case measure => simp [intOf]; omega
                  · have HHL := hide (HH.out.later HWW.out)
                    go_wp2_with fail
                    refine (known_any _ HHL.out).mono ?_
                    rintro e w7 ⟨rfl, hbel⟩
                    have HBE := hide (HWW.out.trans (hbel.mono HWW.out.size))
                    go_wp2
                    go_ret
                    exact ⟨rfl, HBE.out⟩
      · go_wp2_with fail
        go_loopw [9] (fun x wr => ∃ (j : Nat) (qs : List PL), x = .int .i64 (j : Int) ∧ j ≤ pn ∧ Hid (LRows wr w.heap.size (.slice va pn vc) qs) ∧ Hid (qs.length = pn) ∧ Hid (Apart qs) ∧ Hid (Fours qs) ∧ Hid (∀ t, t < j → (qs.getD t plZ).L = List.replicate 4 (1 + (t : Int))) ∧ Hid (Below w.heap.size w wr)) (fun x _ => pn - (intOf x).toNat)
        case atStart => exact ⟨0, ps, rfl, by omega, HL, HPN, HA, HF, (fun t ht => absurd ht (Nat.not_lt_zero _)), HW⟩
        case round =>
          clear HL HN HA HF HW hsz HPN
          obtain ⟨j, qs, rfl, hj, HL, HN, HA, HF, HM, HW⟩ := hrel
          have hsz := HW.out.size
          by_cases hjl : j < pn
          · obtain ⟨rb, rfl, cj, hmj⟩ := HL.out.at (i := j) (by rw [HN.out]; exact hjl)
            have hfj : (qs.getD j plZ).n = 4 ∧ (qs.getD j plZ).cap = 4 := by
              have : qs.getD j plZ ∈ qs := by rw [List.getD, List.getElem?_eq_getElem (by rw [HN.out]; exact hjl)]; exact List.getElem_mem _
              exact HF.out _ this
            obtain ⟨P, hP⟩ : ∃ P, Hid (qs.getD j plZ = P) := ⟨_, hide rfl⟩
            rw [hP.out] at cj hmj hfj
            obtain ⟨pg, pnn, pcap, pL⟩ := P
            simp only at hfj
            obtain ⟨rfl, rfl⟩ := hfj
            have HMJ : Hid (Mine wr w.heap.size pg 4 4 pL) := hmj
            have cj' : wr.cell? ⟨rb, j, none⟩ = some (.slice (some ⟨pg, 0, none⟩) 4 4) := cj
            clear cj hmj
            go_wp2_with fail
            refine (fill_any w.heap.size pg 4 4 pL (1 + (j : Int)) _ HMJ.out).mono ?_
            rintro e w6 ⟨vv, rfl, hm6, hg6⟩
            have HL6 : Hid (LRows w6 w.heap.size (.slice (some ⟨rb, 0, none⟩) pn vc) (qs.set j { qs.getD j plZ with L := List.replicate 4 (1 + (j : Int)) })) := by
              refine LRows.set HL.out (by rw [HN.out]; exact hjl) HA.out _ ?_ ?_
              · rw [hP.out]; exact hg6
              · rw [hP.out]; exact hm6
            have HA6 : Hid (Apart (qs.set j { qs.getD j plZ with L := List.replicate 4 (1 + (j : Int)) })) := HA.out.set j _
            have HF6 : Hid (Fours (qs.set j { qs.getD j plZ with L := List.replicate 4 (1 + (j : Int)) })) := fun p hp => by
              rcases List.mem_or_eq_of_mem_set hp with h | h
              · exact HF.out p h
              · rw [h, hP.out]; exact ⟨rfl, rfl⟩
            have HN6 : Hid ((qs.set j { qs.getD j plZ with L := List.replicate 4 (1 + (j : Int)) }).length = pn) := by show _ = _; rw [List.length_set]; exact HN.out
            have HM6 : Hid (∀ t, t < j + 1 → ((qs.set j { qs.getD j plZ with L := List.replicate 4 (1 + (j : Int)) }).getD t plZ).L = List.replicate 4 (1 + (t : Int))) := fun t ht => by
              rw [List.getD, List.getElem?_set]
              by_cases e : j = t
              · subst e; rw [if_pos rfl, if_pos (by rw [HN.out]; exact hjl)]; rfl
              · rw [if_neg e]; exact HM.out t (by omega)
            have HW6 : Hid (Below w.heap.size w w6) := by
              refine Below.grown HW.out hg6 hsz (fun k hk => ?_)
              injection hk with hk
              subst hk
              exact HMJ.out.2.2.2.2
            clear hm6 hg6 HL HA HF HN HM HW HMJ cj' hP
            generalize qs.set j { qs.getD j plZ with L := List.replicate 4 (1 + (j : Int)) } = rs at *
            go_wp2
            go_roundw
            case rel => exact ⟨j + 1, rs, by go_num, by omega, HL6, HN6, HA6, HF6, HM6, HW6⟩
            case measure => simp [intOf]; omega
          · have HMM : Hid (∀ t, t < pn → (qs.getD t plZ).L = List.replicate 4 (1 + (t : Int))) := fun t ht => HM.out t (by omega)
            clear HM HA
            go_wp2_with fail
            obtain ⟨w4, hw4⟩ : ∃ w4, Hid (wr = w4) := ⟨_, hide rfl⟩
            rw [hw4.out] at HL HW hsz ⊢
            clear hw4
            clear wr
            go_loopw [4, 10] (fun v x wr => ∃ (m : Nat) (fs : List PL), x = .int .i64 (m : Int) ∧ m ≤ pn ∧ Hid (LRows wr w4.heap.size v fs) ∧ Hid (fs.length = m) ∧ Hid (∀ t, t < m → (fs.getD t plZ).n = 100 ∧ (fs.getD t plZ).L = List.replicate 100 (1 + (t : Int))) ∧ Hid (Below w4.heap.size w4 wr)) (fun _ x _ => pn - (intOf x).toNat)
            case atStart => exact ⟨0, [], rfl, by omega, LRows.nil _ _, rfl, (fun t ht => absurd ht (Nat.not_lt_zero _)), Below.refl _ _⟩
            case round =>
              obtain ⟨m, fs, rfl, hm, HFL, HFN, HFM, HV⟩ := hrel
              have hsv := HV.out.size
              obtain ⟨fa, fc, rfl⟩ := HFL.out.shape
              have HL1 := hide (HL.out.below HV.out (Nat.le_refl _))
              by_cases hml : m < pn
              · obtain ⟨rb, rfl, cj, hmj⟩ := HL1.out.at (i := m) (by rw [HN.out]; exact hml)
                have hfj : (qs.getD m plZ).n = 4 ∧ (qs.getD m plZ).cap = 4 := by
                  have : qs.getD m plZ ∈ qs := by rw [List.getD, List.getElem?_eq_getElem (by rw [HN.out]; exact hml)]; exact List.getElem_mem _
                  exact HF.out _ this
                have hLj := HMM.out m hml
                generalize qs.getD m plZ = P at *
                obtain ⟨pg, pnn, pcap, pL⟩ := P
                simp only at hfj hLj
                obtain ⟨rfl, rfl⟩ := hfj
                subst hLj
                have HMJ : Hid (Mine wr w.heap.size pg 4 4 (List.replicate 4 (1 + (m : Int)))) := hmj
                have cj' : wr.cell? ⟨rb, m, none⟩ = some (.slice (some ⟨pg, 0, none⟩) 4 4) := cj
                clear cj hmj HL1
                obtain ⟨fn, hfn⟩ : ∃ k, Hid (fs.length = k) := ⟨_, hide rfl⟩
                rw [hfn.out] at HFL HFN ⊢
                have hfn1 : fn ≤ 120 := by have := HFN.out; omega
                go_wp2_with fail
                refine (grown_any w.heap.size pg 4 (1 + (m : Int)) _ HMJ.out (by omega)).mono ?_
                rintro e w6 ⟨gg, gc, rfl, hm6, hb6⟩
                have HM6 : Hid (Mine w6 w4.heap.size gg 100 gc (List.replicate 100 (1 + (m : Int)))) := ⟨own_base hm6.1 hsv, hm6.2.1, hm6.2.2.1, hm6.2.2.2.1, Nat.le_trans hsv hm6.2.2.2.2⟩
                have HFL6 := hide (HFL.out.below hb6 (Nat.le_refl _))
                have HV6 := hide (HV.out.trans (hb6.mono hsv))
                clear hm6 hb6 HFL HV HMJ cj'
                have hsv6 := HV6.out.size
                have HOA := hide (HFL6.out.1.alloc (.cells #[.slice (some ⟨gg, 0, none⟩) 100 gc] 30))
                rw [hfn.out] at HOA
                go_wp2_with (first
                  | (at_builtin; refine wpList_append_own2 rfl _ _ 36 rfl w4.heap.size 30 i0 (.slice none 0 0) 1 24 Tryd.underlying36 hi hz0 hz1 hz2 rfl (by decide) _ _ _ rfl HOA.out ⟨w6.heap.size, 0, none⟩ 1 1 [.slice (some ⟨gg, 0, none⟩) 100 gc] rfl rfl ?c1 ?c2 (by omega) ?c3 ?c4 ?c5 ?_))
                case c1 =>
                  intro j u hj
                  match j, hj with
                  | 0, hj => simp at hj; subst hj; simp [Addr.add]
                case c2 => intro u hu; simp at hu; subst hu; rfl
                case c3 => unfold maxLen; omega
                case c4 => omega
                case c5 => simp; omega
                intro vn wn hown' hgrow _
                have hgr : w6.grownBy wn (Value.ownBlock (.slice fa fn fc)) := ⟨hgrow.os, hgrow.tape, hgrow.output, by have := hgrow.size; simp at this; omega, fun k hk hne => by rw [hgrow.block k (by simp; omega) hne]; exact Below.heap_alloc w6 _ k hk⟩
                have HFL7 : Hid (LRows wn w4.heap.size vn (fs ++ [⟨gg, 100, gc, List.replicate 100 (1 + (m : Int))⟩])) := by
                  refine LRows.more HFL6.out (p := ⟨gg, 100, gc, List.replicate 100 (1 + (m : Int))⟩) HM6.out ?_ hgr
                  rw [hfn.out]; exact hown'
                have HV7 : Hid (Below w4.heap.size w4 wn) := by
                  refine Below.grown HV6.out hgr hsv6 (fun k hk => ?_)
                  exact (HFL6.out.1.lt k hk).1
                have HFN7 : Hid ((fs ++ [(⟨gg, 100, gc, List.replicate 100 (1 + (m : Int))⟩ : PL)]).length = m + 1) := by show _ = _; rw [List.length_append, hfn.out, HFN.out]; rfl
                have HFM7 : Hid (∀ t, t < m + 1 → ((fs ++ [(⟨gg, 100, gc, List.replicate 100 (1 + (m : Int))⟩ : PL)]).getD t plZ).n = 100 ∧ ((fs ++ [(⟨gg, 100, gc, List.replicate 100 (1 + (m : Int))⟩ : PL)]).getD t plZ).L = List.replicate 100 (1 + (t : Int))) := fun t ht => by
                  have hfl : fs.length = m := by rw [hfn.out, HFN.out]
                  by_cases e : t < m
                  · rw [List.getD, List.getElem?_append_left (by omega)]; exact HFM.out t e
                  · obtain rfl : t = m := by omega
                    rw [List.getD, List.getElem?_append_right (by omega), hfl, Nat.sub_self]; exact ⟨rfl, rfl⟩
                clear HOA hown' hgrow hgr HFL6 HV6 HM6 HFM HFN hfn
                generalize fs ++ [(⟨gg, 100, gc, List.replicate 100 (1 + (m : Int))⟩ : PL)] = hs at *
                go_wp2
                go_roundw
                case rel => exact ⟨m + 1, hs, by go_num, by omega, HFL7, HFN7, HFM7, HV7⟩
                case measure => simp [intOf]; omega
              · obtain ⟨fn, hfn⟩ : ∃ k, Hid (fs.length = k) := ⟨_, hide rfl⟩
                rw [hfn.out] at HFL HFN ⊢
                have HFN2 : Hid (fs.length = pn) := by have := HFN.out; have := hfn.out; show _ = _; omega
                have HFM2 : Hid (∀ t, t < pn → (fs.getD t plZ).n = 100 ∧ (fs.getD t plZ).L = List.replicate 100 (1 + (t : Int))) := fun t ht => HFM.out t (by omega)
                have HWW := hide (HW.out.trans (HV.out.mono hsz))
                clear HFM HFN HV HL HW
                obtain ⟨w5, hw5⟩ : ∃ w5, Hid (wr = w5) := ⟨_, hide rfl⟩
                rw [hw5.out] at HL1 HFL HWW ⊢
                clear hw5
                go_wp2_with fail
                go_loop [11] (fun x => ∃ t : Nat, x = .int .i64 (t : Int) ∧ t ≤ pn) (fun x => pn - (intOf x).toNat)
                case atStart => exact ⟨0, rfl, by omega⟩
                case round =>
                  obtain ⟨t, rfl, ht⟩ := hrel
                  by_cases htl : t < pn
                  · obtain ⟨rb, rfl, cj, hmj⟩ := HL1.out.at (i := t) (by rw [HN.out]; exact htl)
                    have htf : t < fn := by have := HFN2.out; have := hfn.out; omega
                    obtain ⟨fb, rfl, ck, hmk⟩ := HFL.out.at (i := t) (by rw [HFN2.out]; exact htl)
                    have hfj : (qs.getD t plZ).n = 4 ∧ (qs.getD t plZ).cap = 4 := by
                      have : qs.getD t plZ ∈ qs := by rw [List.getD, List.getElem?_eq_getElem (by rw [HN.out]; exact htl)]; exact List.getElem_mem _
                      exact HF.out _ this
                    have hLj := HMM.out t htl
                    have hLk := HFM2.out t htl
                    generalize qs.getD t plZ = P at *
                    generalize fs.getD t plZ = Q at *
                    obtain ⟨pg, pnn, pcap, pL⟩ := P
                    obtain ⟨qg, qn, qcap, qL⟩ := Q
                    simp only at hfj hLj hLk
                    obtain ⟨rfl, rfl⟩ := hfj
                    obtain ⟨rfl, rfl⟩ := hLk
                    subst hLj
                    have HMJ : Hid (Seg w5 (some ⟨pg, 0, none⟩) 4 (List.replicate 4 (1 + (t : Int)))) := hmj.seg
                    have HMK : Hid (Seg w5 (some ⟨qg, 0, none⟩) 100 (List.replicate 100 (1 + (t : Int)))) := hmk.seg
                    have cj' : w5.cell? ⟨rb, t, none⟩ = some (.slice (some ⟨pg, 0, none⟩) 4 4) := cj
                    have ck' : w5.cell? ⟨fb, t, none⟩ = some (.slice (some ⟨qg, 0, none⟩) 100 qcap) := ck
                    clear cj hmj ck hmk
                    go_wp2_with fail
                    refine (all_any _ 4 4 (1 + (t : Int)) _ HMJ.out).mono ?_
                    rintro e w6 ⟨rfl, rfl⟩
                    go_wp2_with fail
                    refine (all_any _ 100 qcap (1 + (t : Int)) _ HMK.out).mono ?_
                    rintro e w7 ⟨rfl, rfl⟩
                    go_wp2
                    go_round
                    case rel => exact ⟨t + 1, by go_num, by omega⟩
                    case measure => simp [intOf]; omega
                  · have HHL := hide (HH.out.later HWW.out)
                    go_wp2_with fail
                    refine (known_any _ HHL.out).mono ?_
                    rintro e w7 ⟨rfl, hbel⟩
                    have HBE := hide (HWW.out.trans (hbel.mono HWW.out.size))
                    go_wp2
                    go_ret
                    exact ⟨rfl, HBE.out⟩
end Go.Proofs.YtibdgnegdnapoacDoor
