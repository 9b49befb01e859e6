/- Proved: for every list of bytes and every cuts, CrcCuts answers true: however some bytes are cut, going on from piece to piece gives the sum of the whole, and so does joining the pieces' sums. The table of sixteen is as the program's text lays it. -/
import Derived.Test.YtibdgnegdnapoabDoorCJoin2
import Derived.Test.YtibdgnegdnapoabDoorInts2
import Derived.Test.YtibdgnegdnapoabDoorCLaid
import Derived.Test.YtibdgnegdnapoabDoorArgs
import Derived.Test.YtibdgnegdnapoabDoorCards
import Derived.Test.YtibdgnegdnapoabDoorTie
import Derived.WalkSmall
import Derived.WalkSpells
import Derived.Deep.QuietTactic
import Derived.BigQuiet
import Derived.Deep.DeepHandedRow
import Derived.Deep.DeepWitnessRowRef
namespace Go.Proofs.YtibdgnegdnapoabDoor
namespace crcCuts
open Go.ChangeShapes Go.WideShapes Go.ChangeAt Go.RowKit Go.Wire1 Go.Crc2

theorem cut_take (l : List Int) (p q : Nat) : l.take (p + q) = l.take p ++ (l.drop p).take q := by rw [List.take_add]
theorem on_eq (l : List Int) (p q : Nat) : upd (upd 0#32 (l.take p)) ((l.drop p).take q) = upd 0#32 (l.take (p + q)) := by rw [cut_take, upd_append]
theorem upd0 : nr (upd 0#32 []) = .int .u32 0 := by
  have : upd 0#32 [] = 0#32 := by decide +kernel
  rw [this]; rfl
theorem joined_eq (l : List Int) (p q : Nat) (h : p + q ≤ l.length) : J.join (upd 0#32 (l.take p)) (upd 0#32 ((l.drop p).take q)) (q : Int) = upd 0#32 (l.take (p + q)) := by
  rw [J.join, if_pos (by omega), Int.toNat_natCast, ← on_eq]
  have e : ((l.drop p).take q).length = q := by rw [List.length_take, List.length_drop]; omega
  have := join_eq ((l.drop p).take q) (upd 0#32 (l.take p))
  rw [e] at this
  exact this

set_option maxHeartbeats 2000000 in
set_option maxRecDepth 100000 in
theorem walk (a : Option Addr) (n cap : Nat) (l : List Int) (ca : Option Addr) (cn ccap : Nat) (cl : List Int) (w : World) (hs : Seg w a n l) (hy : Byt l) (hcap : n ≤ cap) (hreach : cap ≤ 140737488351232) (hc : SegI w ca cn cl) (hcn : cn ≤ 140737488351232) (hH : Hal w) :
    Calls Tryd.prog 4 #[.slice a n cap, .slice ca cn ccap] w fun e w' => e = .returned (.bool true) ∧ Below w.heap.size w w' := by
  have HH : Hid (Hal w) := hH
  have HS : Hid (Seg w a n l) := hs
  have HC : Hid (SegI w ca cn cl) := hc
  have HY : Hid (Byt l) := hy
  have HL : Hid (l.length = n) := hs.1
  clear hH hs hy hc
  obtain ⟨x, hx⟩ : ∃ x, Hid (upd 0#32 l = x) := ⟨_, hide rfl⟩
  go_enter Tryd.func4, Tryd.ntmps4
  go_wp2_with fail
  refine (known_any _ HH.out).mono ?_
  rintro e w1 ⟨rfl, hbel⟩
  have HB := hide hbel
  have HS1 := hide (HS.out.below hbel (Nat.le_refl _))
  have HC1 := hide (HC.out.later hbel)
  have HH1 := hide (HH.out.later hbel)
  clear hbel
  go_wp2_with fail
  refine (sum_any a n cap l _ HS1.out HY.out HH1.out).mono ?_
  rintro e w1 ⟨rfl, rfl⟩
  rw [hx.out]
  go_wp2_with fail
  go_loopw [6, 7, 8, 9] (fun o j t i wr => ∃ k p d : Nat, i = .int .i64 (k : Int) ∧ t = .int .i64 (p : Int) ∧ k ≤ cn + 1 ∧ p ≤ n ∧ (cn < k → p = n) ∧ o = nr (upd 0#32 (l.take p)) ∧ j = nr (upd 0#32 (l.take p)) ∧ wr = w1.drewN d) (fun _ _ _ i _ => cn + 1 - (intOf i).toNat)
  case atStart => exact ⟨0, 0, 0, rfl, rfl, by omega, by omega, by omega, by rw [List.take_zero, upd0], by rw [List.take_zero, upd0], rfl⟩
  case round =>
    obtain ⟨k, p, d, rfl, rfl, hk, hp, hend, rfl, rfl, rfl⟩ := hrel
    by_cases hlt : k ≤ cn
    · obtain ⟨W, hW⟩ : ∃ W, Hid (w1.drewN d = W) := ⟨_, hide rfl⟩
      have HSW : Hid (Seg W a n l) := by rw [← hW.out]; exact HS1.out.drewN d
      have HHW : Hid (Hal W) := by rw [← hW.out]; exact HH1.out.drewN d
      rw [hW.out]
      clear hend
      obtain ⟨u, hu⟩ : ∃ u, Hid (upd 0#32 (l.take p) = u) := ⟨_, hide rfl⟩
      rw [hu.out]
      have hopen : k < cn → ∃ cb co, ca = some ⟨cb, co, none⟩ ∧ W.cell? ⟨cb, co + k, none⟩ = some (.int .i64 (cl.getD k 0)) := fun h => by
        obtain ⟨cb, co, e, hcc⟩ := HC1.out.2.2.1 (by omega)
        exact ⟨cb, co, e, by rw [← hW.out]; exact hcc k h⟩
      by_cases hcp : cap = p
      · have hnp : n = p := by omega
        subst hnp
        subst hcp
        clear hp hcap
        rcases Nat.lt_or_ge k cn with hkc | hkc
        · obtain ⟨cb, co, rfl, cz⟩ := hopen hkc
          have hz := HC1.out.2.2.2 k
          clear hopen
          generalize cl.getD k 0 = z at *
          have g1 : decide ((k : Int) < (cn : Int)) = true := by simp only [decide_eq_true_eq]; omega
          by_cases hz0 : z < 0
          · have d3 : decide (z < 0) = true := by simp only [decide_eq_true_eq]; omega
            have HSEG : ∀ a', Hid (Seg W a' 0 ((l.drop cap).take 0)) := fun a' => hide ⟨by rw [List.take_zero]; rfl, by unfold maxLen; omega, fun h => by omega⟩
            have HBY : Hid (Byt ((l.drop cap).take 0)) := byt_take (byt_drop HY.out _) _
            have HON : Hid (upd u ((l.drop cap).take 0) = upd 0#32 (l.take (cap + 0))) := by show _ = _; rw [← hu.out]; exact on_eq l cap 0
            obtain ⟨s2, hs2⟩ : ∃ s2, Hid (upd 0#32 ((l.drop cap).take 0) = s2) := ⟨_, hide rfl⟩
            have HJ : Hid (J.join u s2 ((0 : Nat) : Int) = upd 0#32 (l.take (cap + 0))) := by show _ = _; rw [← hu.out, ← hs2.out]; exact joined_eq l cap 0 (by rw [HL.out]; omega)
            obtain ⟨u2, hu2⟩ : ∃ u2, Hid (upd 0#32 (l.take (cap + 0)) = u2) := ⟨_, hide rfl⟩
            rw [hu2.out] at HON HJ
            generalize (l.drop cap).take 0 = pc at *
            go_wp2_with fail
            refine (update_any u _ 0 _ pc _ (HSEG _).out HBY.out HHW.out).mono ?_
            rintro e W ⟨rfl, rfl⟩
            rw [HON.out]
            go_wp2_with fail
            refine (sum_any _ 0 _ pc _ (HSEG _).out HBY.out HHW.out).mono ?_
            rintro e W ⟨rfl, rfl⟩
            rw [hs2.out]
            go_wp2_with fail
            refine (J.join_any u s2 ((0 : Nat) : Int) _ (by omega) (by omega) HHW.out).mono ?_
            rintro e W ⟨rfl, rfl⟩
            rw [HJ.out]
            go_wp2
            go_roundw
            case rel => exact ⟨k + 1, cap + 0, _, by go_num, by go_num, by omega, by omega, (fun _ => rfl), by rw [hu2.out], by rw [hu2.out], hW.out.symm⟩
            case measure => first | (simp [intOf]; done) | (simp [intOf]; omega)
          · have d3 : decide (z < 0) = false := by simp only [decide_eq_false_iff_not]; omega
            have HSEG : ∀ a', Hid (Seg W a' 0 ((l.drop cap).take 0)) := fun a' => hide ⟨by rw [List.take_zero]; rfl, by unfold maxLen; omega, fun h => by omega⟩
            have HBY : Hid (Byt ((l.drop cap).take 0)) := byt_take (byt_drop HY.out _) _
            have HON : Hid (upd u ((l.drop cap).take 0) = upd 0#32 (l.take (cap + 0))) := by show _ = _; rw [← hu.out]; exact on_eq l cap 0
            obtain ⟨s2, hs2⟩ : ∃ s2, Hid (upd 0#32 ((l.drop cap).take 0) = s2) := ⟨_, hide rfl⟩
            have HJ : Hid (J.join u s2 ((0 : Nat) : Int) = upd 0#32 (l.take (cap + 0))) := by show _ = _; rw [← hu.out, ← hs2.out]; exact joined_eq l cap 0 (by rw [HL.out]; omega)
            obtain ⟨u2, hu2⟩ : ∃ u2, Hid (upd 0#32 (l.take (cap + 0)) = u2) := ⟨_, hide rfl⟩
            rw [hu2.out] at HON HJ
            generalize (l.drop cap).take 0 = pc at *
            go_wp2_with fail
            refine (update_any u _ 0 _ pc _ (HSEG _).out HBY.out HHW.out).mono ?_
            rintro e W ⟨rfl, rfl⟩
            rw [HON.out]
            go_wp2_with fail
            refine (sum_any _ 0 _ pc _ (HSEG _).out HBY.out HHW.out).mono ?_
            rintro e W ⟨rfl, rfl⟩
            rw [hs2.out]
            go_wp2_with fail
            refine (J.join_any u s2 ((0 : Nat) : Int) _ (by omega) (by omega) HHW.out).mono ?_
            rintro e W ⟨rfl, rfl⟩
            rw [HJ.out]
            go_wp2
            go_roundw
            case rel => exact ⟨k + 1, cap + 0, _, by go_num, by go_num, by omega, by omega, (fun _ => rfl), by rw [hu2.out], by rw [hu2.out], hW.out.symm⟩
            case measure => first | (simp [intOf]; done) | (simp [intOf]; omega)
        · obtain rfl : k = cn := by omega
          clear hopen
          have HSEG : ∀ a', Hid (Seg W a' 0 ((l.drop cap).take 0)) := fun a' => hide ⟨by rw [List.take_zero]; rfl, by unfold maxLen; omega, fun h => by omega⟩
          have HBY : Hid (Byt ((l.drop cap).take 0)) := byt_take (byt_drop HY.out _) _
          have HON : Hid (upd u ((l.drop cap).take 0) = upd 0#32 (l.take (cap + 0))) := by show _ = _; rw [← hu.out]; exact on_eq l cap 0
          obtain ⟨s2, hs2⟩ : ∃ s2, Hid (upd 0#32 ((l.drop cap).take 0) = s2) := ⟨_, hide rfl⟩
          have HJ : Hid (J.join u s2 ((0 : Nat) : Int) = upd 0#32 (l.take (cap + 0))) := by show _ = _; rw [← hu.out, ← hs2.out]; exact joined_eq l cap 0 (by rw [HL.out]; omega)
          obtain ⟨u2, hu2⟩ : ∃ u2, Hid (upd 0#32 (l.take (cap + 0)) = u2) := ⟨_, hide rfl⟩
          rw [hu2.out] at HON HJ
          generalize (l.drop cap).take 0 = pc at *
          go_wp2_with fail
          refine (update_any u _ 0 _ pc _ (HSEG _).out HBY.out HHW.out).mono ?_
          rintro e W ⟨rfl, rfl⟩
          rw [HON.out]
          go_wp2_with fail
          refine (sum_any _ 0 _ pc _ (HSEG _).out HBY.out HHW.out).mono ?_
          rintro e W ⟨rfl, rfl⟩
          rw [hs2.out]
          go_wp2_with fail
          refine (J.join_any u s2 ((0 : Nat) : Int) _ (by omega) (by omega) HHW.out).mono ?_
          rintro e W ⟨rfl, rfl⟩
          rw [HJ.out]
          go_wp2
          go_roundw
          case rel => exact ⟨k + 1, cap + 0, _, by go_num, by go_num, by omega, by omega, (fun _ => rfl), by rw [hu2.out], by rw [hu2.out], hW.out.symm⟩
          case measure => first | (simp [intOf]; done) | (simp [intOf]; omega)
      rcases Nat.lt_or_ge k cn with hkc | hkc
      · obtain ⟨cb, co, rfl, cz⟩ := hopen hkc
        have hz := HC1.out.2.2.2 k
        clear hopen
        generalize cl.getD k 0 = z at *
        have g1 : decide ((k : Int) < (cn : Int)) = true := by simp only [decide_eq_true_eq]; omega
        by_cases hz1 : z < (n : Int) - (p : Int)
        · have d3 : decide (z < (n : Int) - (p : Int)) = true := by simp only [decide_eq_true_eq]; omega
          by_cases hz0 : z < 0
          · have d2 : decide (z < 0) = true := by simp only [decide_eq_true_eq]; omega
            have HSEG : ∀ a', Hid (Seg W a' 0 ((l.drop p).take 0)) := fun a' => hide ⟨by rw [List.take_zero]; rfl, by unfold maxLen; omega, fun h => by omega⟩
            have HBY : Hid (Byt ((l.drop p).take 0)) := byt_take (byt_drop HY.out _) _
            have HON : Hid (upd u ((l.drop p).take 0) = upd 0#32 (l.take (p + 0))) := by show _ = _; rw [← hu.out]; exact on_eq l p 0
            obtain ⟨s2, hs2⟩ : ∃ s2, Hid (upd 0#32 ((l.drop p).take 0) = s2) := ⟨_, hide rfl⟩
            have HJ : Hid (J.join u s2 ((0 : Nat) : Int) = upd 0#32 (l.take (p + 0))) := by show _ = _; rw [← hu.out, ← hs2.out]; exact joined_eq l p 0 (by rw [HL.out]; omega)
            obtain ⟨u2, hu2⟩ : ∃ u2, Hid (upd 0#32 (l.take (p + 0)) = u2) := ⟨_, hide rfl⟩
            rw [hu2.out] at HON HJ
            generalize (l.drop p).take 0 = pc at *
            go_wp2_with fail
            refine (update_any u _ 0 _ pc _ (HSEG _).out HBY.out HHW.out).mono ?_
            rintro e W ⟨rfl, rfl⟩
            rw [HON.out]
            go_wp2_with fail
            refine (sum_any _ 0 _ pc _ (HSEG _).out HBY.out HHW.out).mono ?_
            rintro e W ⟨rfl, rfl⟩
            rw [hs2.out]
            go_wp2_with fail
            refine (J.join_any u s2 ((0 : Nat) : Int) _ (by omega) (by omega) HHW.out).mono ?_
            rintro e W ⟨rfl, rfl⟩
            rw [HJ.out]
            go_wp2
            go_roundw
            case rel => exact ⟨k + 1, p + 0, _, by go_num, by go_num, by omega, by omega, (fun h => by omega), by rw [hu2.out], by rw [hu2.out], hW.out.symm⟩
            case measure => first | (simp [intOf]; done) | (simp [intOf]; omega)
          · obtain ⟨q, rfl⟩ := Int.eq_ofNat_of_zero_le (show 0 ≤ z by omega)
            have d2 : decide ((q : Int) < 0) = false := by simp only [decide_eq_false_iff_not]; omega
            have hpq : p + q ≤ n := by omega
            have HSEG : Hid (Seg W (Option.map (fun x => x.add p) a) q ((l.drop p).take q)) := HSW.out.cut (by omega) (fun _ b off e => by rw [e]; simp [Addr.add])
            have HBY : Hid (Byt ((l.drop p).take q)) := byt_take (byt_drop HY.out _) _
            have HON : Hid (upd u ((l.drop p).take q) = upd 0#32 (l.take (p + q))) := by show _ = _; rw [← hu.out]; exact on_eq l p q
            obtain ⟨s2, hs2⟩ : ∃ s2, Hid (upd 0#32 ((l.drop p).take q) = s2) := ⟨_, hide rfl⟩
            have HJ : Hid (J.join u s2 ((q : Nat) : Int) = upd 0#32 (l.take (p + q))) := by show _ = _; rw [← hu.out, ← hs2.out]; exact joined_eq l p q (by rw [HL.out]; omega)
            obtain ⟨u2, hu2⟩ : ∃ u2, Hid (upd 0#32 (l.take (p + q)) = u2) := ⟨_, hide rfl⟩
            rw [hu2.out] at HON HJ
            generalize (l.drop p).take q = pc at *
            go_wp2_with fail
            refine (update_any u _ q _ pc _ HSEG.out HBY.out HHW.out).mono ?_
            rintro e W ⟨rfl, rfl⟩
            rw [HON.out]
            go_wp2_with fail
            refine (sum_any _ q _ pc _ HSEG.out HBY.out HHW.out).mono ?_
            rintro e W ⟨rfl, rfl⟩
            rw [hs2.out]
            go_wp2_with fail
            refine (J.join_any u s2 ((q : Nat) : Int) _ (by omega) (by omega) HHW.out).mono ?_
            rintro e W ⟨rfl, rfl⟩
            rw [HJ.out]
            go_wp2
            go_roundw
            case rel => exact ⟨k + 1, p + q, _, by go_num, by go_num, by omega, by omega, (fun h => by omega), by rw [hu2.out], by rw [hu2.out], hW.out.symm⟩
            case measure => first | (simp [intOf]; done) | (simp [intOf]; omega)
        · obtain ⟨q, rfl⟩ : ∃ q, n = p + q := ⟨n - p, by omega⟩
          have eq : (p : Int) + (q : Int) - (p : Int) = (q : Int) := by omega
          have d3 : decide (z < (q : Int)) = false := by simp only [decide_eq_false_iff_not]; omega
          clear hz1
          have d2 : decide ((q : Int) < 0) = false := by simp only [decide_eq_false_iff_not]; omega
          have HSEG : Hid (Seg W (Option.map (fun x => x.add p) a) q ((l.drop p).take q)) := HSW.out.cut (by omega) (fun _ b off e => by rw [e]; simp [Addr.add])
          have HBY : Hid (Byt ((l.drop p).take q)) := byt_take (byt_drop HY.out _) _
          have HON : Hid (upd u ((l.drop p).take q) = upd 0#32 (l.take (p + q))) := by show _ = _; rw [← hu.out]; exact on_eq l p q
          obtain ⟨s2, hs2⟩ : ∃ s2, Hid (upd 0#32 ((l.drop p).take q) = s2) := ⟨_, hide rfl⟩
          have HJ : Hid (J.join u s2 ((q : Nat) : Int) = upd 0#32 (l.take (p + q))) := by show _ = _; rw [← hu.out, ← hs2.out]; exact joined_eq l p q (by rw [HL.out]; omega)
          obtain ⟨u2, hu2⟩ : ∃ u2, Hid (upd 0#32 (l.take (p + q)) = u2) := ⟨_, hide rfl⟩
          rw [hu2.out] at HON HJ
          generalize (l.drop p).take q = pc at *
          go_wp2_with fail
          refine (update_any u _ q _ pc _ HSEG.out HBY.out HHW.out).mono ?_
          rintro e W ⟨rfl, rfl⟩
          rw [HON.out]
          go_wp2_with fail
          refine (sum_any _ q _ pc _ HSEG.out HBY.out HHW.out).mono ?_
          rintro e W ⟨rfl, rfl⟩
          rw [hs2.out]
          go_wp2_with fail
          refine (J.join_any u s2 ((q : Nat) : Int) _ (by omega) (by omega) HHW.out).mono ?_
          rintro e W ⟨rfl, rfl⟩
          rw [HJ.out]
          go_wp2
          go_roundw
          case rel => exact ⟨k + 1, p + q, _, by go_num, by go_num, by omega, by omega, (fun h => rfl), by rw [hu2.out], by rw [hu2.out], hW.out.symm⟩
          case measure => first | (simp [intOf]; done) | (simp [intOf]; omega)
      · obtain rfl : k = cn := by omega
        have d1 : decide ((k : Int) < (k : Int)) = false := by simp
        obtain ⟨q, rfl⟩ : ∃ q, n = p + q := ⟨n - p, by omega⟩
        have eq : (p : Int) + (q : Int) - (p : Int) = (q : Int) := by omega
        have d2 : decide ((q : Int) < 0) = false := by simp only [decide_eq_false_iff_not]; omega
        have HSEG : Hid (Seg W (Option.map (fun x => x.add p) a) q ((l.drop p).take q)) := HSW.out.cut (by omega) (fun _ b off e => by rw [e]; simp [Addr.add])
        have HBY : Hid (Byt ((l.drop p).take q)) := byt_take (byt_drop HY.out _) _
        have HON : Hid (upd u ((l.drop p).take q) = upd 0#32 (l.take (p + q))) := by show _ = _; rw [← hu.out]; exact on_eq l p q
        obtain ⟨s2, hs2⟩ : ∃ s2, Hid (upd 0#32 ((l.drop p).take q) = s2) := ⟨_, hide rfl⟩
        have HJ : Hid (J.join u s2 ((q : Nat) : Int) = upd 0#32 (l.take (p + q))) := by show _ = _; rw [← hu.out, ← hs2.out]; exact joined_eq l p q (by rw [HL.out]; omega)
        obtain ⟨u2, hu2⟩ : ∃ u2, Hid (upd 0#32 (l.take (p + q)) = u2) := ⟨_, hide rfl⟩
        rw [hu2.out] at HON HJ
        generalize (l.drop p).take q = pc at *
        go_wp2_with fail
        refine (update_any u _ q _ pc _ HSEG.out HBY.out HHW.out).mono ?_
        rintro e W ⟨rfl, rfl⟩
        rw [HON.out]
        go_wp2_with fail
        refine (sum_any _ q _ pc _ HSEG.out HBY.out HHW.out).mono ?_
        rintro e W ⟨rfl, rfl⟩
        rw [hs2.out]
        go_wp2_with fail
        refine (J.join_any u s2 ((q : Nat) : Int) _ (by omega) (by omega) HHW.out).mono ?_
        rintro e W ⟨rfl, rfl⟩
        rw [HJ.out]
        go_wp2
        go_roundw
        case rel => exact ⟨k + 1, p + q, _, by go_num, by go_num, by omega, by omega, (fun _ => rfl), by rw [hu2.out], by rw [hu2.out], hW.out.symm⟩
        case measure => first | (simp [intOf]; done) | (simp [intOf]; omega)
    · obtain rfl : k = cn + 1 := by omega
      obtain rfl : p = n := hend (by omega)
      have HT : Hid (upd 0#32 (l.take p) = x) := by show _ = _; rw [List.take_of_length_le (by rw [HL.out]; omega)]; exact hx.out
      have d1 : decide (((cn + 1 : Nat) : Int) ≤ (cn : Int)) = false := by simp only [decide_eq_false_iff_not]; omega
      have HBD := hide (below_drewN HB.out d)
      rw [HT.out]
      go_wp2
      go_ret
      exact ⟨rfl, HBD.out⟩

set_option maxRecDepth 100000 in
/-- For every argument and every world that holds the sentinels. -/
theorem contract (H : Type) (enc : TypeId × Value → H) (W : World) (base : Nat) (args : Array Value) (ds gs : List (DataW H)) (before : List MemPlace)
    (hval : ∀ (j : Nat) t v, Tryd.f4.params[j]? = some t → args[j]? = some v → Value.okWide Tryd.prog W .any base t v)
    (hW : DataW.Whole enc Tryd.prog Tryd.f4.params.toList Rows.crcCutsSpec.vars false W args.toList ds gs before)
    (hsz : (DataW.weightsEach Tryd.prog (Tryd.f4.params.toList ++ (OpenSpec.ofChange Rows.crcCutsSpec).bare.plain.varTypes Tryd.prog) (ds ++ gs)).all (· ≤ reachBytes) = true)
    (hL : laidMetH Tryd.prog Rows.crcCutsRow.laid W) :
    Calls Tryd.prog 4 args W fun e W' => ∃ v, e = .returned v ∧ Rows.crcCutsSpec.post enc Tryd.prog Tryd.f4 false true false false W args v W' := by
  have hW' := hW
  obtain ⟨p, q, hA0, hV, rfl, hfz, hnd⟩ := hW
  have hA : DataW.TrodAll enc Tryd.prog W 0 (fun _ => true) true Tryd.f4.params.toList args.toList ds p := hA0
  rw [Tryd.params4] at hA hval hsz
  obtain ⟨v0, vs0, d0, ds0, p0, q0, hargs, rfl, rfl, h0, r0⟩ := trodAll_cons hA
  obtain ⟨v1, vs1, d1, ds1, p1, q1, rfl, rfl, rfl, h1, r1⟩ := trodAll_cons r0
  obtain ⟨rfl, rfl, rfl⟩ := trodAll_nil r1
  obtain rfl : args = #[v0, v1] := by cases args; simp_all
  obtain ⟨rfl, rfl⟩ := trodVars_none hV
  obtain ⟨a0, n0, cap0, rfl⟩ := okWide_slice Tryd.underlying26 (hval 0 26 v0 rfl rfl)
  have k0 := h0
  have lt0 : ∀ x ∈ p0, x.block < W.heap.size := by obtain ⟨m, hm⟩ := k0; exact DataW.trod_lt m _ _ _ hm
  obtain ⟨fuel0, hf0⟩ := h0
  obtain ⟨l0, hseg0, hbyt0, hcap0, hdat0⟩ := open_bytes hf0
  obtain ⟨a1, n1, cap1, rfl⟩ := okWide_slice Tryd.underlying27 (hval 1 27 v1 rfl rfl)
  have k1 := h1
  have lt1 : ∀ x ∈ p1, x.block < W.heap.size := by obtain ⟨m, hm⟩ := k1; exact DataW.trod_lt m _ _ _ hm
  obtain ⟨fuel1, hf1⟩ := h1
  obtain ⟨l1, hseg1, hcap1, hdat1⟩ := open_ints hf1
  have hreach0 : cap0 ≤ 140737488351232 := by
    rcases hdat0 with ⟨_, _, h⟩ | ⟨elems, spare, hd, he, hc⟩
    · omega
    · have hs := sized_slice hsz (j := 0) (t := 26) (e := 5) (elems := elems) (spare := spare) rfl (by rw [show d0 = _ from hd]; rfl) Tryd.underlying26
      rw [bytes5] at hs
      simp only [reachBytes] at hs
      omega
  have hreach1 : cap1 * 8 ≤ 140737488351232 := by
    rcases hdat1 with ⟨_, _, h⟩ | ⟨elems, spare, hd, he, hc⟩
    · omega
    · have hs := sized_slice hsz (j := 1) (t := 27) (e := 3) (elems := elems) (spare := spare) rfl (by rw [show d1 = _ from hd]; rfl) Tryd.underlying27
      rw [bytes3] at hs
      simp only [reachBytes] at hs
      omega
  have hH := hal_of_laid hL
  clear hA0

  refine (crcCuts.walk a0 n0 cap0 l0 a1 n1 cap1 l1 _ hseg0 hbyt0 hcap0 hreach0 hseg1 (by omega) hH).mono fun e W' ⟨he, bel⟩ => ?_
  subst he
  exact ⟨_, rfl, _, _, _, [], _, [], hW', trodAll_mk1 (shut_bool Tryd.underlying4 _), (trodAll_cons_mk (Below.trod laidOut (by kernel_rfl) (of_decide_eq_true (by kernel_rfl)) k0 bel lt0) (trodAll_cons_mk (Below.trod laidOut (by kernel_rfl) (of_decide_eq_true (by kernel_rfl)) k1 bel lt1) trodAll_mk0)), rfl, bel.frame _, fun h => by cases h⟩

theorem reads (os : Os) {H : Type} (enc : TypeId × Value → H) : ∃ places, DataW.whole enc Tryd.prog ((World.doorLaid Tryd.prog 104 os).forCall (fun _ _ => 0) ⟨#[], #[.slice none 0 0, .slice none 0 0], []⟩).memory Tryd.f4.params.toList Rows.crcCutsSpec.vars false (#[Value.slice none 0 0, .slice none 0 0] : Array Value).toList 8 = some ([.nil, .nil], [], places) :=
  ⟨[], by kernel_rfl⟩

set_option maxRecDepth 100000 in
theorem lifted (os : Os) (started : os.Started) (H : Type) (enc : TypeId × Value → H) (F : Stop.Interp) :
    ReturnsInHanded {} Tryd.checked os 4 .any ((OpenSpec.ofChange Rows.crcCutsSpec).preRow enc Tryd.prog Tryd.f4 Rows.crcCutsRow.domain false Rows.crcCutsRow.laid) (((OpenSpec.ofChange Rows.crcCutsSpec).at F).post enc Tryd.prog Tryd.f4 false true false false) := by
  obtain ⟨places, hx⟩ := reads os enc
  refine returnsInHanded_of_row (C := Tryd.checked) (s := (OpenSpec.ofChange Rows.crcCutsSpec)) own started (by kernel_rfl) Tryd.func4
    (witness_row_atRef (enc := enc) (C := Tryd.checked) false (World.doorLaid Tryd.prog 104 os) #[.slice none 0 0, .slice none 0 0] rfl (by kernel_rfl) (by kernel_rfl) (by kernel_rfl)
      (OpenSpec.preRow_of_cond 8 hx (by kernel_rfl) (fun k hk => by cases hk) (by kernel_rfl) (door_met os _))) ?_
  intro W base args ds gs before hval hW _ hcond hsz hL _ _
  exact contract H enc W base args ds gs before hval hW hsz hL

theorem said : Rows.CrcCutsSaid :=
  OpenClaim.holds_of_cond 4 Tryd.f4 rfl rfl rfl rfl rfl rfl rfl ⟨rfl, rfl, rfl, rfl, rfl⟩ rfl rfl rfl rfl rfl (by kernel_rfl) Tryd.func4 (by kernel_rfl)
    (of_decide_eq_true (by kernel_rfl)) (by unfold Func.isWrapper; first | (rw [if_pos (by decide +kernel)]; kernel_rfl) | (rw [if_neg (by decide +kernel)]; exact ⟨rfl, rfl⟩))
    (fun os started H enc _ F => by rw [OpenClaim.pre_eq_preRow]; exact lifted os started H enc F)

theorem plain (f : FuncId) (fn : Func) (hf : Tryd.pinned.checked.prog.funcNamed "moot/mootlaw2.CrcCuts" = some f) (hfn : Tryd.pinned.checked.prog.funcs[f]? = some fn) :
    false = Tryd.pinned.checked.prog.looks [] ∧ ∀ (j : Nat) t, fn.params[j]? = some t → Tryd.pinned.checked.prog.wantsStandIn t = false := by
  obtain rfl : f = 4 := Option.some.inj ((show Tryd.prog.funcNamed "moot/mootlaw2.CrcCuts" = some 4 by kernel_rfl).symm.trans hf) |>.symm
  obtain rfl : fn = Tryd.f4 := (Option.some.inj (Tryd.func4.symm.trans hfn)).symm
  refine ⟨by kernel_rfl, fun j t ht => ?_⟩
  rw [Tryd.params4] at ht
  have hm : t ∈ [26, 27] := by simpa using Array.mem_of_getElem? ht
  have hall : ([26, 27].all fun u => !Tryd.prog.wantsStandIn u) = true := by kernel_rfl
  exact (show Tryd.prog.wantsStandIn t = false by simpa using List.all_eq_true.1 hall t hm)

end crcCuts
theorem crcCuts_proved : Rows.CrcCutsCardSaid :=
  Claim7.holds_tied_plain_at .later [] _ _ _ _ crcCuts.said (fun _ h => by cases h) (by kernel_rfl) (fun _ h => by cases h) crcCuts_row_tie rfl ⟨rfl, rfl⟩ (by kernel_rfl) rfl crcCuts.plain (by kernel_rfl)
#print axioms crcCuts_proved
end Go.Proofs.YtibdgnegdnapoabDoor
