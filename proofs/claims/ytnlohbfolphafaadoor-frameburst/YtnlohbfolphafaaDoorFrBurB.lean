/- FrameBurst's walk. -/
import Derived.Test.YtnlohbfolphafaaDoorFrBurM
import Derived.Test.YtnlohbfolphafaaDoorFrCut
import Derived.WalkSpells
import Derived.BigRegion
namespace Go.Proofs.YtnlohbfolphafaaDoor
namespace frameBurst
open Go.RowKit Go.Wire1 Go.Crc2 Go.Frm

set_option maxHeartbeats 4000000 in
set_option maxRecDepth 100000 in
theorem burst_bad1 (y0 : Int) (sa : Option Addr) (n cap : Nat) (l : List Int) (y2 : Int) (x : R) (a : Nat → Addr) (w : World) (hs : Seg w sa n l) (_hy : Byt l) (hH : Hal w) (hE : Errs w a) (h1 : y0 < 0) :
    Calls Tryd.prog 5 #[.int .i64 y0, .slice sa n cap, .int .i64 y2, nr x] w fun e w' => e = .returned (.bool true) ∧ Below w.heap.size w w' := by
  have hn63 : n ≤ maxLen := hs.2.1
  unfold maxLen at hn63
  have hsP : Seg w none 0 [] := seg_empty w none
  have hyP : Byt [] := fun z hz => by cases hz
  have hlL : (([] : List Int)).length ≤ 1048576 := by decide
  have hlN : (([] : List Int)).length = 0 := rfl
  have HS0 := seal_any 1 none 0 0 ([] : List Int) w (by omega) hsP hyP (by omega) hH
  have hO := opn_own 1 ([] : List Int) hlL
  have hBd := fun P h1 h2 => opn_burst 1 ([] : List Int) (by omega) hyP hlL P x h1 h2
  have hbf := byt_frm 1 ([] : List Int) (by omega) hyP
  have hfl := frm_len 1 ([] : List Int)
  have hhd := hdL_len 1 (([] : List Int)).length (by omega)
  have hsame := fun P h2 => burst_same hbf P x h2
  obtain ⟨hl, hhl⟩ : ∃ hl, (hdL 1 (([] : List Int)).length).length = hl := ⟨_, rfl⟩
  rw [hhl] at hfl hhd hBd
  rw [hlN] at hfl
  generalize frm 1 ([] : List Int) = FR at *
  obtain ⟨fl, hfl'⟩ : ∃ fl, FR.length = fl := ⟨_, rfl⟩
  simp only [hfl'] at HS0 hO hBd hfl hsame
  obtain ⟨r, j, t1, t2, t3, t4, t5⟩ := turn_at y2 (8 * (0 + 4)) (by omega)
  have tc : ((8 * (0 + 4) : Nat) : Int) = 32 := by rfl
  rw [tc] at t1 t2 t3 t4
  have HOW := hide hO
  have HBD := hide hBd
  have HSM := hide hsame
  have HBF := hide hbf
  have HFL := hide hfl'
  have HS0' := hide HS0
  have SP := hide hsP
  have HAL := hide hH
  have HER := hide hE
  have hM : Hid (8 * fl - (8 * hl + j) = 8 * (0 + 4) - j) := by show _ = _; omega
  have hfm : fl ≤ 1048600 := by omega
  have hP1 : Hid (8 * hl + j < 8 * fl) := by show _ < _; omega
  have hg0 : Hid (4 ≤ hl) := hhd.1
  have g8 : ((fl : Int) < 8) = False := by simp; omega
  have efrom : (fl : Int) - 4 = (hl : Int) := by omega
  have hfl2 := hide hfl
  have HT5 := hide t5
  clear hfl' HS0 hO hBd hbf hsame hs _hy hH hE hsP hyP hlL hlN hhd hhl hfl tc
  go_enter Tryd.func5, Tryd.ntmps5
  go_wp2_with fail
  refine HS0'.out.mono ?_
  rintro r_ w1 ⟨g1, c1, rfl, hg1, hO1, hB1⟩
  have BW : Hid (Below w.heap.size w w1) := hB1
  have hc1 : fl ≤ c1 := (own_seg hO1).2.1
  have HC1 : Hid (c1 ≤ maxLen) := (own_seg hO1).2.2.1
  have M1 : Hid (Mine w1 w.heap.size g1 fl c1 FR) := ⟨hO1, HFL.out, hc1, HC1.out, hg1⟩
  have HG1 := hide hg1
  clear hO1 hB1 hg1 HS0'
  go_wp2_with fail
  refine (num_any 0 _).mono ?_
  rintro r_ w1' ⟨rfl, rfl⟩
  go_wp2_with fail
  go_loopw [3, 13, 14] (fun pt tr i wr => ∃ (k q : Nat) (tb : Bool), pt = .int .u32 (q : Int) ∧ tr = .bool tb ∧ i = .int .i64 (k : Int) ∧ k ≤ 32 ∧ q < 4294967296 ∧ Hid (q = x.toNat / 2 ^ k ∧ tb = trn (8 * (0 + 4) - j) x k) ∧ Hid (Mine wr w.heap.size g1 fl c1 (burst FR (8 * hl + j) x k)) ∧ Hid (Below w.heap.size w wr)) (fun _ _ i _ => 32 - (intOf i).toNat)
  case atStart => exact ⟨0, x.toNat, false, rfl, rfl, rfl, by omega, x.isLt, ⟨by simp, by unfold trn; rw [Nat.zero_min, low_zero]; rfl⟩, M1, BW⟩
  case round =>
    obtain ⟨k, q, tb, rfl, rfl, rfl, hk, hq, HQ, MK, BK⟩ := hrel
    by_cases hk32 : k < 32
    · have hbit : x.getLsbD k = decide (q % 2 = 1) := by rw [HQ.out.1, BitVec.getLsbD, Nat.testBit_eq_decide_div_mod_eq]
      by_cases hb : q % 2 = 1
      · have hbi : ((q : Int) % 2 == 1) = true := by simp; omega
        have hbt : (Int.tmod (q : Int) 2 == 1) = true := by rw [Int.tmod_eq_emod_of_nonneg (by omega)]; exact hbi
        have HBT : Hid (x.getLsbD k = true) := by show _ = _; rw [hbit]; simpa using hb
        by_cases hjk : j + k < 8 * (0 + 4)
        · obtain ⟨m, hm⟩ : ∃ m, j + k = m := ⟨_, rfl⟩
          have em : (j : Int) + (k : Int) = (m : Int) := by omega
          have hlt : (m : Int) < 32 := by omega
          have e1 : (m : Int) / 8 = ((m / 8 : Nat) : Int) := by omega
          have e2 : (m : Int) % 8 = ((m % 8 : Nat) : Int) := by omega
          have e1t : Int.tdiv (m : Int) 8 = ((m / 8 : Nat) : Int) := by rw [Int.tdiv_eq_ediv_of_nonneg (by omega)]; exact e1
          have e2t : Int.tmod (m : Int) 8 = ((m % 8 : Nat) : Int) := by rw [Int.tmod_eq_emod_of_nonneg (by omega)]; exact e2
          have hz := byt_at (burst_byt HBF.out (8 * hl + j) x k) (hl + m / 8)
          have hp8 := pow8 m
          have ex : bits .xor .u8 ((burst FR (8 * hl + j) x k).getD (hl + m / 8) 0) ((2 : Int) ^ (m % 8) % 256) = bx ((burst FR (8 * hl + j) x k).getD (hl + m / 8) 0) ((2 ^ (m % 8) : Nat) : Int) := by
            have e : (2 : Int) ^ (m % 8) % 256 = ((2 ^ (m % 8) : Nat) : Int) := by
              rw [Int.emod_eq_of_lt] <;> simp at hp8 ⊢ <;> omega
            rw [e]
            exact u8_xor _ _ hz.1 hz.2 hp8.1 hp8.2
          have hqi : hl + m / 8 < fl := by have := hfl2.out; omega
          have hj8 : m % 8 < 8 := by omega
          have MS := MK.out.store (hl + m / 8) (bx ((burst FR (8 * hl + j) x k).getD (hl + m / 8) 0) ((2 ^ (m % 8) : Nat) : Int))
          have eb : (burst FR (8 * hl + j) x k).set (hl + m / 8) (bx ((burst FR (8 * hl + j) x k).getD (hl + m / 8) 0) ((2 ^ (m % 8) : Nat) : Int)) = burst FR (8 * hl + j) x (k + 1) := by
            rw [burst, if_pos ⟨HBT.out, by rw [HFL.out]; have := hfl2.out; omega⟩]
            unfold Crc2.flip
            rw [show 8 * hl + j + k = 8 * hl + m by omega, show (8 * hl + m) / 8 = hl + m / 8 by omega, show (8 * hl + m) % 8 = m % 8 by omega]
          rw [eb] at MS
          obtain ⟨b', o', e', hc'⟩ := MK.out.seg.2.2 (by omega)
          cases e'
          have hck := hc' (hl + m / 8) hqi
          rw [Nat.zero_add] at hck
          have hfr := MK.out.1.frozenAt (hl + m / 8)
          have BS := BK.out.setCell (p := ⟨g1, hl + m / 8, none⟩) HG1.out (.int .u8 (bx ((burst FR (8 * hl + j) x k).getD (hl + m / 8) 0) ((2 ^ (m % 8) : Nat) : Int)))
          have TB : Hid (trn (8 * (0 + 4) - j) x (k + 1) = true) := trn_yes HBT.out (by omega)
          have HMJ := hide hjk
          have HQ2 : Hid (q / 2 = x.toNat / 2 ^ (k + 1)) := by show _ = _; rw [HQ.out.1, Nat.pow_succ, Nat.div_div_eq_div_mul]
          have HMM := hide hm
          clear hc' hbit hm hjk hz hp8 eb
          generalize (burst FR (8 * hl + j) x k).getD (hl + m / 8) 0 = z at *
          generalize bx z ((2 ^ (m % 8) : Nat) : Int) = y at *
          generalize m / 8 = m8 at *
          generalize m % 8 = r8 at *
          have i1 : (0 : Int) ≤ (hl : Int) + (m8 : Int) := by omega
          have i2 : (hl : Int) + (m8 : Int) < (fl : Int) := by omega
          have i3 : ((hl : Int) + (m8 : Int)).toNat = hl + m8 := by omega
          have HMS := hide MS
          have HBS := hide BS
          clear MS BS
          go_wp2_with fail
          go_region
          all_goals go_wp2
          all_goals go_roundw
          case rel => exact ⟨k + 1, q / 2, true, by congr 1, rfl, by go_num, by omega, by omega, ⟨HQ2.out, TB.out.symm⟩, HMS.out, HBS.out.drew⟩
          case measure => simp [intOf]; omega
        · have hlt : ((j : Int) + (k : Int) < 32) = False := by simp; omega
          have TB : Hid (trn (8 * (0 + 4) - j) x (k + 1) = tb) := by show _ = _; rw [trn_no (by omega), ← HQ.out.2]
          have HQ2 : Hid (q / 2 = x.toNat / 2 ^ (k + 1)) := by show _ = _; rw [HQ.out.1, Nat.pow_succ, Nat.div_div_eq_div_mul]
          have MK2 : Hid (Mine wr w.heap.size g1 fl c1 (burst FR (8 * hl + j) x (k + 1))) := by
            show Mine _ _ _ _ _ _
            rw [burst, if_neg (by rw [HFL.out]; have := hfl2.out; omega)]; exact MK.out
          clear hbit hjk
          go_wp2
          go_roundw
          case rel => exact ⟨k + 1, q / 2, tb, by congr 1, rfl, by go_num, by omega, by omega, ⟨HQ2.out, TB.out.symm⟩, MK2, BK⟩
          case measure => simp [intOf]; omega
      · have hbi : ((q : Int) % 2 == 1) = false := by simp; omega
        have hbt : (Int.tmod (q : Int) 2 == 1) = false := by rw [Int.tmod_eq_emod_of_nonneg (by omega)]; exact hbi
        have HBF2 : Hid (¬ x.getLsbD k = true) := by show ¬ _; rw [hbit]; simpa using hb
        have TB : Hid (trn (8 * (0 + 4) - j) x (k + 1) = tb) := by show _ = _; rw [trn_no (fun h => HBF2.out h.1), ← HQ.out.2]
        have HQ2 : Hid (q / 2 = x.toNat / 2 ^ (k + 1)) := by show _ = _; rw [HQ.out.1, Nat.pow_succ, Nat.div_div_eq_div_mul]
        have MK2 : Hid (Mine wr w.heap.size g1 fl c1 (burst FR (8 * hl + j) x (k + 1))) := by
          show Mine _ _ _ _ _ _
          rw [burst, if_neg (fun h => HBF2.out h.1)]; exact MK.out
        clear hbit hb
        go_wp2
        go_roundw
        case rel => exact ⟨k + 1, q / 2, tb, by congr 1, rfl, by go_num, by omega, by omega, ⟨HQ2.out, TB.out.symm⟩, MK2, BK⟩
        case measure => simp [intOf]; omega
    · have hk' : k = 32 := by omega
      have MK3 : Hid (Mine wr w.heap.size g1 fl c1 (burst FR (8 * hl + j) x 32)) := by have := MK.out; rwa [hk'] at this
      have TB : Hid (tb = trn (8 * fl - (8 * hl + j)) x 32) := by show _ = _; rw [hM.out, HQ.out.2, hk']
      clear hk' MK
      have HAL2 := hide (HAL.out.later BK.out)
      have HER2 := hide (HER.out.below BK.out (Nat.le_refl _))
      have SP2 := hide (SP.out.below BK.out (Nat.le_refl _))
      cases tb with
      | false =>
        have eS := HSM.out (8 * hl + j) hP1.out TB.out.symm
        rw [eS] at MK3
        go_wp2_with fail
        refine (open_any 1 (some ⟨g1, 0, none⟩) fl c1 FR a wr (by omega) MK3.out.seg hc1 HC1.out HBF.out HAL2.out HER2.out).mono ?_
        rintro r_ w2 ⟨val, rfl, hO2, hB2⟩
        rw [HOW.out] at hO2 ⊢
        obtain ⟨pa, pc, rfl, hpc, _, sgp⟩ := seg_own hO2
        obtain ⟨pl, hpl⟩ : ∃ pl, (([] : List Int)).length = pl := ⟨_, rfl⟩
        rw [hpl] at sgp ⊢
        have SPP := hide sgp
        have BB2 : Hid (Below w.heap.size w w2) := BK.out.trans (hB2.mono BK.out.size)
        have SP3 := hide (SP2.out.below hB2 (Nat.le_refl _))
        clear hO2 hB2 sgp hpc hpl eS
        go_wp2_with fail
        refine (same_bel pa none pl 0 pc 0 ([] : List Int) ([] : List Int) w2 SPP.out SP3.out).mono ?_
        rintro r_ w3 ⟨rfl, hB3⟩
        rw [same_yes rfl]
        have BB3 : Hid (Below w.heap.size w w3) := BB2.out.trans (hB3.mono BB2.out.size)
        clear hB3 SPP BB2
        go_wp2_with fail
        refine (num_any 0 _).mono ?_
        rintro r_ w3' ⟨rfl, rfl⟩
        go_wp2
        go_ret
        exact ⟨rfl, BB3.out⟩
      | true =>
        have eS := HBD.out (8 * hl + j) (by omega) hP1.out TB.out.symm
        go_wp2_with fail
        refine (open_any 1 (some ⟨g1, 0, none⟩) fl c1 (burst FR (8 * hl + j) x 32) a wr (by omega) MK3.out.seg hc1 HC1.out (burst_byt HBF.out _ _ _) HAL2.out HER2.out).mono ?_
        rintro r_ w2 ⟨val, rfl, hO2, hB2⟩
        rw [eS] at hO2 ⊢
        obtain ⟨pa, pc, rfl⟩ := own_nil hO2
        have BB2 : Hid (Below w.heap.size w w2) := BK.out.trans (hB2.mono BK.out.size)
        clear hO2 hB2 eS
        go_wp2_with fail
        refine (num_any 74 _).mono ?_
        rintro r_ w3' ⟨rfl, rfl⟩
        go_wp2
        go_ret
        exact ⟨rfl, BB2.out⟩
set_option maxHeartbeats 4000000 in
set_option maxRecDepth 100000 in
theorem burst_bad2 (y0 : Int) (sa : Option Addr) (n cap : Nat) (l : List Int) (y2 : Int) (x : R) (a : Nat → Addr) (w : World) (hs : Seg w sa n l) (_hy : Byt l) (hH : Hal w) (hE : Errs w a) (h1 : ¬ y0 < 0) (h2 : 2 < y0) :
    Calls Tryd.prog 5 #[.int .i64 y0, .slice sa n cap, .int .i64 y2, nr x] w fun e w' => e = .returned (.bool true) ∧ Below w.heap.size w w' := by
  have hn63 : n ≤ maxLen := hs.2.1
  unfold maxLen at hn63
  have hsP : Seg w none 0 [] := seg_empty w none
  have hyP : Byt [] := fun z hz => by cases hz
  have hlL : (([] : List Int)).length ≤ 1048576 := by decide
  have hlN : (([] : List Int)).length = 0 := rfl
  have HS0 := seal_any 1 none 0 0 ([] : List Int) w (by omega) hsP hyP (by omega) hH
  have hO := opn_own 1 ([] : List Int) hlL
  have hBd := fun P h1 h2 => opn_burst 1 ([] : List Int) (by omega) hyP hlL P x h1 h2
  have hbf := byt_frm 1 ([] : List Int) (by omega) hyP
  have hfl := frm_len 1 ([] : List Int)
  have hhd := hdL_len 1 (([] : List Int)).length (by omega)
  have hsame := fun P h2 => burst_same hbf P x h2
  obtain ⟨hl, hhl⟩ : ∃ hl, (hdL 1 (([] : List Int)).length).length = hl := ⟨_, rfl⟩
  rw [hhl] at hfl hhd hBd
  rw [hlN] at hfl
  generalize frm 1 ([] : List Int) = FR at *
  obtain ⟨fl, hfl'⟩ : ∃ fl, FR.length = fl := ⟨_, rfl⟩
  simp only [hfl'] at HS0 hO hBd hfl hsame
  obtain ⟨r, j, t1, t2, t3, t4, t5⟩ := turn_at y2 (8 * (0 + 4)) (by omega)
  have tc : ((8 * (0 + 4) : Nat) : Int) = 32 := by rfl
  rw [tc] at t1 t2 t3 t4
  have HOW := hide hO
  have HBD := hide hBd
  have HSM := hide hsame
  have HBF := hide hbf
  have HFL := hide hfl'
  have HS0' := hide HS0
  have SP := hide hsP
  have HAL := hide hH
  have HER := hide hE
  have hM : Hid (8 * fl - (8 * hl + j) = 8 * (0 + 4) - j) := by show _ = _; omega
  have hfm : fl ≤ 1048600 := by omega
  have hP1 : Hid (8 * hl + j < 8 * fl) := by show _ < _; omega
  have hg0 : Hid (4 ≤ hl) := hhd.1
  have g8 : ((fl : Int) < 8) = False := by simp; omega
  have efrom : (fl : Int) - 4 = (hl : Int) := by omega
  have hfl2 := hide hfl
  have HT5 := hide t5
  clear hfl' HS0 hO hBd hbf hsame hs _hy hH hE hsP hyP hlL hlN hhd hhl hfl tc
  go_enter Tryd.func5, Tryd.ntmps5
  go_wp2_with fail
  refine HS0'.out.mono ?_
  rintro r_ w1 ⟨g1, c1, rfl, hg1, hO1, hB1⟩
  have BW : Hid (Below w.heap.size w w1) := hB1
  have hc1 : fl ≤ c1 := (own_seg hO1).2.1
  have HC1 : Hid (c1 ≤ maxLen) := (own_seg hO1).2.2.1
  have M1 : Hid (Mine w1 w.heap.size g1 fl c1 FR) := ⟨hO1, HFL.out, hc1, HC1.out, hg1⟩
  have HG1 := hide hg1
  clear hO1 hB1 hg1 HS0'
  go_wp2_with fail
  refine (num_any 0 _).mono ?_
  rintro r_ w1' ⟨rfl, rfl⟩
  go_wp2_with fail
  go_loopw [3, 13, 14] (fun pt tr i wr => ∃ (k q : Nat) (tb : Bool), pt = .int .u32 (q : Int) ∧ tr = .bool tb ∧ i = .int .i64 (k : Int) ∧ k ≤ 32 ∧ q < 4294967296 ∧ Hid (q = x.toNat / 2 ^ k ∧ tb = trn (8 * (0 + 4) - j) x k) ∧ Hid (Mine wr w.heap.size g1 fl c1 (burst FR (8 * hl + j) x k)) ∧ Hid (Below w.heap.size w wr)) (fun _ _ i _ => 32 - (intOf i).toNat)
  case atStart => exact ⟨0, x.toNat, false, rfl, rfl, rfl, by omega, x.isLt, ⟨by simp, by unfold trn; rw [Nat.zero_min, low_zero]; rfl⟩, M1, BW⟩
  case round =>
    obtain ⟨k, q, tb, rfl, rfl, rfl, hk, hq, HQ, MK, BK⟩ := hrel
    by_cases hk32 : k < 32
    · have hbit : x.getLsbD k = decide (q % 2 = 1) := by rw [HQ.out.1, BitVec.getLsbD, Nat.testBit_eq_decide_div_mod_eq]
      by_cases hb : q % 2 = 1
      · have hbi : ((q : Int) % 2 == 1) = true := by simp; omega
        have hbt : (Int.tmod (q : Int) 2 == 1) = true := by rw [Int.tmod_eq_emod_of_nonneg (by omega)]; exact hbi
        have HBT : Hid (x.getLsbD k = true) := by show _ = _; rw [hbit]; simpa using hb
        by_cases hjk : j + k < 8 * (0 + 4)
        · obtain ⟨m, hm⟩ : ∃ m, j + k = m := ⟨_, rfl⟩
          have em : (j : Int) + (k : Int) = (m : Int) := by omega
          have hlt : (m : Int) < 32 := by omega
          have e1 : (m : Int) / 8 = ((m / 8 : Nat) : Int) := by omega
          have e2 : (m : Int) % 8 = ((m % 8 : Nat) : Int) := by omega
          have e1t : Int.tdiv (m : Int) 8 = ((m / 8 : Nat) : Int) := by rw [Int.tdiv_eq_ediv_of_nonneg (by omega)]; exact e1
          have e2t : Int.tmod (m : Int) 8 = ((m % 8 : Nat) : Int) := by rw [Int.tmod_eq_emod_of_nonneg (by omega)]; exact e2
          have hz := byt_at (burst_byt HBF.out (8 * hl + j) x k) (hl + m / 8)
          have hp8 := pow8 m
          have ex : bits .xor .u8 ((burst FR (8 * hl + j) x k).getD (hl + m / 8) 0) ((2 : Int) ^ (m % 8) % 256) = bx ((burst FR (8 * hl + j) x k).getD (hl + m / 8) 0) ((2 ^ (m % 8) : Nat) : Int) := by
            have e : (2 : Int) ^ (m % 8) % 256 = ((2 ^ (m % 8) : Nat) : Int) := by
              rw [Int.emod_eq_of_lt] <;> simp at hp8 ⊢ <;> omega
            rw [e]
            exact u8_xor _ _ hz.1 hz.2 hp8.1 hp8.2
          have hqi : hl + m / 8 < fl := by have := hfl2.out; omega
          have hj8 : m % 8 < 8 := by omega
          have MS := MK.out.store (hl + m / 8) (bx ((burst FR (8 * hl + j) x k).getD (hl + m / 8) 0) ((2 ^ (m % 8) : Nat) : Int))
          have eb : (burst FR (8 * hl + j) x k).set (hl + m / 8) (bx ((burst FR (8 * hl + j) x k).getD (hl + m / 8) 0) ((2 ^ (m % 8) : Nat) : Int)) = burst FR (8 * hl + j) x (k + 1) := by
            rw [burst, if_pos ⟨HBT.out, by rw [HFL.out]; have := hfl2.out; omega⟩]
            unfold Crc2.flip
            rw [show 8 * hl + j + k = 8 * hl + m by omega, show (8 * hl + m) / 8 = hl + m / 8 by omega, show (8 * hl + m) % 8 = m % 8 by omega]
          rw [eb] at MS
          obtain ⟨b', o', e', hc'⟩ := MK.out.seg.2.2 (by omega)
          cases e'
          have hck := hc' (hl + m / 8) hqi
          rw [Nat.zero_add] at hck
          have hfr := MK.out.1.frozenAt (hl + m / 8)
          have BS := BK.out.setCell (p := ⟨g1, hl + m / 8, none⟩) HG1.out (.int .u8 (bx ((burst FR (8 * hl + j) x k).getD (hl + m / 8) 0) ((2 ^ (m % 8) : Nat) : Int)))
          have TB : Hid (trn (8 * (0 + 4) - j) x (k + 1) = true) := trn_yes HBT.out (by omega)
          have HMJ := hide hjk
          have HQ2 : Hid (q / 2 = x.toNat / 2 ^ (k + 1)) := by show _ = _; rw [HQ.out.1, Nat.pow_succ, Nat.div_div_eq_div_mul]
          have HMM := hide hm
          clear hc' hbit hm hjk hz hp8 eb
          generalize (burst FR (8 * hl + j) x k).getD (hl + m / 8) 0 = z at *
          generalize bx z ((2 ^ (m % 8) : Nat) : Int) = y at *
          generalize m / 8 = m8 at *
          generalize m % 8 = r8 at *
          have i1 : (0 : Int) ≤ (hl : Int) + (m8 : Int) := by omega
          have i2 : (hl : Int) + (m8 : Int) < (fl : Int) := by omega
          have i3 : ((hl : Int) + (m8 : Int)).toNat = hl + m8 := by omega
          have HMS := hide MS
          have HBS := hide BS
          clear MS BS
          go_wp2_with fail
          go_region
          all_goals go_wp2
          all_goals go_roundw
          case rel => exact ⟨k + 1, q / 2, true, by congr 1, rfl, by go_num, by omega, by omega, ⟨HQ2.out, TB.out.symm⟩, HMS.out, HBS.out.drew⟩
          case measure => simp [intOf]; omega
        · have hlt : ((j : Int) + (k : Int) < 32) = False := by simp; omega
          have TB : Hid (trn (8 * (0 + 4) - j) x (k + 1) = tb) := by show _ = _; rw [trn_no (by omega), ← HQ.out.2]
          have HQ2 : Hid (q / 2 = x.toNat / 2 ^ (k + 1)) := by show _ = _; rw [HQ.out.1, Nat.pow_succ, Nat.div_div_eq_div_mul]
          have MK2 : Hid (Mine wr w.heap.size g1 fl c1 (burst FR (8 * hl + j) x (k + 1))) := by
            show Mine _ _ _ _ _ _
            rw [burst, if_neg (by rw [HFL.out]; have := hfl2.out; omega)]; exact MK.out
          clear hbit hjk
          go_wp2
          go_roundw
          case rel => exact ⟨k + 1, q / 2, tb, by congr 1, rfl, by go_num, by omega, by omega, ⟨HQ2.out, TB.out.symm⟩, MK2, BK⟩
          case measure => simp [intOf]; omega
      · have hbi : ((q : Int) % 2 == 1) = false := by simp; omega
        have hbt : (Int.tmod (q : Int) 2 == 1) = false := by rw [Int.tmod_eq_emod_of_nonneg (by omega)]; exact hbi
        have HBF2 : Hid (¬ x.getLsbD k = true) := by show ¬ _; rw [hbit]; simpa using hb
        have TB : Hid (trn (8 * (0 + 4) - j) x (k + 1) = tb) := by show _ = _; rw [trn_no (fun h => HBF2.out h.1), ← HQ.out.2]
        have HQ2 : Hid (q / 2 = x.toNat / 2 ^ (k + 1)) := by show _ = _; rw [HQ.out.1, Nat.pow_succ, Nat.div_div_eq_div_mul]
        have MK2 : Hid (Mine wr w.heap.size g1 fl c1 (burst FR (8 * hl + j) x (k + 1))) := by
          show Mine _ _ _ _ _ _
          rw [burst, if_neg (fun h => HBF2.out h.1)]; exact MK.out
        clear hbit hb
        go_wp2
        go_roundw
        case rel => exact ⟨k + 1, q / 2, tb, by congr 1, rfl, by go_num, by omega, by omega, ⟨HQ2.out, TB.out.symm⟩, MK2, BK⟩
        case measure => simp [intOf]; omega
    · have hk' : k = 32 := by omega
      have MK3 : Hid (Mine wr w.heap.size g1 fl c1 (burst FR (8 * hl + j) x 32)) := by have := MK.out; rwa [hk'] at this
      have TB : Hid (tb = trn (8 * fl - (8 * hl + j)) x 32) := by show _ = _; rw [hM.out, HQ.out.2, hk']
      clear hk' MK
      have HAL2 := hide (HAL.out.later BK.out)
      have HER2 := hide (HER.out.below BK.out (Nat.le_refl _))
      have SP2 := hide (SP.out.below BK.out (Nat.le_refl _))
      cases tb with
      | false =>
        have eS := HSM.out (8 * hl + j) hP1.out TB.out.symm
        rw [eS] at MK3
        go_wp2_with fail
        refine (open_any 1 (some ⟨g1, 0, none⟩) fl c1 FR a wr (by omega) MK3.out.seg hc1 HC1.out HBF.out HAL2.out HER2.out).mono ?_
        rintro r_ w2 ⟨val, rfl, hO2, hB2⟩
        rw [HOW.out] at hO2 ⊢
        obtain ⟨pa, pc, rfl, hpc, _, sgp⟩ := seg_own hO2
        obtain ⟨pl, hpl⟩ : ∃ pl, (([] : List Int)).length = pl := ⟨_, rfl⟩
        rw [hpl] at sgp ⊢
        have SPP := hide sgp
        have BB2 : Hid (Below w.heap.size w w2) := BK.out.trans (hB2.mono BK.out.size)
        have SP3 := hide (SP2.out.below hB2 (Nat.le_refl _))
        clear hO2 hB2 sgp hpc hpl eS
        go_wp2_with fail
        refine (same_bel pa none pl 0 pc 0 ([] : List Int) ([] : List Int) w2 SPP.out SP3.out).mono ?_
        rintro r_ w3 ⟨rfl, hB3⟩
        rw [same_yes rfl]
        have BB3 : Hid (Below w.heap.size w w3) := BB2.out.trans (hB3.mono BB2.out.size)
        clear hB3 SPP BB2
        go_wp2_with fail
        refine (num_any 0 _).mono ?_
        rintro r_ w3' ⟨rfl, rfl⟩
        go_wp2
        go_ret
        exact ⟨rfl, BB3.out⟩
      | true =>
        have eS := HBD.out (8 * hl + j) (by omega) hP1.out TB.out.symm
        go_wp2_with fail
        refine (open_any 1 (some ⟨g1, 0, none⟩) fl c1 (burst FR (8 * hl + j) x 32) a wr (by omega) MK3.out.seg hc1 HC1.out (burst_byt HBF.out _ _ _) HAL2.out HER2.out).mono ?_
        rintro r_ w2 ⟨val, rfl, hO2, hB2⟩
        rw [eS] at hO2 ⊢
        obtain ⟨pa, pc, rfl⟩ := own_nil hO2
        have BB2 : Hid (Below w.heap.size w w2) := BK.out.trans (hB2.mono BK.out.size)
        clear hO2 hB2 eS
        go_wp2_with fail
        refine (num_any 74 _).mono ?_
        rintro r_ w3' ⟨rfl, rfl⟩
        go_wp2
        go_ret
        exact ⟨rfl, BB2.out⟩
set_option maxHeartbeats 4000000 in
set_option maxRecDepth 100000 in
theorem burst_bad3 (y0 : Int) (sa : Option Addr) (n cap : Nat) (l : List Int) (y2 : Int) (x : R) (a : Nat → Addr) (w : World) (hs : Seg w sa n l) (_hy : Byt l) (hH : Hal w) (hE : Errs w a) (h1 : ¬ y0 < 0) (h2 : ¬ 2 < y0) (h3 : 1048576 < (n : Int)) :
    Calls Tryd.prog 5 #[.int .i64 y0, .slice sa n cap, .int .i64 y2, nr x] w fun e w' => e = .returned (.bool true) ∧ Below w.heap.size w w' := by
  have hn63 : n ≤ maxLen := hs.2.1
  unfold maxLen at hn63
  have hsP : Seg w none 0 [] := seg_empty w none
  have hyP : Byt [] := fun z hz => by cases hz
  have hlL : (([] : List Int)).length ≤ 1048576 := by decide
  have hlN : (([] : List Int)).length = 0 := rfl
  have HS0 := seal_any 1 none 0 0 ([] : List Int) w (by omega) hsP hyP (by omega) hH
  have hO := opn_own 1 ([] : List Int) hlL
  have hBd := fun P h1 h2 => opn_burst 1 ([] : List Int) (by omega) hyP hlL P x h1 h2
  have hbf := byt_frm 1 ([] : List Int) (by omega) hyP
  have hfl := frm_len 1 ([] : List Int)
  have hhd := hdL_len 1 (([] : List Int)).length (by omega)
  have hsame := fun P h2 => burst_same hbf P x h2
  obtain ⟨hl, hhl⟩ : ∃ hl, (hdL 1 (([] : List Int)).length).length = hl := ⟨_, rfl⟩
  rw [hhl] at hfl hhd hBd
  rw [hlN] at hfl
  generalize frm 1 ([] : List Int) = FR at *
  obtain ⟨fl, hfl'⟩ : ∃ fl, FR.length = fl := ⟨_, rfl⟩
  simp only [hfl'] at HS0 hO hBd hfl hsame
  obtain ⟨r, j, t1, t2, t3, t4, t5⟩ := turn_at y2 (8 * (0 + 4)) (by omega)
  have tc : ((8 * (0 + 4) : Nat) : Int) = 32 := by rfl
  rw [tc] at t1 t2 t3 t4
  have HOW := hide hO
  have HBD := hide hBd
  have HSM := hide hsame
  have HBF := hide hbf
  have HFL := hide hfl'
  have HS0' := hide HS0
  have SP := hide hsP
  have HAL := hide hH
  have HER := hide hE
  have hM : Hid (8 * fl - (8 * hl + j) = 8 * (0 + 4) - j) := by show _ = _; omega
  have hfm : fl ≤ 1048600 := by omega
  have hP1 : Hid (8 * hl + j < 8 * fl) := by show _ < _; omega
  have hg0 : Hid (4 ≤ hl) := hhd.1
  have g8 : ((fl : Int) < 8) = False := by simp; omega
  have efrom : (fl : Int) - 4 = (hl : Int) := by omega
  have hfl2 := hide hfl
  have HT5 := hide t5
  clear hfl' HS0 hO hBd hbf hsame hs _hy hH hE hsP hyP hlL hlN hhd hhl hfl tc
  go_enter Tryd.func5, Tryd.ntmps5
  go_wp2_with fail
  refine HS0'.out.mono ?_
  rintro r_ w1 ⟨g1, c1, rfl, hg1, hO1, hB1⟩
  have BW : Hid (Below w.heap.size w w1) := hB1
  have hc1 : fl ≤ c1 := (own_seg hO1).2.1
  have HC1 : Hid (c1 ≤ maxLen) := (own_seg hO1).2.2.1
  have M1 : Hid (Mine w1 w.heap.size g1 fl c1 FR) := ⟨hO1, HFL.out, hc1, HC1.out, hg1⟩
  have HG1 := hide hg1
  clear hO1 hB1 hg1 HS0'
  go_wp2_with fail
  refine (num_any 0 _).mono ?_
  rintro r_ w1' ⟨rfl, rfl⟩
  go_wp2_with fail
  go_loopw [3, 13, 14] (fun pt tr i wr => ∃ (k q : Nat) (tb : Bool), pt = .int .u32 (q : Int) ∧ tr = .bool tb ∧ i = .int .i64 (k : Int) ∧ k ≤ 32 ∧ q < 4294967296 ∧ Hid (q = x.toNat / 2 ^ k ∧ tb = trn (8 * (0 + 4) - j) x k) ∧ Hid (Mine wr w.heap.size g1 fl c1 (burst FR (8 * hl + j) x k)) ∧ Hid (Below w.heap.size w wr)) (fun _ _ i _ => 32 - (intOf i).toNat)
  case atStart => exact ⟨0, x.toNat, false, rfl, rfl, rfl, by omega, x.isLt, ⟨by simp, by unfold trn; rw [Nat.zero_min, low_zero]; rfl⟩, M1, BW⟩
  case round =>
    obtain ⟨k, q, tb, rfl, rfl, rfl, hk, hq, HQ, MK, BK⟩ := hrel
    by_cases hk32 : k < 32
    · have hbit : x.getLsbD k = decide (q % 2 = 1) := by rw [HQ.out.1, BitVec.getLsbD, Nat.testBit_eq_decide_div_mod_eq]
      by_cases hb : q % 2 = 1
      · have hbi : ((q : Int) % 2 == 1) = true := by simp; omega
        have hbt : (Int.tmod (q : Int) 2 == 1) = true := by rw [Int.tmod_eq_emod_of_nonneg (by omega)]; exact hbi
        have HBT : Hid (x.getLsbD k = true) := by show _ = _; rw [hbit]; simpa using hb
        by_cases hjk : j + k < 8 * (0 + 4)
        · obtain ⟨m, hm⟩ : ∃ m, j + k = m := ⟨_, rfl⟩
          have em : (j : Int) + (k : Int) = (m : Int) := by omega
          have hlt : (m : Int) < 32 := by omega
          have e1 : (m : Int) / 8 = ((m / 8 : Nat) : Int) := by omega
          have e2 : (m : Int) % 8 = ((m % 8 : Nat) : Int) := by omega
          have e1t : Int.tdiv (m : Int) 8 = ((m / 8 : Nat) : Int) := by rw [Int.tdiv_eq_ediv_of_nonneg (by omega)]; exact e1
          have e2t : Int.tmod (m : Int) 8 = ((m % 8 : Nat) : Int) := by rw [Int.tmod_eq_emod_of_nonneg (by omega)]; exact e2
          have hz := byt_at (burst_byt HBF.out (8 * hl + j) x k) (hl + m / 8)
          have hp8 := pow8 m
          have ex : bits .xor .u8 ((burst FR (8 * hl + j) x k).getD (hl + m / 8) 0) ((2 : Int) ^ (m % 8) % 256) = bx ((burst FR (8 * hl + j) x k).getD (hl + m / 8) 0) ((2 ^ (m % 8) : Nat) : Int) := by
            have e : (2 : Int) ^ (m % 8) % 256 = ((2 ^ (m % 8) : Nat) : Int) := by
              rw [Int.emod_eq_of_lt] <;> simp at hp8 ⊢ <;> omega
            rw [e]
            exact u8_xor _ _ hz.1 hz.2 hp8.1 hp8.2
          have hqi : hl + m / 8 < fl := by have := hfl2.out; omega
          have hj8 : m % 8 < 8 := by omega
          have MS := MK.out.store (hl + m / 8) (bx ((burst FR (8 * hl + j) x k).getD (hl + m / 8) 0) ((2 ^ (m % 8) : Nat) : Int))
          have eb : (burst FR (8 * hl + j) x k).set (hl + m / 8) (bx ((burst FR (8 * hl + j) x k).getD (hl + m / 8) 0) ((2 ^ (m % 8) : Nat) : Int)) = burst FR (8 * hl + j) x (k + 1) := by
            rw [burst, if_pos ⟨HBT.out, by rw [HFL.out]; have := hfl2.out; omega⟩]
            unfold Crc2.flip
            rw [show 8 * hl + j + k = 8 * hl + m by omega, show (8 * hl + m) / 8 = hl + m / 8 by omega, show (8 * hl + m) % 8 = m % 8 by omega]
          rw [eb] at MS
          obtain ⟨b', o', e', hc'⟩ := MK.out.seg.2.2 (by omega)
          cases e'
          have hck := hc' (hl + m / 8) hqi
          rw [Nat.zero_add] at hck
          have hfr := MK.out.1.frozenAt (hl + m / 8)
          have BS := BK.out.setCell (p := ⟨g1, hl + m / 8, none⟩) HG1.out (.int .u8 (bx ((burst FR (8 * hl + j) x k).getD (hl + m / 8) 0) ((2 ^ (m % 8) : Nat) : Int)))
          have TB : Hid (trn (8 * (0 + 4) - j) x (k + 1) = true) := trn_yes HBT.out (by omega)
          have HMJ := hide hjk
          have HQ2 : Hid (q / 2 = x.toNat / 2 ^ (k + 1)) := by show _ = _; rw [HQ.out.1, Nat.pow_succ, Nat.div_div_eq_div_mul]
          have HMM := hide hm
          clear hc' hbit hm hjk hz hp8 eb
          generalize (burst FR (8 * hl + j) x k).getD (hl + m / 8) 0 = z at *
          generalize bx z ((2 ^ (m % 8) : Nat) : Int) = y at *
          generalize m / 8 = m8 at *
          generalize m % 8 = r8 at *
          have i1 : (0 : Int) ≤ (hl : Int) + (m8 : Int) := by omega
          have i2 : (hl : Int) + (m8 : Int) < (fl : Int) := by omega
          have i3 : ((hl : Int) + (m8 : Int)).toNat = hl + m8 := by omega
          have HMS := hide MS
          have HBS := hide BS
          clear MS BS
          go_wp2_with fail
          go_region
          all_goals go_wp2
          all_goals go_roundw
          case rel => exact ⟨k + 1, q / 2, true, by congr 1, rfl, by go_num, by omega, by omega, ⟨HQ2.out, TB.out.symm⟩, HMS.out, HBS.out.drew⟩
          case measure => simp [intOf]; omega
        · have hlt : ((j : Int) + (k : Int) < 32) = False := by simp; omega
          have TB : Hid (trn (8 * (0 + 4) - j) x (k + 1) = tb) := by show _ = _; rw [trn_no (by omega), ← HQ.out.2]
          have HQ2 : Hid (q / 2 = x.toNat / 2 ^ (k + 1)) := by show _ = _; rw [HQ.out.1, Nat.pow_succ, Nat.div_div_eq_div_mul]
          have MK2 : Hid (Mine wr w.heap.size g1 fl c1 (burst FR (8 * hl + j) x (k + 1))) := by
            show Mine _ _ _ _ _ _
            rw [burst, if_neg (by rw [HFL.out]; have := hfl2.out; omega)]; exact MK.out
          clear hbit hjk
          go_wp2
          go_roundw
          case rel => exact ⟨k + 1, q / 2, tb, by congr 1, rfl, by go_num, by omega, by omega, ⟨HQ2.out, TB.out.symm⟩, MK2, BK⟩
          case measure => simp [intOf]; omega
      · have hbi : ((q : Int) % 2 == 1) = false := by simp; omega
        have hbt : (Int.tmod (q : Int) 2 == 1) = false := by rw [Int.tmod_eq_emod_of_nonneg (by omega)]; exact hbi
        have HBF2 : Hid (¬ x.getLsbD k = true) := by show ¬ _; rw [hbit]; simpa using hb
        have TB : Hid (trn (8 * (0 + 4) - j) x (k + 1) = tb) := by show _ = _; rw [trn_no (fun h => HBF2.out h.1), ← HQ.out.2]
        have HQ2 : Hid (q / 2 = x.toNat / 2 ^ (k + 1)) := by show _ = _; rw [HQ.out.1, Nat.pow_succ, Nat.div_div_eq_div_mul]
        have MK2 : Hid (Mine wr w.heap.size g1 fl c1 (burst FR (8 * hl + j) x (k + 1))) := by
          show Mine _ _ _ _ _ _
          rw [burst, if_neg (fun h => HBF2.out h.1)]; exact MK.out
        clear hbit hb
        go_wp2
        go_roundw
        case rel => exact ⟨k + 1, q / 2, tb, by congr 1, rfl, by go_num, by omega, by omega, ⟨HQ2.out, TB.out.symm⟩, MK2, BK⟩
        case measure => simp [intOf]; omega
    · have hk' : k = 32 := by omega
      have MK3 : Hid (Mine wr w.heap.size g1 fl c1 (burst FR (8 * hl + j) x 32)) := by have := MK.out; rwa [hk'] at this
      have TB : Hid (tb = trn (8 * fl - (8 * hl + j)) x 32) := by show _ = _; rw [hM.out, HQ.out.2, hk']
      clear hk' MK
      have HAL2 := hide (HAL.out.later BK.out)
      have HER2 := hide (HER.out.below BK.out (Nat.le_refl _))
      have SP2 := hide (SP.out.below BK.out (Nat.le_refl _))
      cases tb with
      | false =>
        have eS := HSM.out (8 * hl + j) hP1.out TB.out.symm
        rw [eS] at MK3
        go_wp2_with fail
        refine (open_any 1 (some ⟨g1, 0, none⟩) fl c1 FR a wr (by omega) MK3.out.seg hc1 HC1.out HBF.out HAL2.out HER2.out).mono ?_
        rintro r_ w2 ⟨val, rfl, hO2, hB2⟩
        rw [HOW.out] at hO2 ⊢
        obtain ⟨pa, pc, rfl, hpc, _, sgp⟩ := seg_own hO2
        obtain ⟨pl, hpl⟩ : ∃ pl, (([] : List Int)).length = pl := ⟨_, rfl⟩
        rw [hpl] at sgp ⊢
        have SPP := hide sgp
        have BB2 : Hid (Below w.heap.size w w2) := BK.out.trans (hB2.mono BK.out.size)
        have SP3 := hide (SP2.out.below hB2 (Nat.le_refl _))
        clear hO2 hB2 sgp hpc hpl eS
        go_wp2_with fail
        refine (same_bel pa none pl 0 pc 0 ([] : List Int) ([] : List Int) w2 SPP.out SP3.out).mono ?_
        rintro r_ w3 ⟨rfl, hB3⟩
        rw [same_yes rfl]
        have BB3 : Hid (Below w.heap.size w w3) := BB2.out.trans (hB3.mono BB2.out.size)
        clear hB3 SPP BB2
        go_wp2_with fail
        refine (num_any 0 _).mono ?_
        rintro r_ w3' ⟨rfl, rfl⟩
        go_wp2
        go_ret
        exact ⟨rfl, BB3.out⟩
      | true =>
        have eS := HBD.out (8 * hl + j) (by omega) hP1.out TB.out.symm
        go_wp2_with fail
        refine (open_any 1 (some ⟨g1, 0, none⟩) fl c1 (burst FR (8 * hl + j) x 32) a wr (by omega) MK3.out.seg hc1 HC1.out (burst_byt HBF.out _ _ _) HAL2.out HER2.out).mono ?_
        rintro r_ w2 ⟨val, rfl, hO2, hB2⟩
        rw [eS] at hO2 ⊢
        obtain ⟨pa, pc, rfl⟩ := own_nil hO2
        have BB2 : Hid (Below w.heap.size w w2) := BK.out.trans (hB2.mono BK.out.size)
        clear hO2 hB2 eS
        go_wp2_with fail
        refine (num_any 74 _).mono ?_
        rintro r_ w3' ⟨rfl, rfl⟩
        go_wp2
        go_ret
        exact ⟨rfl, BB2.out⟩
end frameBurst
end Go.Proofs.YtnlohbfolphafaaDoor
