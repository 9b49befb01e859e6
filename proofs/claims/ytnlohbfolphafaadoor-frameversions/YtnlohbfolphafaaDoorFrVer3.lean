/- FrameVersions' walk at arguments out of bounds. -/
import Derived.Test.YtnlohbfolphafaaDoorFrLaw
namespace Go.Proofs.YtnlohbfolphafaaDoor
open Go.RowKit Go.Wire1 Go.Crc2 Go.Frm

set_option maxHeartbeats 4000000 in
set_option maxRecDepth 100000 in
theorem versions_eq3 (y0 y1 : Int) (sa : Option Addr) (n cap : Nat) (l : List Int) (y3 : Int) (a : Nat → Addr) (w : World) (hs : Seg w sa n l) (_hy : Byt l) (hH : Hal w) (hE : Errs w a) (hb1 : ¬ y0 < 0) (hb2 : ¬ 2 < y0) (hb3 : 1048576 < (n : Int)) (hw : y1 = 2) :
    Calls Tryd.prog 7 #[.int .i64 y0, .int .i64 y1, .slice sa n cap, .int .i64 y3] w fun e w' => e = .returned (.bool true) ∧ Below w.heap.size w w' := by
  have hn63 : n ≤ maxLen := hs.2.1
  unfold maxLen at hn63
  have hsP : Seg w none 0 [] := seg_empty w none
  have hyP : Byt [] := fun z hz => by cases hz
  have HSL := seal_any 2 none 0 0 ([] : List Int) w (by omega) hsP hyP (by omega) hH
  have hlL : (([] : List Int)).length ≤ 1048576 := by decide
  have hO := opn_own 2 ([] : List Int) hlL
  have hO0 := opn_first 2 ([] : List Int)
  have hO1 := opn_second 2 ([] : List Int)
  have hat := frm_at 2 ([] : List Int)
  have hbf := byt_frm 2 ([] : List Int) (by omega) hyP
  have h8 : 8 ≤ (frm 2 ([] : List Int)).length := by rw [frm_len]; have := hdL_len 2 (([] : List Int)).length (by omega); omega
  have hmx : (frm 2 ([] : List Int)).length ≤ 1048600 := by rw [frm_len]; have := hdL_len 2 (([] : List Int)).length (by omega); omega
  generalize frm 2 ([] : List Int) = FR at *
  obtain ⟨fl, hfl⟩ : ∃ fl, FR.length = fl := ⟨_, rfl⟩
  rw [hfl] at HSL hO h8 hmx
  have HFL := hide hfl
  have HSL' := hide HSL
  have HO := hide hO
  have HO0 := hide hO0
  have HO1 := hide hO1
  have HAT := hide hat
  have HBF := hide hbf
  have SP := hide hsP
  have HAL := hide hH
  have HER := hide hE
  have h8' : ((fl : Int) < 8) = False := by simp; omega
  have hzb : 0 ≤ y3 % 256 ∧ y3 % 256 < 256 := by omega
  have HZB := hide hzb
  clear hzb
  have hfn : fl ≤ 9223372036854775807 := by omega
  clear hfl HSL hO hO0 hO1 hat hbf hs hsP hyP hH hE _hy hlL
  subst hw
  go_enter Tryd.func7, Tryd.ntmps7
  go_wp2_with fail
  refine HSL'.out.mono ?_
  rintro r w1 ⟨g1, c1, rfl, hg1, hO1, hB1⟩
  have BW : Hid (Below w.heap.size w w1) := hB1
  have SF : Hid (Seg w1 (some ⟨g1, 0, none⟩) fl FR) := (own_seg hO1).1
  have gl : Hid (g1 < w1.heap.size) := (own_seg hO1).2.2.2
  have hc1 : fl ≤ c1 := (own_seg hO1).2.1
  have HC1 : Hid (c1 ≤ maxLen) := (own_seg hO1).2.2.1
  have HAL1 := hide (HAL.out.later BW.out)
  have HER1 := hide (HER.out.below BW.out (Nat.le_refl _))
  have SP1 := hide (SP.out.below BW.out (Nat.le_refl _))
  have hz0 : Hid (6 ≤ w1.heap.size) := HER1.out.five
  clear hO1 hB1 HSL' hg1 HAL HER SP
  go_wp2_with fail
  refine (num_any 0 _).mono ?_
  rintro r w1' ⟨rfl, rfl⟩
  go_wp2_with fail
  refine (open_any 2 (some ⟨g1, 0, none⟩) fl c1 FR a w1 (by omega) SF.out hc1 HC1.out HBF.out HAL1.out HER1.out).mono ?_
  rintro r w2 ⟨val, rfl, hO2, hB2⟩
  rw [HO.out] at hO2 ⊢
  have BB2 := hide hB2
  obtain ⟨pa, pc, rfl, hpc, _, sgp⟩ := seg_own hO2
  obtain ⟨pl, hpl⟩ : ∃ pl, (([] : List Int)).length = pl := ⟨_, rfl⟩
  rw [hpl] at sgp ⊢
  have SPP := hide sgp
  clear hO2 hB2 sgp hpc hpl
  go_wp2_with fail
  refine (same_bel pa none pl 0 pc 0 ([] : List Int) ([] : List Int) w2 SPP.out (SP1.out.below BB2.out (Nat.le_refl _))).mono ?_
  rintro r w3 ⟨rfl, hB3⟩
  rw [same_yes rfl]
  have BB3 : Hid (Below w1.heap.size w1 w3) := BB2.out.trans (hB3.mono BB2.out.size)
  clear hB3 SPP BB2
  go_wp2_with fail
  refine (num_any 0 _).mono ?_
  rintro r w3' ⟨rfl, rfl⟩
  go_wp2_with fail
  refine (bytes_any (some ⟨g1, 0, none⟩) fl c1 FR _ (SF.out.below BB3.out (Nat.le_refl _)) (by omega)).mono ?_
  rintro r w4 ⟨vb, rfl, hOb, hBb⟩
  rw [HFL.out] at hOb
  obtain ⟨gw4, cw4, rfl⟩ := own_at hOb (by omega)
  have hgw : Hid (w1.heap.size ≤ gw4) := Nat.le_trans BB3.out.size (hOb.lt gw4 rfl).1
  have MN : Mine w4 w3.heap.size gw4 fl cw4 FR := ⟨hOb, HFL.out, (own_seg hOb).2.1, (own_seg hOb).2.2.1, (hOb.lt gw4 rfl).1⟩
  have cg : w4.cell? ⟨gw4, 0, none⟩ = some (.int .u8 (FR.getD 0 0)) := by have := MN.seg.2.2 (by omega); obtain ⟨_, _, e, hc⟩ := this; cases e; have := hc 0 (by omega); rwa [Nat.zero_add] at this
  have fg : w4.frozen? ⟨gw4, 0, none⟩ = false := thaw_own hOb 0
  have MS := hide (MN.store 0 (y3 % 256))
  have BBb : Hid (Below w1.heap.size w1 w4) := BB3.out.trans (hBb.mono BB3.out.size)
  have BBc : Hid (Below w1.heap.size w1 (w4.setCell ⟨gw4, 0, none⟩ (.int .u8 (y3 % 256)))) := BBb.out.setCell (p := ⟨gw4, 0, none⟩) hgw.out _
  clear hOb hBb MN
  go_wp2_with fail
  refine (open_any 2 (some ⟨gw4, 0, none⟩) fl cw4 (FR.set 0 (y3 % 256)) a _ (by omega) MS.out.seg MS.out.2.2.1 MS.out.2.2.2.1 (byt_set HBF.out 0 HZB.out) (HAL1.out.later BBc.out) (HER1.out.below BBc.out (Nat.le_refl _))).mono ?_
  rintro r w5 ⟨val, rfl, hO3, hB3⟩
  have BBd : Hid (Below w1.heap.size w1 w5) := BBc.out.trans (hB3.mono BBc.out.size)
  have cf : w5.cell? ⟨g1, 0, none⟩ = some (.int .u8 77) := by obtain ⟨_, _, e, hc⟩ := (SF.out.below BBd.out (Nat.le_refl _)).2.2 (by omega); cases e; have := hc 0 (by omega); rw [Nat.zero_add] at this; rw [this, HAT.out.1]
  have cg2 : w5.cell? ⟨gw4, 0, none⟩ = some (.int .u8 (y3 % 256)) := by have := cell_later hB3 (World.cell?_setCell_same w4 ⟨gw4, 0, none⟩ (.int .u8 (y3 % 256)) cg); exact this
  have hOPI := HO0.out (y3 % 256)
  generalize opn 2 (FR.set 0 (y3 % 256)) = OP at hOPI hO3 ⊢
  obtain ⟨OP1, OP2, OP3⟩ := OP
  obtain ⟨pa3, pc3, hval⟩ := own_shape hO3
  simp only at hval hO3 ⊢
  subst hval
  have hOPI' := hide hOPI
  clear hO3 hB3 hOPI cg fg MS BBb BBc hgw
  by_cases hz : y3 % 256 = 77
  · rw [hz] at cg2
    clear hz hOPI'
    generalize OP1.length = ol at *
    go_wp2
    go_quiet (fail)
    generalize hw6 : w5.drewN _ = w6
    have BB6 : Hid (Below w1.heap.size w1 w6) := by rw [← hw6]; exact below_drewN BBd.out _
    clear hw6 BBd cf cg2
    go_wp2_with fail
    refine (bytes_any (some ⟨g1, 0, none⟩) fl c1 FR _ (SF.out.below BB6.out (Nat.le_refl _)) (by omega)).mono ?_
    rintro r w7 ⟨vb, rfl, hOb, hBb⟩
    rw [HFL.out] at hOb
    obtain ⟨gw7, cw7, rfl⟩ := own_at hOb (by omega)
    have hgw : Hid (w1.heap.size ≤ gw7) := Nat.le_trans BB6.out.size (hOb.lt gw7 rfl).1
    have MN : Mine w7 w6.heap.size gw7 fl cw7 FR := ⟨hOb, HFL.out, (own_seg hOb).2.1, (own_seg hOb).2.2.1, (hOb.lt gw7 rfl).1⟩
    have cg : w7.cell? ⟨gw7, 1, none⟩ = some (.int .u8 (FR.getD 1 0)) := by have := MN.seg.2.2 (by omega); obtain ⟨_, _, e, hc⟩ := this; cases e; have := hc 1 (by omega); rwa [Nat.zero_add] at this
    have fg : w7.frozen? ⟨gw7, 1, none⟩ = false := thaw_own hOb 1
    have MS := hide (MN.store 1 (y3 % 256))
    have BBb : Hid (Below w1.heap.size w1 w7) := BB6.out.trans (hBb.mono BB6.out.size)
    have BBc : Hid (Below w1.heap.size w1 (w7.setCell ⟨gw7, 1, none⟩ (.int .u8 (y3 % 256)))) := BBb.out.setCell (p := ⟨gw7, 1, none⟩) hgw.out _
    clear hOb hBb MN
    go_wp2_with fail
    refine (open_any 2 (some ⟨gw7, 0, none⟩) fl cw7 (FR.set 1 (y3 % 256)) a _ (by omega) MS.out.seg MS.out.2.2.1 MS.out.2.2.2.1 (byt_set HBF.out 1 HZB.out) (HAL1.out.later BBc.out) (HER1.out.below BBc.out (Nat.le_refl _))).mono ?_
    rintro r w8 ⟨val, rfl, hO3, hB3⟩
    have BBd : Hid (Below w1.heap.size w1 w8) := BBc.out.trans (hB3.mono BBc.out.size)
    have cf : w8.cell? ⟨g1, 1, none⟩ = some (.int .u8 84) := by obtain ⟨_, _, e, hc⟩ := (SF.out.below BBd.out (Nat.le_refl _)).2.2 (by omega); cases e; have := hc 1 (by omega); rw [Nat.zero_add] at this; rw [this, HAT.out.2]
    have cg2 : w8.cell? ⟨gw7, 1, none⟩ = some (.int .u8 (y3 % 256)) := by have := cell_later hB3 (World.cell?_setCell_same w7 ⟨gw7, 1, none⟩ (.int .u8 (y3 % 256)) cg); exact this
    have hOPI := HO1.out (y3 % 256)
    generalize opn 2 (FR.set 1 (y3 % 256)) = OP at hOPI hO3 ⊢
    obtain ⟨OP1, OP2, OP3⟩ := OP
    obtain ⟨pa3, pc3, hval⟩ := own_shape hO3
    simp only at hval hO3 ⊢
    subst hval
    have hOPI' := hide hOPI
    clear hO3 hB3 hOPI cg fg MS BBb BBc hgw
    by_cases hz : y3 % 256 = 84
    · rw [hz] at cg2
      clear hz hOPI'
      generalize OP1.length = ol at *
      go_wp2
      go_quiet (fail)
      go_wp2
      go_ret
      exact ⟨rfl, BW.out.trans ((below_drewN BBd.out _).mono BW.out.size)⟩
    · have hb : (y3 % 256 == 84) = false := by simpa using hz
      have e := hOPI'.out hz
      simp only [Prod.mk.injEq] at e
      obtain ⟨rfl, rfl, rfl⟩ := e
      clear hz hOPI'
      simp only [List.length_nil]
      go_wp2
      go_quiet (first | (go_at_call 12; refine Calls.quiet_of (num_q _ _)))
      go_wp2
      go_ret
      exact ⟨rfl, BW.out.trans ((below_drewN BBd.out _).mono BW.out.size)⟩
  · have hb : (y3 % 256 != 77) = true := by rw [bne_iff_ne]; exact hz
    have e := hOPI'.out hz
    simp only [Prod.mk.injEq] at e
    obtain ⟨rfl, rfl, rfl⟩ := e
    clear hz hOPI'
    simp only [List.length_nil]
    go_wp2
    go_quiet (first | (go_at_call 12; refine Calls.quiet_of (num_q _ _)))
    generalize hw6 : w5.drewN _ = w6
    have BB6 : Hid (Below w1.heap.size w1 w6) := by rw [← hw6]; exact below_drewN BBd.out _
    clear hw6 BBd cf cg2
    clear hb
    go_wp2_with fail
    refine (bytes_any (some ⟨g1, 0, none⟩) fl c1 FR _ (SF.out.below BB6.out (Nat.le_refl _)) (by omega)).mono ?_
    rintro r w7 ⟨vb, rfl, hOb, hBb⟩
    rw [HFL.out] at hOb
    obtain ⟨gw7, cw7, rfl⟩ := own_at hOb (by omega)
    have hgw : Hid (w1.heap.size ≤ gw7) := Nat.le_trans BB6.out.size (hOb.lt gw7 rfl).1
    have MN : Mine w7 w6.heap.size gw7 fl cw7 FR := ⟨hOb, HFL.out, (own_seg hOb).2.1, (own_seg hOb).2.2.1, (hOb.lt gw7 rfl).1⟩
    have cg : w7.cell? ⟨gw7, 1, none⟩ = some (.int .u8 (FR.getD 1 0)) := by have := MN.seg.2.2 (by omega); obtain ⟨_, _, e, hc⟩ := this; cases e; have := hc 1 (by omega); rwa [Nat.zero_add] at this
    have fg : w7.frozen? ⟨gw7, 1, none⟩ = false := thaw_own hOb 1
    have MS := hide (MN.store 1 (y3 % 256))
    have BBb : Hid (Below w1.heap.size w1 w7) := BB6.out.trans (hBb.mono BB6.out.size)
    have BBc : Hid (Below w1.heap.size w1 (w7.setCell ⟨gw7, 1, none⟩ (.int .u8 (y3 % 256)))) := BBb.out.setCell (p := ⟨gw7, 1, none⟩) hgw.out _
    clear hOb hBb MN
    go_wp2_with fail
    refine (open_any 2 (some ⟨gw7, 0, none⟩) fl cw7 (FR.set 1 (y3 % 256)) a _ (by omega) MS.out.seg MS.out.2.2.1 MS.out.2.2.2.1 (byt_set HBF.out 1 HZB.out) (HAL1.out.later BBc.out) (HER1.out.below BBc.out (Nat.le_refl _))).mono ?_
    rintro r w8 ⟨val, rfl, hO3, hB3⟩
    have BBd : Hid (Below w1.heap.size w1 w8) := BBc.out.trans (hB3.mono BBc.out.size)
    have cf : w8.cell? ⟨g1, 1, none⟩ = some (.int .u8 84) := by obtain ⟨_, _, e, hc⟩ := (SF.out.below BBd.out (Nat.le_refl _)).2.2 (by omega); cases e; have := hc 1 (by omega); rw [Nat.zero_add] at this; rw [this, HAT.out.2]
    have cg2 : w8.cell? ⟨gw7, 1, none⟩ = some (.int .u8 (y3 % 256)) := by have := cell_later hB3 (World.cell?_setCell_same w7 ⟨gw7, 1, none⟩ (.int .u8 (y3 % 256)) cg); exact this
    have hOPI := HO1.out (y3 % 256)
    generalize opn 2 (FR.set 1 (y3 % 256)) = OP at hOPI hO3 ⊢
    obtain ⟨OP1, OP2, OP3⟩ := OP
    obtain ⟨pa3, pc3, hval⟩ := own_shape hO3
    simp only at hval hO3 ⊢
    subst hval
    have hOPI' := hide hOPI
    clear hO3 hB3 hOPI cg fg MS BBb BBc hgw
    by_cases hz : y3 % 256 = 84
    · rw [hz] at cg2
      clear hz hOPI'
      generalize OP1.length = ol at *
      go_wp2
      go_quiet (fail)
      go_wp2
      go_ret
      exact ⟨rfl, BW.out.trans ((below_drewN BBd.out _).mono BW.out.size)⟩
    · have hb : (y3 % 256 == 84) = false := by simpa using hz
      have e := hOPI'.out hz
      simp only [Prod.mk.injEq] at e
      obtain ⟨rfl, rfl, rfl⟩ := e
      clear hz hOPI'
      simp only [List.length_nil]
      go_wp2
      go_quiet (first | (go_at_call 12; refine Calls.quiet_of (num_q _ _)))
      go_wp2
      go_ret
      exact ⟨rfl, BW.out.trans ((below_drewN BBd.out _).mono BW.out.size)⟩
set_option maxHeartbeats 4000000 in
set_option maxRecDepth 100000 in
theorem versions_outlo3 (y0 y1 : Int) (sa : Option Addr) (n cap : Nat) (l : List Int) (y3 : Int) (a : Nat → Addr) (w : World) (hs : Seg w sa n l) (_hy : Byt l) (hH : Hal w) (hE : Errs w a) (hb1 : ¬ y0 < 0) (hb2 : ¬ 2 < y0) (hb3 : 1048576 < (n : Int)) (hw : y1 < 0) :
    Calls Tryd.prog 7 #[.int .i64 y0, .int .i64 y1, .slice sa n cap, .int .i64 y3] w fun e w' => e = .returned (.bool true) ∧ Below w.heap.size w w' := by
  have hn63 : n ≤ maxLen := hs.2.1
  unfold maxLen at hn63
  have hsP : Seg w none 0 [] := seg_empty w none
  have hyP : Byt [] := fun z hz => by cases hz
  have HSL := seal_any 2 none 0 0 ([] : List Int) w (by omega) hsP hyP (by omega) hH
  have hlL : (([] : List Int)).length ≤ 1048576 := by decide
  have hO := opn_own 2 ([] : List Int) hlL
  have hO0 := opn_first 2 ([] : List Int)
  have hO1 := opn_second 2 ([] : List Int)
  have hat := frm_at 2 ([] : List Int)
  have hbf := byt_frm 2 ([] : List Int) (by omega) hyP
  have h8 : 8 ≤ (frm 2 ([] : List Int)).length := by rw [frm_len]; have := hdL_len 2 (([] : List Int)).length (by omega); omega
  have hmx : (frm 2 ([] : List Int)).length ≤ 1048600 := by rw [frm_len]; have := hdL_len 2 (([] : List Int)).length (by omega); omega
  generalize frm 2 ([] : List Int) = FR at *
  obtain ⟨fl, hfl⟩ : ∃ fl, FR.length = fl := ⟨_, rfl⟩
  rw [hfl] at HSL hO h8 hmx
  have HFL := hide hfl
  have HSL' := hide HSL
  have HO := hide hO
  have HO0 := hide hO0
  have HO1 := hide hO1
  have HAT := hide hat
  have HBF := hide hbf
  have SP := hide hsP
  have HAL := hide hH
  have HER := hide hE
  have h8' : ((fl : Int) < 8) = False := by simp; omega
  have hzb : 0 ≤ y3 % 256 ∧ y3 % 256 < 256 := by omega
  have HZB := hide hzb
  clear hzb
  have hfn : fl ≤ 9223372036854775807 := by omega
  clear hfl HSL hO hO0 hO1 hat hbf hs hsP hyP hH hE _hy hlL
  have hne : (y1 == 2) = false := by simp; omega
  go_enter Tryd.func7, Tryd.ntmps7
  go_wp2_with fail
  refine HSL'.out.mono ?_
  rintro r w1 ⟨g1, c1, rfl, hg1, hO1, hB1⟩
  have BW : Hid (Below w.heap.size w w1) := hB1
  have SF : Hid (Seg w1 (some ⟨g1, 0, none⟩) fl FR) := (own_seg hO1).1
  have gl : Hid (g1 < w1.heap.size) := (own_seg hO1).2.2.2
  have hc1 : fl ≤ c1 := (own_seg hO1).2.1
  have HC1 : Hid (c1 ≤ maxLen) := (own_seg hO1).2.2.1
  have HAL1 := hide (HAL.out.later BW.out)
  have HER1 := hide (HER.out.below BW.out (Nat.le_refl _))
  have SP1 := hide (SP.out.below BW.out (Nat.le_refl _))
  have hz0 : Hid (6 ≤ w1.heap.size) := HER1.out.five
  clear hO1 hB1 HSL' hg1 HAL HER SP
  go_wp2_with fail
  refine (num_any 0 _).mono ?_
  rintro r w1' ⟨rfl, rfl⟩
  go_wp2_with fail
  refine (open_ver y1 _ fl c1 _ (by unfold verB; simp; omega)).mono ?_
  rintro r w2 ⟨rfl, rfl⟩
  have BB2 : Hid (Below w1.heap.size w1 w1) := Below.refl _ _
  go_wp2_with fail
  refine (num_any 2 _).mono ?_
  rintro r w3' ⟨rfl, rfl⟩
  go_wp2_with fail
  refine (bytes_any (some ⟨g1, 0, none⟩) fl c1 FR _ (SF.out.below BB2.out (Nat.le_refl _)) (by omega)).mono ?_
  rintro r w4 ⟨vb, rfl, hOb, hBb⟩
  rw [HFL.out] at hOb
  obtain ⟨gw4, cw4, rfl⟩ := own_at hOb (by omega)
  have hgw : Hid (w1.heap.size ≤ gw4) := Nat.le_trans BB2.out.size (hOb.lt gw4 rfl).1
  have MN : Mine w4 w1.heap.size gw4 fl cw4 FR := ⟨hOb, HFL.out, (own_seg hOb).2.1, (own_seg hOb).2.2.1, (hOb.lt gw4 rfl).1⟩
  have cg : w4.cell? ⟨gw4, 0, none⟩ = some (.int .u8 (FR.getD 0 0)) := by have := MN.seg.2.2 (by omega); obtain ⟨_, _, e, hc⟩ := this; cases e; have := hc 0 (by omega); rwa [Nat.zero_add] at this
  have fg : w4.frozen? ⟨gw4, 0, none⟩ = false := thaw_own hOb 0
  have MS := hide (MN.store 0 (y3 % 256))
  have BBb : Hid (Below w1.heap.size w1 w4) := BB2.out.trans (hBb.mono BB2.out.size)
  have BBc : Hid (Below w1.heap.size w1 (w4.setCell ⟨gw4, 0, none⟩ (.int .u8 (y3 % 256)))) := BBb.out.setCell (p := ⟨gw4, 0, none⟩) hgw.out _
  clear hOb hBb MN
  go_wp2_with fail
  refine (open_any 2 (some ⟨gw4, 0, none⟩) fl cw4 (FR.set 0 (y3 % 256)) a _ (by omega) MS.out.seg MS.out.2.2.1 MS.out.2.2.2.1 (byt_set HBF.out 0 HZB.out) (HAL1.out.later BBc.out) (HER1.out.below BBc.out (Nat.le_refl _))).mono ?_
  rintro r w5 ⟨val, rfl, hO3, hB3⟩
  have BBd : Hid (Below w1.heap.size w1 w5) := BBc.out.trans (hB3.mono BBc.out.size)
  have cf : w5.cell? ⟨g1, 0, none⟩ = some (.int .u8 77) := by obtain ⟨_, _, e, hc⟩ := (SF.out.below BBd.out (Nat.le_refl _)).2.2 (by omega); cases e; have := hc 0 (by omega); rw [Nat.zero_add] at this; rw [this, HAT.out.1]
  have cg2 : w5.cell? ⟨gw4, 0, none⟩ = some (.int .u8 (y3 % 256)) := by have := cell_later hB3 (World.cell?_setCell_same w4 ⟨gw4, 0, none⟩ (.int .u8 (y3 % 256)) cg); exact this
  have hOPI := HO0.out (y3 % 256)
  generalize opn 2 (FR.set 0 (y3 % 256)) = OP at hOPI hO3 ⊢
  obtain ⟨OP1, OP2, OP3⟩ := OP
  obtain ⟨pa3, pc3, hval⟩ := own_shape hO3
  simp only at hval hO3 ⊢
  subst hval
  have hOPI' := hide hOPI
  clear hO3 hB3 hOPI cg fg MS BBb BBc hgw
  by_cases hz : y3 % 256 = 77
  · rw [hz] at cg2
    clear hz hOPI'
    generalize OP1.length = ol at *
    go_wp2
    go_quiet (fail)
    generalize hw6 : w5.drewN _ = w6
    have BB6 : Hid (Below w1.heap.size w1 w6) := by rw [← hw6]; exact below_drewN BBd.out _
    clear hw6 BBd cf cg2
    go_wp2_with fail
    refine (bytes_any (some ⟨g1, 0, none⟩) fl c1 FR _ (SF.out.below BB6.out (Nat.le_refl _)) (by omega)).mono ?_
    rintro r w7 ⟨vb, rfl, hOb, hBb⟩
    rw [HFL.out] at hOb
    obtain ⟨gw7, cw7, rfl⟩ := own_at hOb (by omega)
    have hgw : Hid (w1.heap.size ≤ gw7) := Nat.le_trans BB6.out.size (hOb.lt gw7 rfl).1
    have MN : Mine w7 w6.heap.size gw7 fl cw7 FR := ⟨hOb, HFL.out, (own_seg hOb).2.1, (own_seg hOb).2.2.1, (hOb.lt gw7 rfl).1⟩
    have cg : w7.cell? ⟨gw7, 1, none⟩ = some (.int .u8 (FR.getD 1 0)) := by have := MN.seg.2.2 (by omega); obtain ⟨_, _, e, hc⟩ := this; cases e; have := hc 1 (by omega); rwa [Nat.zero_add] at this
    have fg : w7.frozen? ⟨gw7, 1, none⟩ = false := thaw_own hOb 1
    have MS := hide (MN.store 1 (y3 % 256))
    have BBb : Hid (Below w1.heap.size w1 w7) := BB6.out.trans (hBb.mono BB6.out.size)
    have BBc : Hid (Below w1.heap.size w1 (w7.setCell ⟨gw7, 1, none⟩ (.int .u8 (y3 % 256)))) := BBb.out.setCell (p := ⟨gw7, 1, none⟩) hgw.out _
    clear hOb hBb MN
    go_wp2_with fail
    refine (open_any 2 (some ⟨gw7, 0, none⟩) fl cw7 (FR.set 1 (y3 % 256)) a _ (by omega) MS.out.seg MS.out.2.2.1 MS.out.2.2.2.1 (byt_set HBF.out 1 HZB.out) (HAL1.out.later BBc.out) (HER1.out.below BBc.out (Nat.le_refl _))).mono ?_
    rintro r w8 ⟨val, rfl, hO3, hB3⟩
    have BBd : Hid (Below w1.heap.size w1 w8) := BBc.out.trans (hB3.mono BBc.out.size)
    have cf : w8.cell? ⟨g1, 1, none⟩ = some (.int .u8 84) := by obtain ⟨_, _, e, hc⟩ := (SF.out.below BBd.out (Nat.le_refl _)).2.2 (by omega); cases e; have := hc 1 (by omega); rw [Nat.zero_add] at this; rw [this, HAT.out.2]
    have cg2 : w8.cell? ⟨gw7, 1, none⟩ = some (.int .u8 (y3 % 256)) := by have := cell_later hB3 (World.cell?_setCell_same w7 ⟨gw7, 1, none⟩ (.int .u8 (y3 % 256)) cg); exact this
    have hOPI := HO1.out (y3 % 256)
    generalize opn 2 (FR.set 1 (y3 % 256)) = OP at hOPI hO3 ⊢
    obtain ⟨OP1, OP2, OP3⟩ := OP
    obtain ⟨pa3, pc3, hval⟩ := own_shape hO3
    simp only at hval hO3 ⊢
    subst hval
    have hOPI' := hide hOPI
    clear hO3 hB3 hOPI cg fg MS BBb BBc hgw
    by_cases hz : y3 % 256 = 84
    · rw [hz] at cg2
      clear hz hOPI'
      generalize OP1.length = ol at *
      go_wp2
      go_quiet (fail)
      go_wp2
      go_ret
      exact ⟨rfl, BW.out.trans ((below_drewN BBd.out _).mono BW.out.size)⟩
    · have hb : (y3 % 256 == 84) = false := by simpa using hz
      have e := hOPI'.out hz
      simp only [Prod.mk.injEq] at e
      obtain ⟨rfl, rfl, rfl⟩ := e
      clear hz hOPI'
      simp only [List.length_nil]
      go_wp2
      go_quiet (first | (go_at_call 12; refine Calls.quiet_of (num_q _ _)))
      go_wp2
      go_ret
      exact ⟨rfl, BW.out.trans ((below_drewN BBd.out _).mono BW.out.size)⟩
  · have hb : (y3 % 256 != 77) = true := by rw [bne_iff_ne]; exact hz
    have e := hOPI'.out hz
    simp only [Prod.mk.injEq] at e
    obtain ⟨rfl, rfl, rfl⟩ := e
    clear hz hOPI'
    simp only [List.length_nil]
    go_wp2
    go_quiet (first | (go_at_call 12; refine Calls.quiet_of (num_q _ _)))
    generalize hw6 : w5.drewN _ = w6
    have BB6 : Hid (Below w1.heap.size w1 w6) := by rw [← hw6]; exact below_drewN BBd.out _
    clear hw6 BBd cf cg2
    clear hb
    go_wp2_with fail
    refine (bytes_any (some ⟨g1, 0, none⟩) fl c1 FR _ (SF.out.below BB6.out (Nat.le_refl _)) (by omega)).mono ?_
    rintro r w7 ⟨vb, rfl, hOb, hBb⟩
    rw [HFL.out] at hOb
    obtain ⟨gw7, cw7, rfl⟩ := own_at hOb (by omega)
    have hgw : Hid (w1.heap.size ≤ gw7) := Nat.le_trans BB6.out.size (hOb.lt gw7 rfl).1
    have MN : Mine w7 w6.heap.size gw7 fl cw7 FR := ⟨hOb, HFL.out, (own_seg hOb).2.1, (own_seg hOb).2.2.1, (hOb.lt gw7 rfl).1⟩
    have cg : w7.cell? ⟨gw7, 1, none⟩ = some (.int .u8 (FR.getD 1 0)) := by have := MN.seg.2.2 (by omega); obtain ⟨_, _, e, hc⟩ := this; cases e; have := hc 1 (by omega); rwa [Nat.zero_add] at this
    have fg : w7.frozen? ⟨gw7, 1, none⟩ = false := thaw_own hOb 1
    have MS := hide (MN.store 1 (y3 % 256))
    have BBb : Hid (Below w1.heap.size w1 w7) := BB6.out.trans (hBb.mono BB6.out.size)
    have BBc : Hid (Below w1.heap.size w1 (w7.setCell ⟨gw7, 1, none⟩ (.int .u8 (y3 % 256)))) := BBb.out.setCell (p := ⟨gw7, 1, none⟩) hgw.out _
    clear hOb hBb MN
    go_wp2_with fail
    refine (open_any 2 (some ⟨gw7, 0, none⟩) fl cw7 (FR.set 1 (y3 % 256)) a _ (by omega) MS.out.seg MS.out.2.2.1 MS.out.2.2.2.1 (byt_set HBF.out 1 HZB.out) (HAL1.out.later BBc.out) (HER1.out.below BBc.out (Nat.le_refl _))).mono ?_
    rintro r w8 ⟨val, rfl, hO3, hB3⟩
    have BBd : Hid (Below w1.heap.size w1 w8) := BBc.out.trans (hB3.mono BBc.out.size)
    have cf : w8.cell? ⟨g1, 1, none⟩ = some (.int .u8 84) := by obtain ⟨_, _, e, hc⟩ := (SF.out.below BBd.out (Nat.le_refl _)).2.2 (by omega); cases e; have := hc 1 (by omega); rw [Nat.zero_add] at this; rw [this, HAT.out.2]
    have cg2 : w8.cell? ⟨gw7, 1, none⟩ = some (.int .u8 (y3 % 256)) := by have := cell_later hB3 (World.cell?_setCell_same w7 ⟨gw7, 1, none⟩ (.int .u8 (y3 % 256)) cg); exact this
    have hOPI := HO1.out (y3 % 256)
    generalize opn 2 (FR.set 1 (y3 % 256)) = OP at hOPI hO3 ⊢
    obtain ⟨OP1, OP2, OP3⟩ := OP
    obtain ⟨pa3, pc3, hval⟩ := own_shape hO3
    simp only at hval hO3 ⊢
    subst hval
    have hOPI' := hide hOPI
    clear hO3 hB3 hOPI cg fg MS BBb BBc hgw
    by_cases hz : y3 % 256 = 84
    · rw [hz] at cg2
      clear hz hOPI'
      generalize OP1.length = ol at *
      go_wp2
      go_quiet (fail)
      go_wp2
      go_ret
      exact ⟨rfl, BW.out.trans ((below_drewN BBd.out _).mono BW.out.size)⟩
    · have hb : (y3 % 256 == 84) = false := by simpa using hz
      have e := hOPI'.out hz
      simp only [Prod.mk.injEq] at e
      obtain ⟨rfl, rfl, rfl⟩ := e
      clear hz hOPI'
      simp only [List.length_nil]
      go_wp2
      go_quiet (first | (go_at_call 12; refine Calls.quiet_of (num_q _ _)))
      go_wp2
      go_ret
      exact ⟨rfl, BW.out.trans ((below_drewN BBd.out _).mono BW.out.size)⟩
set_option maxHeartbeats 4000000 in
set_option maxRecDepth 100000 in
theorem versions_outhi3 (y0 y1 : Int) (sa : Option Addr) (n cap : Nat) (l : List Int) (y3 : Int) (a : Nat → Addr) (w : World) (hs : Seg w sa n l) (_hy : Byt l) (hH : Hal w) (hE : Errs w a) (hb1 : ¬ y0 < 0) (hb2 : ¬ 2 < y0) (hb3 : 1048576 < (n : Int)) (hw0 : ¬ y1 < 0) (hw : 2 < y1) :
    Calls Tryd.prog 7 #[.int .i64 y0, .int .i64 y1, .slice sa n cap, .int .i64 y3] w fun e w' => e = .returned (.bool true) ∧ Below w.heap.size w w' := by
  have hn63 : n ≤ maxLen := hs.2.1
  unfold maxLen at hn63
  have hsP : Seg w none 0 [] := seg_empty w none
  have hyP : Byt [] := fun z hz => by cases hz
  have HSL := seal_any 2 none 0 0 ([] : List Int) w (by omega) hsP hyP (by omega) hH
  have hlL : (([] : List Int)).length ≤ 1048576 := by decide
  have hO := opn_own 2 ([] : List Int) hlL
  have hO0 := opn_first 2 ([] : List Int)
  have hO1 := opn_second 2 ([] : List Int)
  have hat := frm_at 2 ([] : List Int)
  have hbf := byt_frm 2 ([] : List Int) (by omega) hyP
  have h8 : 8 ≤ (frm 2 ([] : List Int)).length := by rw [frm_len]; have := hdL_len 2 (([] : List Int)).length (by omega); omega
  have hmx : (frm 2 ([] : List Int)).length ≤ 1048600 := by rw [frm_len]; have := hdL_len 2 (([] : List Int)).length (by omega); omega
  generalize frm 2 ([] : List Int) = FR at *
  obtain ⟨fl, hfl⟩ : ∃ fl, FR.length = fl := ⟨_, rfl⟩
  rw [hfl] at HSL hO h8 hmx
  have HFL := hide hfl
  have HSL' := hide HSL
  have HO := hide hO
  have HO0 := hide hO0
  have HO1 := hide hO1
  have HAT := hide hat
  have HBF := hide hbf
  have SP := hide hsP
  have HAL := hide hH
  have HER := hide hE
  have h8' : ((fl : Int) < 8) = False := by simp; omega
  have hzb : 0 ≤ y3 % 256 ∧ y3 % 256 < 256 := by omega
  have HZB := hide hzb
  clear hzb
  have hfn : fl ≤ 9223372036854775807 := by omega
  clear hfl HSL hO hO0 hO1 hat hbf hs hsP hyP hH hE _hy hlL
  have hne : (y1 == 2) = false := by simp; omega
  go_enter Tryd.func7, Tryd.ntmps7
  go_wp2_with fail
  refine HSL'.out.mono ?_
  rintro r w1 ⟨g1, c1, rfl, hg1, hO1, hB1⟩
  have BW : Hid (Below w.heap.size w w1) := hB1
  have SF : Hid (Seg w1 (some ⟨g1, 0, none⟩) fl FR) := (own_seg hO1).1
  have gl : Hid (g1 < w1.heap.size) := (own_seg hO1).2.2.2
  have hc1 : fl ≤ c1 := (own_seg hO1).2.1
  have HC1 : Hid (c1 ≤ maxLen) := (own_seg hO1).2.2.1
  have HAL1 := hide (HAL.out.later BW.out)
  have HER1 := hide (HER.out.below BW.out (Nat.le_refl _))
  have SP1 := hide (SP.out.below BW.out (Nat.le_refl _))
  have hz0 : Hid (6 ≤ w1.heap.size) := HER1.out.five
  clear hO1 hB1 HSL' hg1 HAL HER SP
  go_wp2_with fail
  refine (num_any 0 _).mono ?_
  rintro r w1' ⟨rfl, rfl⟩
  go_wp2_with fail
  refine (open_ver y1 _ fl c1 _ (by unfold verB; simp; omega)).mono ?_
  rintro r w2 ⟨rfl, rfl⟩
  have BB2 : Hid (Below w1.heap.size w1 w1) := Below.refl _ _
  go_wp2_with fail
  refine (num_any 2 _).mono ?_
  rintro r w3' ⟨rfl, rfl⟩
  go_wp2_with fail
  refine (bytes_any (some ⟨g1, 0, none⟩) fl c1 FR _ (SF.out.below BB2.out (Nat.le_refl _)) (by omega)).mono ?_
  rintro r w4 ⟨vb, rfl, hOb, hBb⟩
  rw [HFL.out] at hOb
  obtain ⟨gw4, cw4, rfl⟩ := own_at hOb (by omega)
  have hgw : Hid (w1.heap.size ≤ gw4) := Nat.le_trans BB2.out.size (hOb.lt gw4 rfl).1
  have MN : Mine w4 w1.heap.size gw4 fl cw4 FR := ⟨hOb, HFL.out, (own_seg hOb).2.1, (own_seg hOb).2.2.1, (hOb.lt gw4 rfl).1⟩
  have cg : w4.cell? ⟨gw4, 0, none⟩ = some (.int .u8 (FR.getD 0 0)) := by have := MN.seg.2.2 (by omega); obtain ⟨_, _, e, hc⟩ := this; cases e; have := hc 0 (by omega); rwa [Nat.zero_add] at this
  have fg : w4.frozen? ⟨gw4, 0, none⟩ = false := thaw_own hOb 0
  have MS := hide (MN.store 0 (y3 % 256))
  have BBb : Hid (Below w1.heap.size w1 w4) := BB2.out.trans (hBb.mono BB2.out.size)
  have BBc : Hid (Below w1.heap.size w1 (w4.setCell ⟨gw4, 0, none⟩ (.int .u8 (y3 % 256)))) := BBb.out.setCell (p := ⟨gw4, 0, none⟩) hgw.out _
  clear hOb hBb MN
  go_wp2_with fail
  refine (open_any 2 (some ⟨gw4, 0, none⟩) fl cw4 (FR.set 0 (y3 % 256)) a _ (by omega) MS.out.seg MS.out.2.2.1 MS.out.2.2.2.1 (byt_set HBF.out 0 HZB.out) (HAL1.out.later BBc.out) (HER1.out.below BBc.out (Nat.le_refl _))).mono ?_
  rintro r w5 ⟨val, rfl, hO3, hB3⟩
  have BBd : Hid (Below w1.heap.size w1 w5) := BBc.out.trans (hB3.mono BBc.out.size)
  have cf : w5.cell? ⟨g1, 0, none⟩ = some (.int .u8 77) := by obtain ⟨_, _, e, hc⟩ := (SF.out.below BBd.out (Nat.le_refl _)).2.2 (by omega); cases e; have := hc 0 (by omega); rw [Nat.zero_add] at this; rw [this, HAT.out.1]
  have cg2 : w5.cell? ⟨gw4, 0, none⟩ = some (.int .u8 (y3 % 256)) := by have := cell_later hB3 (World.cell?_setCell_same w4 ⟨gw4, 0, none⟩ (.int .u8 (y3 % 256)) cg); exact this
  have hOPI := HO0.out (y3 % 256)
  generalize opn 2 (FR.set 0 (y3 % 256)) = OP at hOPI hO3 ⊢
  obtain ⟨OP1, OP2, OP3⟩ := OP
  obtain ⟨pa3, pc3, hval⟩ := own_shape hO3
  simp only at hval hO3 ⊢
  subst hval
  have hOPI' := hide hOPI
  clear hO3 hB3 hOPI cg fg MS BBb BBc hgw
  by_cases hz : y3 % 256 = 77
  · rw [hz] at cg2
    clear hz hOPI'
    generalize OP1.length = ol at *
    go_wp2
    go_quiet (fail)
    generalize hw6 : w5.drewN _ = w6
    have BB6 : Hid (Below w1.heap.size w1 w6) := by rw [← hw6]; exact below_drewN BBd.out _
    clear hw6 BBd cf cg2
    go_wp2_with fail
    refine (bytes_any (some ⟨g1, 0, none⟩) fl c1 FR _ (SF.out.below BB6.out (Nat.le_refl _)) (by omega)).mono ?_
    rintro r w7 ⟨vb, rfl, hOb, hBb⟩
    rw [HFL.out] at hOb
    obtain ⟨gw7, cw7, rfl⟩ := own_at hOb (by omega)
    have hgw : Hid (w1.heap.size ≤ gw7) := Nat.le_trans BB6.out.size (hOb.lt gw7 rfl).1
    have MN : Mine w7 w6.heap.size gw7 fl cw7 FR := ⟨hOb, HFL.out, (own_seg hOb).2.1, (own_seg hOb).2.2.1, (hOb.lt gw7 rfl).1⟩
    have cg : w7.cell? ⟨gw7, 1, none⟩ = some (.int .u8 (FR.getD 1 0)) := by have := MN.seg.2.2 (by omega); obtain ⟨_, _, e, hc⟩ := this; cases e; have := hc 1 (by omega); rwa [Nat.zero_add] at this
    have fg : w7.frozen? ⟨gw7, 1, none⟩ = false := thaw_own hOb 1
    have MS := hide (MN.store 1 (y3 % 256))
    have BBb : Hid (Below w1.heap.size w1 w7) := BB6.out.trans (hBb.mono BB6.out.size)
    have BBc : Hid (Below w1.heap.size w1 (w7.setCell ⟨gw7, 1, none⟩ (.int .u8 (y3 % 256)))) := BBb.out.setCell (p := ⟨gw7, 1, none⟩) hgw.out _
    clear hOb hBb MN
    go_wp2_with fail
    refine (open_any 2 (some ⟨gw7, 0, none⟩) fl cw7 (FR.set 1 (y3 % 256)) a _ (by omega) MS.out.seg MS.out.2.2.1 MS.out.2.2.2.1 (byt_set HBF.out 1 HZB.out) (HAL1.out.later BBc.out) (HER1.out.below BBc.out (Nat.le_refl _))).mono ?_
    rintro r w8 ⟨val, rfl, hO3, hB3⟩
    have BBd : Hid (Below w1.heap.size w1 w8) := BBc.out.trans (hB3.mono BBc.out.size)
    have cf : w8.cell? ⟨g1, 1, none⟩ = some (.int .u8 84) := by obtain ⟨_, _, e, hc⟩ := (SF.out.below BBd.out (Nat.le_refl _)).2.2 (by omega); cases e; have := hc 1 (by omega); rw [Nat.zero_add] at this; rw [this, HAT.out.2]
    have cg2 : w8.cell? ⟨gw7, 1, none⟩ = some (.int .u8 (y3 % 256)) := by have := cell_later hB3 (World.cell?_setCell_same w7 ⟨gw7, 1, none⟩ (.int .u8 (y3 % 256)) cg); exact this
    have hOPI := HO1.out (y3 % 256)
    generalize opn 2 (FR.set 1 (y3 % 256)) = OP at hOPI hO3 ⊢
    obtain ⟨OP1, OP2, OP3⟩ := OP
    obtain ⟨pa3, pc3, hval⟩ := own_shape hO3
    simp only at hval hO3 ⊢
    subst hval
    have hOPI' := hide hOPI
    clear hO3 hB3 hOPI cg fg MS BBb BBc hgw
    by_cases hz : y3 % 256 = 84
    · rw [hz] at cg2
      clear hz hOPI'
      generalize OP1.length = ol at *
      go_wp2
      go_quiet (fail)
      go_wp2
      go_ret
      exact ⟨rfl, BW.out.trans ((below_drewN BBd.out _).mono BW.out.size)⟩
    · have hb : (y3 % 256 == 84) = false := by simpa using hz
      have e := hOPI'.out hz
      simp only [Prod.mk.injEq] at e
      obtain ⟨rfl, rfl, rfl⟩ := e
      clear hz hOPI'
      simp only [List.length_nil]
      go_wp2
      go_quiet (first | (go_at_call 12; refine Calls.quiet_of (num_q _ _)))
      go_wp2
      go_ret
      exact ⟨rfl, BW.out.trans ((below_drewN BBd.out _).mono BW.out.size)⟩
  · have hb : (y3 % 256 != 77) = true := by rw [bne_iff_ne]; exact hz
    have e := hOPI'.out hz
    simp only [Prod.mk.injEq] at e
    obtain ⟨rfl, rfl, rfl⟩ := e
    clear hz hOPI'
    simp only [List.length_nil]
    go_wp2
    go_quiet (first | (go_at_call 12; refine Calls.quiet_of (num_q _ _)))
    generalize hw6 : w5.drewN _ = w6
    have BB6 : Hid (Below w1.heap.size w1 w6) := by rw [← hw6]; exact below_drewN BBd.out _
    clear hw6 BBd cf cg2
    clear hb
    go_wp2_with fail
    refine (bytes_any (some ⟨g1, 0, none⟩) fl c1 FR _ (SF.out.below BB6.out (Nat.le_refl _)) (by omega)).mono ?_
    rintro r w7 ⟨vb, rfl, hOb, hBb⟩
    rw [HFL.out] at hOb
    obtain ⟨gw7, cw7, rfl⟩ := own_at hOb (by omega)
    have hgw : Hid (w1.heap.size ≤ gw7) := Nat.le_trans BB6.out.size (hOb.lt gw7 rfl).1
    have MN : Mine w7 w6.heap.size gw7 fl cw7 FR := ⟨hOb, HFL.out, (own_seg hOb).2.1, (own_seg hOb).2.2.1, (hOb.lt gw7 rfl).1⟩
    have cg : w7.cell? ⟨gw7, 1, none⟩ = some (.int .u8 (FR.getD 1 0)) := by have := MN.seg.2.2 (by omega); obtain ⟨_, _, e, hc⟩ := this; cases e; have := hc 1 (by omega); rwa [Nat.zero_add] at this
    have fg : w7.frozen? ⟨gw7, 1, none⟩ = false := thaw_own hOb 1
    have MS := hide (MN.store 1 (y3 % 256))
    have BBb : Hid (Below w1.heap.size w1 w7) := BB6.out.trans (hBb.mono BB6.out.size)
    have BBc : Hid (Below w1.heap.size w1 (w7.setCell ⟨gw7, 1, none⟩ (.int .u8 (y3 % 256)))) := BBb.out.setCell (p := ⟨gw7, 1, none⟩) hgw.out _
    clear hOb hBb MN
    go_wp2_with fail
    refine (open_any 2 (some ⟨gw7, 0, none⟩) fl cw7 (FR.set 1 (y3 % 256)) a _ (by omega) MS.out.seg MS.out.2.2.1 MS.out.2.2.2.1 (byt_set HBF.out 1 HZB.out) (HAL1.out.later BBc.out) (HER1.out.below BBc.out (Nat.le_refl _))).mono ?_
    rintro r w8 ⟨val, rfl, hO3, hB3⟩
    have BBd : Hid (Below w1.heap.size w1 w8) := BBc.out.trans (hB3.mono BBc.out.size)
    have cf : w8.cell? ⟨g1, 1, none⟩ = some (.int .u8 84) := by obtain ⟨_, _, e, hc⟩ := (SF.out.below BBd.out (Nat.le_refl _)).2.2 (by omega); cases e; have := hc 1 (by omega); rw [Nat.zero_add] at this; rw [this, HAT.out.2]
    have cg2 : w8.cell? ⟨gw7, 1, none⟩ = some (.int .u8 (y3 % 256)) := by have := cell_later hB3 (World.cell?_setCell_same w7 ⟨gw7, 1, none⟩ (.int .u8 (y3 % 256)) cg); exact this
    have hOPI := HO1.out (y3 % 256)
    generalize opn 2 (FR.set 1 (y3 % 256)) = OP at hOPI hO3 ⊢
    obtain ⟨OP1, OP2, OP3⟩ := OP
    obtain ⟨pa3, pc3, hval⟩ := own_shape hO3
    simp only at hval hO3 ⊢
    subst hval
    have hOPI' := hide hOPI
    clear hO3 hB3 hOPI cg fg MS BBb BBc hgw
    by_cases hz : y3 % 256 = 84
    · rw [hz] at cg2
      clear hz hOPI'
      generalize OP1.length = ol at *
      go_wp2
      go_quiet (fail)
      go_wp2
      go_ret
      exact ⟨rfl, BW.out.trans ((below_drewN BBd.out _).mono BW.out.size)⟩
    · have hb : (y3 % 256 == 84) = false := by simpa using hz
      have e := hOPI'.out hz
      simp only [Prod.mk.injEq] at e
      obtain ⟨rfl, rfl, rfl⟩ := e
      clear hz hOPI'
      simp only [List.length_nil]
      go_wp2
      go_quiet (first | (go_at_call 12; refine Calls.quiet_of (num_q _ _)))
      go_wp2
      go_ret
      exact ⟨rfl, BW.out.trans ((below_drewN BBd.out _).mono BW.out.size)⟩
set_option maxHeartbeats 4000000 in
set_option maxRecDepth 100000 in
theorem versions_other3 (y0 y1 : Int) (sa : Option Addr) (n cap : Nat) (l : List Int) (y3 : Int) (a : Nat → Addr) (w : World) (hs : Seg w sa n l) (_hy : Byt l) (hH : Hal w) (hE : Errs w a) (hb1 : ¬ y0 < 0) (hb2 : ¬ 2 < y0) (hb3 : 1048576 < (n : Int)) (u : Nat) (hw : y1 = (u : Int)) (hu : u ≤ 2) (huv : u ≠ 2) :
    Calls Tryd.prog 7 #[.int .i64 y0, .int .i64 y1, .slice sa n cap, .int .i64 y3] w fun e w' => e = .returned (.bool true) ∧ Below w.heap.size w w' := by
  have hn63 : n ≤ maxLen := hs.2.1
  unfold maxLen at hn63
  have hsP : Seg w none 0 [] := seg_empty w none
  have hyP : Byt [] := fun z hz => by cases hz
  have HSL := seal_any 2 none 0 0 ([] : List Int) w (by omega) hsP hyP (by omega) hH
  have hlL : (([] : List Int)).length ≤ 1048576 := by decide
  have hO := opn_own 2 ([] : List Int) hlL
  have hO0 := opn_first 2 ([] : List Int)
  have hO1 := opn_second 2 ([] : List Int)
  have hat := frm_at 2 ([] : List Int)
  have hbf := byt_frm 2 ([] : List Int) (by omega) hyP
  have h8 : 8 ≤ (frm 2 ([] : List Int)).length := by rw [frm_len]; have := hdL_len 2 (([] : List Int)).length (by omega); omega
  have hmx : (frm 2 ([] : List Int)).length ≤ 1048600 := by rw [frm_len]; have := hdL_len 2 (([] : List Int)).length (by omega); omega
  have hOW := opn_other 2 u ([] : List Int) huv
  generalize frm 2 ([] : List Int) = FR at *
  obtain ⟨fl, hfl⟩ : ∃ fl, FR.length = fl := ⟨_, rfl⟩
  rw [hfl] at HSL hO h8 hmx
  have HFL := hide hfl
  have HSL' := hide HSL
  have HO := hide hO
  have HO0 := hide hO0
  have HO1 := hide hO1
  have HAT := hide hat
  have HBF := hide hbf
  have HOW := hide hOW
  clear hOW
  have SP := hide hsP
  have HAL := hide hH
  have HER := hide hE
  have h8' : ((fl : Int) < 8) = False := by simp; omega
  have hzb : 0 ≤ y3 % 256 ∧ y3 % 256 < 256 := by omega
  have HZB := hide hzb
  clear hzb
  have hfn : fl ≤ 9223372036854775807 := by omega
  clear hfl HSL hO hO0 hO1 hat hbf hs hsP hyP hH hE _hy hlL
  subst hw
  have hne : ((u : Int) == 2) = false := by simp; omega
  have w1_ : ¬ ((u : Int) < 0) := by omega
  have w2_ : ¬ (2 < (u : Int)) := by omega
  go_enter Tryd.func7, Tryd.ntmps7
  go_wp2_with fail
  refine HSL'.out.mono ?_
  rintro r w1 ⟨g1, c1, rfl, hg1, hO1, hB1⟩
  have BW : Hid (Below w.heap.size w w1) := hB1
  have SF : Hid (Seg w1 (some ⟨g1, 0, none⟩) fl FR) := (own_seg hO1).1
  have gl : Hid (g1 < w1.heap.size) := (own_seg hO1).2.2.2
  have hc1 : fl ≤ c1 := (own_seg hO1).2.1
  have HC1 : Hid (c1 ≤ maxLen) := (own_seg hO1).2.2.1
  have HAL1 := hide (HAL.out.later BW.out)
  have HER1 := hide (HER.out.below BW.out (Nat.le_refl _))
  have SP1 := hide (SP.out.below BW.out (Nat.le_refl _))
  have hz0 : Hid (6 ≤ w1.heap.size) := HER1.out.five
  clear hO1 hB1 HSL' hg1 HAL HER SP
  go_wp2_with fail
  refine (num_any 0 _).mono ?_
  rintro r w1' ⟨rfl, rfl⟩
  go_wp2_with fail
  refine (open_any u (some ⟨g1, 0, none⟩) fl c1 FR a w1 (by omega) SF.out hc1 HC1.out HBF.out HAL1.out HER1.out).mono ?_
  rintro r w2 ⟨val, rfl, hO2, hB2⟩
  rw [HOW.out] at hO2 ⊢
  have BB2 := hide hB2
  obtain ⟨pa, pc, rfl⟩ := own_nil hO2
  clear hO2 hB2
  go_wp2_with fail
  refine (num_any 72 _).mono ?_
  rintro r w3' ⟨rfl, rfl⟩
  go_wp2_with fail
  refine (bytes_any (some ⟨g1, 0, none⟩) fl c1 FR _ (SF.out.below BB2.out (Nat.le_refl _)) (by omega)).mono ?_
  rintro r w4 ⟨vb, rfl, hOb, hBb⟩
  rw [HFL.out] at hOb
  obtain ⟨gw4, cw4, rfl⟩ := own_at hOb (by omega)
  have hgw : Hid (w1.heap.size ≤ gw4) := Nat.le_trans BB2.out.size (hOb.lt gw4 rfl).1
  have MN : Mine w4 w2.heap.size gw4 fl cw4 FR := ⟨hOb, HFL.out, (own_seg hOb).2.1, (own_seg hOb).2.2.1, (hOb.lt gw4 rfl).1⟩
  have cg : w4.cell? ⟨gw4, 0, none⟩ = some (.int .u8 (FR.getD 0 0)) := by have := MN.seg.2.2 (by omega); obtain ⟨_, _, e, hc⟩ := this; cases e; have := hc 0 (by omega); rwa [Nat.zero_add] at this
  have fg : w4.frozen? ⟨gw4, 0, none⟩ = false := thaw_own hOb 0
  have MS := hide (MN.store 0 (y3 % 256))
  have BBb : Hid (Below w1.heap.size w1 w4) := BB2.out.trans (hBb.mono BB2.out.size)
  have BBc : Hid (Below w1.heap.size w1 (w4.setCell ⟨gw4, 0, none⟩ (.int .u8 (y3 % 256)))) := BBb.out.setCell (p := ⟨gw4, 0, none⟩) hgw.out _
  clear hOb hBb MN
  go_wp2_with fail
  refine (open_any 2 (some ⟨gw4, 0, none⟩) fl cw4 (FR.set 0 (y3 % 256)) a _ (by omega) MS.out.seg MS.out.2.2.1 MS.out.2.2.2.1 (byt_set HBF.out 0 HZB.out) (HAL1.out.later BBc.out) (HER1.out.below BBc.out (Nat.le_refl _))).mono ?_
  rintro r w5 ⟨val, rfl, hO3, hB3⟩
  have BBd : Hid (Below w1.heap.size w1 w5) := BBc.out.trans (hB3.mono BBc.out.size)
  have cf : w5.cell? ⟨g1, 0, none⟩ = some (.int .u8 77) := by obtain ⟨_, _, e, hc⟩ := (SF.out.below BBd.out (Nat.le_refl _)).2.2 (by omega); cases e; have := hc 0 (by omega); rw [Nat.zero_add] at this; rw [this, HAT.out.1]
  have cg2 : w5.cell? ⟨gw4, 0, none⟩ = some (.int .u8 (y3 % 256)) := by have := cell_later hB3 (World.cell?_setCell_same w4 ⟨gw4, 0, none⟩ (.int .u8 (y3 % 256)) cg); exact this
  have hOPI := HO0.out (y3 % 256)
  generalize opn 2 (FR.set 0 (y3 % 256)) = OP at hOPI hO3 ⊢
  obtain ⟨OP1, OP2, OP3⟩ := OP
  obtain ⟨pa3, pc3, hval⟩ := own_shape hO3
  simp only at hval hO3 ⊢
  subst hval
  have hOPI' := hide hOPI
  clear hO3 hB3 hOPI cg fg MS BBb BBc hgw
  by_cases hz : y3 % 256 = 77
  · rw [hz] at cg2
    clear hz hOPI'
    generalize OP1.length = ol at *
    go_wp2
    go_quiet (fail)
    generalize hw6 : w5.drewN _ = w6
    have BB6 : Hid (Below w1.heap.size w1 w6) := by rw [← hw6]; exact below_drewN BBd.out _
    clear hw6 BBd cf cg2
    go_wp2_with fail
    refine (bytes_any (some ⟨g1, 0, none⟩) fl c1 FR _ (SF.out.below BB6.out (Nat.le_refl _)) (by omega)).mono ?_
    rintro r w7 ⟨vb, rfl, hOb, hBb⟩
    rw [HFL.out] at hOb
    obtain ⟨gw7, cw7, rfl⟩ := own_at hOb (by omega)
    have hgw : Hid (w1.heap.size ≤ gw7) := Nat.le_trans BB6.out.size (hOb.lt gw7 rfl).1
    have MN : Mine w7 w6.heap.size gw7 fl cw7 FR := ⟨hOb, HFL.out, (own_seg hOb).2.1, (own_seg hOb).2.2.1, (hOb.lt gw7 rfl).1⟩
    have cg : w7.cell? ⟨gw7, 1, none⟩ = some (.int .u8 (FR.getD 1 0)) := by have := MN.seg.2.2 (by omega); obtain ⟨_, _, e, hc⟩ := this; cases e; have := hc 1 (by omega); rwa [Nat.zero_add] at this
    have fg : w7.frozen? ⟨gw7, 1, none⟩ = false := thaw_own hOb 1
    have MS := hide (MN.store 1 (y3 % 256))
    have BBb : Hid (Below w1.heap.size w1 w7) := BB6.out.trans (hBb.mono BB6.out.size)
    have BBc : Hid (Below w1.heap.size w1 (w7.setCell ⟨gw7, 1, none⟩ (.int .u8 (y3 % 256)))) := BBb.out.setCell (p := ⟨gw7, 1, none⟩) hgw.out _
    clear hOb hBb MN
    go_wp2_with fail
    refine (open_any 2 (some ⟨gw7, 0, none⟩) fl cw7 (FR.set 1 (y3 % 256)) a _ (by omega) MS.out.seg MS.out.2.2.1 MS.out.2.2.2.1 (byt_set HBF.out 1 HZB.out) (HAL1.out.later BBc.out) (HER1.out.below BBc.out (Nat.le_refl _))).mono ?_
    rintro r w8 ⟨val, rfl, hO3, hB3⟩
    have BBd : Hid (Below w1.heap.size w1 w8) := BBc.out.trans (hB3.mono BBc.out.size)
    have cf : w8.cell? ⟨g1, 1, none⟩ = some (.int .u8 84) := by obtain ⟨_, _, e, hc⟩ := (SF.out.below BBd.out (Nat.le_refl _)).2.2 (by omega); cases e; have := hc 1 (by omega); rw [Nat.zero_add] at this; rw [this, HAT.out.2]
    have cg2 : w8.cell? ⟨gw7, 1, none⟩ = some (.int .u8 (y3 % 256)) := by have := cell_later hB3 (World.cell?_setCell_same w7 ⟨gw7, 1, none⟩ (.int .u8 (y3 % 256)) cg); exact this
    have hOPI := HO1.out (y3 % 256)
    generalize opn 2 (FR.set 1 (y3 % 256)) = OP at hOPI hO3 ⊢
    obtain ⟨OP1, OP2, OP3⟩ := OP
    obtain ⟨pa3, pc3, hval⟩ := own_shape hO3
    simp only at hval hO3 ⊢
    subst hval
    have hOPI' := hide hOPI
    clear hO3 hB3 hOPI cg fg MS BBb BBc hgw
    by_cases hz : y3 % 256 = 84
    · rw [hz] at cg2
      clear hz hOPI'
      generalize OP1.length = ol at *
      go_wp2
      go_quiet (fail)
      go_wp2
      go_ret
      exact ⟨rfl, BW.out.trans ((below_drewN BBd.out _).mono BW.out.size)⟩
    · have hb : (y3 % 256 == 84) = false := by simpa using hz
      have e := hOPI'.out hz
      simp only [Prod.mk.injEq] at e
      obtain ⟨rfl, rfl, rfl⟩ := e
      clear hz hOPI'
      simp only [List.length_nil]
      go_wp2
      go_quiet (first | (go_at_call 12; refine Calls.quiet_of (num_q _ _)))
      go_wp2
      go_ret
      exact ⟨rfl, BW.out.trans ((below_drewN BBd.out _).mono BW.out.size)⟩
  · have hb : (y3 % 256 != 77) = true := by rw [bne_iff_ne]; exact hz
    have e := hOPI'.out hz
    simp only [Prod.mk.injEq] at e
    obtain ⟨rfl, rfl, rfl⟩ := e
    clear hz hOPI'
    simp only [List.length_nil]
    go_wp2
    go_quiet (first | (go_at_call 12; refine Calls.quiet_of (num_q _ _)))
    generalize hw6 : w5.drewN _ = w6
    have BB6 : Hid (Below w1.heap.size w1 w6) := by rw [← hw6]; exact below_drewN BBd.out _
    clear hw6 BBd cf cg2
    clear hb
    go_wp2_with fail
    refine (bytes_any (some ⟨g1, 0, none⟩) fl c1 FR _ (SF.out.below BB6.out (Nat.le_refl _)) (by omega)).mono ?_
    rintro r w7 ⟨vb, rfl, hOb, hBb⟩
    rw [HFL.out] at hOb
    obtain ⟨gw7, cw7, rfl⟩ := own_at hOb (by omega)
    have hgw : Hid (w1.heap.size ≤ gw7) := Nat.le_trans BB6.out.size (hOb.lt gw7 rfl).1
    have MN : Mine w7 w6.heap.size gw7 fl cw7 FR := ⟨hOb, HFL.out, (own_seg hOb).2.1, (own_seg hOb).2.2.1, (hOb.lt gw7 rfl).1⟩
    have cg : w7.cell? ⟨gw7, 1, none⟩ = some (.int .u8 (FR.getD 1 0)) := by have := MN.seg.2.2 (by omega); obtain ⟨_, _, e, hc⟩ := this; cases e; have := hc 1 (by omega); rwa [Nat.zero_add] at this
    have fg : w7.frozen? ⟨gw7, 1, none⟩ = false := thaw_own hOb 1
    have MS := hide (MN.store 1 (y3 % 256))
    have BBb : Hid (Below w1.heap.size w1 w7) := BB6.out.trans (hBb.mono BB6.out.size)
    have BBc : Hid (Below w1.heap.size w1 (w7.setCell ⟨gw7, 1, none⟩ (.int .u8 (y3 % 256)))) := BBb.out.setCell (p := ⟨gw7, 1, none⟩) hgw.out _
    clear hOb hBb MN
    go_wp2_with fail
    refine (open_any 2 (some ⟨gw7, 0, none⟩) fl cw7 (FR.set 1 (y3 % 256)) a _ (by omega) MS.out.seg MS.out.2.2.1 MS.out.2.2.2.1 (byt_set HBF.out 1 HZB.out) (HAL1.out.later BBc.out) (HER1.out.below BBc.out (Nat.le_refl _))).mono ?_
    rintro r w8 ⟨val, rfl, hO3, hB3⟩
    have BBd : Hid (Below w1.heap.size w1 w8) := BBc.out.trans (hB3.mono BBc.out.size)
    have cf : w8.cell? ⟨g1, 1, none⟩ = some (.int .u8 84) := by obtain ⟨_, _, e, hc⟩ := (SF.out.below BBd.out (Nat.le_refl _)).2.2 (by omega); cases e; have := hc 1 (by omega); rw [Nat.zero_add] at this; rw [this, HAT.out.2]
    have cg2 : w8.cell? ⟨gw7, 1, none⟩ = some (.int .u8 (y3 % 256)) := by have := cell_later hB3 (World.cell?_setCell_same w7 ⟨gw7, 1, none⟩ (.int .u8 (y3 % 256)) cg); exact this
    have hOPI := HO1.out (y3 % 256)
    generalize opn 2 (FR.set 1 (y3 % 256)) = OP at hOPI hO3 ⊢
    obtain ⟨OP1, OP2, OP3⟩ := OP
    obtain ⟨pa3, pc3, hval⟩ := own_shape hO3
    simp only at hval hO3 ⊢
    subst hval
    have hOPI' := hide hOPI
    clear hO3 hB3 hOPI cg fg MS BBb BBc hgw
    by_cases hz : y3 % 256 = 84
    · rw [hz] at cg2
      clear hz hOPI'
      generalize OP1.length = ol at *
      go_wp2
      go_quiet (fail)
      go_wp2
      go_ret
      exact ⟨rfl, BW.out.trans ((below_drewN BBd.out _).mono BW.out.size)⟩
    · have hb : (y3 % 256 == 84) = false := by simpa using hz
      have e := hOPI'.out hz
      simp only [Prod.mk.injEq] at e
      obtain ⟨rfl, rfl, rfl⟩ := e
      clear hz hOPI'
      simp only [List.length_nil]
      go_wp2
      go_quiet (first | (go_at_call 12; refine Calls.quiet_of (num_q _ _)))
      go_wp2
      go_ret
      exact ⟨rfl, BW.out.trans ((below_drewN BBd.out _).mono BW.out.size)⟩
end Go.Proofs.YtnlohbfolphafaaDoor
