/- The contract of the statements' helper opens. -/
import Derived.Test.YtnlohbfolphafaaDoorFrOpn
namespace Go.Proofs.YtnlohbfolphafaaDoor
open Go.RowKit Go.Wire1 Go.Crc2 Go.Frm

set_option maxHeartbeats 4000000 in
set_option maxRecDepth 100000 in
theorem opens_any (y0 : Int) (sa : Option Addr) (n cap : Nat) (l : List Int) (a : Nat → Addr) (w : World) (hs : Seg w sa n l) (hnc : n ≤ cap) (hc : cap ≤ maxLen) (hy : Byt l) (hreach : n ≤ 140737488351232) (hH : Hal w) (hE : Errs w a) :
    Calls Tryd.prog 23 #[.int .i64 y0, .slice sa n cap] w fun e w' => e = .returned (.bool true) ∧ Below w.heap.size w w' := by
  have HL := hide hs.1
  have SP := hide hs
  have HY := hide hy
  have HAL := hide hH
  have HER := hide hE
  have hS1 := fun sa cap W => open_all y0 sa n cap l a W
  have hS2 := fun W h => ropen_all y0 sa n cap l W h hnc hc hy (by omega)
  simp only [OpPost] at hS1 hS2
  obtain ⟨A, kv, ev, hA⟩ : ∃ A kv ev, opR y0 l = (A, kv, ev) := ⟨_, _, _, rfl⟩
  simp only [hA] at hS1 hS2
  obtain ⟨na, hna⟩ : ∃ na, A.length = na := ⟨_, rfl⟩
  simp only [hna] at hS1 hS2
  have HS1 := hide hS1
  have HS2 := hide hS2
  obtain ⟨i, hi⟩ : ∃ i, i = n - 1 - n / 3 := ⟨_, rfl⟩
  obtain ⟨xs, hxs⟩ : ∃ xs, xs = l.set i (bx (l.getD i 0) 16) := ⟨_, rfl⟩
  have hxl : xs.length = n := by rw [hxs, List.length_set, hs.1]
  have hxy : Byt xs := by
    rw [hxs]; intro z hz
    rcases List.mem_or_eq_of_mem_set hz with h | h
    · exact hy z h
    · rw [h]; exact bx_byt (byt_at hy i) (by decide)
  have hS3 := fun sa cap W => open_all y0 sa n cap xs a W
  have hS4 := fun sa cap W h hnc hc => ropen_all y0 sa n cap xs W h hnc hc hxy (by omega)
  simp only [OpPost] at hS3 hS4
  obtain ⟨C, kw, ew, hC⟩ : ∃ C kw ew, opR y0 xs = (C, kw, ew) := ⟨_, _, _, rfl⟩
  simp only [hC] at hS3 hS4
  obtain ⟨nc, hncl⟩ : ∃ nc, C.length = nc := ⟨_, rfl⟩
  simp only [hncl] at hS3 hS4
  have HS3 := hide hS3
  have HS4 := hide hS4
  have HXS := hide hxs
  have HXL := hide hxl
  have HXY := hide hxy
  have HI := hide hi
  clear hS1 hS2 hS3 hS4 hA hC hna hncl hxs hxl hxy hs hy hH hE hnc hc hi
  go_enter Tryd.func23, Tryd.ntmps23
  go_wp2_with fail
  refine (room_any sa n cap l w SP.out hreach).mono ?_
  rintro r_ w4 ⟨gL, cL, rfl, hM4, hB4⟩
  have M4 := hide hM4
  have BW4 : Hid (Below w.heap.size w w4) := hB4
  have gl4 : Hid (gL < w4.heap.size) := (hM4.1.lt gL rfl).2
  have glo : Hid (w.heap.size ≤ gL) := hM4.2.2.2.2
  have hcL : n + 3 ≤ cL := hM4.2.2.1
  have hcMx : Hid (cL ≤ maxLen) := hM4.2.2.2.1
  have hcM : cL ≤ 9223372036854775807 := by have := hM4.2.2.2.1; unfold maxLen at this; omega
  have hn3 : n ≤ cL := by omega
  clear hM4 hB4
  go_wp2_with fail
  have SG4 : Seg w4 (some ⟨gL, 0, none⟩) n l := by
    have := M4.out.seg.take (k := n) (by omega)
    rwa [List.take_append_of_le_length (by have := HL.out; omega), List.take_of_length_le (by have := HL.out; omega)] at this
  refine (HS1.out (some ⟨gL, 0, none⟩) cL w4 SG4 hn3 hcMx.out HY.out (HAL.out.later BW4.out) (HER.out.below BW4.out (Nat.le_refl _))).mono ?_
  rintro r_ w5 ⟨va, rfl, hO5, hB5⟩
  obtain ⟨aa, ca, rfl⟩ := own_shape hO5
  have SA5 : Hid (Seg w5 aa na A) := own_segN hO5
  have apA : Hid (∀ x, aa = some x → 0 < na → x.block ≠ gL) := own_apart hO5 gl4.out
  have BW5 : Hid (Below w.heap.size w w5) := BW4.out.trans (hB5.mono BW4.out.size)
  have M5 := hide (M4.out.below hB5 (Nat.le_refl _))
  have gl5 := hide (Nat.lt_of_lt_of_le gl4.out hB5.size)
  clear hO5 hB5 SG4 M4 BW4 gl4
  go_wp2_with fail
  refine (HS2.out w5 (SP.out.below BW5.out (Nat.le_refl _))).mono ?_
  rintro r_ w6 ⟨vB, rfl, hO6, hB6⟩
  obtain ⟨ba, cba, rfl⟩ := own_shape hO6
  have SB6 : Hid (Seg w6 ba na A) := own_segN hO6
  have apB : Hid (∀ x, ba = some x → 0 < na → x.block ≠ gL) := own_apart hO6 gl5.out
  have BW6 : Hid (Below w.heap.size w w6) := BW5.out.trans (hB6.mono BW5.out.size)
  have M6 := hide (M5.out.below hB6 (Nat.le_refl _))
  have SA6 := hide (SA5.out.below hB6 (Nat.le_refl _))
  clear hO6 hB6 M5 BW5 gl5 SA5
  go_wp2_with fail
  refine (same_bel aa ba na na ca cba A A w6 SA6.out SB6.out).mono ?_
  rintro r_ w7 ⟨rfl, hB7⟩
  rw [same_yes rfl]
  have BW7 : Hid (Below w.heap.size w w7) := BW6.out.trans (hB7.mono BW6.out.size)
  have M7 := hide (M6.out.below hB7 (Nat.le_refl _))
  have SA7 := hide (SA6.out.below hB7 (Nat.le_refl _))
  have SB7 := hide (SB6.out.below hB7 (Nat.le_refl _))
  clear hB7 BW6 M6 SA6 SB6
  go_wp2_with fail
  refine (num_any (ev : Int) _).mono ?_
  rintro r_ w7' ⟨rfl, rfl⟩
  go_wp2_with fail
  refine (room_any sa n cap l w7 (SP.out.below BW7.out (Nat.le_refl _)) hreach).mono ?_
  rintro r_ w8 ⟨g8, c8, rfl, hM8, hB8⟩
  have R8 := hide hM8.seg
  have BW8 : Hid (Below w.heap.size w w8) := BW7.out.trans (hB8.mono BW7.out.size)
  have M8 := hide (M7.out.below hB8 (Nat.le_refl _))
  have SA8 := hide (SA7.out.below hB8 (Nat.le_refl _))
  have SB8 := hide (SB7.out.below hB8 (Nat.le_refl _))
  clear hM8 hB8 BW7 M7 SA7 SB7
  go_wp2_with fail
  refine (same_bel (some ⟨gL, 0, none⟩) (some ⟨g8, 0, none⟩) (n + 3) (n + 3) cL c8 (l ++ spare) (l ++ spare) w8 M8.out.seg R8.out).mono ?_
  rintro r_ w9 ⟨rfl, hB9⟩
  rw [same_yes rfl]
  have BW9 : Hid (Below w.heap.size w w9) := BW8.out.trans (hB9.mono BW8.out.size)
  have M9 := hide (M8.out.below hB9 (Nat.le_refl _))
  have SA9 := hide (SA8.out.below hB9 (Nat.le_refl _))
  have SB9 := hide (SB8.out.below hB9 (Nat.le_refl _))
  clear hB9 BW8 M8 SA8 SB8 R8
  by_cases h0 : n = 0
  · have q0 : ((n : Int) == 0) = true := by simp; omega
    have q1 : (n : Int) = 0 := by omega
    clear h0 M9 SA9 SB9 HS3 HS4
    go_wp2
    go_ret
    exact ⟨rfl, BW9.out⟩
  · have q0 : ((n : Int) == 0) = false := by simp; omega
    have hil : i < l.length := by have := HL.out; have := HI.out; omega
    have hin : i < n := by have := HL.out; omega
    obtain ⟨d, hd⟩ : ∃ d, d = n / 3 := ⟨_, rfl⟩
    have d1 : (n : Int) / 3 = (d : Int) := by omega
    have d2 : Int.tdiv (n : Int) 3 = (d : Int) := by rw [Int.tdiv_eq_ediv_of_nonneg (by omega)]; exact d1
    have d3 : (n : Int) - 1 - (d : Int) = (i : Int) := by have := HI.out; omega
    have d4 : d ≤ n := by omega
    have hz := byt_at HY.out i
    have MS := M9.out.store i (bx (l.getD i 0) 16)
    rw [List.set_append_left _ _ hil, ← HXS.out] at MS
    obtain ⟨b', o', e', hc'⟩ := M9.out.seg.2.2 (by omega)
    cases e'
    have hck := hc' i (by omega)
    rw [Nat.zero_add, show (l ++ spare).getD i 0 = l.getD i 0 by rw [List.getD, List.getElem?_append_left hil]; rfl] at hck
    have hfr := M9.out.1.frozenAt i
    have ex : bits .xor .u8 (l.getD i 0) 16 = bx (l.getD i 0) 16 := u8_xor _ _ hz.1 hz.2 (by decide) (by decide)
    have SGA : Hid (Seg (w9.setCell ⟨gL, i, none⟩ (.int .u8 (bx (l.getD i 0) 16))) (some ⟨gL, 0, none⟩) n xs) := by
      have := MS.seg.take (k := n) (by omega)
      rwa [List.take_append_of_le_length (by have := HXL.out; omega), List.take_of_length_le (by have := HXL.out; omega)] at this
    have TK := (Tch.refl gL none w9).setB (o := i) (.int .u8 (bx (l.getD i 0) 16))
    have BWA : Hid (Below w.heap.size w (w9.setCell ⟨gL, i, none⟩ (.int .u8 (bx (l.getD i 0) 16)))) := BW9.out.trans (TK.below glo.out (fun j e => by cases e) BW9.out.size)
    have SAA := hide (TK.seg SA9.out (fun x e hn => ⟨apA.out x e hn, by intro q; cases q⟩))
    have SBA := hide (TK.seg SB9.out (fun x e hn => ⟨apB.out x e hn, by intro q; cases q⟩))
    clear hc' MS TK hz hd h0 M9 SA9 SB9 BW9 hil
    generalize l.getD i 0 = z at *
    generalize bx z 16 = y at *
    have i1 : (i : Int) < (n : Int) + 3 := by omega
    go_wp2_with fail
    generalize w9.setCell ⟨gL, i, none⟩ (.int .u8 y) = wr at *
    refine (HS3.out (some ⟨gL, 0, none⟩) cL wr SGA.out hn3 hcMx.out HXY.out (HAL.out.later BWA.out) (HER.out.below BWA.out (Nat.le_refl _))).mono ?_
    rintro r_ wB ⟨vc, rfl, hOB, hBB⟩
    obtain ⟨xc, yc, rfl⟩ := own_shape hOB
    have SCB : Hid (Seg wB xc nc C) := own_segN hOB
    have BWB : Hid (Below w.heap.size w wB) := BWA.out.trans (hBB.mono BWA.out.size)
    have SAB := hide (SAA.out.below hBB (Nat.le_refl _))
    have SBB := hide (SBA.out.below hBB (Nat.le_refl _))
    have SGB := hide (SGA.out.below hBB (Nat.le_refl _))
    clear hOB hBB BWA SAA SBA SGA
    go_wp2_with fail
    refine (bytes_any (some ⟨gL, 0, none⟩) n cL xs wB SGB.out (by omega)).mono ?_
    rintro r_ wC ⟨vd, rfl, hOC, hBC⟩
    obtain ⟨xd, yd, rfl, hyd1, hyd2, sdc⟩ := seg_own hOC
    rw [HXL.out] at hyd1 sdc ⊢
    have SDC := hide sdc
    have HYD := hide hyd2
    have BWC : Hid (Below w.heap.size w wC) := BWB.out.trans (hBC.mono BWB.out.size)
    have SAC := hide (SAB.out.below hBC (Nat.le_refl _))
    have SBC := hide (SBB.out.below hBC (Nat.le_refl _))
    have SCC := hide (SCB.out.below hBC (Nat.le_refl _))
    clear hOC hBC BWB SAB SBB SCB SGB sdc hyd2
    go_wp2_with fail
    refine (HS4.out xd yd wC SDC.out hyd1 HYD.out).mono ?_
    rintro r_ wD ⟨ve, rfl, hOD, hBD⟩
    obtain ⟨xe, ye, rfl⟩ := own_shape hOD
    have SDD : Hid (Seg wD xe nc C) := own_segN hOD
    have BWD : Hid (Below w.heap.size w wD) := BWC.out.trans (hBD.mono BWC.out.size)
    have SAD := hide (SAC.out.below hBD (Nat.le_refl _))
    have SBD := hide (SBC.out.below hBD (Nat.le_refl _))
    have SCD := hide (SCC.out.below hBD (Nat.le_refl _))
    clear hOD hBD BWC SAC SBC SCC SDC
    go_wp2_with fail
    refine (same_bel xc xe nc nc yc ye C C wD SCD.out SDD.out).mono ?_
    rintro r_ wE ⟨rfl, hBE⟩
    rw [same_yes rfl]
    have BWE : Hid (Below w.heap.size w wE) := BWD.out.trans (hBE.mono BWD.out.size)
    have SAE := hide (SAD.out.below hBE (Nat.le_refl _))
    have SBE := hide (SBD.out.below hBE (Nat.le_refl _))
    clear hBE BWD SAD SBD SCD SDD
    go_wp2_with fail
    refine (same_bel aa ba na na ca cba A A wE SAE.out SBE.out).mono ?_
    rintro r_ wF ⟨rfl, hBF⟩
    rw [same_yes rfl]
    have BWF : Hid (Below w.heap.size w wF) := BWE.out.trans (hBF.mono BWE.out.size)
    clear hBF BWE SAE SBE
    go_wp2_with fail
    refine (num_any (ew : Int) _).mono ?_
    rintro r_ wF' ⟨rfl, rfl⟩
    go_wp2
    go_ret
    exact ⟨rfl, BWF.out⟩
end Go.Proofs.YtnlohbfolphafaaDoor
