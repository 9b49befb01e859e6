/- FrameExpect's walk. -/
import Derived.Test.YtnlohbfolphafaaDoorFrCut
namespace Go.Proofs.YtnlohbfolphafaaDoor
open Go.RowKit Go.Wire1 Go.Crc2 Go.Frm

set_option maxHeartbeats 4000000 in
set_option maxRecDepth 100000 in
theorem expect_good (y0 y1 : Int) (sa : Option Addr) (n cap : Nat) (l : List Int) (sb : Option Addr) (m cbp : Nat) (k : List Int) (y4 : Int) (a : Nat → Addr) (w : World) (hs : Seg w sa n l) (ht : Seg w sb m k) (hy : Byt l) (hz : Byt k) (hH : Hal w) (hE : Errs w a) (v u : Nat) (hv : v ≤ 2) (hu : u ≤ 2) (hy0 : y0 = (v : Int)) (hy1 : y1 = (u : Int)) (hn : n ≤ 1048576) (hm : m ≤ 1048576) :
    Calls Tryd.prog 6 #[.int .i64 y0, .int .i64 y1, .slice sa n cap, .slice sb m cbp, .int .i64 y4] w fun e w' => e = .returned (.bool true) ∧ Below w.heap.size w w' := by
  have hn63 : n ≤ maxLen := hs.2.1
  have hm63 : m ≤ maxLen := ht.2.1
  unfold maxLen at hn63 hm63
  subst hy0 hy1
  have hsA := hs
  have hsB := ht
  have hyA := hy
  have hyB := hz
  have q1 : ¬ ((v : Int) < 0) := by omega
  have q2 : ¬ (2 < (v : Int)) := by omega
  have q3 : ¬ ((u : Int) < 0) := by omega
  have q4 : ¬ (2 < (u : Int)) := by omega
  have q5 : ¬ (1048576 < (n : Int)) := by omega
  have q6 : ¬ (1048576 < (m : Int)) := by omega
  have hlA : (l).length ≤ 1048576 := by rw [hs.1]; exact hn
  have hlB : (k).length ≤ 1048576 := by rw [ht.1]; exact hm
  have HA := seal_any v sa n cap l w (by omega) hsA hyA (by omega) hH
  have HB := fun (W : World) (hs : Seg W sb m k) (hH : Hal W) => seal_any u sb m cbp k W (by omega) hs hyB (by omega) hH
  have hbA := byt_frm v l (by omega) hyA
  have hbB := byt_frm u k (by omega) hyB
  have h8A : 8 ≤ (frm v l).length ∧ (frm v l).length ≤ 1048600 := by rw [frm_len]; have := hdL_len v (l).length (by omega); omega
  have h8B : 8 ≤ (frm u k).length ∧ (frm u k).length ≤ 1048600 := by rw [frm_len]; have := hdL_len u (k).length (by omega); omega
  have hcut := frm_cut v l (by omega) hyA hlA
  obtain ⟨FA, hFA⟩ : ∃ FA, frm v l = FA := ⟨_, rfl⟩
  obtain ⟨FB, hFB⟩ : ∃ FB, frm u k = FB := ⟨_, rfl⟩
  rw [hFA] at HA hbA h8A hcut
  rw [hFB] at HB hbB h8B
  obtain ⟨fa, hfa⟩ : ∃ fa, FA.length = fa := ⟨_, rfl⟩
  obtain ⟨fb_, hfb⟩ : ∃ fb_, FB.length = fb_ := ⟨_, rfl⟩
  rw [hfa] at HA h8A hcut
  simp only [hfb] at HB h8B
  have HFA := hide hFA
  have HFB := hide hFB
  have HfA := hide hfa
  have HfB := hide hfb
  have HCUT := hide hcut
  have HBA := hide hbA
  have HBB := hide hbB
  have HA' := hide HA
  have HB' := hide HB
  have SA0 := hide hsA
  have SB0 := hide hsB
  have HAL := hide hH
  have HER := hide hE
  have hlA' := hide hlA
  have hlB' := hide hlB
  have p1 : ((fa : Int) < 8) = False := by simp; omega
  have p2 : ((fb_ : Int) < 8) = False := by simp; omega
  obtain ⟨r, j, t1, t2, t3, t4, t5⟩ := turn_at y4 (fa - 1) (by omega)
  have tc : ((fa - 1 : Nat) : Int) = (fa : Int) - 1 := by omega
  rw [tc] at t1 t2 t3 t4
  have n0 : ((fa : Int) - 1 == 0) = false := by simp; omega
  have fa8 := h8A.1
  have faM := h8A.2
  have fb8 := h8B.1
  have fbM := h8B.2
  have jat : Hid (1 + j < fa) := by show _ < _; omega
  clear hfa hfb HA HB hbA hbB hs ht hsA hsB hyA hyB hy hz hH hE hlA hlB h8A h8B hcut hFA hFB tc
  go_enter Tryd.func6, Tryd.ntmps6
  go_wp2_with fail
  refine HA'.out.mono ?_
  rintro r_ w1 ⟨gA, cA, rfl, hgA, hOA, hBA⟩
  have BW1 := hide hBA
  have HOA := hide hOA
  clear hBA hOA hgA HA'
  go_wp2_with fail
  refine (HB'.out w1 (SB0.out.below BW1.out (Nat.le_refl _)) (HAL.out.later BW1.out)).mono ?_
  rintro r_ w2 ⟨gB, cB, rfl, hgB, hOB, hBB⟩
  have BW : Hid (Below w.heap.size w w2) := BW1.out.trans (hBB.mono BW1.out.size)
  have SFA : Hid (Seg w2 (some ⟨gA, 0, none⟩) fa FA) := (own_seg HOA.out).1.below hBB (Nat.le_refl _)
  have SFB : Hid (Seg w2 (some ⟨gB, 0, none⟩) fb_ FB) := (own_seg hOB).1
  have lA : Hid (gA < w2.heap.size) := Nat.lt_of_lt_of_le (own_seg HOA.out).2.2.2 hBB.size
  have lB : Hid (gB < w2.heap.size) := (own_seg hOB).2.2.2
  have cA1 : fa ≤ cA := (own_seg HOA.out).2.1
  have cA2 : Hid (cA ≤ maxLen) := (own_seg HOA.out).2.2.1
  have cB1 : fb_ ≤ cB := (own_seg hOB).2.1
  have cB2 : Hid (cB ≤ maxLen) := (own_seg hOB).2.2.1
  have cA3 : cA ≤ 9223372036854775807 := by have := cA2.out; unfold maxLen at this; omega
  have SA2 := hide (SA0.out.below BW.out (Nat.le_refl _))
  have SB2 := hide (SB0.out.below BW.out (Nat.le_refl _))
  have HER2 := HER.out.below BW.out (Nat.le_refl _)
  have EN0 : Hid (Env w2 a w2.heap.size) := ⟨HAL.out.later BW.out, HER2, HER2.lt, HER2.five⟩
  clear hOB hBB hgB HOA BW1 HB' HER2 HER HAL SA0 SB0
  go_wp2_with fail
  refine (newStream_yes v w2 (by omega) w2.heap.size (Nat.le_refl _)).mono ?_
  rintro r_ w3 ⟨rfl, S3, hb3, hz3⟩
  obtain ⟨b, hb⟩ : ∃ b, b = w2.heap.size := ⟨_, rfl⟩
  have hbE := hide hb
  rw [← hb] at S3 ⊢
  have ST3 := hide S3
  have BB3 : Hid (Below b w2 w3) := by rw [hbE.out]; exact hb3
  clear S3 hb3 hz3 hb
  have SEP : Hid (∀ (W : World) (s : Sm) (pv : Value) (g o : Nat) (x : Addr), Str W b s pv b → g < b → some (⟨g, o, none⟩ : Addr) = some x → x.block ≠ b ∧ some x.block ≠ pv.ownBlock) := by
    intro W s pv g o x hS hg e
    cases e
    exact ⟨by show g ≠ b; omega, fun q => by have := hS.ownLow g q.symm; omega⟩
  go_wp2_with fail
  refine (num_any 0 _).mono ?_
  rintro r_ w3' ⟨rfl, rfl⟩
  go_wp2_with fail
  refine (num_any 0 _).mono ?_
  rintro r_ w3' ⟨rfl, rfl⟩
  go_wp2_with fail
  have e1j : (((1 + j : Nat)) : Int) = 1 + (j : Int) := by omega
  have jn : 1 + j ≤ fa := by omega
  have jc : ¬ cA = 1 + j := by omega
  have jc2 : 1 + j ≤ cA := by omega
  refine (feed_short w3 b (fresh v 0) (.slice none 0 0) b v 0 [] (some ⟨gA, 0, none⟩) (1 + j) cA (FA.take (1 + j)) a ST3.out (liv_fresh v 0) ((SFA.out.below (by rw [← hbE.out]; exact BB3.out) (Nat.le_refl _)).take jn) jc2 cA2.out (byt_take HBA.out _) (fun x e _ => SEP.out w3 _ _ gA 0 x ST3.out (by have := lA.out; have := hbE.out; omega) e) ((EN0.out.below (by rw [← hbE.out]; exact BB3.out)) |> fun q => by rw [← hbE.out] at q; exact q) (by rw [List.nil_append]; exact HCUT.out (1 + j) jat.out)).mono ?_
  rintro r_ w4 ⟨rfl, s4, pv4, S4, L4⟩
  rw [e1j]
  rw [List.nil_append] at L4
  have ST4 := hide S4.str
  have LV4 := hide L4
  have BB4 : Hid (Below b w2 w4) := BB3.out.trans (S4.below ST3.out)
  clear S4 L4 ST3 BB3
  have hvU : verB (u : Int) = true := by unfold verB; simp; try omega
  go_wp2_with fail
  refine (expect_mid w4 b s4 pv4 b (u : Int) ST4.out hvU LV4.out.fault (by rw [LV4.out.held, List.length_take, HfA.out]; omega)).mono ?_
  rintro r_ w4' ⟨rfl, rfl⟩
  go_wp2_with fail
  refine (feed_whole w4 b s4 pv4 b v 0 (FA.take (1 + j)) (some ⟨gA, 1 + j, none⟩) (fa - (1 + j)) (cA - (1 + j)) (FA.drop (1 + j)) a ST4.out LV4.out (by have := (SFA.out.below (by rw [← hbE.out]; exact BB4.out) (Nat.le_refl _)).from jn; rwa [Nat.zero_add] at this) (by omega) (Nat.le_trans (Nat.sub_le _ _) cA2.out) (byt_drop HBA.out _) (fun x e _ => SEP.out w4 _ _ gA _ x ST4.out (by have := lA.out; have := hbE.out; omega) e) ((EN0.out.below (by rw [← hbE.out]; exact BB4.out)) |> fun q => by rw [← hbE.out] at q; exact q) l hlA'.out (by rw [List.take_append_drop, HFA.out])).mono ?_
  rintro r_ w5 ⟨rfl, s5, pv5, S5, W5, hp5⟩
  rw [show ((fa - (1 + j) : Nat) : Int) = (fa : Int) - (1 + (j : Int)) by omega]
  rw [HFA.out] at W5
  have ST5 := hide S5.str
  have WA5 := hide W5
  have HP5 := hide hp5
  have BB5 : Hid (Below b w2 w5) := BB4.out.trans (S5.below ST4.out)
  clear S5 W5 ST4 BB4 hp5 LV4
  go_wp2_with fail
  refine (expect_mid w5 b s5 pv5 b (u : Int) ST5.out hvU WA5.out.fault (by rw [WA5.out.held, HfA.out]; omega)).mono ?_
  rintro r_ w5' ⟨rfl, rfl⟩
  go_wp2_with fail
  refine (num_any 75 _).mono ?_
  rintro r_ w5' ⟨rfl, rfl⟩
  go_wp2_with fail
  refine (num_any 75 _).mono ?_
  rintro r_ w5' ⟨rfl, rfl⟩
  go_wp2_with fail
  refine (take_yes w5 b s5 pv5 b ST5.out WA5.out.part (by rw [HP5.out]; exact hlA'.out) (by rw [WA5.out.place, WA5.out.held, HfA.out]; omega)).mono ?_
  rintro r_ w6 ⟨rfl, hrow, S6⟩
  rw [WA5.out.ver] at S6
  rw [HP5.out] at hrow ⊢
  obtain ⟨P, hP⟩ : ∃ P, P = s5.place + s5.held := ⟨_, rfl⟩
  have hPb : Hid (P = fa) := by show _ = _; rw [hP, WA5.out.place, WA5.out.held, HfA.out]; omega
  rw [← hP] at S6
  have ST6 := hide S6.str
  have BB6 : Hid (Below b w2 w6) := BB5.out.trans (S6.below ST5.out)
  have SP6 := hide (row_seg hrow (by have := hlA'.out; unfold maxLen; omega))
  obtain ⟨pl, hpl⟩ : ∃ pl, (l).length = pl := ⟨_, rfl⟩
  rw [hpl] at SP6 ⊢
  clear S6 hrow hP ST5 BB5 HP5 hpl
  go_wp2_with fail
  refine (same_bel _ sa pl n pl cap l l w6 SP6.out (SA2.out.below (by rw [← hbE.out]; exact BB6.out) (Nat.le_refl _))).mono ?_
  rintro r_ w7 ⟨rfl, hb7⟩
  rw [same_yes rfl]
  have ST7 := hide (ST6.out.on hb7)
  have BB7 : Hid (Below b w2 w7) := BB6.out.trans (hb7.mono (Nat.le_trans ST6.out.low (Nat.le_of_lt ST6.out.box.lt)))
  clear hb7 SP6 ST6 BB6
  go_wp2_with fail
  refine (expect_ver w7 b 3 rfl).mono ?_
  rintro r_ w7' ⟨rfl, rfl⟩
  go_wp2_with fail
  refine (expect_ok w7 b (fresh v P) (.slice none 0 0) b u ST7.out hvU rfl rfl).mono ?_
  rintro r_ w8 ⟨rfl, S8⟩
  have ST8 : Hid (Str w8 b (fresh u P) (.slice none 0 0) b) := S8.str
  have BB8 : Hid (Below b w2 w8) := BB7.out.trans (S8.below ST7.out)
  clear S8 ST7 BB7
  go_wp2_with fail
  refine (num_any 2 _).mono ?_
  rintro r_ w8' ⟨rfl, rfl⟩
  go_wp2_with fail
  refine (num_any 0 _).mono ?_
  rintro r_ w8' ⟨rfl, rfl⟩
  go_wp2_with fail
  refine (feed_whole w8 b (fresh u P) (.slice none 0 0) b u P [] (some ⟨gB, 0, none⟩) fb_ cB FB a ST8.out (liv_fresh u P) (SFB.out.below (by rw [← hbE.out]; exact BB8.out) (Nat.le_refl _)) cB1 cB2.out HBB.out (fun x e _ => SEP.out w8 _ _ gB 0 x ST8.out (by have := lB.out; have := hbE.out; omega) e) ((EN0.out.below (by rw [← hbE.out]; exact BB8.out)) |> fun q => by rw [← hbE.out] at q; exact q) k hlB'.out (by rw [List.nil_append, HFB.out])).mono ?_
  rintro r_ w9 ⟨rfl, s9, pv9, S9, W9, hp9⟩
  rw [HFB.out] at W9
  have ST9 := hide S9.str
  have BB9 : Hid (Below b w2 w9) := BB8.out.trans (S9.below ST8.out)
  have WA9 := hide W9
  have HP9 := hide hp9
  clear S9 ST8 BB8 W9 hp9
  go_wp2_with fail
  refine (take_yes w9 b s9 pv9 b ST9.out WA9.out.part (by rw [HP9.out]; exact hlB'.out) (by rw [WA9.out.place, WA9.out.held, HfB.out, hPb.out]; omega)).mono ?_
  rintro r_ wa ⟨rfl, hrow, Sa⟩
  rw [HP9.out] at hrow ⊢
  have BBa : Hid (Below b w2 wa) := BB9.out.trans (Sa.below ST9.out)
  have SPa := hide (row_seg hrow (by have := hlB'.out; unfold maxLen; omega))
  obtain ⟨pm, hpm⟩ : ∃ pm, (k).length = pm := ⟨_, rfl⟩
  rw [hpm] at SPa ⊢
  clear Sa hrow ST9 BB9 HP9 hpm
  go_wp2_with fail
  refine (same_bel _ sb pm m pm cbp k k wa SPa.out (SB2.out.below (by rw [← hbE.out]; exact BBa.out) (Nat.le_refl _))).mono ?_
  rintro r_ wb ⟨rfl, hbb⟩
  rw [same_yes rfl]
  have FIN : Hid (Below w.heap.size w wb) := by
    have h1 : Below w2.heap.size w2 wa := by rw [← hbE.out]; exact BBa.out
    exact (BW.out.trans (h1.mono BW.out.size)).trans (hbb.mono (Nat.le_trans BW.out.size h1.size))
  clear hbb SPa BBa
  go_wp2
  go_ret
  exact ⟨rfl, FIN.out⟩
end Go.Proofs.YtnlohbfolphafaaDoor
