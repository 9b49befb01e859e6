/- FrameBack's walk where the payloads do not fit. -/
import Derived.Test.YtiajkdjljilndaaDoorFrBackA
namespace Go.Proofs.YtiajkdjljilndaaDoor
open Go.RowKit Go.Wire1 Go.Crc2 Go.Frm

set_option maxHeartbeats 8000000 in
set_option maxRecDepth 100000 in
theorem back_ver (y0 : Int) (hv : verB y0 = false) (qa : Option Addr) (qn qcap : Nat) (ca : Option Addr) (cn ccap : Nat) (cl : List Int) (y3 : Int) (_hy3 : -9223372036854775808 ≤ y3 ∧ y3 ≤ 9223372036854775807) (a : Nat → Addr) (w : World) (hI : SegI w ca cn cl) (hcc : cn ≤ ccap) (hH : Hal w) (hE : Errs w a) :
    Calls Tryd.prog 6 #[.int .i64 y0, .slice qa qn qcap, .slice ca cn ccap, .int .i64 y3] w fun e w' => e = .returned (.bool true) ∧ Below w.heap.size w w' := by
  obtain ⟨init, hinit⟩ : ∃ init : List (List Int), init = [] := ⟨_, rfl⟩
  obtain ⟨p, hp97⟩ : ∃ p : List Int, p = [97] := ⟨_, rfl⟩
  have hips : init ++ [p] = [[97]] := by rw [hinit, hp97]; rfl
  have hl : ∀ q ∈ init ++ [p], q.length ≤ 1048576 := by rw [hips]; simp
  have hyy : ∀ q ∈ init ++ [p], Byt q := by rw [hips]; intro q hq; simp at hq; subst hq; intro z hz; simp at hz; omega
  have hbk : (init ++ [p]).flatten.length + (init ++ [p]).length ≤ 1048576 := by rw [hips]; simp
  have HIPS := hide hips
  clear hips hinit hp97
  have hll : ∀ q ∈ init ++ [p], q.length ≤ 1048576 := hl
  have hli : ∀ q ∈ init, q.length ≤ 1048576 := fun q hq => hl q (by simp [hq])
  have hlp : p.length ≤ 1048576 := hl p (by simp)
  have hyp : Byt p := hyy p (by simp)
  have hsd := fun (W : World) pa pn pcap (h : Chs W pa pn (init ++ [p])) (h1 : Hal W) => sealed_any 1 (by omega) pa pn pcap (init ++ [p]) W h hll (by have := joinF_short 1 (init ++ [p]) hll; omega) h1
  simp only [SdPost] at hsd
  have ein : (init ++ [p]).take ((init ++ [p]).length - 1) = init := by simp
  rw [ein] at hsd
  have hfull := drain_full 1 (init ++ [p]) hll
  have hmiss := fun k hk => drain_miss 1 (by omega) init p hli hlp hyp k hk
  have htake := fun k => back_take 1 init p k
  have hJs := joinF_short 1 (init ++ [p]) hll
  have hJb : Byt (joinF 1 (init ++ [p])) := byt_joinF (by omega) hyy
  have hJl : (joinF 1 (init ++ [p])).length = (joinF 1 init).length + (frm 1 p).length := by rw [joinF_snoc, List.length_append]
  have hf8 := frm_long 1 p
  generalize joinF 1 (init ++ [p]) = J at *
  generalize joinF 1 init = J0 at *
  generalize frm 1 p = F at *
  obtain ⟨T, hT⟩ : ∃ T, J0.length = T := ⟨_, rfl⟩
  obtain ⟨fl, hfl⟩ : ∃ fl, F.length = fl := ⟨_, rfl⟩
  obtain ⟨jl, hjl⟩ : ∃ jl, J.length = jl := ⟨_, rfl⟩
  simp only [hT, hfl, hjl] at hsd hfull hmiss htake hJs hJl hf8
  have hsub : (jl : Int) - (T : Int) = (fl : Int) := by omega
  have hjb : jl ≤ 60000000 := by omega
  obtain ⟨r, j, m1, m2, m3, m4, m5⟩ := back_turn y3 fl
  have hf0 : ((fl : Int) == 0) = false := by rw [beq_eq_false_iff_ne]; omega
  have HSD := hide hsd
  have HFULL := hide hfull
  have HMISS := hide hmiss
  have HTAKE := hide htake
  have HJB := hide hJb
  have HJL := hide hjl
  have HT0 := hide hT
  have HFL := hide hfl
  have HJ := hide hJl
  have HLEN : Hid ((init ++ [p]).length = init.length + 1) := by show _ = _; simp
  have hTb : T ≤ 60000000 := by omega
  have hfb : fl ≤ 60000000 := by omega
  have hf8' : 8 ≤ fl := by omega
  clear hsd hfull hmiss htake hJs hJl hf8 hJb hT hfl hjl hll hli hlp hyp ein hl hyy
  have HAL := hide hH
  have HER := hide hE
  have HI := hide hI
  clear hH hE hI
  clear hbk
  have HV := hide hv
  clear hv
  go_enter Tryd.func6, Tryd.ntmps6
  go_wp2_with fail
  refine (feeds_any a w HAL.out HER.out).mono ?_
  rintro r_ wf ⟨rfl, hbf⟩
  have BF := hide hbf
  clear hbf
  go_wp2_with fail
  refine (fits_ver y0 HV.out qa qn qcap wf).mono ?_
  rintro r_ W0 ⟨rfl, rfl⟩
  go_upto_region 8 with fail
  have S1 : Hid (Seg (wf.alloc (.cells #[.int .u8 97] 5)) (some ⟨wf.heap.size, 0, none⟩) 1 [97]) := seg_new wf [97] _ (0, 0) rfl (by decide)
  have CHP : Hid (Chs ((wf.alloc (.cells #[.int .u8 97] 5)).alloc (.cells #[.slice (some ⟨wf.heap.size, 0, none⟩) 1 1] 22)) (some ⟨(wf.alloc (.cells #[.int .u8 97] 5)).heap.size, 0, none⟩) 1 (init ++ [p])) := by
    rw [HIPS.out]
    exact chs_lit1 _ _ _ _ _ _ S1.out (by decide) (by decide) (by intro z hz; simp at hz; omega)
  have B0 : Hid (Below w.heap.size w ((wf.alloc (.cells #[.int .u8 97] 5)).alloc (.cells #[.slice (some ⟨wf.heap.size, 0, none⟩) 1 1] 22))) := (BF.out.alloc BF.out.size _).alloc (by have := BF.out.size; simp; omega) _
  rw [World.size_alloc] at CHP
  obtain ⟨pa, hpa⟩ : ∃ pa, Hid (pa = some (⟨wf.heap.size + 1, 0, none⟩ : Addr)) := ⟨_, rfl⟩
  rw [← hpa.out] at CHP ⊢
  generalize (wf.alloc (.cells #[.int .u8 97] 5)).alloc (.cells #[.slice (some ⟨wf.heap.size, 0, none⟩) 1 1] 22) = W0 at *
  obtain ⟨pn, hpn0⟩ : ∃ pn : Nat, Hid (pn = 1) := ⟨_, rfl⟩
  obtain ⟨pcap, hpc0⟩ : ∃ pcap : Nat, Hid (pcap = 1) := ⟨_, rfl⟩
  have hpn9 : pn ≤ 1 := by rw [hpn0.out]; exact Nat.le_refl _
  have hpn8 : pn ≤ pcap := by rw [hpn0.out, hpc0.out]; exact Nat.le_refl _
  have hpn7 : pcap ≤ 1 := by rw [hpc0.out]; exact Nat.le_refl _
  rw [show Value.slice pa 1 1 = Value.slice pa pn pcap by rw [hpn0.out, hpc0.out]]
  rw [show Chs W0 pa 1 (init ++ [p]) = Chs W0 pa pn (init ++ [p]) by rw [hpn0.out]] at CHP
  clear S1 BF
  go_wp2_with fail
  refine (HSD.out W0 pa pn pcap CHP.out (HAL.out.later B0.out)).mono ?_
  rintro r_ w1 ⟨ga, gc, rfl, hO, hb1⟩
  have B1 : Hid (Below w.heap.size w w1) := B0.out.trans (hb1.mono B0.out.size)
  have SG := hide (own_segN hO)
  have hcap := own_cap hO
  have CHP1 := hide (CHP.out.below hb1 (Nat.le_refl _))
  have hcap2 := hcap.2
  unfold maxLen at hcap2
  clear hO hb1 CHP
  go_wp2_with fail
  refine (cut_any ga jl gc J ca cn ccap cl w1 SG.out hcap.1 hcap.2 (HI.out.later B1.out) hcc).mono ?_
  rintro r_ w2 ⟨val, ps, rfl, ho, hps, _, hb2⟩
  obtain ⟨va, vc, rfl⟩ := own_shape ho
  have B2 : Hid (Below w.heap.size w w2) := B1.out.trans (hb2.mono B1.out.size)
  have CH := hide (chs_cut SG.out hcap.1 hcap.2 HJB.out hb2 ho hps)
  have SG2 := hide (SG.out.below hb2 (Nat.le_refl _))
  have CHP2 := hide (CHP1.out.below hb2 (Nat.le_refl _))
  have HPS := hide hps
  clear ho hb2 hps SG CHP1
  go_wp2_with fail
  refine (drain_bytes 1 (by omega) J (init ++ [p]) jl 0 (by rw [HJL.out]; exact HFULL.out) jl HJL.out (by omega) va _ vc ps a w2 HPS.out CH.out (HAL.out.later B2.out) (HER.out.below B2.out (Nat.le_refl _))).mono ?_
  rintro r_ w3 ⟨val, gs, rfl, hR, hg, hb3⟩
  obtain ⟨xa, xc, rfl⟩ := hR.shape
  have B3 : Hid (Below w.heap.size w w3) := B2.out.trans (hb3.mono B2.out.size)
  have EL : gs.length = pn := by have := congrArg List.length hg; rw [List.length_map] at this; rw [this]; exact CHP2.out.1
  have LA : Hid (Lst w3 xa gs.length (init ++ [p])) := by rw [← hg]; exact hR.lst
  have SG3 := hide (SG2.out.below hb3 (Nat.le_refl _))
  have CHP3 := hide (CHP2.out.below hb3 (Nat.le_refl _))
  rw [EL] at LA ⊢
  clear hR hg hb3 EL CH HPS SG2 CHP2
  go_wp2_with fail
  refine (sameLst_any xa pa pn xc pcap _ w3 LA.out CHP3.out.lst).mono ?_
  rintro r_ w4 ⟨rfl, q, rfl⟩
  have B4 := hide (below_drewN B3.out q)
  have SG4 : Hid (Seg (w3.drewN q) ga jl J) := SG3.out
  have CHP4 : Hid (Chs (w3.drewN q) pa pn (init ++ [p])) := CHP3.out
  generalize w3.drewN q = w4 at *
  clear LA SG3 CHP3
  go_wp2_with fail
  refine (num_any 0 _).mono ?_
  rintro r_ w5 ⟨rfl, rfl⟩
  by_cases hj0 : j = 0
  · subst hj0
    go_wp2
    go_ret
    exact ⟨rfl, B4.out⟩
  · have hj0' : ((j : Int) == 0) = false := by rw [beq_eq_false_iff_ne]; omega
    obtain ⟨k, hk⟩ : ∃ k, k = fl - j := ⟨_, rfl⟩
    have hsub2 : (jl : Int) - (j : Int) = ((T + k : Nat) : Int) := by omega
    obtain ⟨tk, htk⟩ : ∃ tk, T + k = tk := ⟨_, rfl⟩
    rw [htk] at hsub2
    have HM := hide (HMISS.out k (by omega))
    have HTK := hide (HTAKE.out k)
    rw [htk] at HTK
    rw [← HTK.out] at HM
    have SG5 : Hid (Seg w4 ga tk (J.take tk)) := by
      have := SG4.out.cut (k := 0) (m := tk) (a' := ga) (by omega) (fun _ b off e => by rw [e]; rfl)
      show Seg _ _ _ _
      simpa using this
    have HTL : Hid ((J.take tk).length = tk) := SG5.out.1
    have HB5 : Hid (Byt (J.take tk)) := byt_take HJB.out tk
    have hpn1 : pn = init.length + 1 := by rw [← HLEN.out]; exact CHP4.out.1.symm
    have hpsub : (pn : Int) - 1 = (init.length : Int) := by omega
    have LP : Hid (Lst w4 pa init.length init) := by
      have := CHP4.out.lst.first (k := init.length) (by omega)
      show Lst _ _ _ _
      simpa using this
    have htkg : tk ≤ gc := by omega
    clear SG4 CHP4 HTK
    have HPN1 := hide hpn1
    clear hpn1
    by_cases hjf : j = fl
    · have hk0 : k = 0 := by omega
      rw [if_pos hk0] at HM
      subst hjf
      go_wp2_with fail
      refine (cut_any ga tk gc (J.take tk) ca cn ccap cl w4 SG5.out (by omega) hcap.2 (HI.out.later B4.out) hcc).mono ?_
      rintro r_ w5 ⟨val, qs, rfl, ho, hqs, _, hb5⟩
      obtain ⟨ua, uc, rfl⟩ := own_shape ho
      have B5 : Hid (Below w.heap.size w w5) := B4.out.trans (hb5.mono B4.out.size)
      have CH := hide (chs_cut SG5.out (by omega) hcap.2 HB5.out hb5 ho hqs)
      have HQS := hide hqs
      have LP5 := hide (LP.out.below hb5 (Nat.le_refl _))
      clear ho hb5 hqs SG5 LP
      go_wp2_with fail
      refine (drain_bytes 1 (by omega) (J.take tk) init T 0 HM.out tk HTL.out (by omega) ua _ uc qs a w5 HQS.out CH.out (HAL.out.later B5.out) (HER.out.below B5.out (Nat.le_refl _))).mono ?_
      rintro r_ w6 ⟨val, gt, rfl, hR, hg, hb6⟩
      obtain ⟨ya, yc, rfl⟩ := hR.shape
      have B6 : Hid (Below w.heap.size w w6) := B5.out.trans (hb6.mono B5.out.size)
      have EL : gt.length = init.length := by have := congrArg List.length hg; rwa [List.length_map] at this
      have LA : Hid (Lst w6 ya gt.length init) := by rw [← hg]; exact hR.lst
      have LP6 := hide (LP5.out.below hb6 (Nat.le_refl _))
      rw [EL] at LA ⊢
      clear hR hg hb6 EL CH HQS LP5
      generalize init.length = il at *
      go_wp2_with fail
      refine (sameLst_any ya pa il yc pcap _ w6 LA.out LP6.out).mono ?_
      rintro r_ w7 ⟨rfl, q, rfl⟩
      have B7 := hide (below_drewN B6.out q)
      generalize w6.drewN q = w7 at *
      clear LA LP6
      go_wp2_with fail
      refine (num_any 0 _).mono ?_
      rintro r_ w8 ⟨rfl, rfl⟩
      go_wp2
      go_ret
      exact ⟨by simp, B7.out⟩
    · have hk0 : ¬ k = 0 := by omega
      rw [if_neg hk0] at HM
      have hjf' : ((j : Int) == (fl : Int)) = false := by rw [beq_eq_false_iff_ne]; omega
      go_wp2_with fail
      refine (cut_any ga tk gc (J.take tk) ca cn ccap cl w4 SG5.out (by omega) hcap.2 (HI.out.later B4.out) hcc).mono ?_
      rintro r_ w5 ⟨val, qs, rfl, ho, hqs, _, hb5⟩
      obtain ⟨ua, uc, rfl⟩ := own_shape ho
      have B5 : Hid (Below w.heap.size w w5) := B4.out.trans (hb5.mono B4.out.size)
      have CH := hide (chs_cut SG5.out (by omega) hcap.2 HB5.out hb5 ho hqs)
      have HQS := hide hqs
      have LP5 := hide (LP.out.below hb5 (Nat.le_refl _))
      clear ho hb5 hqs SG5 LP
      go_wp2_with fail
      refine (drain_bytes 1 (by omega) (J.take tk) init T 11 HM.out tk HTL.out (by omega) ua _ uc qs a w5 HQS.out CH.out (HAL.out.later B5.out) (HER.out.below B5.out (Nat.le_refl _))).mono ?_
      rintro r_ w6 ⟨val, gt, rfl, hR, hg, hb6⟩
      obtain ⟨ya, yc, rfl⟩ := hR.shape
      have B6 : Hid (Below w.heap.size w w6) := B5.out.trans (hb6.mono B5.out.size)
      have EL : gt.length = init.length := by have := congrArg List.length hg; rwa [List.length_map] at this
      have LA : Hid (Lst w6 ya gt.length init) := by rw [← hg]; exact hR.lst
      have LP6 := hide (LP5.out.below hb6 (Nat.le_refl _))
      rw [EL] at LA ⊢
      clear hR hg hb6 EL CH HQS LP5
      generalize init.length = il at *
      go_wp2_with fail
      refine (sameLst_any ya pa il yc pcap _ w6 LA.out LP6.out).mono ?_
      rintro r_ w7 ⟨rfl, q, rfl⟩
      have B7 := hide (below_drewN B6.out q)
      generalize w6.drewN q = w7 at *
      clear LA LP6
      go_wp2_with fail
      refine (num_any 11 _).mono ?_
      rintro r_ w8 ⟨rfl, rfl⟩
      go_wp2
      go_ret
      exact ⟨by simp, B7.out⟩

set_option maxHeartbeats 8000000 in
set_option maxRecDepth 100000 in
theorem back_unfit (v : Nat) (hv : v ≤ 2) (qa : Option Addr) (qn qcap : Nat) (ls : List (List Int)) (hf : fitL ls = false) (ca : Option Addr) (cn ccap : Nat) (cl : List Int) (y3 : Int) (_hy3 : -9223372036854775808 ≤ y3 ∧ y3 ≤ 9223372036854775807) (a : Nat → Addr) (w : World) (hI : SegI w ca cn cl) (hcc : cn ≤ ccap) (hH : Hal w) (hE : Errs w a) (hs : Chs w qa qn ls) :
    Calls Tryd.prog 6 #[.int .i64 (v : Int), .slice qa qn qcap, .slice ca cn ccap, .int .i64 y3] w fun e w' => e = .returned (.bool true) ∧ Below w.heap.size w w' := by
  obtain ⟨init, hinit⟩ : ∃ init : List (List Int), init = [] := ⟨_, rfl⟩
  obtain ⟨p, hp97⟩ : ∃ p : List Int, p = [97] := ⟨_, rfl⟩
  have hips : init ++ [p] = [[97]] := by rw [hinit, hp97]; rfl
  have hl : ∀ q ∈ init ++ [p], q.length ≤ 1048576 := by rw [hips]; simp
  have hyy : ∀ q ∈ init ++ [p], Byt q := by rw [hips]; intro q hq; simp at hq; subst hq; intro z hz; simp at hz; omega
  have hbk : (init ++ [p]).flatten.length + (init ++ [p]).length ≤ 1048576 := by rw [hips]; simp
  have HIPS := hide hips
  clear hips hinit hp97
  have hll : ∀ q ∈ init ++ [p], q.length ≤ 1048576 := hl
  have hli : ∀ q ∈ init, q.length ≤ 1048576 := fun q hq => hl q (by simp [hq])
  have hlp : p.length ≤ 1048576 := hl p (by simp)
  have hyp : Byt p := hyy p (by simp)
  have hsd := fun (W : World) pa pn pcap (h : Chs W pa pn (init ++ [p])) (h1 : Hal W) => sealed_any 1 (by omega) pa pn pcap (init ++ [p]) W h hll (by have := joinF_short 1 (init ++ [p]) hll; omega) h1
  simp only [SdPost] at hsd
  have ein : (init ++ [p]).take ((init ++ [p]).length - 1) = init := by simp
  rw [ein] at hsd
  have hfull := drain_full 1 (init ++ [p]) hll
  have hmiss := fun k hk => drain_miss 1 (by omega) init p hli hlp hyp k hk
  have htake := fun k => back_take 1 init p k
  have hJs := joinF_short 1 (init ++ [p]) hll
  have hJb : Byt (joinF 1 (init ++ [p])) := byt_joinF (by omega) hyy
  have hJl : (joinF 1 (init ++ [p])).length = (joinF 1 init).length + (frm 1 p).length := by rw [joinF_snoc, List.length_append]
  have hf8 := frm_long 1 p
  generalize joinF 1 (init ++ [p]) = J at *
  generalize joinF 1 init = J0 at *
  generalize frm 1 p = F at *
  obtain ⟨T, hT⟩ : ∃ T, J0.length = T := ⟨_, rfl⟩
  obtain ⟨fl, hfl⟩ : ∃ fl, F.length = fl := ⟨_, rfl⟩
  obtain ⟨jl, hjl⟩ : ∃ jl, J.length = jl := ⟨_, rfl⟩
  simp only [hT, hfl, hjl] at hsd hfull hmiss htake hJs hJl hf8
  have hsub : (jl : Int) - (T : Int) = (fl : Int) := by omega
  have hjb : jl ≤ 60000000 := by omega
  obtain ⟨r, j, m1, m2, m3, m4, m5⟩ := back_turn y3 fl
  have hf0 : ((fl : Int) == 0) = false := by rw [beq_eq_false_iff_ne]; omega
  have HSD := hide hsd
  have HFULL := hide hfull
  have HMISS := hide hmiss
  have HTAKE := hide htake
  have HJB := hide hJb
  have HJL := hide hjl
  have HT0 := hide hT
  have HFL := hide hfl
  have HJ := hide hJl
  have HLEN : Hid ((init ++ [p]).length = init.length + 1) := by show _ = _; simp
  have hTb : T ≤ 60000000 := by omega
  have hfb : fl ≤ 60000000 := by omega
  have hf8' : 8 ≤ fl := by omega
  clear hsd hfull hmiss htake hJs hJl hf8 hJb hT hfl hjl hll hli hlp hyp ein hl hyy
  have HAL := hide hH
  have HER := hide hE
  have HI := hide hI
  clear hH hE hI
  clear hbk
  have HCS := hide hs
  have HF := hide hf
  clear hs hf
  go_enter Tryd.func6, Tryd.ntmps6
  go_wp2_with fail
  refine (feeds_any a w HAL.out HER.out).mono ?_
  rintro r_ wf ⟨rfl, hbf⟩
  have BF := hide hbf
  clear hbf
  go_wp2_with fail
  refine (fits_any v hv qa qn qcap ls wf (HCS.out.below BF.out (Nat.le_refl _))).mono ?_
  rintro r_ W0 ⟨rfl, rfl⟩
  rw [HF.out]
  clear HF HCS
  go_upto_region 8 with fail
  have S1 : Hid (Seg (wf.alloc (.cells #[.int .u8 97] 5)) (some ⟨wf.heap.size, 0, none⟩) 1 [97]) := seg_new wf [97] _ (0, 0) rfl (by decide)
  have CHP : Hid (Chs ((wf.alloc (.cells #[.int .u8 97] 5)).alloc (.cells #[.slice (some ⟨wf.heap.size, 0, none⟩) 1 1] 22)) (some ⟨(wf.alloc (.cells #[.int .u8 97] 5)).heap.size, 0, none⟩) 1 (init ++ [p])) := by
    rw [HIPS.out]
    exact chs_lit1 _ _ _ _ _ _ S1.out (by decide) (by decide) (by intro z hz; simp at hz; omega)
  have B0 : Hid (Below w.heap.size w ((wf.alloc (.cells #[.int .u8 97] 5)).alloc (.cells #[.slice (some ⟨wf.heap.size, 0, none⟩) 1 1] 22))) := (BF.out.alloc BF.out.size _).alloc (by have := BF.out.size; simp; omega) _
  rw [World.size_alloc] at CHP
  obtain ⟨pa, hpa⟩ : ∃ pa, Hid (pa = some (⟨wf.heap.size + 1, 0, none⟩ : Addr)) := ⟨_, rfl⟩
  rw [← hpa.out] at CHP ⊢
  generalize (wf.alloc (.cells #[.int .u8 97] 5)).alloc (.cells #[.slice (some ⟨wf.heap.size, 0, none⟩) 1 1] 22) = W0 at *
  obtain ⟨pn, hpn0⟩ : ∃ pn : Nat, Hid (pn = 1) := ⟨_, rfl⟩
  obtain ⟨pcap, hpc0⟩ : ∃ pcap : Nat, Hid (pcap = 1) := ⟨_, rfl⟩
  have hpn9 : pn ≤ 1 := by rw [hpn0.out]; exact Nat.le_refl _
  have hpn8 : pn ≤ pcap := by rw [hpn0.out, hpc0.out]; exact Nat.le_refl _
  have hpn7 : pcap ≤ 1 := by rw [hpc0.out]; exact Nat.le_refl _
  rw [show Value.slice pa 1 1 = Value.slice pa pn pcap by rw [hpn0.out, hpc0.out]]
  rw [show Chs W0 pa 1 (init ++ [p]) = Chs W0 pa pn (init ++ [p]) by rw [hpn0.out]] at CHP
  clear S1 BF
  go_wp2_with fail
  refine (HSD.out W0 pa pn pcap CHP.out (HAL.out.later B0.out)).mono ?_
  rintro r_ w1 ⟨ga, gc, rfl, hO, hb1⟩
  have B1 : Hid (Below w.heap.size w w1) := B0.out.trans (hb1.mono B0.out.size)
  have SG := hide (own_segN hO)
  have hcap := own_cap hO
  have CHP1 := hide (CHP.out.below hb1 (Nat.le_refl _))
  have hcap2 := hcap.2
  unfold maxLen at hcap2
  clear hO hb1 CHP
  go_wp2_with fail
  refine (cut_any ga jl gc J ca cn ccap cl w1 SG.out hcap.1 hcap.2 (HI.out.later B1.out) hcc).mono ?_
  rintro r_ w2 ⟨val, ps, rfl, ho, hps, _, hb2⟩
  obtain ⟨va, vc, rfl⟩ := own_shape ho
  have B2 : Hid (Below w.heap.size w w2) := B1.out.trans (hb2.mono B1.out.size)
  have CH := hide (chs_cut SG.out hcap.1 hcap.2 HJB.out hb2 ho hps)
  have SG2 := hide (SG.out.below hb2 (Nat.le_refl _))
  have CHP2 := hide (CHP1.out.below hb2 (Nat.le_refl _))
  have HPS := hide hps
  clear ho hb2 hps SG CHP1
  go_wp2_with fail
  refine (drain_bytes 1 (by omega) J (init ++ [p]) jl 0 (by rw [HJL.out]; exact HFULL.out) jl HJL.out (by omega) va _ vc ps a w2 HPS.out CH.out (HAL.out.later B2.out) (HER.out.below B2.out (Nat.le_refl _))).mono ?_
  rintro r_ w3 ⟨val, gs, rfl, hR, hg, hb3⟩
  obtain ⟨xa, xc, rfl⟩ := hR.shape
  have B3 : Hid (Below w.heap.size w w3) := B2.out.trans (hb3.mono B2.out.size)
  have EL : gs.length = pn := by have := congrArg List.length hg; rw [List.length_map] at this; rw [this]; exact CHP2.out.1
  have LA : Hid (Lst w3 xa gs.length (init ++ [p])) := by rw [← hg]; exact hR.lst
  have SG3 := hide (SG2.out.below hb3 (Nat.le_refl _))
  have CHP3 := hide (CHP2.out.below hb3 (Nat.le_refl _))
  rw [EL] at LA ⊢
  clear hR hg hb3 EL CH HPS SG2 CHP2
  go_wp2_with fail
  refine (sameLst_any xa pa pn xc pcap _ w3 LA.out CHP3.out.lst).mono ?_
  rintro r_ w4 ⟨rfl, q, rfl⟩
  have B4 := hide (below_drewN B3.out q)
  have SG4 : Hid (Seg (w3.drewN q) ga jl J) := SG3.out
  have CHP4 : Hid (Chs (w3.drewN q) pa pn (init ++ [p])) := CHP3.out
  generalize w3.drewN q = w4 at *
  clear LA SG3 CHP3
  go_wp2_with fail
  refine (num_any 0 _).mono ?_
  rintro r_ w5 ⟨rfl, rfl⟩
  by_cases hj0 : j = 0
  · subst hj0
    go_wp2
    go_ret
    exact ⟨rfl, B4.out⟩
  · have hj0' : ((j : Int) == 0) = false := by rw [beq_eq_false_iff_ne]; omega
    obtain ⟨k, hk⟩ : ∃ k, k = fl - j := ⟨_, rfl⟩
    have hsub2 : (jl : Int) - (j : Int) = ((T + k : Nat) : Int) := by omega
    obtain ⟨tk, htk⟩ : ∃ tk, T + k = tk := ⟨_, rfl⟩
    rw [htk] at hsub2
    have HM := hide (HMISS.out k (by omega))
    have HTK := hide (HTAKE.out k)
    rw [htk] at HTK
    rw [← HTK.out] at HM
    have SG5 : Hid (Seg w4 ga tk (J.take tk)) := by
      have := SG4.out.cut (k := 0) (m := tk) (a' := ga) (by omega) (fun _ b off e => by rw [e]; rfl)
      show Seg _ _ _ _
      simpa using this
    have HTL : Hid ((J.take tk).length = tk) := SG5.out.1
    have HB5 : Hid (Byt (J.take tk)) := byt_take HJB.out tk
    have hpn1 : pn = init.length + 1 := by rw [← HLEN.out]; exact CHP4.out.1.symm
    have hpsub : (pn : Int) - 1 = (init.length : Int) := by omega
    have LP : Hid (Lst w4 pa init.length init) := by
      have := CHP4.out.lst.first (k := init.length) (by omega)
      show Lst _ _ _ _
      simpa using this
    have htkg : tk ≤ gc := by omega
    clear SG4 CHP4 HTK
    have HPN1 := hide hpn1
    clear hpn1
    by_cases hjf : j = fl
    · have hk0 : k = 0 := by omega
      rw [if_pos hk0] at HM
      subst hjf
      go_wp2_with fail
      refine (cut_any ga tk gc (J.take tk) ca cn ccap cl w4 SG5.out (by omega) hcap.2 (HI.out.later B4.out) hcc).mono ?_
      rintro r_ w5 ⟨val, qs, rfl, ho, hqs, _, hb5⟩
      obtain ⟨ua, uc, rfl⟩ := own_shape ho
      have B5 : Hid (Below w.heap.size w w5) := B4.out.trans (hb5.mono B4.out.size)
      have CH := hide (chs_cut SG5.out (by omega) hcap.2 HB5.out hb5 ho hqs)
      have HQS := hide hqs
      have LP5 := hide (LP.out.below hb5 (Nat.le_refl _))
      clear ho hb5 hqs SG5 LP
      go_wp2_with fail
      refine (drain_bytes 1 (by omega) (J.take tk) init T 0 HM.out tk HTL.out (by omega) ua _ uc qs a w5 HQS.out CH.out (HAL.out.later B5.out) (HER.out.below B5.out (Nat.le_refl _))).mono ?_
      rintro r_ w6 ⟨val, gt, rfl, hR, hg, hb6⟩
      obtain ⟨ya, yc, rfl⟩ := hR.shape
      have B6 : Hid (Below w.heap.size w w6) := B5.out.trans (hb6.mono B5.out.size)
      have EL : gt.length = init.length := by have := congrArg List.length hg; rwa [List.length_map] at this
      have LA : Hid (Lst w6 ya gt.length init) := by rw [← hg]; exact hR.lst
      have LP6 := hide (LP5.out.below hb6 (Nat.le_refl _))
      rw [EL] at LA ⊢
      clear hR hg hb6 EL CH HQS LP5
      generalize init.length = il at *
      go_wp2_with fail
      refine (sameLst_any ya pa il yc pcap _ w6 LA.out LP6.out).mono ?_
      rintro r_ w7 ⟨rfl, q, rfl⟩
      have B7 := hide (below_drewN B6.out q)
      generalize w6.drewN q = w7 at *
      clear LA LP6
      go_wp2_with fail
      refine (num_any 0 _).mono ?_
      rintro r_ w8 ⟨rfl, rfl⟩
      go_wp2
      go_ret
      exact ⟨by simp, B7.out⟩
    · have hk0 : ¬ k = 0 := by omega
      rw [if_neg hk0] at HM
      have hjf' : ((j : Int) == (fl : Int)) = false := by rw [beq_eq_false_iff_ne]; omega
      go_wp2_with fail
      refine (cut_any ga tk gc (J.take tk) ca cn ccap cl w4 SG5.out (by omega) hcap.2 (HI.out.later B4.out) hcc).mono ?_
      rintro r_ w5 ⟨val, qs, rfl, ho, hqs, _, hb5⟩
      obtain ⟨ua, uc, rfl⟩ := own_shape ho
      have B5 : Hid (Below w.heap.size w w5) := B4.out.trans (hb5.mono B4.out.size)
      have CH := hide (chs_cut SG5.out (by omega) hcap.2 HB5.out hb5 ho hqs)
      have HQS := hide hqs
      have LP5 := hide (LP.out.below hb5 (Nat.le_refl _))
      clear ho hb5 hqs SG5 LP
      go_wp2_with fail
      refine (drain_bytes 1 (by omega) (J.take tk) init T 11 HM.out tk HTL.out (by omega) ua _ uc qs a w5 HQS.out CH.out (HAL.out.later B5.out) (HER.out.below B5.out (Nat.le_refl _))).mono ?_
      rintro r_ w6 ⟨val, gt, rfl, hR, hg, hb6⟩
      obtain ⟨ya, yc, rfl⟩ := hR.shape
      have B6 : Hid (Below w.heap.size w w6) := B5.out.trans (hb6.mono B5.out.size)
      have EL : gt.length = init.length := by have := congrArg List.length hg; rwa [List.length_map] at this
      have LA : Hid (Lst w6 ya gt.length init) := by rw [← hg]; exact hR.lst
      have LP6 := hide (LP5.out.below hb6 (Nat.le_refl _))
      rw [EL] at LA ⊢
      clear hR hg hb6 EL CH HQS LP5
      generalize init.length = il at *
      go_wp2_with fail
      refine (sameLst_any ya pa il yc pcap _ w6 LA.out LP6.out).mono ?_
      rintro r_ w7 ⟨rfl, q, rfl⟩
      have B7 := hide (below_drewN B6.out q)
      generalize w6.drewN q = w7 at *
      clear LA LP6
      go_wp2_with fail
      refine (num_any 11 _).mono ?_
      rintro r_ w8 ⟨rfl, rfl⟩
      go_wp2
      go_ret
      exact ⟨by simp, B7.out⟩
end Go.Proofs.YtiajkdjljilndaaDoor
