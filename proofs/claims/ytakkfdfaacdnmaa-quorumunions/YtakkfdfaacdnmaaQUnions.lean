/- Proved: for every n, self, own attributes and votes QuorumUnions answers true: with F or more replies of different others Slow gives the least attributes that cover own and all of them, with fewer it waits. No condition. -/
import Derived.Test.YtakkfdfaacdnmaaQCover
namespace Go.Proofs.Ytakkfdfaacdnmaa
open Go.ChangeShapes Go.WideShapes Go.ChangeAt Go.RowKit Go.Wire1

namespace quorumUnions
theorem gd_snd {n q : Int} {x : List Int} (hz : szQ n = true) (h : sndQ n q x = true) : Gd n.toNat x := by
  have hn3 : n = 3 ∨ n = 5 ∨ n = 7 := by unfold szQ at hz; simpa using hz
  unfold sndQ isVec at h
  simp only [Bool.and_eq_true, decide_eq_true_eq] at h
  exact ⟨by omega, h.2.2.2.2⟩
set_option maxHeartbeats 8000000 in
set_option maxRecDepth 100000 in
theorem walk (n slf seq : Int) (a : Option Addr) (k c : Nat) (l : List Int) (va : Option Addr) (N vc : Nat) (vs : List Vt) (w : World) (h : SegI w a k l) (hkc : k ≤ c) (hv : VRow w va N vs) :
    Calls Try.prog 6 #[.int .i64 n, .int .i64 slf, .agg #[.int .i64 seq, .slice a k c], .slice va N vc] w fun e w' => e = .returned (.bool true) ∧ Below w.heap.size w w' := by
  obtain ⟨U, hU⟩ : ∃ U, U = w.alloc (.cells #[.int .i64 seq, .slice a k c] 38) := ⟨_, rfl⟩
  have BU0 : Hid (Below w.heap.size w U) := by rw [hU]; exact (Below.refl _ w).alloc (Nat.le_refl _) _
  have QU0 : Hid (Blk U w.heap.size [.int .i64 seq, .slice a k c]) := by rw [hU]; exact blk_new w 38 [.int .i64 seq, .slice a k c]
  have HKC := hide hkc
  have HH := hide h
  have HV := hide hv
  have hN := hv.len
  have htop := hv.top
  have HN := hide hN
  clear h hkc hv hN
  go_enter Try.func6, Try.ntmps6
  go_upto_region 1 with fail
  rw [← hU]
  clear hU
  go_wp2_with fail
  refine (goes_any _).mono ?_
  rintro e w1 ⟨rfl, hb1⟩
  have B1 : Hid (Below w.heap.size w w1) := BU0.out.trans (hb1.mono BU0.out.size)
  have Q1 : Hid (Blk w1 w.heap.size [.int .i64 seq, .slice a k c]) := QU0.out.on hb1
  have y0 : w1.cell? ⟨w.heap.size, 0, none⟩ = some (.int .i64 seq) := Q1.out.cell 0 _ rfl
  have y1 : w1.cell? ⟨w.heap.size, 1, none⟩ = some (.slice a k c) := Q1.out.cell 1 _ rfl
  clear hb1 BU0 QU0
  obtain ⟨db, hd⟩ : ∃ b, (szQ n && repQ n slf) = b := ⟨_, rfl⟩
  obtain ⟨sb, hs⟩ : ∃ b, sndB n seq l = b := ⟨_, rfl⟩
  go_wp2_with fail
  refine (decides_any n slf _).mono ?_
  rintro e w2 ⟨rfl, rfl⟩
  rw [hd]
  go_wp2_with fail
  refine (sound_any _ _ _ _ _ _ _ (HH.out.below B1.out (Nat.le_refl _))).mono ?_
  rintro e w2 ⟨rfl, rfl⟩
  rw [hs]
  go_wp2_with fail
  refine (unlike_any va N vc vs _ (HV.out.below B1.out (Nat.le_refl _))).mono ?_
  rintro e w2 ⟨b, rfl, HU, d0, rfl⟩
  have B2 : Hid (Below w.heap.size w (w1.drewN d0)) := below_drewN B1.out _
  have Q2 : Hid (Blk (w1.drewN d0) w.heap.size [.int .i64 seq, .slice a k c]) := Q1.out.drewN _
  clear B1 Q1 y0 y1
  generalize w1.drewN d0 = w2 at *
  cases db with
  | false =>
    go_wp2
    go_ret
    exact ⟨rfl, B2.out⟩
  | true =>
    cases sb with
    | false =>
      go_wp2
      go_ret
      exact ⟨rfl, B2.out⟩
    | true =>
      cases b with
      | false =>
        go_wp2
        go_ret
        exact ⟨rfl, B2.out⟩
      | true =>
        have hsz : szQ n = true := by cases h1 : szQ n with
          | true => rfl
          | false => rw [h1] at hd; cases hd
        have HSZ := hide hsz
        have HUN : Hid ((vs.map (·.fr)).Nodup) := HU.out rfl
        clear HU
        have HLD : Hid (leadQ n slf seq l = true) := by
          show _ = _
          unfold leadQ
          rw [← sndB_sz hsz, hs, ← Bool.and_assoc, hd]; rfl
        have HGL : Hid (Gd n.toNat l) := gd_snd hsz (by rw [← sndB_sz hsz]; exact hs)
        have hn3 : n = 3 ∨ n = 5 ∨ n = 7 := by unfold szQ at hsz; simpa using hsz
        have HN3 := hide hn3
        clear hd hs hsz hn3
        go_wp2
        go_loopw [13] (fun i wr => ∃ q : Nat, i = .int .i64 (q : Int) ∧ q ≤ N ∧ Hid (∀ v ∈ vs.take q, sndB n v.seq v.deps = true ∧ repQ n v.fr = true ∧ v.fr ≠ slf) ∧ Hid (∃ e0 : Nat, wr = w2.drewN e0)) (fun i _ => N - (intOf i).toNat)
        case atStart => exact ⟨0, rfl, Nat.zero_le _, hide (fun v hv => by cases hv), hide ⟨0, rfl⟩⟩
        case round =>
          obtain ⟨q, rfl, hq, HAL, HD⟩ := hrel
          have HWR : Hid (Below w.heap.size w wr) := by obtain ⟨e0, e⟩ := HD.out; rw [e]; exact below_drewN B2.out _
          have HVR : Hid (VRow wr va N vs) := HV.out.below HWR.out (Nat.le_refl _)
          have HBR : Hid (Blk wr w.heap.size [.int .i64 seq, .slice a k c]) := by obtain ⟨e0, e⟩ := HD.out; rw [e]; exact Q2.out.drewN _
          have HLR : Hid (SegI wr a k l) := HH.out.below HWR.out (Nat.le_refl _)
          by_cases hlt : q < N
          · obtain ⟨b, off, rfl, hat⟩ := HVR.out.frAt (by omega)
            obtain ⟨v, hkv⟩ : ∃ v, vs[q]? = some v := ⟨_, List.getElem?_eq_getElem (by have := HN.out; omega)⟩
            have HNX : Hid (vs.take (q + 1) = vs.take q ++ [v]) := by show _ = _; rw [List.take_add_one, hkv]; rfl
            have HVS : Hid (SegI wr v.da v.dn v.deps) := (HVR.out.ok v (List.mem_of_getElem? hkv)).seg
            have hrg := hat q v hkv
            have c0 : wr.cell? ⟨b, off + q * 15, none⟩ = some (.int .i64 v.fr) := hrg 0 _ rfl
            have c13 : wr.cell? ⟨b, off + q * 15 + 13, none⟩ = some (.int .i64 v.seq) := hrg 13 _ rfl
            have c14 : wr.cell? ⟨b, off + q * 15 + 14, none⟩ = some (.slice v.da v.dn v.dc) := hrg 14 _ rfl
            clear hat hrg hkv
            cases hsb : sndB n v.seq v.deps with
            | false =>
              have HSB := hide hsb
              clear hsb
              go_wp2
              go_quiet ((go_at_call 10; exact Calls.quiet_of_same (sound_q _ _ _ _ _ _ _ (HVS.out.drewN _) HSB.out)))
              go_wp2
              go_ret
              exact ⟨rfl, below_drewN HWR.out _⟩
            | true =>
              have HSB := hide hsb
              clear hsb
              by_cases hf0 : v.fr < 0
              · go_wp2
                go_quiet ((go_at_call 10; exact Calls.quiet_of_same (sound_q _ _ _ _ _ _ _ (HVS.out.drewN _) HSB.out)))
                go_wp2
                go_ret
                exact ⟨rfl, below_drewN HWR.out _⟩
              · by_cases hf1 : n ≤ v.fr
                · skip
                  go_wp2
                  go_quiet ((go_at_call 10; exact Calls.quiet_of_same (sound_q _ _ _ _ _ _ _ (HVS.out.drewN _) HSB.out)))
                  go_wp2
                  go_ret
                  exact ⟨rfl, below_drewN HWR.out _⟩
                · by_cases hf2 : v.fr = slf
                  · have hb2 : (v.fr == slf) = true := beq_iff_eq.2 hf2
                    clear hf2
                    go_wp2
                    go_quiet ((go_at_call 10; exact Calls.quiet_of_same (sound_q _ _ _ _ _ _ _ (HVS.out.drewN _) HSB.out)))
                    go_wp2
                    go_ret
                    exact ⟨rfl, below_drewN HWR.out _⟩
                  · have hb2 : (v.fr == slf) = false := beq_eq_false_iff_ne.2 hf2
                    have HAL2 : Hid (∀ u ∈ vs.take (q + 1), sndB n u.seq u.deps = true ∧ repQ n u.fr = true ∧ u.fr ≠ slf) := fun u hu => by
                      rw [HNX.out] at hu
                      rcases List.mem_append.1 hu with hu | hu
                      · exact HAL.out u hu
                      · simp only [List.mem_singleton] at hu
                        subst hu
                        exact ⟨HSB.out, by unfold repQ; rw [decide_eq_true (show 0 ≤ u.fr by omega), decide_eq_true (show u.fr < n by omega)]; rfl, hf2⟩
                    clear hf2
                    go_wp2
                    go_quiet ((go_at_call 10; exact Calls.quiet_of_same (sound_q _ _ _ _ _ _ _ (HVS.out.drewN _) HSB.out)))
                    go_wp2
                    go_roundw
                    case rel => exact ⟨q + 1, by go_num, by omega, HAL2, by obtain ⟨e0, e⟩ := HD.out; exact hide ⟨_, by rw [e, World.drewN_drewN]⟩⟩
                    case measure => simp [intOf]; omega
          · have hqN : q = N := by omega
            subst hqN
            have hta : vs.take q = vs := List.take_of_length_le (by have := HN.out; omega)
            have HAA : Hid (∀ v ∈ vs, sndQ n v.seq v.deps = true ∧ repQ n v.fr = true ∧ v.fr ≠ slf) := fun v hv => by
              have := HAL.out v (by rw [hta]; exact hv)
              rwa [sndB_sz HSZ.out] at this
            have HGV : Hid (∀ v ∈ vs, Gd n.toNat v.deps) := fun v hv => gd_snd HSZ.out (HAA.out v hv).1
            have HSA : Hid (slowQ n slf seq l vs = if (vs.length : Int) < (n - 1) / 2 then (0, 0, []) else (2, uSeq seq vs, unionL (l :: vs.map (·.deps)))) := slow_all HLD.out HUN.out HAA.out
            clear hta HAL HAA HUN HLD HSZ
            by_cases hlen : (q : Int) < (n - 1) / 2
            · have HC : Hid (Calls Try.prog 15 #[.int .i64 n, .int .i64 slf, .agg #[.int .i64 seq, .slice a k c], .slice va q vc] wr fun e w' => AnsP wr ((0, 0, []) : Int × Int × List Int) e w') := by
                have := slow_any n slf seq a k c l va vc vs wr (HLR.out) HKC.out (by rw [HN.out]; exact HVR.out.row) HVR.out.ok
                rw [HSA.out, HN.out, if_pos hlen] at this
                exact this
              clear HSA
              go_wp2_with (first | (refine wpList_load_mid rfl 38 _ rfl w.heap.size 0 rfl [.int .i64 seq, .slice a k c] _ HBR.out.range Try.underlying38 rfl (by kernel_rfl) ?_))
              refine HC.out.mono ?_
              rintro e w5 ⟨u5, t5, rfl, ho5, hb5⟩
              dsimp only
              obtain ⟨X5, hX5⟩ : ∃ X5, X5 = w5.alloc (.cells [.int .i64 0, .slice none 0 0].toArray 38) := ⟨_, rfl⟩
              have ZX5 : Hid (Blk X5 w5.heap.size [.int .i64 0, .slice none 0 0]) := by rw [hX5]; exact blk_new w5 38 [.int .i64 0, .slice none 0 0]
              have TX5 := hide ZX5.out.there
              obtain ⟨Y5, hY5⟩ : ∃ Y5, Y5 = X5.setCells w5.heap.size 0 [.int .i64 0, .slice u5 0 t5] := ⟨_, rfl⟩
              have HP5 : Hid (Blk Y5 w5.heap.size [.int .i64 0, .slice u5 0 t5]) := by rw [hY5]; exact blk_cells ZX5.out rfl
              have HW5 : Hid (Below w5.heap.size w5 Y5) := by rw [hY5]; exact below_cells (Nat.le_refl _) _ _ _ (by rw [hX5]; exact (Below.refl _ _).alloc (Nat.le_refl _) _)
              have HX5 : Hid (w5.alloc (.cells #[.int .i64 0, .slice none 0 0] 38) = X5) := hX5.symm
              have HY5 := hide hY5
              have HV5 : Hid (Below wr.heap.size wr Y5) := hb5.trans (HW5.out.mono hb5.size)
              have B5 : Hid (Below w.heap.size w Y5) := HWR.out.trans (HV5.out.mono HWR.out.size)
              have Q5 : Hid (Blk Y5 w.heap.size [.int .i64 seq, .slice a k c]) := HBR.out.on HV5.out
              have z0 : Y5.cell? ⟨w5.heap.size, 0, none⟩ = some (.int .i64 0) := HP5.out.cell 0 _ rfl
              have z1 : Y5.cell? ⟨w5.heap.size, 1, none⟩ = some (.slice u5 0 t5) := HP5.out.cell 1 _ rfl
              clear hX5 hY5 hb5 ho5
              rcases HN3.out with rfl | rfl | rfl
              · have hle : (q : Int) < 1 := by omega
                clear hlen
                go_wp2_with (first | (rw [HX5.out]; refine wpList_store_mid rfl 38 _ _ rfl w5.heap.size 0 #[.int .i64 0, .slice u5 0 t5] rfl rfl TX5.out (by kernel_rfl) (by kernel_rfl) ?_; first | rw [← HY5.out] | (simp only [List.toList_toArray]; rw [← HY5.out])))
                go_ret
                exact ⟨rfl, B5.out⟩
              · have hle : (q : Int) < 2 := by omega
                clear hlen
                go_wp2_with (first | (rw [HX5.out]; refine wpList_store_mid rfl 38 _ _ rfl w5.heap.size 0 #[.int .i64 0, .slice u5 0 t5] rfl rfl TX5.out (by kernel_rfl) (by kernel_rfl) ?_; first | rw [← HY5.out] | (simp only [List.toList_toArray]; rw [← HY5.out])))
                go_ret
                exact ⟨rfl, B5.out⟩
              · have hle : (q : Int) < 3 := by omega
                clear hlen
                go_wp2_with (first | (rw [HX5.out]; refine wpList_store_mid rfl 38 _ _ rfl w5.heap.size 0 #[.int .i64 0, .slice u5 0 t5] rfl rfl TX5.out (by kernel_rfl) (by kernel_rfl) ?_; first | rw [← HY5.out] | (simp only [List.toList_toArray]; rw [← HY5.out])))
                go_ret
                exact ⟨rfl, B5.out⟩
            · have HC : Hid (Calls Try.prog 15 #[.int .i64 n, .int .i64 slf, .agg #[.int .i64 seq, .slice a k c], .slice va q vc] wr fun e w' => AnsP wr ((2, uSeq seq vs, unionL (l :: vs.map (·.deps))) : Int × Int × List Int) e w') := by
                have := slow_any n slf seq a k c l va vc vs wr (HLR.out) HKC.out (by rw [HN.out]; exact HVR.out.row) HVR.out.ok
                rw [HSA.out, HN.out, if_neg hlen] at this
                exact this
              obtain ⟨S, hS⟩ : ∃ S, S = uSeq seq vs := ⟨_, rfl⟩
              obtain ⟨D, hD⟩ : ∃ D, D = unionL (l :: vs.map (·.deps)) := ⟨_, rfl⟩
              have HFD : Hid (Fit D) := by rw [hD]; exact fit_union _
              have HS := hide hS
              have HDD := hide hD
              rw [← hS, ← hD] at HC
              clear hS hD HSA
              go_wp2_with (first | (refine wpList_load_mid rfl 38 _ rfl w.heap.size 0 rfl [.int .i64 seq, .slice a k c] _ HBR.out.range Try.underlying38 rfl (by kernel_rfl) ?_))
              refine HC.out.mono ?_
              rintro e w5 ⟨u5, t5, rfl, ho5, hb5⟩
              dsimp only
              obtain ⟨X5, hX5⟩ : ∃ X5, X5 = w5.alloc (.cells [.int .i64 0, .slice none 0 0].toArray 38) := ⟨_, rfl⟩
              have ZX5 : Hid (Blk X5 w5.heap.size [.int .i64 0, .slice none 0 0]) := by rw [hX5]; exact blk_new w5 38 [.int .i64 0, .slice none 0 0]
              have TX5 := hide ZX5.out.there
              obtain ⟨u', t', he, -, hseg⟩ := own_segI ho5 HFD.out
              injection he with e1 e2 e3
              rw [← e1] at hseg
              obtain ⟨dn, hdn⟩ : ∃ m, D.length = m := ⟨_, rfl⟩
              rw [hdn] at hseg ⊢
              obtain ⟨Y5, hY5⟩ : ∃ Y5, Y5 = X5.setCells w5.heap.size 0 [.int .i64 S, .slice u5 dn t5] := ⟨_, rfl⟩
              have HP5 : Hid (Blk Y5 w5.heap.size [.int .i64 S, .slice u5 dn t5]) := by rw [hY5]; exact blk_cells ZX5.out rfl
              have HW5 : Hid (Below w5.heap.size w5 Y5) := by rw [hY5]; exact below_cells (Nat.le_refl _) _ _ _ (by rw [hX5]; exact (Below.refl _ _).alloc (Nat.le_refl _) _)
              have HX5 : Hid (w5.alloc (.cells #[.int .i64 0, .slice none 0 0] 38) = X5) := hX5.symm
              have HY5 := hide hY5
              have HV5 : Hid (Below wr.heap.size wr Y5) := hb5.trans (HW5.out.mono hb5.size)
              have B5 : Hid (Below w.heap.size w Y5) := HWR.out.trans (HV5.out.mono HWR.out.size)
              have Q5 : Hid (Blk Y5 w.heap.size [.int .i64 seq, .slice a k c]) := HBR.out.on HV5.out
              have HS5 : Hid (SegI Y5 u5 dn D) := hseg.below HW5.out (Nat.le_refl _)
              clear hX5 hY5 hb5 ho5 hseg hdn e1 e2 e3
              have HCV : Hid (Calls Try.prog 16 #[.agg #[.int .i64 S, .slice u5 dn t5], .agg #[.int .i64 seq, .slice a k c], .slice va q vc] Y5 fun e w' => e = .returned (.bool true) ∧ Below Y5.heap.size Y5 w') :=
                covered_any S u5 dn t5 seq a k c l va q vc vs n.toNat Y5 (by have := HN3.out; omega) HGL.out HGV.out HS.out (by rw [← HDD.out]; exact HS5.out) (HLR.out.below HV5.out (Nat.le_refl _)) (HVR.out.below HV5.out (Nat.le_refl _))
              rcases HN3.out with rfl | rfl | rfl
              · have hle : ¬ (q : Int) < 1 := by omega
                clear hlen
                go_wp2_with (first | (rw [HX5.out]; refine wpList_store_mid rfl 38 _ _ rfl w5.heap.size 0 #[.int .i64 S, .slice u5 dn t5] rfl rfl TX5.out (by kernel_rfl) (by kernel_rfl) ?_; first | rw [← HY5.out] | (simp only [List.toList_toArray]; rw [← HY5.out])) | (refine wpList_load_mid rfl 38 _ rfl w5.heap.size 0 rfl [.int .i64 S, .slice u5 dn t5] _ HP5.out.range Try.underlying38 rfl (by kernel_rfl) ?_) | (refine wpList_load_mid rfl 38 _ rfl w.heap.size 0 rfl [.int .i64 seq, .slice a k c] _ Q5.out.range Try.underlying38 rfl (by kernel_rfl) ?_))
                refine HCV.out.mono ?_
                rintro e w6 ⟨rfl, hb6⟩
                have B6 : Hid (Below w.heap.size w w6) := B5.out.trans (hb6.mono B5.out.size)
                clear hb6
                go_wp2
                go_ret
                exact ⟨rfl, B6.out⟩
              · have hle : ¬ (q : Int) < 2 := by omega
                clear hlen
                go_wp2_with (first | (rw [HX5.out]; refine wpList_store_mid rfl 38 _ _ rfl w5.heap.size 0 #[.int .i64 S, .slice u5 dn t5] rfl rfl TX5.out (by kernel_rfl) (by kernel_rfl) ?_; first | rw [← HY5.out] | (simp only [List.toList_toArray]; rw [← HY5.out])) | (refine wpList_load_mid rfl 38 _ rfl w5.heap.size 0 rfl [.int .i64 S, .slice u5 dn t5] _ HP5.out.range Try.underlying38 rfl (by kernel_rfl) ?_) | (refine wpList_load_mid rfl 38 _ rfl w.heap.size 0 rfl [.int .i64 seq, .slice a k c] _ Q5.out.range Try.underlying38 rfl (by kernel_rfl) ?_))
                refine HCV.out.mono ?_
                rintro e w6 ⟨rfl, hb6⟩
                have B6 : Hid (Below w.heap.size w w6) := B5.out.trans (hb6.mono B5.out.size)
                clear hb6
                go_wp2
                go_ret
                exact ⟨rfl, B6.out⟩
              · have hle : ¬ (q : Int) < 3 := by omega
                clear hlen
                go_wp2_with (first | (rw [HX5.out]; refine wpList_store_mid rfl 38 _ _ rfl w5.heap.size 0 #[.int .i64 S, .slice u5 dn t5] rfl rfl TX5.out (by kernel_rfl) (by kernel_rfl) ?_; first | rw [← HY5.out] | (simp only [List.toList_toArray]; rw [← HY5.out])) | (refine wpList_load_mid rfl 38 _ rfl w5.heap.size 0 rfl [.int .i64 S, .slice u5 dn t5] _ HP5.out.range Try.underlying38 rfl (by kernel_rfl) ?_) | (refine wpList_load_mid rfl 38 _ rfl w.heap.size 0 rfl [.int .i64 seq, .slice a k c] _ Q5.out.range Try.underlying38 rfl (by kernel_rfl) ?_))
                refine HCV.out.mono ?_
                rintro e w6 ⟨rfl, hb6⟩
                have B6 : Hid (Below w.heap.size w w6) := B5.out.trans (hb6.mono B5.out.size)
                clear hb6
                go_wp2
                go_ret
                exact ⟨rfl, B6.out⟩

set_option maxRecDepth 100000 in
/-- For every argument and every world. -/
theorem contract (H : Type) (enc : TypeId × Value → H) (W : World) (base : Nat) (args : Array Value) (ds gs : List (DataW H)) (before : List MemPlace)
    (hval : ∀ (j : Nat) t v, Try.f6.params[j]? = some t → args[j]? = some v → Value.okWide Try.prog W .any base t v)
    (hW : DataW.Whole enc Try.prog Try.f6.params.toList Rows.quorumUnionsSpec.vars false W args.toList ds gs before)
    (hsz : (DataW.weightsEach Try.prog (Try.f6.params.toList ++ Rows.quorumUnionsSpec.plain.varTypes Try.prog) (ds ++ gs)).all (· ≤ reachBytes) = true) :
    Calls Try.prog 6 args W fun e W' => ∃ v, e = .returned v ∧ Rows.quorumUnionsSpec.post enc Try.prog Try.f6 false true false false W args v W' := by
  have hW' := hW
  obtain ⟨p, q, hA0, hV, rfl, hfz, hnd⟩ := hW
  have hA : DataW.TrodAll enc Try.prog W 0 (fun _ => true) true Try.f6.params.toList args.toList ds p := hA0
  rw [Try.params6] at hA hval hsz
  obtain ⟨v0, vs0, d0, ds0, p0, q0, hargs, rfl, rfl, h0, tr0⟩ := trodAll_cons hA
  obtain ⟨v1, vs1, d1, ds1, p1, q1, rfl, rfl, rfl, h1, tr1⟩ := trodAll_cons tr0
  obtain ⟨v2, vs2, d2, ds2, p2, q2, rfl, rfl, rfl, h2, tr2⟩ := trodAll_cons tr1
  obtain ⟨v3, vs3, d3, ds3, p3, q3, rfl, rfl, rfl, h3, tr3⟩ := trodAll_cons tr2
  obtain ⟨rfl, rfl, rfl⟩ := trodAll_nil tr3
  obtain rfl : args = #[v0, v1, v2, v3] := by cases args; simp_all
  obtain ⟨rfl, rfl⟩ := trodVars_none hV
  obtain ⟨y0, rfl, rfl, rfl, w0⟩ := open_int Try.underlying3 (hval 0 3 v0 rfl rfl) h0
  have b0 := bounds_i64 w0
  obtain ⟨y1, rfl, rfl, rfl, w1⟩ := open_int Try.underlying3 (hval 1 3 v1 rfl rfl) h1
  have b1 := bounds_i64 w1
  have k2 := h2
  have lt2 : ∀ x ∈ p2, x.block < W.heap.size := by obtain ⟨m, hm⟩ := k2; exact DataW.trod_lt m _ _ _ hm
  obtain ⟨sq2, a2, n2, cap2, l2, rfl, hseg2, hcap2, b2⟩ := qopen_attr (hval 2 38 v2 rfl rfl) h2
  obtain ⟨a3, n3, cap3, rfl⟩ := okWide_slice Try.underlying22 (hval 3 22 v3 rfl rfl)
  have k3 := h3
  have lt3 : ∀ x ∈ p3, x.block < W.heap.size := by obtain ⟨m, hm⟩ := k3; exact DataW.trod_lt m _ _ _ hm
  obtain ⟨fuel3, hf3⟩ := h3
  obtain ⟨l3, hseg3, hcap3⟩ := qopen_votes hf3 (fun m hm => of_decide_eq_true (List.all_eq_true.1 hsz _ (DataW.weights_mem_each (j := 3) rfl rfl m hm)))
  clear hA0
  refine (walk y0 y1 sq2 a2 n2 cap2 l2 a3 n3 cap3 l3 W hseg2 hcap2 hseg3).mono fun e W' ⟨he, bel⟩ => ?_
  subst he
  exact ⟨_, rfl, _, _, _, [], _, [], hW', trodAll_mk1 (shut_bool Try.underlying4 _), (trodAll_cons_mk (shut_int Try.underlying3 w0) (trodAll_cons_mk (shut_int Try.underlying3 w1) (trodAll_cons_mk (Below.trod vlaid (by kernel_rfl) (of_decide_eq_true (by kernel_rfl)) k2 bel lt2) (trodAll_cons_mk (Below.trod vlaid (by kernel_rfl) (of_decide_eq_true (by kernel_rfl)) k3 bel lt3) trodAll_mk0)))), rfl, bel.frame _, fun h => by cases h⟩

set_option maxRecDepth 100000 in
theorem lifted (os : Os) (started : os.Started) (H : Type) (enc : TypeId × Value → H) :
    ReturnsInHanded {} Try.checked os 6 .any (Rows.quorumUnionsSpec.pre6 enc Try.prog Try.f6 Rows.quorumUnionsRow.domain false) (Rows.quorumUnionsSpec.post enc Try.prog Try.f6 false true false false) := by
  refine returnsInHanded_of_change_sized (C := Try.checked) vown started (by kernel_rfl) Try.func6
    (ChangeSpec.witness6 (enc := enc) (C := Try.checked) false ⟨#[], #[.int .i64 0, .int .i64 0, .agg #[.int .i64 0, .slice none 0 0], .slice none 0 0], []⟩ 8 (by kernel_rfl) (by kernel_rfl) (by kernel_rfl) (by kernel_rfl)) ?_
  intro W base args ds gs before hval hW _ hsz _
  exact contract H enc W base args ds gs before hval hW hsz

end quorumUnions
theorem quorumUnions_proved : Rows.QuorumUnionsSaid :=
  OpenClaim.holds_of_wide 6 Try.f6 rfl rfl rfl rfl rfl rfl rfl ⟨rfl, rfl, rfl, rfl, rfl⟩ rfl rfl rfl rfl rfl (by kernel_rfl) Try.func6 (by kernel_rfl)
    (of_decide_eq_true (by kernel_rfl)) (by unfold Func.isWrapper; first | (rw [if_pos (by decide +kernel)]; kernel_rfl) | (rw [if_neg (by decide +kernel)]; exact ⟨rfl, rfl⟩))
    (fun os started H enc _ => quorumUnions.lifted os started H enc)
#print axioms quorumUnions_proved
end Go.Proofs.Ytakkfdfaacdnmaa
