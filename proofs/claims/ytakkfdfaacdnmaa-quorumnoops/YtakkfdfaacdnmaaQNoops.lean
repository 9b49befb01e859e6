/- Proved: for every n, row and list of votes QuorumNoops answers true: a noop is planned just where F + 1 replicas are among the votes and none that counts has voted. No condition. -/
import Derived.Test.YtakkfdfaacdnmaaQNoM
namespace Go.Proofs.Ytakkfdfaacdnmaa
open Go.ChangeShapes Go.WideShapes Go.ChangeAt Go.RowKit Go.Wire1

namespace quorumNoops
theorem segI_nilQ (w : World) : SegI w none 0 [] := ⟨rfl, by unfold maxLen; omega, fun h => by omega, fun j => by simp⟩
theorem row3_new (w : World) (v1 v2 v3 : Vt) : RowS (w.alloc (.cells (vcs v1 ++ (vcs v2 ++ vcs v3)).toArray 32)) 15 (some ⟨w.heap.size, 0, none⟩) 3 [vcs v1, vcs v2, vcs v3] := by
  have hb := blk_new w 32 (vcs v1 ++ (vcs v2 ++ vcs v3))
  have key : ∀ i cs, [vcs v1, vcs v2, vcs v3][i]? = some cs → ∀ j u, cs[j]? = some u → (vcs v1 ++ (vcs v2 ++ vcs v3))[i * 15 + j]? = some u := by
    intro i cs hi j u hj
    have h1 : ∀ v : Vt, (vcs v)[j]? = some u → j < 15 := fun v h => by have := (List.getElem?_eq_some_iff.1 h).1; rwa [vcs_len] at this
    match i, hi with
    | 0, hi =>
      simp only [List.getElem?_cons_zero, Option.some.injEq] at hi
      subst hi
      rw [Nat.zero_mul, Nat.zero_add, List.getElem?_append_left (List.getElem?_eq_some_iff.1 hj).1]; exact hj
    | 1, hi =>
      simp only [List.getElem?_cons_succ, List.getElem?_cons_zero, Option.some.injEq] at hi
      subst hi
      rw [List.getElem?_append_right (by rw [vcs_len]; omega), vcs_len, show 1 * 15 + j - 15 = j by omega, List.getElem?_append_left (List.getElem?_eq_some_iff.1 hj).1]; exact hj
    | 2, hi =>
      simp only [List.getElem?_cons_succ, List.getElem?_cons_zero, Option.some.injEq] at hi
      subst hi
      rw [List.getElem?_append_right (by rw [vcs_len]; omega), vcs_len, List.getElem?_append_right (by rw [vcs_len]; omega), vcs_len, show 2 * 15 + j - 15 - 15 = j by omega]; exact hj
    | i + 3, hi => simp at hi
  refine ⟨rfl, by unfold maxLen; omega, fun _ => ⟨w.heap.size, 0, rfl, fun i cs hi j u hj => ?_⟩, fun cs hc => ?_⟩
  · simp only [Nat.zero_add]
    exact hb.cell (i * 15 + j) u (key i cs hi j u hj)
  · simp only [List.mem_cons, List.not_mem_nil, or_false] at hc
    rcases hc with rfl | rfl | rfl
    · exact ⟨rfl, vcs_one _⟩
    · exact ⟨rfl, vcs_one _⟩
    · exact ⟨rfl, vcs_one _⟩
theorem built_vote (i : Int) (w : World) : (Instr.build 32 #[(0, .int .i64 i)]).run Try.prog w = .ok (.agg #[.int .i64 i, .int .i64 0, .bool false, .int .i64 0, .int .i64 0, .int .i64 0, .int .i64 0, .int .i64 0, .string ⟨#[]⟩, .string ⟨#[]⟩, .string ⟨#[]⟩, .string ⟨#[]⟩, .int .i64 0, .int .i64 0, .slice none 0 0]) w := by kernel_rfl
set_option maxHeartbeats 8000000 in
set_option maxRecDepth 100000 in
theorem walk (n row : Int) (va : Option Addr) (N vc : Nat) (vs : List Vt) (w : World) (hv : VRow w va N vs) (hb : -9223372036854775808 ≤ row ∧ row ≤ 9223372036854775807) :
    Calls Try.prog 3 #[.int .i64 n, .int .i64 row, .slice va N vc] w fun e w' => e = .returned (.bool true) ∧ Below w.heap.size w w' := by
  obtain ⟨W1, hW1⟩ : ∃ W1, W1 = w.alloc (.cells #[.int .i64 1, .int .i64 0, .bool false, .int .i64 0, .int .i64 0, .int .i64 0, .int .i64 0, .int .i64 0, .string ⟨#[]⟩, .string ⟨#[]⟩, .string ⟨#[]⟩, .string ⟨#[]⟩, .int .i64 0, .int .i64 0, .slice none 0 0, .int .i64 2, .int .i64 0, .bool false, .int .i64 0, .int .i64 0, .int .i64 0, .int .i64 0, .int .i64 0, .string ⟨#[]⟩, .string ⟨#[]⟩, .string ⟨#[]⟩, .string ⟨#[]⟩, .int .i64 0, .int .i64 0, .slice none 0 0, .int .i64 3, .int .i64 0, .bool false, .int .i64 0, .int .i64 0, .int .i64 0, .int .i64 0, .int .i64 0, .string ⟨#[]⟩, .string ⟨#[]⟩, .string ⟨#[]⟩, .string ⟨#[]⟩, .int .i64 0, .int .i64 0, .slice none 0 0] 32) := ⟨_, rfl⟩
  have B1 : Hid (Below w.heap.size w W1) := by rw [hW1]; exact (Below.refl _ w).alloc (Nat.le_refl _) _
  have R1 : Hid (RowS W1 15 (some ⟨w.heap.size, 0, none⟩) 3 [vcs (rv 1 0 none 0 0 []), vcs (rv 2 0 none 0 0 []), vcs (rv 3 0 none 0 0 [])]) := by rw [hW1]; exact row3_new w (rv 1 0 none 0 0 []) (rv 2 0 none 0 0 []) (rv 3 0 none 0 0 [])
  have HW1 := hide hW1
  clear hW1
  go_enter Try.func3, Try.ntmps3
  go_wp2_with fail
  rw [← HW1.out]
  have HPQ : planQ 5 0 [rv 1 0 none 0 0 [], rv 2 0 none 0 0 [], rv 3 0 none 0 0 []] = (1, cmZ, 0, []) := by kernel_rfl
  have hcall := prep_any 5 0 (some ⟨w.heap.size, 0, none⟩) 3 [rv 1 0 none 0 0 [], rv 2 0 none 0 0 [], rv 3 0 none 0 0 []] W1 R1.out (fun v hv => by
    simp only [List.mem_cons, List.not_mem_nil, or_false] at hv
    rcases hv with rfl | rfl | rfl
    · exact ⟨segI_nilQ _, Nat.le_refl _, by show (-9223372036854775808 : Int) ≤ 1 ∧ (1 : Int) ≤ 9223372036854775807; omega⟩
    · exact ⟨segI_nilQ _, Nat.le_refl _, by show (-9223372036854775808 : Int) ≤ 2 ∧ (2 : Int) ≤ 9223372036854775807; omega⟩
    · exact ⟨segI_nilQ _, Nat.le_refl _, by show (-9223372036854775808 : Int) ≤ 3 ∧ (3 : Int) ≤ 9223372036854775807; omega⟩) (by omega)
  rw [HPQ] at hcall
  refine hcall.mono ?_
  rintro e w2 ⟨ua, uc, rfl, -, hb2⟩
  obtain ⟨X2, hX2⟩ : ∃ X2, X2 = w2.alloc (.cells zP.toArray 27) := ⟨_, rfl⟩
  have ZX2 : Hid (Blk X2 w2.heap.size zP) := by rw [hX2]; exact blk_new w2 27 zP
  have BX2 : Hid (Below W1.heap.size W1 X2) := by rw [hX2]; exact hb2.alloc hb2.size _
  have TX2 := hide ZX2.out.there
  obtain ⟨Y, hY⟩ : ∃ Y, Y = X2.setCells w2.heap.size 0 (pcs 1 cmZ 0 ua 0 uc) := ⟨_, rfl⟩
  have HYB : Hid (Blk Y w2.heap.size (pcs 1 cmZ 0 ua 0 uc)) := by rw [hY]; exact blk_cells ZX2.out rfl
  have hs2 := hb2.size
  have HYW : Hid (Below w.heap.size w Y) := by rw [hY]; exact below_cells (Nat.le_trans B1.out.size hs2) _ _ _ (B1.out.trans (BX2.out.mono B1.out.size))
  have HX2 : Hid (w2.alloc (.cells #[.int .i64 0, .int .i64 0, .int .i64 0, .int .i64 0, .string ⟨#[]⟩, .string ⟨#[]⟩, .string ⟨#[]⟩, .string ⟨#[]⟩, .int .i64 0, .int .i64 0, .slice none 0 0] 27) = X2) := hX2.symm
  have HY := hide hY
  have y0 : Y.cell? ⟨w2.heap.size, 0, none⟩ = some (.int .i64 1) := HYB.out.cell 0 _ rfl
  have HVY := hide (hv.below HYW.out (Nat.le_refl _))
  have HN : Hid (vs.length = N) := hv.len
  have htop := hv.top
  have HW1S : Hid (w.heap.size ≤ W1.heap.size) := B1.out.size
  clear hX2 hY hb2 R1 HW1 HPQ hcall hv B1
  cases hd : (szQ n && repQ n row) with
  | false =>
    go_wp2_with (first | (rw [HX2.out]; refine wpList_store_mid rfl 27 _ _ rfl w2.heap.size 0 (pcs 1 cmZ 0 ua 0 uc).toArray rfl rfl TX2.out (by kernel_rfl) (all_oneCell_toArray (pcs_one _ _ _ _ _ _)) ?_; first | rw [← HY.out] | (simp only [List.toList_toArray]; rw [← HY.out])) | (go_at_call 8; refine (decides_any n row _).mono ?_; rintro e w3 ⟨rfl, rfl⟩; rw [hd]))
    refine (unlike_any va N vc vs _ HVY.out).mono ?_
    rintro e w5 ⟨b, rfl, -, d, rfl⟩
    go_wp2
    go_ret
    exact ⟨rfl, below_drewN HYW.out _⟩
  | true =>
    go_wp2_with (first | (rw [HX2.out]; refine wpList_store_mid rfl 27 _ _ rfl w2.heap.size 0 (pcs 1 cmZ 0 ua 0 uc).toArray rfl rfl TX2.out (by kernel_rfl) (all_oneCell_toArray (pcs_one _ _ _ _ _ _)) ?_; first | rw [← HY.out] | (simp only [List.toList_toArray]; rw [← HY.out])) | (go_at_call 8; refine (decides_any n row _).mono ?_; rintro e w3 ⟨rfl, rfl⟩; rw [hd]))
    refine (unlike_any va N vc vs _ HVY.out).mono ?_
    rintro e w5 ⟨b, rfl, HU, d0, rfl⟩
    cases b with
    | false =>
      go_wp2
      go_ret
      exact ⟨rfl, below_drewN HYW.out _⟩
    | true =>
      have HK := hide (plan_kind hd (HU.out rfl))
      obtain ⟨U, hU⟩ : ∃ U, U = Y.drewN d0 := ⟨_, rfl⟩
      have HUB : Hid (Blk U w2.heap.size (pcs 1 cmZ 0 ua 0 uc)) := by rw [hU]; exact HYB.out.drewN _
      have HUW : Hid (Below w.heap.size w U) := by rw [hU]; exact below_drewN HYW.out _
      have HUV : Hid (VRow U va N vs) := by rw [hU]; exact HVY.out.below (below_drewN (Below.refl _ _) _) (Nat.le_refl _)
      have HBO := hide hb
      have hsz : szQ n = true := by cases h1 : szQ n with
        | true => rfl
        | false => rw [h1] at hd; cases hd
      have HSZ := hide hsz
      have hn3 : n = 3 ∨ n = 5 ∨ n = 7 := by unfold szQ at hsz; simpa using hsz
      have HN3 := hide hn3
      rw [← hU]
      clear hU hd HU HYB HYW HVY HY HX2 TX2 ZX2 BX2 hsz hn3 hb
      go_wp2
      go_loopw [10, 11, 12] (fun x y i wr => ∃ q : Nat, i = .int .i64 (q : Int) ∧ q ≤ N ∧ x = .int .i64 (noneN n (vs.take q) : Int) ∧ y = .int .i64 (someN n (vs.take q) : Int) ∧ Hid (∃ d : Nat, wr = U.drewN d)) (fun _ _ i _ => N - (intOf i).toNat)
      case atStart => exact ⟨0, rfl, Nat.zero_le _, rfl, rfl, hide ⟨0, rfl⟩⟩
      case round =>
        obtain ⟨q, rfl, hq, hx, hy, HD⟩ := hrel
        subst hx hy
        have HVR : Hid (VRow wr va N vs) := by obtain ⟨d, e⟩ := HD.out; rw [e]; exact HUV.out.below (below_drewN (Below.refl _ _) _) (Nat.le_refl _)
        have HWR : Hid (Below w.heap.size w wr) := by obtain ⟨d, e⟩ := HD.out; rw [e]; exact below_drewN HUW.out _
        have HBR : Hid (Blk wr w2.heap.size (pcs 1 cmZ 0 ua 0 uc)) := by obtain ⟨d, e⟩ := HD.out; rw [e]; exact HUB.out.drewN _
        have hc1 : noneN n (vs.take q) ≤ q := Nat.le_trans (List.countP_le_length ..) (by simp; omega)
        have hc2 : someN n (vs.take q) ≤ q := Nat.le_trans (List.countP_le_length ..) (by simp; omega)
        by_cases hlt : q < N
        · obtain ⟨b, off, rfl, hat⟩ := HVR.out.frAt (by omega)
          obtain ⟨v, hkv⟩ : ∃ v, vs[q]? = some v := ⟨_, List.getElem?_eq_getElem (by have := HN.out; omega)⟩
          have HNX : Hid (vs.take (q + 1) = vs.take q ++ [v]) := by show _ = _; rw [List.take_add_one, hkv]; rfl
          have HVS : Hid (SegI wr v.da v.dn v.deps) := (HVR.out.ok v (List.mem_of_getElem? hkv)).seg
          have hrg := hat q v hkv
          have c0 : wr.cell? ⟨b, off + q * 15, none⟩ = some (.int .i64 v.fr) := hrg 0 _ rfl
          have c1 : wr.cell? ⟨b, off + q * 15 + 1, none⟩ = some (.int .i64 v.st) := hrg 1 _ rfl
          have c13 : wr.cell? ⟨b, off + q * 15 + 13, none⟩ = some (.int .i64 v.seq) := hrg 13 _ rfl
          have c14 : wr.cell? ⟨b, off + q * 15 + 14, none⟩ = some (.slice v.da v.dn v.dc) := hrg 14 _ rfl
          clear hat hrg
          obtain ⟨sb, hsb⟩ : ∃ b, sndB n v.seq v.deps = b := ⟨_, rfl⟩
          have hsq : sndQ n v.seq v.deps = sb := by rw [← sndB_sz HSZ.out]; exact hsb
          have HSB := hide hsb
          clear hsb
          by_cases hf0 : v.fr < 0
          · have hrep : repQ n v.fr = false := by unfold repQ; rw [decide_eq_false (by omega)]; rfl
            have HN2 : Hid ((noneN n (vs.take (q + 1)) : Int) = (noneN n (vs.take q) : Int)) := by
              show _ = _
              unfold noneN
              rw [HNX.out, List.countP_append, List.countP_singleton]
              rw [if_neg (by rw [hrep]; simp)]; simp
            have HS2 : Hid ((someN n (vs.take (q + 1)) : Int) = (someN n (vs.take q) : Int)) := by
              show _ = _
              unfold someN
              rw [HNX.out, List.countP_append, List.countP_singleton]
              rw [if_neg (by rw [hrep]; simp)]; simp
            clear hkv hsq hrep
            go_wp2
            go_quiet ((go_at_call 10; exact Calls.quiet_of_same (sound_q _ _ _ _ _ _ _ (HVS.out.drewN _) HSB.out)))
            go_wp2
            go_roundw
            case rel => exact ⟨q + 1, by go_num, by omega, by rw [HN2.out], by rw [HS2.out], by obtain ⟨d, e⟩ := HD.out; exact hide ⟨d + nq, by rw [e, World.drewN_drewN]⟩⟩
            case measure => simp [intOf]; omega
          · by_cases hf1 : n ≤ v.fr
            · have hrep : repQ n v.fr = false := by unfold repQ; rw [decide_eq_false (show ¬ v.fr < n by omega)]; simp
              have HN2 : Hid ((noneN n (vs.take (q + 1)) : Int) = (noneN n (vs.take q) : Int)) := by
                show _ = _
                unfold noneN
                rw [HNX.out, List.countP_append, List.countP_singleton]
                rw [if_neg (by rw [hrep]; simp)]; simp
              have HS2 : Hid ((someN n (vs.take (q + 1)) : Int) = (someN n (vs.take q) : Int)) := by
                show _ = _
                unfold someN
                rw [HNX.out, List.countP_append, List.countP_singleton]
                rw [if_neg (by rw [hrep]; simp)]; simp
              clear hkv hsq hrep
              go_wp2
              go_quiet ((go_at_call 10; exact Calls.quiet_of_same (sound_q _ _ _ _ _ _ _ (HVS.out.drewN _) HSB.out)))
              go_wp2
              go_roundw
              case rel => exact ⟨q + 1, by go_num, by omega, by rw [HN2.out], by rw [HS2.out], by obtain ⟨d, e⟩ := HD.out; exact hide ⟨d + nq, by rw [e, World.drewN_drewN]⟩⟩
              case measure => simp [intOf]; omega
            · have hrep : repQ n v.fr = true := by unfold repQ; rw [decide_eq_true (by omega), decide_eq_true (by omega)]; rfl
              by_cases hs0 : v.st = 0
              · have hvt : votedQ v.st = false := by unfold votedQ; rw [hs0]; rfl
                have hz : (v.st == 0) = true := by rw [hs0]; rfl
                rw [hs0] at c1
                have HN2 : Hid ((noneN n (vs.take (q + 1)) : Int) = (noneN n (vs.take q) : Int) + 1) := by
                  show _ = _
                  unfold noneN
                  rw [HNX.out, List.countP_append, List.countP_singleton]
                  rw [if_pos (by rw [hrep, hz]; rfl)]; simp
                have HS2 : Hid ((someN n (vs.take (q + 1)) : Int) = (someN n (vs.take q) : Int)) := by
                  show _ = _
                  unfold someN
                  rw [HNX.out, List.countP_append, List.countP_singleton]
                  rw [if_neg (by rw [hvt]; simp)]; simp
                clear hkv hsq hrep hvt hz hs0
                go_wp2
                go_quiet ((go_at_call 10; exact Calls.quiet_of_same (sound_q _ _ _ _ _ _ _ (HVS.out.drewN _) HSB.out)))
                go_wp2
                go_roundw
                case rel => exact ⟨q + 1, by go_num, by omega, by rw [HN2.out], by rw [HS2.out], by obtain ⟨d, e⟩ := HD.out; exact hide ⟨d + nq, by rw [e, World.drewN_drewN]⟩⟩
                case measure => simp [intOf]; omega
              · cases sb with
                | false =>
                  have hz : (v.st == 0) = false := beq_eq_false_iff_ne.2 hs0
                  have HN2 : Hid ((noneN n (vs.take (q + 1)) : Int) = (noneN n (vs.take q) : Int)) := by
                    show _ = _
                    unfold noneN
                    rw [HNX.out, List.countP_append, List.countP_singleton]
                    rw [if_neg (by rw [hz]; simp)]; simp
                  have HS2 : Hid ((someN n (vs.take (q + 1)) : Int) = (someN n (vs.take q) : Int)) := by
                    show _ = _
                    unfold someN
                    rw [HNX.out, List.countP_append, List.countP_singleton]
                    rw [if_neg (by rw [hsq]; simp)]; simp
                  clear hkv hsq hrep hs0
                  go_wp2
                  go_quiet ((go_at_call 10; exact Calls.quiet_of_same (sound_q _ _ _ _ _ _ _ (HVS.out.drewN _) HSB.out)))
                  go_wp2
                  go_roundw
                  case rel => exact ⟨q + 1, by go_num, by omega, by rw [HN2.out], by rw [HS2.out], by obtain ⟨d, e⟩ := HD.out; exact hide ⟨d + nq, by rw [e, World.drewN_drewN]⟩⟩
                  case measure => simp [intOf]; omega
                | true =>
                  by_cases hs1 : v.st = 1
                  · have hz : (v.st == 0) = false := beq_eq_false_iff_ne.2 hs0
                    have hvt : votedQ v.st = true := by unfold votedQ; rw [hs1]; rfl
                    have HN2 : Hid ((noneN n (vs.take (q + 1)) : Int) = (noneN n (vs.take q) : Int)) := by
                      show _ = _
                      unfold noneN
                      rw [HNX.out, List.countP_append, List.countP_singleton]
                      rw [if_neg (by rw [hz]; simp)]; simp
                    have HS2 : Hid ((someN n (vs.take (q + 1)) : Int) = (someN n (vs.take q) : Int) + 1) := by
                      show _ = _
                      unfold someN
                      rw [HNX.out, List.countP_append, List.countP_singleton]
                      rw [if_pos (by rw [hrep, hvt, hsq]; rfl)]; simp
                    clear hkv
                    rw [hs1] at c1
                    clear hsq hrep hvt hz hs0 hs1
                    go_wp2
                    go_quiet ((go_at_call 10; exact Calls.quiet_of_same (sound_q _ _ _ _ _ _ _ (HVS.out.drewN _) HSB.out)))
                    go_wp2
                    go_roundw
                    case rel => exact ⟨q + 1, by go_num, by omega, by rw [HN2.out], by rw [HS2.out], by obtain ⟨d, e⟩ := HD.out; exact hide ⟨d + nq, by rw [e, World.drewN_drewN]⟩⟩
                    case measure => simp [intOf]; omega
                  · by_cases hs2 : v.st = 2
                    · have hz : (v.st == 0) = false := beq_eq_false_iff_ne.2 hs0
                      have hvt : votedQ v.st = true := by unfold votedQ; rw [hs2]; rfl
                      have HN2 : Hid ((noneN n (vs.take (q + 1)) : Int) = (noneN n (vs.take q) : Int)) := by
                        show _ = _
                        unfold noneN
                        rw [HNX.out, List.countP_append, List.countP_singleton]
                        rw [if_neg (by rw [hz]; simp)]; simp
                      have HS2 : Hid ((someN n (vs.take (q + 1)) : Int) = (someN n (vs.take q) : Int) + 1) := by
                        show _ = _
                        unfold someN
                        rw [HNX.out, List.countP_append, List.countP_singleton]
                        rw [if_pos (by rw [hrep, hvt, hsq]; rfl)]; simp
                      clear hkv
                      rw [hs2] at c1
                      clear hsq hrep hvt hz hs0 hs1 hs2
                      go_wp2
                      go_quiet ((go_at_call 10; exact Calls.quiet_of_same (sound_q _ _ _ _ _ _ _ (HVS.out.drewN _) HSB.out)))
                      go_wp2
                      go_roundw
                      case rel => exact ⟨q + 1, by go_num, by omega, by rw [HN2.out], by rw [HS2.out], by obtain ⟨d, e⟩ := HD.out; exact hide ⟨d + nq, by rw [e, World.drewN_drewN]⟩⟩
                      case measure => simp [intOf]; omega
                    · have hz : (v.st == 0) = false := beq_eq_false_iff_ne.2 hs0
                      have hz1 : (v.st == 1) = false := beq_eq_false_iff_ne.2 hs1
                      have hz2 : (v.st == 2) = false := beq_eq_false_iff_ne.2 hs2
                      have hvt : votedQ v.st = false := by unfold votedQ; rw [hz1, hz2]; rfl
                      have HN2 : Hid ((noneN n (vs.take (q + 1)) : Int) = (noneN n (vs.take q) : Int)) := by
                        show _ = _
                        unfold noneN
                        rw [HNX.out, List.countP_append, List.countP_singleton]
                        rw [if_neg (by rw [hz]; simp)]; simp
                      have HS2 : Hid ((someN n (vs.take (q + 1)) : Int) = (someN n (vs.take q) : Int)) := by
                        show _ = _
                        unfold someN
                        rw [HNX.out, List.countP_append, List.countP_singleton]
                        rw [if_neg (by rw [hvt]; simp)]; simp
                      clear hkv hsq hrep hvt hs0 hs1 hs2
                      go_wp2
                      go_quiet ((go_at_call 10; exact Calls.quiet_of_same (sound_q _ _ _ _ _ _ _ (HVS.out.drewN _) HSB.out)))
                      go_wp2
                      go_roundw
                      case rel => exact ⟨q + 1, by go_num, by omega, by rw [HN2.out], by rw [HS2.out], by obtain ⟨d, e⟩ := HD.out; exact hide ⟨d + nq, by rw [e, World.drewN_drewN]⟩⟩
                      case measure => simp [intOf]; omega
        · have hqN : q = N := by omega
          have hta : vs.take q = vs := List.take_of_length_le (by have := HN.out; omega)
          rw [hta] at hc1 hc2 ⊢
          have hcall := prep_any n row va vc vs wr (by rw [HN.out]; exact HVR.out.row) HVR.out.ok HBO.out
          rw [HN.out] at hcall
          have HC := hide hcall
          have HK2 := HK.out
          generalize planQ n row vs = r at *
          obtain ⟨kk, cc, sq, dl⟩ := r
          dsimp only at HK2
          have HK3 := hide HK2
          generalize noneN n vs = nn at *
          generalize someN n vs = ss at *
          clear hcall hta HK HK2
          go_wp2_with fail
          refine HC.out.mono ?_
          rintro e w7 ⟨ub, ud, rfl, -, hb7⟩
          dsimp only
          generalize dl.length = dn
          have HB7 : Hid (Blk w7 w2.heap.size (pcs 1 cmZ 0 ua 0 uc)) := HBR.out.on hb7
          have HW7 : Hid (Below w.heap.size w w7) := HWR.out.trans (hb7.mono HWR.out.size)
          have T7 := hide HB7.out.there
          obtain ⟨Z, hZ⟩ : ∃ Z, Z = w7.setCells w2.heap.size 0 (pcs kk cc sq ub dn ud) := ⟨_, rfl⟩
          have HZB : Hid (Blk Z w2.heap.size (pcs kk cc sq ub dn ud)) := by rw [hZ]; exact blk_cells HB7.out rfl
          have HZW : Hid (Below w.heap.size w Z) := by rw [hZ]; exact below_cells (Nat.le_trans HW1S.out hs2) _ _ _ HW7.out
          have z0 : Z.cell? ⟨w2.heap.size, 0, none⟩ = some (.int .i64 kk) := HZB.out.cell 0 _ rfl
          have HZ := hide hZ
          clear hZ hb7 HC HUB HBR HVR
          obtain ⟨k1, k2⟩ := HK3.out
          have ny := hq
          clear HK3 HZB HB7 HW7 HD HUV HUW HWR HSZ HBO
          by_cases hl2 : ((nn + ss : Nat) : Int) < (n - 1) / 2 + 1
          · have hk0 : kk = 0 := k1 (by omega)
            subst hk0
            clear k1 k2
            rcases HN3.out with rfl | rfl | rfl
            · have hle : (nn : Int) + (ss : Int) ≤ 1 := by omega
              clear hl2
              go_wp2_with (first | (refine wpList_store_mid rfl 27 _ _ rfl w2.heap.size 0 (pcs 0 cc sq ub dn ud).toArray rfl rfl T7.out (by kernel_rfl) (all_oneCell_toArray (pcs_one _ _ _ _ _ _)) ?_; first | rw [← HZ.out] | (simp only [List.toList_toArray]; rw [← HZ.out])))
              go_ret
              exact ⟨rfl, HZW.out⟩
            · have hle : (nn : Int) + (ss : Int) ≤ 2 := by omega
              clear hl2
              go_wp2_with (first | (refine wpList_store_mid rfl 27 _ _ rfl w2.heap.size 0 (pcs 0 cc sq ub dn ud).toArray rfl rfl T7.out (by kernel_rfl) (all_oneCell_toArray (pcs_one _ _ _ _ _ _)) ?_; first | rw [← HZ.out] | (simp only [List.toList_toArray]; rw [← HZ.out])))
              go_ret
              exact ⟨rfl, HZW.out⟩
            · have hle : (nn : Int) + (ss : Int) ≤ 3 := by omega
              clear hl2
              go_wp2_with (first | (refine wpList_store_mid rfl 27 _ _ rfl w2.heap.size 0 (pcs 0 cc sq ub dn ud).toArray rfl rfl T7.out (by kernel_rfl) (all_oneCell_toArray (pcs_one _ _ _ _ _ _)) ?_; first | rw [← HZ.out] | (simp only [List.toList_toArray]; rw [← HZ.out])))
              go_ret
              exact ⟨rfl, HZW.out⟩
          · obtain ⟨k3, k4⟩ := k2 (by omega)
            clear k1 k2
            by_cases hs0 : ss = 0
            · have hk0 : kk = 1 := k3 hs0
              subst hk0
              subst hs0
              clear k3 k4
              rcases HN3.out with rfl | rfl | rfl
              · have hle : ¬ (nn : Int) + ((0 : Nat) : Int) ≤ 1 := by omega
                clear hl2
                go_wp2_with (first | (refine wpList_store_mid rfl 27 _ _ rfl w2.heap.size 0 (pcs 1 cc sq ub dn ud).toArray rfl rfl T7.out (by kernel_rfl) (all_oneCell_toArray (pcs_one _ _ _ _ _ _)) ?_; first | rw [← HZ.out] | (simp only [List.toList_toArray]; rw [← HZ.out])))
                go_ret
                exact ⟨rfl, HZW.out⟩
              · have hle : ¬ (nn : Int) + ((0 : Nat) : Int) ≤ 2 := by omega
                clear hl2
                go_wp2_with (first | (refine wpList_store_mid rfl 27 _ _ rfl w2.heap.size 0 (pcs 1 cc sq ub dn ud).toArray rfl rfl T7.out (by kernel_rfl) (all_oneCell_toArray (pcs_one _ _ _ _ _ _)) ?_; first | rw [← HZ.out] | (simp only [List.toList_toArray]; rw [← HZ.out])))
                go_ret
                exact ⟨rfl, HZW.out⟩
              · have hle : ¬ (nn : Int) + ((0 : Nat) : Int) ≤ 3 := by omega
                clear hl2
                go_wp2_with (first | (refine wpList_store_mid rfl 27 _ _ rfl w2.heap.size 0 (pcs 1 cc sq ub dn ud).toArray rfl rfl T7.out (by kernel_rfl) (all_oneCell_toArray (pcs_one _ _ _ _ _ _)) ?_; first | rw [← HZ.out] | (simp only [List.toList_toArray]; rw [← HZ.out])))
                go_ret
                exact ⟨rfl, HZW.out⟩
            · have hk0 := k4 hs0
              have b0 : ((ss : Int) == 0) = false := beq_eq_false_iff_ne.2 (by omega)
              have b1 : (kk == 1) = false := beq_eq_false_iff_ne.2 (by omega)
              have b2 : (kk != 0) = true := bne_iff_ne.2 (by omega)
              clear k3 k4 hk0 hs0
              rcases HN3.out with rfl | rfl | rfl
              · have hle : ¬ (nn : Int) + (ss : Int) ≤ 1 := by omega
                clear hl2
                go_wp2_with (first | (refine wpList_store_mid rfl 27 _ _ rfl w2.heap.size 0 (pcs kk cc sq ub dn ud).toArray rfl rfl T7.out (by kernel_rfl) (all_oneCell_toArray (pcs_one _ _ _ _ _ _)) ?_; first | rw [← HZ.out] | (simp only [List.toList_toArray]; rw [← HZ.out])))
                go_ret
                exact ⟨rfl, HZW.out⟩
              · have hle : ¬ (nn : Int) + (ss : Int) ≤ 2 := by omega
                clear hl2
                go_wp2_with (first | (refine wpList_store_mid rfl 27 _ _ rfl w2.heap.size 0 (pcs kk cc sq ub dn ud).toArray rfl rfl T7.out (by kernel_rfl) (all_oneCell_toArray (pcs_one _ _ _ _ _ _)) ?_; first | rw [← HZ.out] | (simp only [List.toList_toArray]; rw [← HZ.out])))
                go_ret
                exact ⟨rfl, HZW.out⟩
              · have hle : ¬ (nn : Int) + (ss : Int) ≤ 3 := by omega
                clear hl2
                go_wp2_with (first | (refine wpList_store_mid rfl 27 _ _ rfl w2.heap.size 0 (pcs kk cc sq ub dn ud).toArray rfl rfl T7.out (by kernel_rfl) (all_oneCell_toArray (pcs_one _ _ _ _ _ _)) ?_; first | rw [← HZ.out] | (simp only [List.toList_toArray]; rw [← HZ.out])))
                go_ret
                exact ⟨rfl, HZW.out⟩

set_option maxRecDepth 100000 in
/-- For every argument and every world. -/
theorem contract (H : Type) (enc : TypeId × Value → H) (W : World) (base : Nat) (args : Array Value) (ds gs : List (DataW H)) (before : List MemPlace)
    (hval : ∀ (j : Nat) t v, Try.f3.params[j]? = some t → args[j]? = some v → Value.okWide Try.prog W .any base t v)
    (hW : DataW.Whole enc Try.prog Try.f3.params.toList Rows.quorumNoopsSpec.vars false W args.toList ds gs before)
    (hsz : (DataW.weightsEach Try.prog (Try.f3.params.toList ++ Rows.quorumNoopsSpec.plain.varTypes Try.prog) (ds ++ gs)).all (· ≤ reachBytes) = true) :
    Calls Try.prog 3 args W fun e W' => ∃ v, e = .returned v ∧ Rows.quorumNoopsSpec.post enc Try.prog Try.f3 false true false false W args v W' := by
  have hW' := hW
  obtain ⟨p, q, hA0, hV, rfl, hfz, hnd⟩ := hW
  have hA : DataW.TrodAll enc Try.prog W 0 (fun _ => true) true Try.f3.params.toList args.toList ds p := hA0
  rw [Try.params3] at hA hval hsz
  obtain ⟨v0, vs0, d0, ds0, p0, q0, hargs, rfl, rfl, h0, tr0⟩ := trodAll_cons hA
  obtain ⟨v1, vs1, d1, ds1, p1, q1, rfl, rfl, rfl, h1, tr1⟩ := trodAll_cons tr0
  obtain ⟨v2, vs2, d2, ds2, p2, q2, rfl, rfl, rfl, h2, tr2⟩ := trodAll_cons tr1
  obtain ⟨rfl, rfl, rfl⟩ := trodAll_nil tr2
  obtain rfl : args = #[v0, v1, v2] := by cases args; simp_all
  obtain ⟨rfl, rfl⟩ := trodVars_none hV
  obtain ⟨y0, rfl, rfl, rfl, w0⟩ := open_int Try.underlying3 (hval 0 3 v0 rfl rfl) h0
  have b0 := bounds_i64 w0
  obtain ⟨y1, rfl, rfl, rfl, w1⟩ := open_int Try.underlying3 (hval 1 3 v1 rfl rfl) h1
  have b1 := bounds_i64 w1
  obtain ⟨a2, n2, cap2, rfl⟩ := okWide_slice Try.underlying22 (hval 2 22 v2 rfl rfl)
  have k2 := h2
  have lt2 : ∀ x ∈ p2, x.block < W.heap.size := by obtain ⟨m, hm⟩ := k2; exact DataW.trod_lt m _ _ _ hm
  obtain ⟨fuel2, hf2⟩ := h2
  obtain ⟨l2, hseg2, hcap2⟩ := qopen_votes hf2 (fun m hm => of_decide_eq_true (List.all_eq_true.1 hsz _ (DataW.weights_mem_each (j := 2) rfl rfl m hm)))
  clear hA0
  refine (walk y0 y1 a2 n2 cap2 l2 W hseg2 b1).mono fun e W' ⟨he, bel⟩ => ?_
  subst he
  exact ⟨_, rfl, _, _, _, [], _, [], hW', trodAll_mk1 (shut_bool Try.underlying4 _), (trodAll_cons_mk (shut_int Try.underlying3 w0) (trodAll_cons_mk (shut_int Try.underlying3 w1) (trodAll_cons_mk (Below.trod vlaid (by kernel_rfl) (of_decide_eq_true (by kernel_rfl)) k2 bel lt2) trodAll_mk0))), rfl, bel.frame _, fun h => by cases h⟩

set_option maxRecDepth 100000 in
theorem lifted (os : Os) (started : os.Started) (H : Type) (enc : TypeId × Value → H) :
    ReturnsInHanded {} Try.checked os 3 .any (Rows.quorumNoopsSpec.pre6 enc Try.prog Try.f3 Rows.quorumNoopsRow.domain false) (Rows.quorumNoopsSpec.post enc Try.prog Try.f3 false true false false) := by
  refine returnsInHanded_of_change_sized (C := Try.checked) vown started (by kernel_rfl) Try.func3
    (ChangeSpec.witness6 (enc := enc) (C := Try.checked) false ⟨#[], #[.int .i64 0, .int .i64 0, .slice none 0 0], []⟩ 8 (by kernel_rfl) (by kernel_rfl) (by kernel_rfl) (by kernel_rfl)) ?_
  intro W base args ds gs before hval hW _ hsz _
  exact contract H enc W base args ds gs before hval hW hsz

end quorumNoops
theorem quorumNoops_proved : Rows.QuorumNoopsSaid :=
  OpenClaim.holds_of_wide 3 Try.f3 rfl rfl rfl rfl rfl rfl rfl ⟨rfl, rfl, rfl, rfl, rfl⟩ rfl rfl rfl rfl rfl (by kernel_rfl) Try.func3 (by kernel_rfl)
    (of_decide_eq_true (by kernel_rfl)) (by unfold Func.isWrapper; first | (rw [if_pos (by decide +kernel)]; kernel_rfl) | (rw [if_neg (by decide +kernel)]; exact ⟨rfl, rfl⟩))
    (fun os started H enc _ => quorumNoops.lifted os started H enc)
#print axioms quorumNoops_proved
end Go.Proofs.Ytakkfdfaacdnmaa
