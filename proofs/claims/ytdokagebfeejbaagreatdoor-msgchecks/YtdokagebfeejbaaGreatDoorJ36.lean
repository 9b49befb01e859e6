/- Texts of the proof, joined. -/
import Derived.Test.YtdokagebfeejbaaGreatDoorJ01
import Derived.Test.YtdokagebfeejbaaGreatDoorJ20
/- Decode of the three bytes whose message the document tells, by the leaves that it needs alone. -/
namespace Go.Proofs.YtdokagebfeejbaaGreatDoor
open Go.RowKit Go.Wire1

set_option maxHeartbeats 4000000 in
set_option maxRecDepth 100000 in
theorem dec_with2 (n : Int) (sa : Option Addr) (bn cap : Nat) (l : List Int) (a : Nat → Addr) (w : World) (hSH : ∀ (W : World) (G : Nat), Scx w W G (Vf 2 n) l 0 → Calls Tryz.prog 39 #[.pointer (some ⟨G, 0, none⟩)] W fun r w' => ShPost w W G 2 n (rdMsg 2 n l 0) r w') (hMO : ∀ (M : Ms), (rdMsg 2 n l 0).1 = M → ∀ (u : Value), (hasD (shK M) = true → ∃ a k c, u = .slice a k c) → ∀ (W : World), Calls Tryz.prog 41 #[shV M u] W fun r w' => r = .returned (.agg (mgc (only M (shK M)) (onlyU u (shK M))).toArray) ∧ Below W.heap.size W w') (hc : callF 2 n = 0) (hs : Seg w sa bn l) (hsrc : Src sa bn cap) (hy : Byt l) (he : Errs w a) (hKc : Knd w) (hK : Kmd w) :
    Calls Tryz.prog 17 #[.int .i64 2, .int .i64 n, .slice sa bn cap] w fun r w' => DcPost 2 n l w r w' := by
  have HS := hide hs
  have HSR := hide hsrc
  have HY := hide hy
  have HE := hide he
  have HKC := hide hKc
  have HKM := hide hK
  have hC := callFault_any 2 n
  rw [hc] at hC
  have HC := hide hC
  have HCF := hide hc
  have QZ : Hid (Blk (w.alloc (.cells #[.int .i64 0, .int .i64 0, .int .i64 0, .int .i64 0, .int .i64 0, .int .i64 0, .int .i64 0, .int .i64 0, .bool false, .int .i64 0, .int .i64 0, .int .i64 0, .string ⟨#[]⟩, .string ⟨#[]⟩, .string ⟨#[]⟩, .string ⟨#[]⟩, .int .i64 0, .int .i64 0, .slice none 0 0] 30)) w.heap.size [.int .i64 0, .int .i64 0, .int .i64 0, .int .i64 0, .int .i64 0, .int .i64 0, .int .i64 0, .int .i64 0, .bool false, .int .i64 0, .int .i64 0, .int .i64 0, .string ⟨#[]⟩, .string ⟨#[]⟩, .string ⟨#[]⟩, .string ⟨#[]⟩, .int .i64 0, .int .i64 0, .slice none 0 0]) := blk_new w 30 [.int .i64 0, .int .i64 0, .int .i64 0, .int .i64 0, .int .i64 0, .int .i64 0, .int .i64 0, .int .i64 0, .bool false, .int .i64 0, .int .i64 0, .int .i64 0, .string ⟨#[]⟩, .string ⟨#[]⟩, .string ⟨#[]⟩, .string ⟨#[]⟩, .int .i64 0, .int .i64 0, .slice none 0 0]
  have BZ : Hid (Below w.heap.size w (w.alloc (.cells #[.int .i64 0, .int .i64 0, .int .i64 0, .int .i64 0, .int .i64 0, .int .i64 0, .int .i64 0, .int .i64 0, .bool false, .int .i64 0, .int .i64 0, .int .i64 0, .string ⟨#[]⟩, .string ⟨#[]⟩, .string ⟨#[]⟩, .string ⟨#[]⟩, .int .i64 0, .int .i64 0, .slice none 0 0] 30))) := (Below.refl _ _).alloc (Nat.le_refl _) _
  clear hC hc hs hsrc hy he hKc hK
  go_enter Tryz.func17, Tryz.ntmps17
  go_wp2_with fail
  refine (HC.out _).mono ?_
  rintro r w1 ⟨rfl, rfl⟩
  generalize (w.alloc (.cells #[.int .i64 0, .int .i64 0, .int .i64 0, .int .i64 0, .int .i64 0, .int .i64 0, .int .i64 0, .int .i64 0, .bool false, .int .i64 0, .int .i64 0, .int .i64 0, .string ⟨#[]⟩, .string ⟨#[]⟩, .string ⟨#[]⟩, .string ⟨#[]⟩, .int .i64 0, .int .i64 0, .slice none 0 0] 30)) = W0 at *
  go_wp2_with fail
  refine (layout2 2 (by decide) _).mono ?_
  rintro r w2 ⟨rfl, hb2⟩
  have QZ2 := hide (QZ.out.on hb2)
  have B2 : Hid (Below w.heap.size w w2) := BZ.out.trans (hb2.mono BZ.out.size)
  have hlt2 : w.heap.size < w2.heap.size := QZ2.out.lt
  clear hb2 QZ BZ
  have hG0 : Hid (Below w2.heap.size w2 ((w2.alloc (.cells #[.slice none 0 0, .int .i64 0, .int .i64 0, .nilFunc, .nilFunc, .nilFunc, .nilFunc, .nilFunc, .nilFunc, .int .i64 0] 78)).setCells w2.heap.size 0 [.slice sa bn cap, .int .i64 0, .int .i64 2, .func (.func 58) #[] #[], .func (.func 59) #[] #[], .func (.func 60) #[] #[], .func (.func 61) #[] #[], .func (.func 62) #[] #[], .func (.func 63) #[] #[], .int .i64 n])) := below_cells (Nat.le_refl _) _ _ _ ((Below.refl _ _).alloc (Nat.le_refl _) _)
  have TS : Hid ((w2.alloc (.cells #[.slice none 0 0, .int .i64 0, .int .i64 0, .nilFunc, .nilFunc, .nilFunc, .nilFunc, .nilFunc, .nilFunc, .int .i64 0] 78)).there w2.heap.size 0 10) := (blk_new w2 78 [.slice none 0 0, .int .i64 0, .int .i64 0, .nilFunc, .nilFunc, .nilFunc, .nilFunc, .nilFunc, .nilFunc, .int .i64 0]).there
  have SX : Hid (Scx w ((w2.alloc (.cells #[.slice none 0 0, .int .i64 0, .int .i64 0, .nilFunc, .nilFunc, .nilFunc, .nilFunc, .nilFunc, .nilFunc, .int .i64 0] 78)).setCells w2.heap.size 0 [.slice sa bn cap, .int .i64 0, .int .i64 2, .func (.func 58) #[] #[], .func (.func 59) #[] #[], .func (.func 60) #[] #[], .func (.func 61) #[] #[], .func (.func 62) #[] #[], .func (.func 63) #[] #[], .int .i64 n]) w2.heap.size (Vf 2 n) l 0) := scx_new (zs := [.slice none 0 0, .int .i64 0, .int .i64 0, .nilFunc, .nilFunc, .nilFunc, .nilFunc, .nilFunc, .nilFunc, .int .i64 0]) B2.out rfl rfl rfl rfl (vf2 n sa bn cap) HS.out HSR.out HY.out
  have QZ3 : Hid (Blk ((w2.alloc (.cells #[.slice none 0 0, .int .i64 0, .int .i64 0, .nilFunc, .nilFunc, .nilFunc, .nilFunc, .nilFunc, .nilFunc, .int .i64 0] 78)).setCells w2.heap.size 0 [.slice sa bn cap, .int .i64 0, .int .i64 2, .func (.func 58) #[] #[], .func (.func 59) #[] #[], .func (.func 60) #[] #[], .func (.func 61) #[] #[], .func (.func 62) #[] #[], .func (.func 63) #[] #[], .int .i64 n]) w.heap.size [.int .i64 0, .int .i64 0, .int .i64 0, .int .i64 0, .int .i64 0, .int .i64 0, .int .i64 0, .int .i64 0, .bool false, .int .i64 0, .int .i64 0, .int .i64 0, .string ⟨#[]⟩, .string ⟨#[]⟩, .string ⟨#[]⟩, .string ⟨#[]⟩, .int .i64 0, .int .i64 0, .slice none 0 0]) := QZ2.out.on hG0.out
  have hXs : Hid (w2.heap.size < ((w2.alloc (.cells #[.slice none 0 0, .int .i64 0, .int .i64 0, .nilFunc, .nilFunc, .nilFunc, .nilFunc, .nilFunc, .nilFunc, .int .i64 0] 78)).setCells w2.heap.size 0 [.slice sa bn cap, .int .i64 0, .int .i64 2, .func (.func 58) #[] #[], .func (.func 59) #[] #[], .func (.func 60) #[] #[], .func (.func 61) #[] #[], .func (.func 62) #[] #[], .func (.func 63) #[] #[], .int .i64 n]).heap.size) := SX.out.lt
  clear QZ2 hG0 HS HSR HY
  simp only [lyc2]
  go_upto_region 5 with (first | (refine wpList_store_mid rfl 78 _ _ rfl w2.heap.size 0 #[.slice sa bn cap, .int .i64 0, .int .i64 2, .func (.func 58) #[] #[], .func (.func 59) #[] #[], .func (.func 60) #[] #[], .func (.func 61) #[] #[], .func (.func 62) #[] #[], .func (.func 63) #[] #[], .int .i64 n] rfl rfl TS.out (by kernel_rfl) (by kernel_rfl) ?_))
  clear TS
  generalize ((w2.alloc (.cells #[.slice none 0 0, .int .i64 0, .int .i64 0, .nilFunc, .nilFunc, .nilFunc, .nilFunc, .nilFunc, .nilFunc, .int .i64 0] 78)).setCells w2.heap.size 0 [.slice sa bn cap, .int .i64 0, .int .i64 2, .func (.func 58) #[] #[], .func (.func 59) #[] #[], .func (.func 60) #[] #[], .func (.func 61) #[] #[], .func (.func 62) #[] #[], .func (.func 63) #[] #[], .int .i64 n]) = X at *
  generalize (Value.agg #[.slice sa bn cap, .int .i64 0, .int .i64 2, .func (.func 58) #[] #[], .func (.func 59) #[] #[], .func (.func 60) #[] #[], .func (.func 61) #[] #[], .func (.func 62) #[] #[], .func (.func 63) #[] #[], .int .i64 n]) = A0
  obtain ⟨G, hG⟩ : ∃ G, G = w2.heap.size := ⟨_, rfl⟩
  rw [← hG] at SX hlt2 hXs ⊢
  have hGle : w.heap.size < G := hlt2
  clear hG hlt2
  have SHP := fun W (h : Scx w W G (Vf 2 n) l 0) => hSH W G h
  simp only [ShPost] at SHP
  have hon := only_rd 2 n l 0
  have hdM : decM 2 n l = if endF (rdMsg 2 n l 0).2.1 (rdMsg 2 n l 0).2.2 = 0 then ((rdMsg 2 n l 0).1, 0) else (zeroM, endF (rdMsg 2 n l 0).2.1 (rdMsg 2 n l 0).2.2) := by unfold decM; rw [if_pos HCF.out]
  obtain ⟨M, rr, ff, hR⟩ : ∃ M rr ff, rdMsg 2 n l 0 = (M, rr, ff) := ⟨_, _, _, rfl⟩
  have HRM : Hid ((rdMsg 2 n l 0).1 = M) := by rw [hR]; exact rfl
  simp only [hR] at SHP hon hdM
  have HSHP := hide SHP
  have HON := hide hon
  have HDM := hide hdM
  clear SHP hon hdM hR B2
  go_wp2_with fail
  refine (HSHP.out X SX.out).mono ?_
  rintro r w3 ⟨u, rfl, D3, T3, S3⟩
  have QZ4 := hide (QZ3.out.touch T3 (by omega))
  have HD3 : Hid (DV w3 G u M.dl) := D3.less (by have := hXs.out; omega)
  have HS3 := hide S3
  obtain ⟨SV, hSV⟩ : ∃ SV, Hid (shV M u = SV) := ⟨_, rfl⟩
  rw [hSV.out]
  obtain ⟨ua, uk, uc, rfl⟩ := HD3.out.shape
  clear D3 T3 S3 QZ3 SX hXs
  by_cases hrr : rr = []
  · subst hrr
    obtain ⟨sa3, n3, c3, S3⟩ := HS3.out
    have r0 := S3.rest
    obtain rfl : 0 = n3 := S3.seg.1
    have HE0 : Hid (endF [] ff = ff) := rfl
    rw [HE0.out] at HDM
    have r1 := S3.flt
    have HB3 : Hid (Below w.heap.size w w3) := S3.low
    clear S3 HE0
    by_cases hff : ff = 0
    · subst hff
      rw [if_pos rfl] at HDM
      have MO := hMO M HRM.out (.slice ua uk uc) (fun _ => ⟨ua, uk, uc, rfl⟩) w3
      rw [HON.out, hSV.out] at MO
      obtain ⟨U, hU⟩ : ∃ U, onlyU (.slice ua uk uc) (shK M) = U := ⟨_, rfl⟩
      have hUs : ∃ a k c, U = .slice a k c := by
        rw [← hU]; unfold onlyU; split
        · exact ⟨_, _, _, rfl⟩
        · exact ⟨_, _, _, rfl⟩
      have HDU : Hid (DV w3 G U M.dl) := by
        show DV _ _ _ _
        rw [← hU]; unfold onlyU
        cases hd : hasD (shK M) with
        | true => exact HD3.out
        | false => rw [only_nil HON.out hd]; exact DV.nil _ _
      rw [hU] at MO
      obtain ⟨va, vk, vc, rfl⟩ := hUs
      have HMO := hide MO
      clear MO hU HD3 HS3
      go_wp2_with fail
      refine HMO.out.mono ?_
      rintro r w4 ⟨rfl, hb4⟩
      have QZ5 := hide (QZ4.out.on hb4)
      have TZ : Hid (w4.there w.heap.size 0 19) := QZ5.out.there
      have BY : Hid (Below w.heap.size w (w4.setCells w.heap.size 0 (mgc M (.slice va vk vc)))) := below_cells (Nat.le_refl _) _ _ _ (HB3.out.trans (hb4.mono HB3.out.size))
      have RA : Hid ((w4.setCells w.heap.size 0 (mgc M (.slice va vk vc))).rangeAt w.heap.size 0 (mgc M (.slice va vk vc))) := (blk_cells (vs := mgc M (.slice va vk vc)) QZ5.out rfl).range
      have DU : Hid (DV (w4.setCells w.heap.size 0 (mgc M (.slice va vk vc))) w.heap.size (.slice va vk vc) M.dl) := (dv_cells hGle _ _ _ (HDU.out.below hb4 (Nat.le_refl _))).less (by omega)
      clear hb4 HDU QZ4
      go_wp2_with (first | (refine wpList_store_mid rfl 30 _ _ rfl w.heap.size 0 (mgc M (.slice va vk vc)).toArray rfl rfl TZ.out (by kernel_rfl) (by kernel_rfl) ?_))
      refine bodyPost_ret (results_mid2 Tryz.results17 _ _ w.heap.size (mgc M (.slice va vk vc)) _ rfl RA.out Tryz.underlying30 rfl (by kernel_rfl)) rfl ?_
      exact ⟨.slice va vk vc, by rw [HDM.out]; rfl, by rw [HDM.out]; exact DU.out, BY.out⟩
    · have hz : Hid (ff ≠ 0) := hff
      rw [if_neg hff] at HDM
      clear HD3 HS3
      have q1 : (ff != 0) = true := by rw [bne_iff_ne]; exact hz.out
      have TZ : Hid (w3.drew.there w.heap.size 0 19) := QZ4.out.drew.there
      have hGne : G ≠ w.heap.size := by omega
      have BY : Hid (Below w.heap.size w (w3.drew.setCells w.heap.size 0 [.int .i64 0, .int .i64 0, .int .i64 0, .int .i64 0, .int .i64 0, .int .i64 0, .int .i64 0, .int .i64 0, .bool false, .int .i64 0, .int .i64 0, .int .i64 0, .string ⟨#[]⟩, .string ⟨#[]⟩, .string ⟨#[]⟩, .string ⟨#[]⟩, .int .i64 0, .int .i64 0, .slice none 0 0])) := below_cells (Nat.le_refl _) _ _ _ ⟨HB3.out.os, HB3.out.tape, HB3.out.output, HB3.out.size, HB3.out.block⟩
      have RA : Hid ((w3.drew.setCells w.heap.size 0 [.int .i64 0, .int .i64 0, .int .i64 0, .int .i64 0, .int .i64 0, .int .i64 0, .int .i64 0, .int .i64 0, .bool false, .int .i64 0, .int .i64 0, .int .i64 0, .string ⟨#[]⟩, .string ⟨#[]⟩, .string ⟨#[]⟩, .string ⟨#[]⟩, .int .i64 0, .int .i64 0, .slice none 0 0]).rangeAt w.heap.size 0 (mgc zeroM (.slice none 0 0))) := (blk_cells (vs := mgc zeroM (.slice none 0 0)) QZ4.out.drew rfl).range
      have r1' : (w3.drew.setCells w.heap.size 0 [.int .i64 0, .int .i64 0, .int .i64 0, .int .i64 0, .int .i64 0, .int .i64 0, .int .i64 0, .int .i64 0, .bool false, .int .i64 0, .int .i64 0, .int .i64 0, .string ⟨#[]⟩, .string ⟨#[]⟩, .string ⟨#[]⟩, .string ⟨#[]⟩, .int .i64 0, .int .i64 0, .slice none 0 0]).cell? ⟨G, 1, none⟩ = some (.int .i64 ff) := (cells_far hGne _ _ _).trans r1
      go_upto_region 9 with fail
      refine wp_region_held_drew (S := (fun w' => w'.cell? ⟨G, 1, none⟩ = some (.int .i64 ff))) (by kernel_rfl) r1 (fun hHeld => ?_)
      refine tk 0 ?_
      refine tk 1 ?_
      refine tk 2 ?_
      refine tk 3 ?_
      refine wpAnyH_ready (rs := [4]) (by kernel_rfl) (by simp) ?_
      refine AllReadyH.cons rfl (fun K hK => ?_) AllReadyH.nil
      rw [if_pos (by rfl)]
      refine wp_store_mid 30 _ _ rfl w.heap.size 0 #[.int .i64 0, .int .i64 0, .int .i64 0, .int .i64 0, .int .i64 0, .int .i64 0, .int .i64 0, .int .i64 0, .bool false, .int .i64 0, .int .i64 0, .int .i64 0, .string ⟨#[]⟩, .string ⟨#[]⟩, .string ⟨#[]⟩, .string ⟨#[]⟩, .int .i64 0, .int .i64 0, .slice none 0 0] rfl rfl TZ.out (by kernel_rfl) (by kernel_rfl) ?_
      refine hK.out _ _ r1' (fun hHeld => ?_)
      clear hK K
      try simp only [Act.put, List.getElem_toArray, List.getElem_cons_succ, List.getElem_cons_zero]
      refine tk 5 ?_
      refine wpAnyH_done (by kernel_rfl) ?_ _
      go_wp2
      refine bodyPost_ret (results_mid2 Tryz.results17 _ _ w.heap.size (mgc zeroM (.slice none 0 0)) _ rfl RA.out Tryz.underlying30 rfl (by kernel_rfl)) rfl ?_
      exact ⟨.slice none 0 0, by rw [HDM.out]; rfl, by rw [HDM.out]; exact DV.nil _ _, BY.out⟩
  · obtain ⟨sa3, n3, c3, S3⟩ := HS3.out
    have r0 := S3.rest
    have hn3 : 0 < n3 := by
      have h1 := S3.seg.1
      rcases Nat.eq_zero_or_pos n3 with h2 | h2
      · rw [h2] at h1; exact absurd (List.length_eq_zero_iff.1 h1) hrr
      · exact h2
    have hn4 : n3 ≤ 9223372036854775807 := S3.seg.2.1
    have HE0 : Hid (endF rr ff = refF 59 ff) := by show _ = _; unfold endF; rw [if_neg hrr]
    rw [HE0.out] at HDM
    clear S3 HE0
    go_wp2_with fail
    refine (irefuse_x w G (Vf 2 n) rr ff 59 w3 HS3.out).mono ?_
    rintro r w4 ⟨rfl, T4, S4⟩
    have QZ5 := hide (QZ4.out.touch T4 (by omega))
    have hz : Hid (refF 59 ff ≠ 0) := by show _ ≠ _; unfold refF; split <;> omega
    generalize refF 59 ff = fg at *
    have r1 := S4.flt
    have HB4 : Hid (Below w.heap.size w w4) := S4.low
    clear T4 S4 HS3 QZ4 HD3
    rw [if_neg hz.out] at HDM
    have q1 : (fg != 0) = true := by rw [bne_iff_ne]; exact hz.out
    have TZ : Hid (w4.drew.there w.heap.size 0 19) := QZ5.out.drew.there
    have hGne : G ≠ w.heap.size := by omega
    have BY : Hid (Below w.heap.size w (w4.drew.setCells w.heap.size 0 [.int .i64 0, .int .i64 0, .int .i64 0, .int .i64 0, .int .i64 0, .int .i64 0, .int .i64 0, .int .i64 0, .bool false, .int .i64 0, .int .i64 0, .int .i64 0, .string ⟨#[]⟩, .string ⟨#[]⟩, .string ⟨#[]⟩, .string ⟨#[]⟩, .int .i64 0, .int .i64 0, .slice none 0 0])) := below_cells (Nat.le_refl _) _ _ _ ⟨HB4.out.os, HB4.out.tape, HB4.out.output, HB4.out.size, HB4.out.block⟩
    have RA : Hid ((w4.drew.setCells w.heap.size 0 [.int .i64 0, .int .i64 0, .int .i64 0, .int .i64 0, .int .i64 0, .int .i64 0, .int .i64 0, .int .i64 0, .bool false, .int .i64 0, .int .i64 0, .int .i64 0, .string ⟨#[]⟩, .string ⟨#[]⟩, .string ⟨#[]⟩, .string ⟨#[]⟩, .int .i64 0, .int .i64 0, .slice none 0 0]).rangeAt w.heap.size 0 (mgc zeroM (.slice none 0 0))) := (blk_cells (vs := mgc zeroM (.slice none 0 0)) QZ5.out.drew rfl).range
    have r1' : (w4.drew.setCells w.heap.size 0 [.int .i64 0, .int .i64 0, .int .i64 0, .int .i64 0, .int .i64 0, .int .i64 0, .int .i64 0, .int .i64 0, .bool false, .int .i64 0, .int .i64 0, .int .i64 0, .string ⟨#[]⟩, .string ⟨#[]⟩, .string ⟨#[]⟩, .string ⟨#[]⟩, .int .i64 0, .int .i64 0, .slice none 0 0]).cell? ⟨G, 1, none⟩ = some (.int .i64 fg) := (cells_far hGne _ _ _).trans r1
    go_upto_region 9 with fail
    refine wp_region_held_drew (S := (fun w' => w'.cell? ⟨G, 1, none⟩ = some (.int .i64 fg))) (by kernel_rfl) r1 (fun hHeld => ?_)
    refine tk 0 ?_
    refine tk 1 ?_
    refine tk 2 ?_
    refine tk 3 ?_
    refine wpAnyH_ready (rs := [4]) (by kernel_rfl) (by simp) ?_
    refine AllReadyH.cons rfl (fun K hK => ?_) AllReadyH.nil
    rw [if_pos (by rfl)]
    refine wp_store_mid 30 _ _ rfl w.heap.size 0 #[.int .i64 0, .int .i64 0, .int .i64 0, .int .i64 0, .int .i64 0, .int .i64 0, .int .i64 0, .int .i64 0, .bool false, .int .i64 0, .int .i64 0, .int .i64 0, .string ⟨#[]⟩, .string ⟨#[]⟩, .string ⟨#[]⟩, .string ⟨#[]⟩, .int .i64 0, .int .i64 0, .slice none 0 0] rfl rfl TZ.out (by kernel_rfl) (by kernel_rfl) ?_
    refine hK.out _ _ r1' (fun hHeld => ?_)
    clear hK K
    try simp only [Act.put, List.getElem_toArray, List.getElem_cons_succ, List.getElem_cons_zero]
    refine tk 5 ?_
    refine wpAnyH_done (by kernel_rfl) ?_ _
    go_wp2
    refine bodyPost_ret (results_mid2 Tryz.results17 _ _ w.heap.size (mgc zeroM (.slice none 0 0)) _ rfl RA.out Tryz.underlying30 rfl (by kernel_rfl)) rfl ?_
    exact ⟨.slice none 0 0, by rw [HDM.out]; rfl, by rw [HDM.out]; exact DV.nil _ _, BY.out⟩
/-- A message whose bytes the document tells. -/
def msetM : Ms := ⟨4, 1, 5, 2, 0, 0, 0, 0, false, zeroC, 0, []⟩
theorem set_rd : rdMsg 2 3 [4, 41, 16] 0 = (msetM, [], 0) := by kernel_rfl
theorem dec_set (sa : Option Addr) (cap : Nat) (a : Nat → Addr) (w : World) (hs : Seg w sa 3 [4, 41, 16]) (hsrc : Src sa 3 cap) (hy : Byt [4, 41, 16]) (he : Errs w a) (hKc : Knd w) (hK : Kmd w) :
    Calls Tryz.prog 17 #[.int .i64 2, .int .i64 3, .slice sa 3 cap] w fun r w' => DcPost 2 3 [4, 41, 16] w r w' := by
  refine dec_with2 3 sa 3 cap [4, 41, 16] a w ?_ ?_ (by decide) hs hsrc hy he hKc hK
  · intro W G h
    rw [set_rd]
    exact (shape_bal4 w G 2 3 [4, 41, 16] a 0 W 1 5 [16] 0 2 0 [] 0 he hKc hK h (by show _ = _; kernel_rfl) (by show _ = _; kernel_rfl)).mono fun r w' ⟨u, e, D, T, S⟩ => ⟨u, e, D, T, S⟩
  · intro M hM u _ W
    rw [set_rd] at hM
    subst hM
    have h3 : shK msetM = 3 := by decide
    unfold shV
    rw [h3]
    exact msgOf_balloted 4 1 5 2 0 W
end Go.Proofs.YtdokagebfeejbaaGreatDoor
