/- The contract of the document's own told. -/
import Derived.Test.YtmplipkdaplpnaaQRep
import Derived.Test.YtmplipkdaplpnaaQVote2
namespace Go.Proofs.Ytmplipkdaplpnaa
open Go.RowKit Go.Wire1

set_option maxHeartbeats 8000000 in
set_option maxRecDepth 100000 in
theorem told_any (n : Int) (va : Option Addr) (N vc : Nat) (vs : List Vt) (w : World) (hz : szQ n = true) (hr : RowS w 15 va N (vs.map vcs)) (hv : ∀ v ∈ vs, Vok w v) :
    Calls Try.prog 39 #[.int .i64 n, .slice va N vc] w fun e w' => e = .returned (.pointer (some ⟨w.heap.size, 0, none⟩)) ∧ Blk w' w.heap.size (bdC (tal (okV n) n (-1) vs)) ∧ Below w.heap.size w w' := by
  obtain ⟨U, hU⟩ : ∃ U, U = w.alloc (.cells (bdC []).toArray 56) := ⟨_, rfl⟩
  have BU : Hid (Below w.heap.size w U) := by rw [hU]; exact (Below.refl _ w).alloc (Nat.le_refl _) _
  have QU : Hid (Blk U w.heap.size (bdC [])) := by rw [hU]; exact blk_new w 56 (bdC [])
  have HU := hide hU
  have HR := hide hr
  have HV := hide hv
  have HZ := hide hz
  have HN : Hid (vs.length = N) := by have := hr.len; rwa [List.length_map] at this
  have HM := hr.max
  unfold maxLen at HM
  clear hU hr hv hz
  go_enter Try.func39, Try.ntmps39
  go_wp2_with (first | (refine wpList_buildB rfl 56 _ rfl [] rfl _ built_board ?_))
  rw [← HU.out]
  clear HU
  go_loopw [6] (fun i wr => ∃ q : Nat, i = .int .i64 (q : Int) ∧ q ≤ N ∧ Hid (Blk wr w.heap.size (bdC (tal (okV n) n (-1) (vs.take q)))) ∧ Hid (Below w.heap.size w wr)) (fun i _ => N - (intOf i).toNat)
  case atStart => exact ⟨0, rfl, Nat.zero_le _, QU, BU⟩
  case round =>
    obtain ⟨q, rfl, hq, HBD, HB⟩ := hrel
    by_cases hlt : q < N
    · obtain ⟨v, hkv0⟩ : ∃ v, vs[q]? = some v := ⟨_, List.getElem?_eq_getElem (by have := HN.out; omega)⟩
      have hkv := hide hkv0
      obtain ⟨b, off, rfl, hat⟩ := (HR.out.below HB.out (Nat.le_refl _) (by decide)).at_ (by omega)
      have HRG : Hid (wr.rangeAt b (off + q * 15) (vcs v)) := hat q (vcs v) (by rw [List.getElem?_map, hkv0]; rfl)
      have HV1 := hide (HV.out v (List.mem_of_getElem? hkv0))
      clear hat hkv0
      have hbw := HBD.out.lt
      have hww := HB.out.size
      obtain ⟨X, hX⟩ : ∃ X, X = wr.alloc (.cells (zv).toArray 33) := ⟨_, rfl⟩
      have ZX : Hid (Blk X wr.heap.size zv) := by rw [hX]; exact blk_new wr 33 zv
      have TX := hide ZX.out.there
      have BX : Hid (Below wr.heap.size wr X) := by rw [hX]; exact (Below.refl _ _).alloc (Nat.le_refl _) _
      obtain ⟨Y, hY⟩ : ∃ Y, Y = X.setCells wr.heap.size 0 (vcs v) := ⟨_, rfl⟩
      have HVY : Hid (Blk Y wr.heap.size (vcs v)) := by rw [hY]; exact blk_cells ZX.out rfl
      have BY : Hid (Below wr.heap.size wr Y) := by rw [hY]; exact below_cells (Nat.le_refl _) _ _ _ BX.out
      have HX : Hid (wr.alloc (.cells #[.int .i64 0, .int .i64 0, .bool false, .int .i64 0, .int .i64 0, .int .i64 0, .int .i64 0, .int .i64 0, .string ⟨#[]⟩, .string ⟨#[]⟩, .string ⟨#[]⟩, .string ⟨#[]⟩, .int .i64 0, .int .i64 0, .slice none 0 0] 33) = X) := hX.symm
      have HY := hide hY
      clear hX hY
      have BUY : Hid (Below w.heap.size w Y) := HB.out.trans (BY.out.mono hww)
      have y13 : Y.cell? ⟨wr.heap.size, 13, none⟩ = some (.int .i64 v.seq) := HVY.out.cell 13 _ (vcs13 v)
      have y14 : Y.cell? ⟨wr.heap.size, 14, none⟩ = some (.slice v.da v.dn v.dc) := HVY.out.cell 14 _ (vcs14 v)
      go_upto_region 6 with (first | (refine wpList_load_mid rfl 33 _ rfl b (off + q * 15) rfl (vcs v) _ HRG.out Try.underlying33 rfl (by kernel_rfl) ?_) | (rw [HX.out]; refine wpList_store_mid rfl 33 _ _ rfl wr.heap.size 0 (vcs v).toArray rfl rfl TX.out (by kernel_rfl) (all_oneCell_toArray (vcs_one _)) ?_; first | rw [← HY.out] | (simp only [List.toList_toArray]; rw [← HY.out])))
      clear HX HY TX ZX BX
      go_wp2_with fail
      refine (qAttr_any n v.seq v.da v.dn v.dc v.deps _ (HV1.out.below BUY.out (Nat.le_refl _)).seg).mono ?_
      rintro e w1 ⟨rfl, hb1⟩
      obtain ⟨ok, hok⟩ : ∃ b, sndQ n v.seq v.deps = b := ⟨_, rfl⟩
      rw [hok]
      have HSD := hide hok
      have B1 : Hid (Below w.heap.size w w1) := BUY.out.trans (hb1.mono BUY.out.size)
      have QB1 : Hid (Blk w1 w.heap.size (bdC (tal (okV n) n (-1) (vs.take q)))) := (HBD.out.below BY.out hbw).on hb1
      have QV1 : Hid (Blk w1 wr.heap.size (vcs v)) := HVY.out.on hb1
      have y0 : w1.cell? ⟨wr.heap.size, 0, none⟩ = some (.int .i64 v.fr) := QV1.out.cell 0 _ (vcs0 v)
      have y1 : w1.cell? ⟨wr.heap.size, 1, none⟩ = some (.int .i64 v.st) := QV1.out.cell 1 _ (vcs1 v)
      clear hok hb1 y13 y14 HVY
      by_cases t0 : v.st = 0
      · have b0 : (v.st == 0) = true := beq_iff_eq.2 t0
        have HOK : Hid (okV n v = true) := by show _ = _; unfold okV votedQ; rw [t0]; rfl
        clear t0
        by_cases h0 : 0 ≤ v.fr
        · by_cases h1 : v.fr < n
          · obtain ⟨i, hfi⟩ : ∃ i : Nat, v.fr = (i : Int) := ⟨v.fr.toNat, by omega⟩
            have hi7 : i < 7 := by have := sz_le HZ.out; omega
            have HM2 : Hid (tal (okV n) n (-1) (vs.take (q + 1)) = putM (tal (okV n) n (-1) (vs.take q)) i v) := by
              show _ = _
              rw [List.take_add_one, hkv.out, Option.toList_some, tal_snoc, HOK.out, if_pos rfl]
              unfold addM okT putM
              rw [decide_eq_true ⟨h0, h1⟩, beq_eq_false_iff_ne.2 (show v.fr ≠ -1 by omega), hfi]
              cases (lkm (tal (okV n) n (-1) (vs.take q)) (i : Int)).isSome <;> rfl
            have HML : Hid ((tal (okV n) n (-1) (vs.take q)).length ≤ 7) := tal_le7 (sz_le HZ.out) _ _ _
            have HC := hide (put_any w.heap.size i _ v hfi hi7 HML.out w1 QB1.out)
            clear hfi hi7
            go_wp2_with (first | (refine wpList_load_mid rfl 33 _ rfl wr.heap.size 0 rfl (vcs v) _ QV1.out.range Try.underlying33 rfl (by kernel_rfl) ?_))
            refine HC.out.mono ?_
            rintro e w2 ⟨rfl, hq2, hb2⟩
            have QB2 := hide hq2
            have B2 : Hid (Below w.heap.size w w2) := B1.out.trans hb2
            clear hq2 hb2 HC
            go_wp2
            go_roundw
            case rel => exact ⟨q + 1, by go_num, by omega, by rw [HM2.out]; exact QB2, B2⟩
            case measure => simp [intOf]; omega
          · have HM2 : Hid (tal (okV n) n (-1) (vs.take (q + 1)) = tal (okV n) n (-1) (vs.take q)) := by
              show _ = _
              rw [List.take_add_one, hkv.out, Option.toList_some, tal_snoc]
              rw [HOK.out, if_pos rfl]
              unfold addM okT
              rw [decide_eq_false (by omega)]; rfl
            go_wp2
            go_roundw
            case rel => exact ⟨q + 1, by go_num, by omega, by rw [HM2.out]; exact QB1, B1⟩
            case measure => simp [intOf]; omega
        · have HM2 : Hid (tal (okV n) n (-1) (vs.take (q + 1)) = tal (okV n) n (-1) (vs.take q)) := by
            show _ = _
            rw [List.take_add_one, hkv.out, Option.toList_some, tal_snoc]
            rw [HOK.out, if_pos rfl]
            unfold addM okT
            rw [decide_eq_false (by omega)]; rfl
          go_wp2
          go_roundw
          case rel => exact ⟨q + 1, by go_num, by omega, by rw [HM2.out]; exact QB1, B1⟩
          case measure => simp [intOf]; omega
      · have b0 : (v.st == 0) = false := beq_eq_false_iff_ne.2 t0
        by_cases t1 : v.st = 1
        · have b1 : (v.st != 1) = false := by simp [t1]
          have HOK0 : Hid (okV n v = ok) := by show _ = _; unfold okV votedQ; rw [t1]; exact HSD.out
          clear t0 t1
          cases ok with
          | true =>
            have HOK := HOK0
            by_cases h0 : 0 ≤ v.fr
            · by_cases h1 : v.fr < n
              · obtain ⟨i, hfi⟩ : ∃ i : Nat, v.fr = (i : Int) := ⟨v.fr.toNat, by omega⟩
                have hi7 : i < 7 := by have := sz_le HZ.out; omega
                have HM2 : Hid (tal (okV n) n (-1) (vs.take (q + 1)) = putM (tal (okV n) n (-1) (vs.take q)) i v) := by
                  show _ = _
                  rw [List.take_add_one, hkv.out, Option.toList_some, tal_snoc, HOK.out, if_pos rfl]
                  unfold addM okT putM
                  rw [decide_eq_true ⟨h0, h1⟩, beq_eq_false_iff_ne.2 (show v.fr ≠ -1 by omega), hfi]
                  cases (lkm (tal (okV n) n (-1) (vs.take q)) (i : Int)).isSome <;> rfl
                have HML : Hid ((tal (okV n) n (-1) (vs.take q)).length ≤ 7) := tal_le7 (sz_le HZ.out) _ _ _
                have HC := hide (put_any w.heap.size i _ v hfi hi7 HML.out w1 QB1.out)
                clear hfi hi7
                go_wp2_with (first | (refine wpList_load_mid rfl 33 _ rfl wr.heap.size 0 rfl (vcs v) _ QV1.out.range Try.underlying33 rfl (by kernel_rfl) ?_))
                refine HC.out.mono ?_
                rintro e w2 ⟨rfl, hq2, hb2⟩
                have QB2 := hide hq2
                have B2 : Hid (Below w.heap.size w w2) := B1.out.trans hb2
                clear hq2 hb2 HC
                go_wp2
                go_roundw
                case rel => exact ⟨q + 1, by go_num, by omega, by rw [HM2.out]; exact QB2, B2⟩
                case measure => simp [intOf]; omega
              · have HM2 : Hid (tal (okV n) n (-1) (vs.take (q + 1)) = tal (okV n) n (-1) (vs.take q)) := by
                  show _ = _
                  rw [List.take_add_one, hkv.out, Option.toList_some, tal_snoc]
                  rw [HOK.out, if_pos rfl]
                  unfold addM okT
                  rw [decide_eq_false (by omega)]; rfl
                go_wp2
                go_roundw
                case rel => exact ⟨q + 1, by go_num, by omega, by rw [HM2.out]; exact QB1, B1⟩
                case measure => simp [intOf]; omega
            · have HM2 : Hid (tal (okV n) n (-1) (vs.take (q + 1)) = tal (okV n) n (-1) (vs.take q)) := by
                show _ = _
                rw [List.take_add_one, hkv.out, Option.toList_some, tal_snoc]
                rw [HOK.out, if_pos rfl]
                unfold addM okT
                rw [decide_eq_false (by omega)]; rfl
              go_wp2
              go_roundw
              case rel => exact ⟨q + 1, by go_num, by omega, by rw [HM2.out]; exact QB1, B1⟩
              case measure => simp [intOf]; omega
          | false =>
            have HOK := HOK0
            have HM2 : Hid (tal (okV n) n (-1) (vs.take (q + 1)) = tal (okV n) n (-1) (vs.take q)) := by
              show _ = _
              rw [List.take_add_one, hkv.out, Option.toList_some, tal_snoc]
              rw [HOK.out]; rfl
            go_wp2
            go_roundw
            case rel => exact ⟨q + 1, by go_num, by omega, by rw [HM2.out]; exact QB1, B1⟩
            case measure => simp [intOf]; omega
        · have b1 : (v.st != 1) = true := by simp [t1]
          by_cases t2 : v.st = 2
          · have b2 : (v.st != 2) = false := by simp [t2]
            have HOK0 : Hid (okV n v = ok) := by show _ = _; unfold okV votedQ; rw [t2]; exact HSD.out
            clear t0 t1 t2
            cases ok with
            | true =>
              have HOK := HOK0
              by_cases h0 : 0 ≤ v.fr
              · by_cases h1 : v.fr < n
                · obtain ⟨i, hfi⟩ : ∃ i : Nat, v.fr = (i : Int) := ⟨v.fr.toNat, by omega⟩
                  have hi7 : i < 7 := by have := sz_le HZ.out; omega
                  have HM2 : Hid (tal (okV n) n (-1) (vs.take (q + 1)) = putM (tal (okV n) n (-1) (vs.take q)) i v) := by
                    show _ = _
                    rw [List.take_add_one, hkv.out, Option.toList_some, tal_snoc, HOK.out, if_pos rfl]
                    unfold addM okT putM
                    rw [decide_eq_true ⟨h0, h1⟩, beq_eq_false_iff_ne.2 (show v.fr ≠ -1 by omega), hfi]
                    cases (lkm (tal (okV n) n (-1) (vs.take q)) (i : Int)).isSome <;> rfl
                  have HML : Hid ((tal (okV n) n (-1) (vs.take q)).length ≤ 7) := tal_le7 (sz_le HZ.out) _ _ _
                  have HC := hide (put_any w.heap.size i _ v hfi hi7 HML.out w1 QB1.out)
                  clear hfi hi7
                  go_wp2_with (first | (refine wpList_load_mid rfl 33 _ rfl wr.heap.size 0 rfl (vcs v) _ QV1.out.range Try.underlying33 rfl (by kernel_rfl) ?_))
                  refine HC.out.mono ?_
                  rintro e w2 ⟨rfl, hq2, hb2⟩
                  have QB2 := hide hq2
                  have B2 : Hid (Below w.heap.size w w2) := B1.out.trans hb2
                  clear hq2 hb2 HC
                  go_wp2
                  go_roundw
                  case rel => exact ⟨q + 1, by go_num, by omega, by rw [HM2.out]; exact QB2, B2⟩
                  case measure => simp [intOf]; omega
                · have HM2 : Hid (tal (okV n) n (-1) (vs.take (q + 1)) = tal (okV n) n (-1) (vs.take q)) := by
                    show _ = _
                    rw [List.take_add_one, hkv.out, Option.toList_some, tal_snoc]
                    rw [HOK.out, if_pos rfl]
                    unfold addM okT
                    rw [decide_eq_false (by omega)]; rfl
                  go_wp2
                  go_roundw
                  case rel => exact ⟨q + 1, by go_num, by omega, by rw [HM2.out]; exact QB1, B1⟩
                  case measure => simp [intOf]; omega
              · have HM2 : Hid (tal (okV n) n (-1) (vs.take (q + 1)) = tal (okV n) n (-1) (vs.take q)) := by
                  show _ = _
                  rw [List.take_add_one, hkv.out, Option.toList_some, tal_snoc]
                  rw [HOK.out, if_pos rfl]
                  unfold addM okT
                  rw [decide_eq_false (by omega)]; rfl
                go_wp2
                go_roundw
                case rel => exact ⟨q + 1, by go_num, by omega, by rw [HM2.out]; exact QB1, B1⟩
                case measure => simp [intOf]; omega
            | false =>
              have HOK := HOK0
              have HM2 : Hid (tal (okV n) n (-1) (vs.take (q + 1)) = tal (okV n) n (-1) (vs.take q)) := by
                show _ = _
                rw [List.take_add_one, hkv.out, Option.toList_some, tal_snoc]
                rw [HOK.out]; rfl
              go_wp2
              go_roundw
              case rel => exact ⟨q + 1, by go_num, by omega, by rw [HM2.out]; exact QB1, B1⟩
              case measure => simp [intOf]; omega
          · have b2 : (v.st != 2) = true := by simp [t2]
            have HOK : Hid (okV n v = false) := by show _ = _; unfold okV votedQ; rw [beq_eq_false_iff_ne.2 t1, beq_eq_false_iff_ne.2 t2, b0]; rfl
            clear t0 t1 t2
            have HM2 : Hid (tal (okV n) n (-1) (vs.take (q + 1)) = tal (okV n) n (-1) (vs.take q)) := by
              show _ = _
              rw [List.take_add_one, hkv.out, Option.toList_some, tal_snoc]
              rw [HOK.out]; rfl
            go_wp2
            go_roundw
            case rel => exact ⟨q + 1, by go_num, by omega, by rw [HM2.out]; exact QB1, B1⟩
            case measure => simp [intOf]; omega
    · have HT : Hid (vs.take q = vs) := List.take_of_length_le (by have := HN.out; omega)
      rw [HT.out] at HBD
      go_wp2
      go_ret
      exact ⟨rfl, HBD.out, HB.out⟩
end Go.Proofs.Ytmplipkdaplpnaa
