/- The contract of the document's own union. -/
import Derived.Test.YtmplipkdaplpnaaQDif
import Derived.Test.YtmplipkdaplpnaaQSlow
import Derived.Test.YtmplipkdaplpnaaVRefs
namespace Go.Proofs.Ytmplipkdaplpnaa
open Go.RowKit Go.Wire1

theorem ansK_mem {m : List (Int × Vt)} {q : Nat} (hq : q ≤ 7) {v : Vt} (h : v ∈ ansK m q) : v ∈ ansQ m := by
  rw [← ansK_all]
  unfold ansK at h ⊢
  obtain ⟨i, hi, he⟩ := List.mem_filterMap.1 h
  exact List.mem_filterMap.2 ⟨i, List.mem_range.2 (by have := List.mem_range.1 hi; omega), he⟩
set_option maxHeartbeats 8000000 in
set_option maxRecDepth 100000 in
theorem munion_any (seq : Int) (a : Option Addr) (k c : Nat) (l : List Int) (bb : Nat) (m : List (Int × Vt)) (w : World) (hs : SegI w a k l) (hb : Blk w bb (bdC m)) (hv : ∀ v ∈ ansQ m, Vok w v) :
    Calls Try.prog 24 #[.agg #[.int .i64 seq, .slice a k c], .pointer (some ⟨bb, 0, none⟩)] w fun e w' => ∃ ua uc, e = .returned (.agg #[.int .i64 (uSeq seq (ansQ m)), .slice ua (uDeps l (ansQ m)).length uc]) ∧ w'.ownsRow w.heap.size 3 1 (.slice ua (uDeps l (ansQ m)).length uc) (uDeps l (ansQ m)).length ((uDeps l (ansQ m)).map (Value.int .i64)) ∧ Below w.heap.size w w' := by
  obtain ⟨i0, hi, hz0, hz1, hz2⟩ := info_parts infoLQ
  have HS := hide hs
  have HBD := hide hb
  have HV := hide hv
  have hbw0 := hb.lt
  clear hs hb hv
  obtain ⟨W0, hW0⟩ : ∃ W0, W0 = ((w.alloc (.cells #[.int .i64 seq, .slice a k c] 24)).alloc (.cells #[.int .i64 0, .slice none 0 0] 24)).alloc (.cells #[.slice a k c] 22) := ⟨_, rfl⟩
  have hs2 : ((w.alloc (.cells #[.int .i64 seq, .slice a k c] 24)).alloc (.cells #[.int .i64 0, .slice none 0 0] 24)).heap.size = w.heap.size + 1 + 1 := by simp
  have BW0 : Hid (Below w.heap.size w W0) := by rw [hW0]; exact (((Below.refl _ w).alloc (Nat.le_refl _) _).alloc (by simp) _).alloc (by simp; omega) _
  have QW0 : Hid (Blk W0 w.heap.size [.int .i64 seq, .slice a k c]) := by
    rw [hW0]; exact (blk_new w 24 [.int .i64 seq, .slice a k c]).on (((Below.refl _ _).alloc (Nat.le_refl _) _).alloc (by simp) _)
  have ZW0 : Hid (Blk W0 (w.heap.size + 1) [.int .i64 0, .slice none 0 0]) := by
    have := blk_new (w.alloc (.cells #[.int .i64 seq, .slice a k c] 24)) 24 [.int .i64 0, .slice none 0 0]
    rw [World.size_alloc] at this
    rw [hW0]
    exact this.on ((Below.refl _ _).alloc (Nat.le_refl _) _)
  have OW0 : Hid (W0.ownsRow (w.heap.size + 1 + 1) 22 1 (.slice (some ⟨w.heap.size + 1 + 1, 0, none⟩) 1 1) 1 [.slice a k c]) := by
    show World.ownsRow _ _ _ _ _ _ _
    rw [hW0]
    refine ⟨rfl, .inr ⟨w.heap.size + 1 + 1, 1, #[.slice a k c], rfl, Nat.le_refl _, ?_, Nat.le_refl _, by unfold maxLen; omega, rfl, rfl⟩⟩
    have := heap_alloc_new ((w.alloc (.cells #[.int .i64 seq, .slice a k c] 24)).alloc (.cells #[.int .i64 0, .slice none 0 0] 24)) (.cells #[.slice a k c] 22)
    rw [hs2] at this
    exact this
  have LW0 : Hid (w.heap.size + 1 + 1 < W0.heap.size) := by show _ < _; rw [hW0]; simp
  go_enter Try.func24, Try.ntmps24
  go_upto_region 2 with fail
  rw [← hW0]
  have q0 := QW0.out.cell 0 _ rfl
  have q1 := QW0.out.cell 1 _ rfl
  clear hW0 hs2
  generalize hB : w.heap.size + 1 + 1 = B at *
  have HBE := hide hB
  have hwB : w.heap.size ≤ B := by omega
  clear hB
  go_wp2
  go_loopw [5, 6, 7] (fun x s i wr => ∃ q : Nat, i = .int .i64 (q : Int) ∧ q ≤ 7 ∧ s = .int .i64 (uSeq seq (ansK m q)) ∧ Hid (wr.ownsRow B 22 1 x ((ansK m q).length + 1) (.slice a k c :: (ansK m q).map (fun v => .slice v.da v.dn v.dc))) ∧ Hid (Below B W0 wr)) (fun _ _ i _ => 7 - (intOf i).toNat)
  case atStart => exact ⟨0, rfl, Nat.zero_le _, rfl, OW0, Below.refl _ _⟩
  case round =>
    obtain ⟨q, rfl, hq, hx, HO, HB⟩ := hrel
    subst hx
    have hBr : B < wr.heap.size := by have := HB.out.size; have := LW0.out; omega
    have BWR : Hid (Below w.heap.size w wr) := BW0.out.trans (HB.out.mono hwB)
    by_cases hlt : q < 7
    · have hi7 : (q : Int) < 7 := by omega
      have QB : Hid (Blk wr bb (bdC m)) := HBD.out.on BWR.out
      have cb : wr.cell? ⟨bb, q, none⟩ = some (.bool (lkm m (q : Int)).isSome) := QB.out.cell q _ (bd_there m hlt)
      cases hs : (lkm m (q : Int)).isSome with
      | false =>
        rw [hs] at cb
        have HD2 : Hid (ansK m (q + 1) = ansK m q) := ansK_no hs
        clear hs
        go_wp2
        go_roundw
        case rel => exact ⟨q + 1, by go_num, by omega, by rw [HD2.out], by rw [HD2.out]; exact HO, HB⟩
        case measure => simp [intOf]; omega
      | true =>
        rw [hs] at cb
        obtain ⟨bv, hbv⟩ : ∃ bv, bvt m q = bv := ⟨_, rfl⟩
        have HD2 : Hid (ansK m (q + 1) = ansK m q ++ [bv]) := by show _ = _; rw [ansK_yes hs, hbv]
        have RV : Hid (wr.rangeAt bb (7 + q * 15) (vcs bv)) := by rw [← hbv]; exact bd_range QB.out hlt
        have hl7 := ansK_le m q
        have e14 : wr.cell? ⟨bb, 7 + q * 15 + 14, none⟩ = some (.slice bv.da bv.dn bv.dc) := RV.out 14 _ (vcs14 bv)
        have HNE : Hid (∀ g, u5.ownBlock = some g → B ≤ g ∧ g < wr.heap.size) := HO.out.lt
        have hbw : bb < wr.heap.size := QB.out.lt
        clear hs hbv
        obtain ⟨s0, HS0⟩ : ∃ s0, Hid (uSeq seq (ansK m q) = s0) := ⟨_, rfl⟩
        rw [HS0.out]
        go_upto_region 8 with (at_builtin; refine wpList_append_own_at _ rfl _ _ 86 rfl B 22 i0 (.slice none 0 0) 1 24 Try.underlying86 hi hz0 hz1 hz2 rfl (by decide) u5 _ _ rfl (World.ownsRow.alloc HO.out _) ⟨wr.heap.size, 0, none⟩ 1 1 [.slice bv.da bv.dn bv.dc] rfl rfl (cell_one_new wr _ _) (by intro u hu; simp only [List.mem_singleton] at hu; subst hu; rfl) (by unfold maxLen; omega) (by omega) (by simp; omega) ?_; intro v' w4 hown4 hgrow4 hnil4 hloc4; have HO4 := hide hown4; have HG4 := hide hgrow4; clear hown4 hgrow4 hnil4 hloc4)
        have HB4 : Hid (Below B W0 w4) := (HB.out.alloc (by omega) _).grown HG4.out (by simp; omega) (fun j hj => (HNE.out j hj).1)
        have HO5 : Hid (w4.ownsRow B 22 1 v' ((ansK m (q + 1)).length + 1) (.slice a k c :: (ansK m (q + 1)).map (fun v => .slice v.da v.dn v.dc))) := by
          show World.ownsRow _ _ _ _ _ _ _
          have := HO4.out
          rw [HD2.out, List.map_append, List.length_append]
          exact this
        have QB4 : Hid (Blk w4 bb (bdC m)) := HBD.out.on (BW0.out.trans (HB4.out.mono hwB))
        have e13 : w4.cell? ⟨bb, 7 + q * 15 + 13, none⟩ = some (.int .i64 bv.seq) := by
          have e : Below bb.succ wr w4 ∨ True := .inr trivial
          have h1 : (wr.rangeAt bb (7 + q * 15) (vcs bv)) := RV.out
          have hc : w4.cell? ⟨bb, 7 + q * 15 + 13, none⟩ = wr.cell? ⟨bb, 7 + q * 15 + 13, none⟩ := by
            rw [(BW0.out.trans (HB4.out.mono hwB)).cell (p := ⟨bb, 7 + q * 15 + 13, none⟩) hbw0, BWR.out.cell (p := ⟨bb, 7 + q * 15 + 13, none⟩) hbw0]
          rw [hc]; exact h1 13 _ (vcs13 bv)
        clear e14 cb
        by_cases hgt : s0 < bv.seq
        · have HU : Hid (uSeq seq (ansK m (q + 1)) = bv.seq) := by show _ = _; rw [HD2.out, uSeq_snoc, HS0.out]; omega
          go_wp2
          go_roundw
          case rel => exact ⟨q + 1, by go_num, by omega, by rw [HU.out], HO5, HB4⟩
          case measure => simp [intOf]; omega
        · have HU : Hid (uSeq seq (ansK m (q + 1)) = s0) := by show _ = _; rw [HD2.out, uSeq_snoc, HS0.out]; omega
          go_wp2
          go_roundw
          case rel => exact ⟨q + 1, by go_num, by omega, by rw [HU.out], HO5, HB4⟩
          case measure => simp [intOf]; omega
    · obtain rfl : q = 7 := by omega
      rw [ansK_all] at HO ⊢
      obtain ⟨vs, hvs⟩ : ∃ vs, ansQ m = vs := ⟨_, rfl⟩
      have HL7 : Hid (vs.length ≤ 7) := by rw [← hvs]; exact ansQ_le m
      have HVS := hide hvs
      rw [hvs] at HO HV ⊢
      clear hvs
      obtain ⟨N, hN⟩ : ∃ N, vs.length = N := ⟨_, rfl⟩
      have HN := hide hN
      have hN7 := HL7.out
      rw [hN] at HO hN7
      clear hN
      obtain ⟨g, cap, rfl, hcap, hcell⟩ : ∃ g cap, u5 = .slice (some ⟨g, 0, none⟩) (N + 1) cap ∧ N + 1 ≤ cap ∧ ∀ i u, (Value.slice a k c :: vs.map (fun v => .slice v.da v.dn v.dc))[i]? = some u → wr.cell? ⟨g, i, none⟩ = some u := by
        rcases HO.out.2 with ⟨_, e⟩ | ⟨g, cap, cur, e, hB, hh, h3, h4, h5, h6⟩
        · omega
        · refine ⟨g, cap, e, h3, fun i u hi => ?_⟩
          have := World.ownsRow.cells HO.out (g := g) (by rw [e]; rfl) i u hi
          rwa [Addr.add_mid, Nat.zero_add] at this
      have HSL : Hid (SegL wr (some ⟨g, 0, none⟩) (N + 1) (⟨a, k, c, l⟩ :: vs.map liOf)) := by
        refine ⟨by simp [HN.out], by unfold maxLen; omega, fun _ => ⟨g, 0, rfl, fun i hi => ?_⟩, fun i hi => ?_⟩
        · rw [Nat.zero_add]
          refine hcell i _ ?_
          cases i with
          | zero => rfl
          | succ i =>
            have hi' : i < vs.length := by have := HN.out; omega
            simp [List.getElem?_eq_getElem hi', liOf]
        · cases i with
          | zero => exact HS.out.below BWR.out (Nat.le_refl _)
          | succ i =>
            have hi' : i < vs.length := by have := HN.out; omega
            have : SegI wr (vs[i]).da (vs[i]).dn (vs[i]).deps := (HV.out _ (List.getElem_mem hi')).seg.below BWR.out (Nat.le_refl _)
            simpa [List.getElem?_eq_getElem hi', liOf] using this
      have HLS : Hid (lsOf (⟨a, k, c, l⟩ :: vs.map liOf) = l :: vs.map (·.deps)) := by show _ = _; simp [lsOf, liOf, Function.comp_def]
      have HZR := hide (ZW0.out.below HB.out (by have := HBE.out; omega))
      clear hcell hcap HO
      go_wp2_with fail
      refine (refUnion_any _ _ _ _ _ HSL.out).mono ?_
      rintro e w5 ⟨v, rfl, ho5, hb5⟩
      rw [HLS.out] at ho5 ⊢
      have HO5 := hide ho5
      have B5 : Hid (Below w.heap.size w w5) := BWR.out.trans (hb5.mono BWR.out.size)
      have Z5 : Hid (Blk w5 (w.heap.size + 1) [.int .i64 0, .slice none 0 0]) := HZR.out.on hb5
      obtain ⟨ua, uc, rfl⟩ := own_shape ho5
      have TZ5 := hide Z5.out.there
      have hws := HBE.out
      have hwr := BWR.out.size
      clear ho5 hb5
      generalize (unionE (l :: vs.map (·.deps)) : Int) = er
      obtain ⟨Y, hY⟩ : ∃ Y, Y = w5.setCells (w.heap.size + 1) 0 [.int .i64 (uSeq seq vs), .slice ua (uDeps l vs).length uc] := ⟨_, rfl⟩
      have HF : Hid (Blk Y (w.heap.size + 1) [.int .i64 (uSeq seq vs), .slice ua (uDeps l vs).length uc]) := by rw [hY]; exact blk_cells Z5.out rfl
      have HOF : Hid (Y.ownsRow w.heap.size 3 1 (.slice ua (uDeps l vs).length uc) (uDeps l vs).length ((uDeps l vs).map (Value.int .i64))) := by
        show World.ownsRow _ _ _ _ _ _ _
        have h1 := World.ownsRow.kept (row := some (w.heap.size + 1)) (w' := Y) HO5.out (by rw [hY]; exact (grown_set _ _ _ _).trans (grown_set _ _ _ _)) (by
          rcases HO5.out.2 with ⟨e, _⟩ | ⟨g', cap', cur, e, hB', _⟩
          · rw [e]; exact .inl rfl
          · rw [e]; refine .inr ?_; intro e2; simp only [Value.ownBlock, Option.some.injEq] at e2; omega)
        exact own_base h1 (by omega)
      have BF : Hid (Below w.heap.size w Y) := by rw [hY]; exact below_cells (by omega) _ _ _ B5.out
      have HY := hide hY
      clear hY
      go_wp2_with (refine wpList_store_mid rfl 24 _ _ rfl (w.heap.size + 1) 0 #[.int .i64 (uSeq seq vs), .slice ua (uDeps l vs).length uc] rfl rfl TZ5.out (by kernel_rfl) (by kernel_rfl) ?_; first | rw [← HY.out] | (simp only [List.toList_toArray]; rw [← HY.out]))
      refine bodyPost_ret (results_cell_mid Try.results24 _ _ (w.heap.size + 1) [.int .i64 (uSeq seq vs), .slice ua (uDeps l vs).length uc] _ rfl HF.out.range Try.underlying24 rfl (by kernel_rfl)) rfl (by rw [HVS.out]; exact ⟨ua, uc, rfl, HOF.out, BF.out⟩)
end Go.Proofs.Ytmplipkdaplpnaa
