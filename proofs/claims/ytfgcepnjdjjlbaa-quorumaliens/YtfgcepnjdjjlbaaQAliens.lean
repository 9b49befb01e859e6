/- Proved: for every n, self, own attributes, votes and odd vote QuorumAliens answers true: a vote that doesn't count changes no decision behind the others. No condition. -/
import Derived.Test.YtfgcepnjdjjlbaaQAppV
import Derived.Test.YtfgcepnjdjjlbaaQOddM
namespace Go.Proofs.Ytfgcepnjdjjlbaa
open Go.ChangeShapes Go.WideShapes Go.ChangeAt Go.RowKit Go.Wire1

namespace quorumAliens
set_option maxHeartbeats 8000000 in
set_option maxRecDepth 100000 in
theorem walk (n slf seq : Int) (a : Option Addr) (k c : Nat) (l : List Int) (va : Option Addr) (N vc : Nat) (vs : List Vt) (d : Vt) (w : World) (h : SegI w a k l) (hkc : k ≤ c) (hv : VRow w va N vs) (hnil : va = none → N = 0 ∧ vc = 0) (hd : Vok w d) (hb : -9223372036854775808 ≤ slf ∧ slf ≤ 9223372036854775807) :
    Calls Try.prog 3 #[.int .i64 n, .int .i64 slf, .agg #[.int .i64 seq, .slice a k c], .slice va N vc, .agg (vcs d).toArray] w fun e w' => e = .returned (.bool true) ∧ Below w.heap.size w w' := by
  obtain ⟨i0, hi, hz0, hz1, hz2⟩ := info_parts infoVQ
  obtain ⟨U, hU⟩ : ∃ U, U = (w.alloc (.cells #[.int .i64 seq, .slice a k c] 24)).alloc (.cells (vcs d).toArray 31) := ⟨_, rfl⟩
  have BU : Hid (Below w.heap.size w U) := by rw [hU]; exact ((Below.refl _ w).alloc (Nat.le_refl _) _).alloc (by simp) _
  have QA : Hid (Blk U w.heap.size [.int .i64 seq, .slice a k c]) := by rw [hU]; exact (blk_new w 24 [.int .i64 seq, .slice a k c]).on ((Below.refl _ _).alloc (Nat.le_refl _) _)
  have QB : Hid (Blk U (w.heap.size + 1) (vcs d)) := by
    have := blk_new (w.alloc (.cells [.int .i64 seq, .slice a k c].toArray 24)) 31 (vcs d)
    rw [World.size_alloc] at this
    rw [hU]; exact this
  have HKC := hide hkc
  have HH := hide h
  have HV := hide hv
  have HDV := hide hd
  have HBD := hide hb
  have HNIL := hide hnil
  have hN := hv.len
  have htop := hv.top
  have HN := hide hN
  clear h hkc hv hN hb hd hnil
  go_enter Try.func3, Try.ntmps3
  go_upto_region 1 with fail
  rw [← hU]
  clear hU
  go_wp2_with fail
  refine (goes_any _).mono ?_
  rintro e w1 ⟨rfl, hb1⟩
  have B1 : Hid (Below U.heap.size U w1) := hb1
  have QB1 : Hid (Blk w1 (w.heap.size + 1) (vcs d)) := QB.out.on hb1
  have HD1 : Hid (SegI w1 d.da d.dn d.deps) := (HDV.out.below (BU.out.trans (hb1.mono BU.out.size)) (Nat.le_refl _)).seg
  have y13 : w1.cell? ⟨w.heap.size + 1, 13, none⟩ = some (.int .i64 d.seq) := QB1.out.cell 13 _ rfl
  have y14 : w1.cell? ⟨w.heap.size + 1, 14, none⟩ = some (.slice d.da d.dn d.dc) := QB1.out.cell 14 _ rfl
  have y0 : w1.cell? ⟨w.heap.size + 1, 0, none⟩ = some (.int .i64 d.fr) := QB1.out.cell 0 _ rfl
  clear hb1
  obtain ⟨sd, hsd⟩ : ∃ b, sndB n d.seq d.deps = b := ⟨_, rfl⟩
  have HSD := hide hsd
  go_wp2_with fail
  refine (sound_any _ _ _ _ _ _ _ HD1.out).mono ?_
  rintro e w2 ⟨rfl, rfl⟩
  rw [hsd]
  clear hsd y13 y14 HD1
  have B2 := B1
  have QB2 := QB1
  have HV2 : Hid (VRow w1 va N vs) := HV.out.below (BU.out.trans (B1.out.mono BU.out.size)) (Nat.le_refl _)
  have BW2 : Hid (Below w.heap.size w w1) := BU.out.trans (B1.out.mono BU.out.size)
  have QA2 : Hid (Blk w1 w.heap.size [.int .i64 seq, .slice a k c]) := QA.out.on B1.out
  clear B1 QB1
  generalize w1 = w2 at *
  by_cases hf0 : d.fr < 0
  · go_wp2
    go_loopw [14, 15] (fun x i wr => ∃ q : Nat, i = .int .i64 (q : Int) ∧ q ≤ N ∧ x = .bool (twQ n d.fr (vs.take q)) ∧ Hid (∃ e0 : Nat, wr = w2.drewN e0)) (fun _ i _ => N - (intOf i).toNat)
    case atStart => exact ⟨0, rfl, Nat.zero_le _, rfl, hide ⟨0, rfl⟩⟩
    case round =>
      obtain ⟨q, rfl, hq, hx, HD⟩ := hrel
      subst hx
      have HVR : Hid (VRow wr va N vs) := by obtain ⟨e0, e⟩ := HD.out; rw [e]; exact HV2.out.below (below_drewN (Below.refl _ _) _) (Nat.le_refl _)
      have HBX : Hid (Blk wr (w.heap.size + 1) (vcs d)) := by obtain ⟨e0, e⟩ := HD.out; rw [e]; exact QB2.out.drewN _
      have x0 : wr.cell? ⟨w.heap.size + 1, 0, none⟩ = some (.int .i64 d.fr) := HBX.out.cell 0 _ rfl
      by_cases hlt : q < N
      · obtain ⟨b, off, rfl, hat⟩ := HVR.out.frAt (by omega)
        obtain ⟨v, hkv⟩ : ∃ v, vs[q]? = some v := ⟨_, List.getElem?_eq_getElem (by have := HN.out; omega)⟩
        have HNX : Hid (vs.take (q + 1) = vs.take q ++ [v]) := by show _ = _; rw [List.take_add_one, hkv]; rfl
        have HVS : Hid (SegI wr v.da v.dn v.deps) := (HVR.out.ok v (List.mem_of_getElem? hkv)).seg
        have hrg := hat q v hkv
        have c0 : wr.cell? ⟨b, off + q * 15, none⟩ = some (.int .i64 v.fr) := hrg 0 _ rfl
        have c1 : wr.cell? ⟨b, off + q * 15 + 1, none⟩ = some (.int .i64 v.st) := hrg 1 _ rfl
        have c13 : wr.cell? ⟨b, off + q * 15 + 13, none⟩ = some (.int .i64 v.seq) := hrg 13 _ rfl
        have c14 : wr.cell? ⟨b, off + q * 15 + 14, none⟩ = some (.slice v.da v.dn v.dc) := hrg 14 _ rfl
        clear hat hrg
        obtain ⟨tw, htw⟩ : ∃ t, twQ n d.fr (vs.take q) = t := ⟨_, rfl⟩
        rw [htw]
        cases hsb : sndB n v.seq v.deps with
        | false =>
          have HSB := hide hsb
          have HTW : Hid (twQ n d.fr (vs.take (q + 1)) = tw) := by
            show _ = _
            rw [HNX.out, twQ_snoc]
            rw [htw, hsb]; simp
          clear hkv htw hsb
          go_wp2
          go_quiet ((go_at_call 7; exact Calls.quiet_of_same (sound_q _ _ _ _ _ _ _ (HVS.out.drewN _) HSB.out)))
          go_wp2
          go_quiet (fail)
          go_wp2
          go_roundw
          case rel => exact ⟨q + 1, by go_num, by omega, by rw [HTW.out], by obtain ⟨e0, e⟩ := HD.out; exact hide ⟨_, by rw [e, World.drewN_drewN]⟩⟩
          case measure => simp [intOf]; omega
        | true =>
          have HSB := hide hsb
          by_cases he : v.fr = d.fr
          · have hef : (v.fr == d.fr) = true := beq_iff_eq.2 he
            by_cases h0 : v.st < 0
            · have h0' : ¬ (0 : Int) ≤ v.st := by omega
              have HTW : Hid (twQ n d.fr (vs.take (q + 1)) = tw) := by
                show _ = _
                rw [HNX.out, twQ_snoc]
                rw [htw, decide_eq_false h0']; simp
              have hdd : decide ((0 : Int) ≤ v.st) = false := decide_eq_false h0'
              clear hkv htw hsb he h0 h0'
              go_wp2
              go_quiet ((go_at_call 7; exact Calls.quiet_of_same (sound_q _ _ _ _ _ _ _ (HVS.out.drewN _) HSB.out)))
              go_wp2
              go_quiet (fail)
              go_wp2
              go_roundw
              case rel => exact ⟨q + 1, by go_num, by omega, by rw [HTW.out], by obtain ⟨e0, e⟩ := HD.out; exact hide ⟨_, by rw [e, World.drewN_drewN]⟩⟩
              case measure => simp [intOf]; omega
            · have h0' : (0 : Int) ≤ v.st := by omega
              by_cases h2 : v.st ≤ 2
              · have HTW : Hid (twQ n d.fr (vs.take (q + 1)) = true) := by
                  show _ = _
                  rw [HNX.out, twQ_snoc]
                  rw [htw, hsb, hef, decide_eq_true h0', decide_eq_true h2]; simp
                clear hkv htw hsb he
                go_wp2
                go_quiet ((go_at_call 7; exact Calls.quiet_of_same (sound_q _ _ _ _ _ _ _ (HVS.out.drewN _) HSB.out)))
                go_wp2
                go_quiet (fail)
                go_wp2
                go_roundw
                case rel => exact ⟨q + 1, by go_num, by omega, by rw [HTW.out], by obtain ⟨e0, e⟩ := HD.out; exact hide ⟨_, by rw [e, World.drewN_drewN]⟩⟩
                case measure => simp [intOf]; omega
              · have HTW : Hid (twQ n d.fr (vs.take (q + 1)) = tw) := by
                  show _ = _
                  rw [HNX.out, twQ_snoc]
                  rw [htw, decide_eq_false h2]; simp
                clear hkv htw hsb he
                go_wp2
                go_quiet ((go_at_call 7; exact Calls.quiet_of_same (sound_q _ _ _ _ _ _ _ (HVS.out.drewN _) HSB.out)))
                go_wp2
                go_quiet (fail)
                go_wp2
                go_roundw
                case rel => exact ⟨q + 1, by go_num, by omega, by rw [HTW.out], by obtain ⟨e0, e⟩ := HD.out; exact hide ⟨_, by rw [e, World.drewN_drewN]⟩⟩
                case measure => simp [intOf]; omega
          · have hef : (v.fr == d.fr) = false := beq_eq_false_iff_ne.2 he
            have HTW : Hid (twQ n d.fr (vs.take (q + 1)) = tw) := by
              show _ = _
              rw [HNX.out, twQ_snoc]
              rw [htw, hef]; simp
            clear hkv htw hsb he
            go_wp2
            go_quiet ((go_at_call 7; exact Calls.quiet_of_same (sound_q _ _ _ _ _ _ _ (HVS.out.drewN _) HSB.out)))
            go_wp2
            go_quiet (fail)
            go_wp2
            go_roundw
            case rel => exact ⟨q + 1, by go_num, by omega, by rw [HTW.out], by obtain ⟨e0, e⟩ := HD.out; exact hide ⟨_, by rw [e, World.drewN_drewN]⟩⟩
            case measure => simp [intOf]; omega
      · have hqN : q = N := by omega
        subst hqN
        have hta : vs.take q = vs := List.take_of_length_le (by have := HN.out; omega)
        rw [hta]
        have HCO : Hid ((¬ (0 ≤ d.fr ∧ d.fr < n)) ∨ twQ n d.fr vs = true ∨ (sndB n d.seq d.deps = false ∧ d.st ≠ 0)) := .inl (by omega)
        clear hta
        obtain ⟨e0, e⟩ := HD.out
        have BR : Hid (Below U.heap.size U wr) := by rw [e]; exact below_drewN B2.out _
        clear HD e
        have QA3 : Hid (Blk wr w.heap.size [.int .i64 seq, .slice a k c]) := QA.out.on BR.out
        have QB3 : Hid (Blk wr (w.heap.size + 1) (vcs d)) := QB.out.on BR.out
        have BW3 : Hid (Below w.heap.size w wr) := BU.out.trans (BR.out.mono BU.out.size)
        have hs3 := BR.out.size
        have HO1 := hide (vcs_one d)
        have HE := hide (odd_same n slf seq l HCO.out)
        clear HVR HBX QA2 QB2 x0 HV2 B2 HSD HCO
        go_wp2_with (first | (at_make; refine wpList_make_own _ rfl _ _ 25 rfl U.heap.size 31 i0 _ 15 Try.underlying25 hi hz0 hz1 .i64 .i64 _ (q + 1) rfl rfl (by omega) (by rw [hz2]; omega) (by unfold maxLen; omega) (by omega) ?_; intro w5 hown5 hgrow5; have HO5 := hide hown5; have B5 : Hid (Below U.heap.size U w5) := BR.out.grown hgrow5 (by omega) (fun j hj => by cases hj); clear hown5 hgrow5; have hs5 := B5.out.size) | (at_builtin; refine wpList_append_votes rfl _ _ rfl U.heap.size _ 0 [] rfl HO5.out va q vc vs rfl HNIL.out (HV.out.below (BU.out.trans (B5.out.mono BU.out.size)) (Nat.le_refl _)).row (by unfold maxLen; omega) (by omega) (by omega) ?_; intro v6 w6 hown6 hgrow6; have HO6 := hide hown6; have B6 : Hid (Below U.heap.size U w6) := B5.out.grown hgrow6 (by omega) (fun j hj => by have := HO5.out.lt j hj; omega); have QB6 : Hid (Blk w6 (w.heap.size + 1) (vcs d)) := QB.out.on B6.out; have hs6 := B6.out.size; clear hown6 hgrow6) | (refine wpList_load_mid rfl 31 _ rfl (w.heap.size + 1) 0 rfl (vcs d) _ QB6.out.range Try.underlying31 rfl (by kernel_rfl) ?_) | (refine wpList_buildOne rfl 25 31 _ rfl 15 (vcs d) rfl rfl i0 _ Try.underlying25 hi hz0 hz1 (by omega) (by omega) ?_) | (at_builtin; refine wpList_append_own_at _ rfl _ _ 25 rfl U.heap.size 31 i0 _ 15 168 Try.underlying25 hi hz0 hz1 hz2 (by kernel_rfl) (by decide) v6 _ _ rfl (World.ownsRow.alloc HO6.out _) ⟨w6.heap.size, 0, none⟩ 1 1 (vcs d) rfl rfl (rowVQ_new _ _) HO1.out (by unfold maxLen; omega) (by omega) (by simp; omega) ?_; intro v8 w8 hown8 hgrow8 hnil8 hloc8; have HO8 := hide hown8; have B8 : Hid (Below U.heap.size U w8) := (B6.out.alloc (by omega) _).grown hgrow8 (by simp; omega) (fun j hj => (HO6.out.lt j hj).1); have QA8 : Hid (Blk w8 w.heap.size [.int .i64 seq, .slice a k c]) := QA.out.on B8.out; clear hown8 hgrow8 hnil8 hloc8) | (refine wpList_load_mid rfl 24 _ rfl w.heap.size 0 rfl [.int .i64 seq, .slice a k c] _ QA8.out.range Try.underlying24 rfl (by kernel_rfl) ?_))
        have hfl : [] ++ (vs.map vcs).flatten ++ vcs d = ((vs ++ [d]).map vcs).flatten := by simp
        have hO8 := HO8.out
        rw [hfl, show 0 + q + 1 = q + 1 by omega] at hO8
        obtain ⟨ta, tc, rfl, htc, hrow⟩ := rowS_of hO8 (by rw [List.length_map, List.length_append, HN.out]; rfl) (by decide) (fun cs hcs => by obtain ⟨v, _, rfl⟩ := List.mem_map.1 hcs; exact ⟨rfl, vcs_one v⟩)
        have BW8 : Hid (Below w.heap.size w w8) := BU.out.trans (B8.out.mono BU.out.size)
        have HV8 : Hid (VRow w8 va q vs) := HV.out.below BW8.out (Nat.le_refl _)
        have HT : Hid (VSeg w8 ta (q + 1) (vs ++ [d])) := ⟨hrow, fun v hv => by
          rcases List.mem_append.1 hv with hv | hv
          · exact HV8.out.ok v hv
          · simp only [List.mem_singleton] at hv
            rw [hv]; exact HDV.out.below BW8.out (Nat.le_refl _)⟩
        refine (alike_any n slf seq a k c l va q vc vs ta (q + 1) tc (vs ++ [d]) _ (HH.out.below BW8.out (Nat.le_refl _)) HKC.out HV8.out.seg HT.out HBD.out HE.out.1 HE.out.2.1 HE.out.2.2).mono ?_
        rintro e w9 ⟨rfl, hb9⟩
        have B9 : Hid (Below w.heap.size w w9) := BW8.out.trans (hb9.mono BW8.out.size)
        clear hb9
        go_wp2
        go_ret
        exact ⟨rfl, B9.out⟩
  · by_cases hf1 : n ≤ d.fr
    · go_wp2
      go_loopw [14, 15] (fun x i wr => ∃ q : Nat, i = .int .i64 (q : Int) ∧ q ≤ N ∧ x = .bool (twQ n d.fr (vs.take q)) ∧ Hid (∃ e0 : Nat, wr = w2.drewN e0)) (fun _ i _ => N - (intOf i).toNat)
      case atStart => exact ⟨0, rfl, Nat.zero_le _, rfl, hide ⟨0, rfl⟩⟩
      case round =>
        obtain ⟨q, rfl, hq, hx, HD⟩ := hrel
        subst hx
        have HVR : Hid (VRow wr va N vs) := by obtain ⟨e0, e⟩ := HD.out; rw [e]; exact HV2.out.below (below_drewN (Below.refl _ _) _) (Nat.le_refl _)
        have HBX : Hid (Blk wr (w.heap.size + 1) (vcs d)) := by obtain ⟨e0, e⟩ := HD.out; rw [e]; exact QB2.out.drewN _
        have x0 : wr.cell? ⟨w.heap.size + 1, 0, none⟩ = some (.int .i64 d.fr) := HBX.out.cell 0 _ rfl
        by_cases hlt : q < N
        · obtain ⟨b, off, rfl, hat⟩ := HVR.out.frAt (by omega)
          obtain ⟨v, hkv⟩ : ∃ v, vs[q]? = some v := ⟨_, List.getElem?_eq_getElem (by have := HN.out; omega)⟩
          have HNX : Hid (vs.take (q + 1) = vs.take q ++ [v]) := by show _ = _; rw [List.take_add_one, hkv]; rfl
          have HVS : Hid (SegI wr v.da v.dn v.deps) := (HVR.out.ok v (List.mem_of_getElem? hkv)).seg
          have hrg := hat q v hkv
          have c0 : wr.cell? ⟨b, off + q * 15, none⟩ = some (.int .i64 v.fr) := hrg 0 _ rfl
          have c1 : wr.cell? ⟨b, off + q * 15 + 1, none⟩ = some (.int .i64 v.st) := hrg 1 _ rfl
          have c13 : wr.cell? ⟨b, off + q * 15 + 13, none⟩ = some (.int .i64 v.seq) := hrg 13 _ rfl
          have c14 : wr.cell? ⟨b, off + q * 15 + 14, none⟩ = some (.slice v.da v.dn v.dc) := hrg 14 _ rfl
          clear hat hrg
          obtain ⟨tw, htw⟩ : ∃ t, twQ n d.fr (vs.take q) = t := ⟨_, rfl⟩
          rw [htw]
          cases hsb : sndB n v.seq v.deps with
          | false =>
            have HSB := hide hsb
            have HTW : Hid (twQ n d.fr (vs.take (q + 1)) = tw) := by
              show _ = _
              rw [HNX.out, twQ_snoc]
              rw [htw, hsb]; simp
            clear hkv htw hsb
            go_wp2
            go_quiet ((go_at_call 7; exact Calls.quiet_of_same (sound_q _ _ _ _ _ _ _ (HVS.out.drewN _) HSB.out)))
            go_wp2
            go_quiet (fail)
            go_wp2
            go_roundw
            case rel => exact ⟨q + 1, by go_num, by omega, by rw [HTW.out], by obtain ⟨e0, e⟩ := HD.out; exact hide ⟨_, by rw [e, World.drewN_drewN]⟩⟩
            case measure => simp [intOf]; omega
          | true =>
            have HSB := hide hsb
            by_cases he : v.fr = d.fr
            · have hef : (v.fr == d.fr) = true := beq_iff_eq.2 he
              by_cases h0 : v.st < 0
              · have h0' : ¬ (0 : Int) ≤ v.st := by omega
                have HTW : Hid (twQ n d.fr (vs.take (q + 1)) = tw) := by
                  show _ = _
                  rw [HNX.out, twQ_snoc]
                  rw [htw, decide_eq_false h0']; simp
                have hdd : decide ((0 : Int) ≤ v.st) = false := decide_eq_false h0'
                clear hkv htw hsb he h0 h0'
                go_wp2
                go_quiet ((go_at_call 7; exact Calls.quiet_of_same (sound_q _ _ _ _ _ _ _ (HVS.out.drewN _) HSB.out)))
                go_wp2
                go_quiet (fail)
                go_wp2
                go_roundw
                case rel => exact ⟨q + 1, by go_num, by omega, by rw [HTW.out], by obtain ⟨e0, e⟩ := HD.out; exact hide ⟨_, by rw [e, World.drewN_drewN]⟩⟩
                case measure => simp [intOf]; omega
              · have h0' : (0 : Int) ≤ v.st := by omega
                by_cases h2 : v.st ≤ 2
                · have HTW : Hid (twQ n d.fr (vs.take (q + 1)) = true) := by
                    show _ = _
                    rw [HNX.out, twQ_snoc]
                    rw [htw, hsb, hef, decide_eq_true h0', decide_eq_true h2]; simp
                  clear hkv htw hsb he
                  go_wp2
                  go_quiet ((go_at_call 7; exact Calls.quiet_of_same (sound_q _ _ _ _ _ _ _ (HVS.out.drewN _) HSB.out)))
                  go_wp2
                  go_quiet (fail)
                  go_wp2
                  go_roundw
                  case rel => exact ⟨q + 1, by go_num, by omega, by rw [HTW.out], by obtain ⟨e0, e⟩ := HD.out; exact hide ⟨_, by rw [e, World.drewN_drewN]⟩⟩
                  case measure => simp [intOf]; omega
                · have HTW : Hid (twQ n d.fr (vs.take (q + 1)) = tw) := by
                    show _ = _
                    rw [HNX.out, twQ_snoc]
                    rw [htw, decide_eq_false h2]; simp
                  clear hkv htw hsb he
                  go_wp2
                  go_quiet ((go_at_call 7; exact Calls.quiet_of_same (sound_q _ _ _ _ _ _ _ (HVS.out.drewN _) HSB.out)))
                  go_wp2
                  go_quiet (fail)
                  go_wp2
                  go_roundw
                  case rel => exact ⟨q + 1, by go_num, by omega, by rw [HTW.out], by obtain ⟨e0, e⟩ := HD.out; exact hide ⟨_, by rw [e, World.drewN_drewN]⟩⟩
                  case measure => simp [intOf]; omega
            · have hef : (v.fr == d.fr) = false := beq_eq_false_iff_ne.2 he
              have HTW : Hid (twQ n d.fr (vs.take (q + 1)) = tw) := by
                show _ = _
                rw [HNX.out, twQ_snoc]
                rw [htw, hef]; simp
              clear hkv htw hsb he
              go_wp2
              go_quiet ((go_at_call 7; exact Calls.quiet_of_same (sound_q _ _ _ _ _ _ _ (HVS.out.drewN _) HSB.out)))
              go_wp2
              go_quiet (fail)
              go_wp2
              go_roundw
              case rel => exact ⟨q + 1, by go_num, by omega, by rw [HTW.out], by obtain ⟨e0, e⟩ := HD.out; exact hide ⟨_, by rw [e, World.drewN_drewN]⟩⟩
              case measure => simp [intOf]; omega
        · have hqN : q = N := by omega
          subst hqN
          have hta : vs.take q = vs := List.take_of_length_le (by have := HN.out; omega)
          rw [hta]
          have HCO : Hid ((¬ (0 ≤ d.fr ∧ d.fr < n)) ∨ twQ n d.fr vs = true ∨ (sndB n d.seq d.deps = false ∧ d.st ≠ 0)) := .inl (by omega)
          clear hta
          obtain ⟨e0, e⟩ := HD.out
          have BR : Hid (Below U.heap.size U wr) := by rw [e]; exact below_drewN B2.out _
          clear HD e
          have QA3 : Hid (Blk wr w.heap.size [.int .i64 seq, .slice a k c]) := QA.out.on BR.out
          have QB3 : Hid (Blk wr (w.heap.size + 1) (vcs d)) := QB.out.on BR.out
          have BW3 : Hid (Below w.heap.size w wr) := BU.out.trans (BR.out.mono BU.out.size)
          have hs3 := BR.out.size
          have HO1 := hide (vcs_one d)
          have HE := hide (odd_same n slf seq l HCO.out)
          clear HVR HBX QA2 QB2 x0 HV2 B2 HSD HCO
          go_wp2_with (first | (at_make; refine wpList_make_own _ rfl _ _ 25 rfl U.heap.size 31 i0 _ 15 Try.underlying25 hi hz0 hz1 .i64 .i64 _ (q + 1) rfl rfl (by omega) (by rw [hz2]; omega) (by unfold maxLen; omega) (by omega) ?_; intro w5 hown5 hgrow5; have HO5 := hide hown5; have B5 : Hid (Below U.heap.size U w5) := BR.out.grown hgrow5 (by omega) (fun j hj => by cases hj); clear hown5 hgrow5; have hs5 := B5.out.size) | (at_builtin; refine wpList_append_votes rfl _ _ rfl U.heap.size _ 0 [] rfl HO5.out va q vc vs rfl HNIL.out (HV.out.below (BU.out.trans (B5.out.mono BU.out.size)) (Nat.le_refl _)).row (by unfold maxLen; omega) (by omega) (by omega) ?_; intro v6 w6 hown6 hgrow6; have HO6 := hide hown6; have B6 : Hid (Below U.heap.size U w6) := B5.out.grown hgrow6 (by omega) (fun j hj => by have := HO5.out.lt j hj; omega); have QB6 : Hid (Blk w6 (w.heap.size + 1) (vcs d)) := QB.out.on B6.out; have hs6 := B6.out.size; clear hown6 hgrow6) | (refine wpList_load_mid rfl 31 _ rfl (w.heap.size + 1) 0 rfl (vcs d) _ QB6.out.range Try.underlying31 rfl (by kernel_rfl) ?_) | (refine wpList_buildOne rfl 25 31 _ rfl 15 (vcs d) rfl rfl i0 _ Try.underlying25 hi hz0 hz1 (by omega) (by omega) ?_) | (at_builtin; refine wpList_append_own_at _ rfl _ _ 25 rfl U.heap.size 31 i0 _ 15 168 Try.underlying25 hi hz0 hz1 hz2 (by kernel_rfl) (by decide) v6 _ _ rfl (World.ownsRow.alloc HO6.out _) ⟨w6.heap.size, 0, none⟩ 1 1 (vcs d) rfl rfl (rowVQ_new _ _) HO1.out (by unfold maxLen; omega) (by omega) (by simp; omega) ?_; intro v8 w8 hown8 hgrow8 hnil8 hloc8; have HO8 := hide hown8; have B8 : Hid (Below U.heap.size U w8) := (B6.out.alloc (by omega) _).grown hgrow8 (by simp; omega) (fun j hj => (HO6.out.lt j hj).1); have QA8 : Hid (Blk w8 w.heap.size [.int .i64 seq, .slice a k c]) := QA.out.on B8.out; clear hown8 hgrow8 hnil8 hloc8) | (refine wpList_load_mid rfl 24 _ rfl w.heap.size 0 rfl [.int .i64 seq, .slice a k c] _ QA8.out.range Try.underlying24 rfl (by kernel_rfl) ?_))
          have hfl : [] ++ (vs.map vcs).flatten ++ vcs d = ((vs ++ [d]).map vcs).flatten := by simp
          have hO8 := HO8.out
          rw [hfl, show 0 + q + 1 = q + 1 by omega] at hO8
          obtain ⟨ta, tc, rfl, htc, hrow⟩ := rowS_of hO8 (by rw [List.length_map, List.length_append, HN.out]; rfl) (by decide) (fun cs hcs => by obtain ⟨v, _, rfl⟩ := List.mem_map.1 hcs; exact ⟨rfl, vcs_one v⟩)
          have BW8 : Hid (Below w.heap.size w w8) := BU.out.trans (B8.out.mono BU.out.size)
          have HV8 : Hid (VRow w8 va q vs) := HV.out.below BW8.out (Nat.le_refl _)
          have HT : Hid (VSeg w8 ta (q + 1) (vs ++ [d])) := ⟨hrow, fun v hv => by
            rcases List.mem_append.1 hv with hv | hv
            · exact HV8.out.ok v hv
            · simp only [List.mem_singleton] at hv
              rw [hv]; exact HDV.out.below BW8.out (Nat.le_refl _)⟩
          refine (alike_any n slf seq a k c l va q vc vs ta (q + 1) tc (vs ++ [d]) _ (HH.out.below BW8.out (Nat.le_refl _)) HKC.out HV8.out.seg HT.out HBD.out HE.out.1 HE.out.2.1 HE.out.2.2).mono ?_
          rintro e w9 ⟨rfl, hb9⟩
          have B9 : Hid (Below w.heap.size w w9) := BW8.out.trans (hb9.mono BW8.out.size)
          clear hb9
          go_wp2
          go_ret
          exact ⟨rfl, B9.out⟩
    · go_wp2
      go_loopw [14, 15] (fun x i wr => ∃ q : Nat, i = .int .i64 (q : Int) ∧ q ≤ N ∧ x = .bool (twQ n d.fr (vs.take q)) ∧ Hid (∃ e0 : Nat, wr = w2.drewN e0)) (fun _ i _ => N - (intOf i).toNat)
      case atStart => exact ⟨0, rfl, Nat.zero_le _, rfl, hide ⟨0, rfl⟩⟩
      case round =>
        obtain ⟨q, rfl, hq, hx, HD⟩ := hrel
        subst hx
        have HVR : Hid (VRow wr va N vs) := by obtain ⟨e0, e⟩ := HD.out; rw [e]; exact HV2.out.below (below_drewN (Below.refl _ _) _) (Nat.le_refl _)
        have HBX : Hid (Blk wr (w.heap.size + 1) (vcs d)) := by obtain ⟨e0, e⟩ := HD.out; rw [e]; exact QB2.out.drewN _
        have x0 : wr.cell? ⟨w.heap.size + 1, 0, none⟩ = some (.int .i64 d.fr) := HBX.out.cell 0 _ rfl
        by_cases hlt : q < N
        · obtain ⟨b, off, rfl, hat⟩ := HVR.out.frAt (by omega)
          obtain ⟨v, hkv⟩ : ∃ v, vs[q]? = some v := ⟨_, List.getElem?_eq_getElem (by have := HN.out; omega)⟩
          have HNX : Hid (vs.take (q + 1) = vs.take q ++ [v]) := by show _ = _; rw [List.take_add_one, hkv]; rfl
          have HVS : Hid (SegI wr v.da v.dn v.deps) := (HVR.out.ok v (List.mem_of_getElem? hkv)).seg
          have hrg := hat q v hkv
          have c0 : wr.cell? ⟨b, off + q * 15, none⟩ = some (.int .i64 v.fr) := hrg 0 _ rfl
          have c1 : wr.cell? ⟨b, off + q * 15 + 1, none⟩ = some (.int .i64 v.st) := hrg 1 _ rfl
          have c13 : wr.cell? ⟨b, off + q * 15 + 13, none⟩ = some (.int .i64 v.seq) := hrg 13 _ rfl
          have c14 : wr.cell? ⟨b, off + q * 15 + 14, none⟩ = some (.slice v.da v.dn v.dc) := hrg 14 _ rfl
          clear hat hrg
          obtain ⟨tw, htw⟩ : ∃ t, twQ n d.fr (vs.take q) = t := ⟨_, rfl⟩
          rw [htw]
          cases hsb : sndB n v.seq v.deps with
          | false =>
            have HSB := hide hsb
            have HTW : Hid (twQ n d.fr (vs.take (q + 1)) = tw) := by
              show _ = _
              rw [HNX.out, twQ_snoc]
              rw [htw, hsb]; simp
            clear hkv htw hsb
            go_wp2
            go_quiet ((go_at_call 7; exact Calls.quiet_of_same (sound_q _ _ _ _ _ _ _ (HVS.out.drewN _) HSB.out)))
            go_wp2
            go_quiet (fail)
            go_wp2
            go_roundw
            case rel => exact ⟨q + 1, by go_num, by omega, by rw [HTW.out], by obtain ⟨e0, e⟩ := HD.out; exact hide ⟨_, by rw [e, World.drewN_drewN]⟩⟩
            case measure => simp [intOf]; omega
          | true =>
            have HSB := hide hsb
            by_cases he : v.fr = d.fr
            · have hef : (v.fr == d.fr) = true := beq_iff_eq.2 he
              by_cases h0 : v.st < 0
              · have h0' : ¬ (0 : Int) ≤ v.st := by omega
                have HTW : Hid (twQ n d.fr (vs.take (q + 1)) = tw) := by
                  show _ = _
                  rw [HNX.out, twQ_snoc]
                  rw [htw, decide_eq_false h0']; simp
                have hdd : decide ((0 : Int) ≤ v.st) = false := decide_eq_false h0'
                clear hkv htw hsb he h0 h0'
                go_wp2
                go_quiet ((go_at_call 7; exact Calls.quiet_of_same (sound_q _ _ _ _ _ _ _ (HVS.out.drewN _) HSB.out)))
                go_wp2
                go_quiet (fail)
                go_wp2
                go_roundw
                case rel => exact ⟨q + 1, by go_num, by omega, by rw [HTW.out], by obtain ⟨e0, e⟩ := HD.out; exact hide ⟨_, by rw [e, World.drewN_drewN]⟩⟩
                case measure => simp [intOf]; omega
              · have h0' : (0 : Int) ≤ v.st := by omega
                by_cases h2 : v.st ≤ 2
                · have HTW : Hid (twQ n d.fr (vs.take (q + 1)) = true) := by
                    show _ = _
                    rw [HNX.out, twQ_snoc]
                    rw [htw, hsb, hef, decide_eq_true h0', decide_eq_true h2]; simp
                  clear hkv htw hsb he
                  go_wp2
                  go_quiet ((go_at_call 7; exact Calls.quiet_of_same (sound_q _ _ _ _ _ _ _ (HVS.out.drewN _) HSB.out)))
                  go_wp2
                  go_quiet (fail)
                  go_wp2
                  go_roundw
                  case rel => exact ⟨q + 1, by go_num, by omega, by rw [HTW.out], by obtain ⟨e0, e⟩ := HD.out; exact hide ⟨_, by rw [e, World.drewN_drewN]⟩⟩
                  case measure => simp [intOf]; omega
                · have HTW : Hid (twQ n d.fr (vs.take (q + 1)) = tw) := by
                    show _ = _
                    rw [HNX.out, twQ_snoc]
                    rw [htw, decide_eq_false h2]; simp
                  clear hkv htw hsb he
                  go_wp2
                  go_quiet ((go_at_call 7; exact Calls.quiet_of_same (sound_q _ _ _ _ _ _ _ (HVS.out.drewN _) HSB.out)))
                  go_wp2
                  go_quiet (fail)
                  go_wp2
                  go_roundw
                  case rel => exact ⟨q + 1, by go_num, by omega, by rw [HTW.out], by obtain ⟨e0, e⟩ := HD.out; exact hide ⟨_, by rw [e, World.drewN_drewN]⟩⟩
                  case measure => simp [intOf]; omega
            · have hef : (v.fr == d.fr) = false := beq_eq_false_iff_ne.2 he
              have HTW : Hid (twQ n d.fr (vs.take (q + 1)) = tw) := by
                show _ = _
                rw [HNX.out, twQ_snoc]
                rw [htw, hef]; simp
              clear hkv htw hsb he
              go_wp2
              go_quiet ((go_at_call 7; exact Calls.quiet_of_same (sound_q _ _ _ _ _ _ _ (HVS.out.drewN _) HSB.out)))
              go_wp2
              go_quiet (fail)
              go_wp2
              go_roundw
              case rel => exact ⟨q + 1, by go_num, by omega, by rw [HTW.out], by obtain ⟨e0, e⟩ := HD.out; exact hide ⟨_, by rw [e, World.drewN_drewN]⟩⟩
              case measure => simp [intOf]; omega
        · have hqN : q = N := by omega
          subst hqN
          have hta : vs.take q = vs := List.take_of_length_le (by have := HN.out; omega)
          rw [hta]
          have hor : (decide (d.fr < 0) || decide (n ≤ d.fr)) = false := by rw [decide_eq_false (by omega), decide_eq_false (by omega)]; rfl
          rw [hor]
          clear hor
          cases htw : twQ n d.fr vs with
          | true =>
            have HCO : Hid ((¬ (0 ≤ d.fr ∧ d.fr < n)) ∨ twQ n d.fr vs = true ∨ (sndB n d.seq d.deps = false ∧ d.st ≠ 0)) := .inr (.inl htw)
            clear hta htw
            obtain ⟨e0, e⟩ := HD.out
            have BR : Hid (Below U.heap.size U wr) := by rw [e]; exact below_drewN B2.out _
            clear HD e
            have QA3 : Hid (Blk wr w.heap.size [.int .i64 seq, .slice a k c]) := QA.out.on BR.out
            have QB3 : Hid (Blk wr (w.heap.size + 1) (vcs d)) := QB.out.on BR.out
            have BW3 : Hid (Below w.heap.size w wr) := BU.out.trans (BR.out.mono BU.out.size)
            have hs3 := BR.out.size
            have HO1 := hide (vcs_one d)
            have HE := hide (odd_same n slf seq l HCO.out)
            clear HVR HBX QA2 QB2 x0 HV2 B2 HSD HCO
            go_wp2_with (first | (at_make; refine wpList_make_own _ rfl _ _ 25 rfl U.heap.size 31 i0 _ 15 Try.underlying25 hi hz0 hz1 .i64 .i64 _ (q + 1) rfl rfl (by omega) (by rw [hz2]; omega) (by unfold maxLen; omega) (by omega) ?_; intro w5 hown5 hgrow5; have HO5 := hide hown5; have B5 : Hid (Below U.heap.size U w5) := BR.out.grown hgrow5 (by omega) (fun j hj => by cases hj); clear hown5 hgrow5; have hs5 := B5.out.size) | (at_builtin; refine wpList_append_votes rfl _ _ rfl U.heap.size _ 0 [] rfl HO5.out va q vc vs rfl HNIL.out (HV.out.below (BU.out.trans (B5.out.mono BU.out.size)) (Nat.le_refl _)).row (by unfold maxLen; omega) (by omega) (by omega) ?_; intro v6 w6 hown6 hgrow6; have HO6 := hide hown6; have B6 : Hid (Below U.heap.size U w6) := B5.out.grown hgrow6 (by omega) (fun j hj => by have := HO5.out.lt j hj; omega); have QB6 : Hid (Blk w6 (w.heap.size + 1) (vcs d)) := QB.out.on B6.out; have hs6 := B6.out.size; clear hown6 hgrow6) | (refine wpList_load_mid rfl 31 _ rfl (w.heap.size + 1) 0 rfl (vcs d) _ QB6.out.range Try.underlying31 rfl (by kernel_rfl) ?_) | (refine wpList_buildOne rfl 25 31 _ rfl 15 (vcs d) rfl rfl i0 _ Try.underlying25 hi hz0 hz1 (by omega) (by omega) ?_) | (at_builtin; refine wpList_append_own_at _ rfl _ _ 25 rfl U.heap.size 31 i0 _ 15 168 Try.underlying25 hi hz0 hz1 hz2 (by kernel_rfl) (by decide) v6 _ _ rfl (World.ownsRow.alloc HO6.out _) ⟨w6.heap.size, 0, none⟩ 1 1 (vcs d) rfl rfl (rowVQ_new _ _) HO1.out (by unfold maxLen; omega) (by omega) (by simp; omega) ?_; intro v8 w8 hown8 hgrow8 hnil8 hloc8; have HO8 := hide hown8; have B8 : Hid (Below U.heap.size U w8) := (B6.out.alloc (by omega) _).grown hgrow8 (by simp; omega) (fun j hj => (HO6.out.lt j hj).1); have QA8 : Hid (Blk w8 w.heap.size [.int .i64 seq, .slice a k c]) := QA.out.on B8.out; clear hown8 hgrow8 hnil8 hloc8) | (refine wpList_load_mid rfl 24 _ rfl w.heap.size 0 rfl [.int .i64 seq, .slice a k c] _ QA8.out.range Try.underlying24 rfl (by kernel_rfl) ?_))
            have hfl : [] ++ (vs.map vcs).flatten ++ vcs d = ((vs ++ [d]).map vcs).flatten := by simp
            have hO8 := HO8.out
            rw [hfl, show 0 + q + 1 = q + 1 by omega] at hO8
            obtain ⟨ta, tc, rfl, htc, hrow⟩ := rowS_of hO8 (by rw [List.length_map, List.length_append, HN.out]; rfl) (by decide) (fun cs hcs => by obtain ⟨v, _, rfl⟩ := List.mem_map.1 hcs; exact ⟨rfl, vcs_one v⟩)
            have BW8 : Hid (Below w.heap.size w w8) := BU.out.trans (B8.out.mono BU.out.size)
            have HV8 : Hid (VRow w8 va q vs) := HV.out.below BW8.out (Nat.le_refl _)
            have HT : Hid (VSeg w8 ta (q + 1) (vs ++ [d])) := ⟨hrow, fun v hv => by
              rcases List.mem_append.1 hv with hv | hv
              · exact HV8.out.ok v hv
              · simp only [List.mem_singleton] at hv
                rw [hv]; exact HDV.out.below BW8.out (Nat.le_refl _)⟩
            refine (alike_any n slf seq a k c l va q vc vs ta (q + 1) tc (vs ++ [d]) _ (HH.out.below BW8.out (Nat.le_refl _)) HKC.out HV8.out.seg HT.out HBD.out HE.out.1 HE.out.2.1 HE.out.2.2).mono ?_
            rintro e w9 ⟨rfl, hb9⟩
            have B9 : Hid (Below w.heap.size w w9) := BW8.out.trans (hb9.mono BW8.out.size)
            clear hb9
            go_wp2
            go_ret
            exact ⟨rfl, B9.out⟩
          | false =>
            cases sd with
            | true =>
              clear hta htw
              go_wp2
              go_ret
              exact ⟨rfl, by obtain ⟨e0, e⟩ := HD.out; rw [e]; exact below_drewN BW2.out _⟩
            | false =>
              by_cases hst : d.st = 0
              · have x1 : wr.cell? ⟨w.heap.size + 1, 1, none⟩ = some (.int .i64 0) := by rw [← hst]; exact HBX.out.cell 1 _ rfl
                clear hta htw hst
                go_wp2
                go_ret
                exact ⟨rfl, by obtain ⟨e0, e⟩ := HD.out; rw [e]; exact below_drewN BW2.out _⟩
              · have x1 : wr.cell? ⟨w.heap.size + 1, 1, none⟩ = some (.int .i64 d.st) := HBX.out.cell 1 _ rfl
                have hb1 : (d.st == 0) = false := beq_eq_false_iff_ne.2 hst
                have HCO : Hid ((¬ (0 ≤ d.fr ∧ d.fr < n)) ∨ twQ n d.fr vs = true ∨ (sndB n d.seq d.deps = false ∧ d.st ≠ 0)) := .inr (.inr ⟨HSD.out, hst⟩)
                clear hta htw hst
                obtain ⟨e0, e⟩ := HD.out
                have BR : Hid (Below U.heap.size U wr) := by rw [e]; exact below_drewN B2.out _
                clear HD e
                have QA3 : Hid (Blk wr w.heap.size [.int .i64 seq, .slice a k c]) := QA.out.on BR.out
                have QB3 : Hid (Blk wr (w.heap.size + 1) (vcs d)) := QB.out.on BR.out
                have BW3 : Hid (Below w.heap.size w wr) := BU.out.trans (BR.out.mono BU.out.size)
                have hs3 := BR.out.size
                have HO1 := hide (vcs_one d)
                have HE := hide (odd_same n slf seq l HCO.out)
                clear HVR HBX QA2 QB2 x0 HV2 B2 HSD HCO
                go_wp2_with (first | (at_make; refine wpList_make_own _ rfl _ _ 25 rfl U.heap.size 31 i0 _ 15 Try.underlying25 hi hz0 hz1 .i64 .i64 _ (q + 1) rfl rfl (by omega) (by rw [hz2]; omega) (by unfold maxLen; omega) (by omega) ?_; intro w5 hown5 hgrow5; have HO5 := hide hown5; have B5 : Hid (Below U.heap.size U w5) := BR.out.grown hgrow5 (by omega) (fun j hj => by cases hj); clear hown5 hgrow5; have hs5 := B5.out.size) | (at_builtin; refine wpList_append_votes rfl _ _ rfl U.heap.size _ 0 [] rfl HO5.out va q vc vs rfl HNIL.out (HV.out.below (BU.out.trans (B5.out.mono BU.out.size)) (Nat.le_refl _)).row (by unfold maxLen; omega) (by omega) (by omega) ?_; intro v6 w6 hown6 hgrow6; have HO6 := hide hown6; have B6 : Hid (Below U.heap.size U w6) := B5.out.grown hgrow6 (by omega) (fun j hj => by have := HO5.out.lt j hj; omega); have QB6 : Hid (Blk w6 (w.heap.size + 1) (vcs d)) := QB.out.on B6.out; have hs6 := B6.out.size; clear hown6 hgrow6) | (refine wpList_load_mid rfl 31 _ rfl (w.heap.size + 1) 0 rfl (vcs d) _ QB6.out.range Try.underlying31 rfl (by kernel_rfl) ?_) | (refine wpList_buildOne rfl 25 31 _ rfl 15 (vcs d) rfl rfl i0 _ Try.underlying25 hi hz0 hz1 (by omega) (by omega) ?_) | (at_builtin; refine wpList_append_own_at _ rfl _ _ 25 rfl U.heap.size 31 i0 _ 15 168 Try.underlying25 hi hz0 hz1 hz2 (by kernel_rfl) (by decide) v6 _ _ rfl (World.ownsRow.alloc HO6.out _) ⟨w6.heap.size, 0, none⟩ 1 1 (vcs d) rfl rfl (rowVQ_new _ _) HO1.out (by unfold maxLen; omega) (by omega) (by simp; omega) ?_; intro v8 w8 hown8 hgrow8 hnil8 hloc8; have HO8 := hide hown8; have B8 : Hid (Below U.heap.size U w8) := (B6.out.alloc (by omega) _).grown hgrow8 (by simp; omega) (fun j hj => (HO6.out.lt j hj).1); have QA8 : Hid (Blk w8 w.heap.size [.int .i64 seq, .slice a k c]) := QA.out.on B8.out; clear hown8 hgrow8 hnil8 hloc8) | (refine wpList_load_mid rfl 24 _ rfl w.heap.size 0 rfl [.int .i64 seq, .slice a k c] _ QA8.out.range Try.underlying24 rfl (by kernel_rfl) ?_))
                have hfl : [] ++ (vs.map vcs).flatten ++ vcs d = ((vs ++ [d]).map vcs).flatten := by simp
                have hO8 := HO8.out
                rw [hfl, show 0 + q + 1 = q + 1 by omega] at hO8
                obtain ⟨ta, tc, rfl, htc, hrow⟩ := rowS_of hO8 (by rw [List.length_map, List.length_append, HN.out]; rfl) (by decide) (fun cs hcs => by obtain ⟨v, _, rfl⟩ := List.mem_map.1 hcs; exact ⟨rfl, vcs_one v⟩)
                have BW8 : Hid (Below w.heap.size w w8) := BU.out.trans (B8.out.mono BU.out.size)
                have HV8 : Hid (VRow w8 va q vs) := HV.out.below BW8.out (Nat.le_refl _)
                have HT : Hid (VSeg w8 ta (q + 1) (vs ++ [d])) := ⟨hrow, fun v hv => by
                  rcases List.mem_append.1 hv with hv | hv
                  · exact HV8.out.ok v hv
                  · simp only [List.mem_singleton] at hv
                    rw [hv]; exact HDV.out.below BW8.out (Nat.le_refl _)⟩
                refine (alike_any n slf seq a k c l va q vc vs ta (q + 1) tc (vs ++ [d]) _ (HH.out.below BW8.out (Nat.le_refl _)) HKC.out HV8.out.seg HT.out HBD.out HE.out.1 HE.out.2.1 HE.out.2.2).mono ?_
                rintro e w9 ⟨rfl, hb9⟩
                have B9 : Hid (Below w.heap.size w w9) := BW8.out.trans (hb9.mono BW8.out.size)
                clear hb9
                go_wp2
                go_ret
                exact ⟨rfl, B9.out⟩

set_option maxRecDepth 100000 in
/-- For every argument and every world. -/
theorem contract (H : Type) (enc : TypeId × Value → H) (W : World) (base : Nat) (args : Array Value) (ds gs : List (DataW H)) (before : List MemPlace)
    (hval : ∀ (j : Nat) t v, Try.f3.params[j]? = some t → args[j]? = some v → Value.okWide Try.prog W .any base t v)
    (hW : DataW.Whole enc Try.prog Try.f3.params.toList Rows.quorumAliensSpec.vars false W args.toList ds gs before)
    (hsz : (DataW.weightsEach Try.prog (Try.f3.params.toList ++ Rows.quorumAliensSpec.plain.varTypes Try.prog) (ds ++ gs)).all (· ≤ reachBytes) = true) :
    Calls Try.prog 3 args W fun e W' => ∃ v, e = .returned v ∧ Rows.quorumAliensSpec.post enc Try.prog Try.f3 false true false false W args v W' := by
  have hW' := hW
  obtain ⟨p, q, hA0, hV, rfl, hfz, hnd⟩ := hW
  have hA : DataW.TrodAll enc Try.prog W 0 (fun _ => true) true Try.f3.params.toList args.toList ds p := hA0
  rw [Try.params3] at hA hval hsz
  obtain ⟨v0, vs0, d0, ds0, p0, q0, hargs, rfl, rfl, h0, tr0⟩ := trodAll_cons hA
  obtain ⟨v1, vs1, d1, ds1, p1, q1, rfl, rfl, rfl, h1, tr1⟩ := trodAll_cons tr0
  obtain ⟨v2, vs2, d2, ds2, p2, q2, rfl, rfl, rfl, h2, tr2⟩ := trodAll_cons tr1
  obtain ⟨v3, vs3, d3, ds3, p3, q3, rfl, rfl, rfl, h3, tr3⟩ := trodAll_cons tr2
  obtain ⟨v4, vs4, d4, ds4, p4, q4, rfl, rfl, rfl, h4, tr4⟩ := trodAll_cons tr3
  obtain ⟨rfl, rfl, rfl⟩ := trodAll_nil tr4
  obtain rfl : args = #[v0, v1, v2, v3, v4] := by cases args; simp_all
  obtain ⟨rfl, rfl⟩ := trodVars_none hV
  obtain ⟨y0, rfl, rfl, rfl, w0⟩ := open_int Try.underlying3 (hval 0 3 v0 rfl rfl) h0
  have b0 := bounds_i64 w0
  obtain ⟨y1, rfl, rfl, rfl, w1⟩ := open_int Try.underlying3 (hval 1 3 v1 rfl rfl) h1
  have b1 := bounds_i64 w1
  have k2 := h2
  have lt2 : ∀ x ∈ p2, x.block < W.heap.size := by obtain ⟨m, hm⟩ := k2; exact DataW.trod_lt m _ _ _ hm
  obtain ⟨sq2, a2, n2, cap2, l2, rfl, hseg2, hcap2, b2⟩ := qopen_attr (hval 2 24 v2 rfl rfl) h2
  obtain ⟨a3, n3, cap3, rfl⟩ := okWide_slice Try.underlying25 (hval 3 25 v3 rfl rfl)
  have k3 := h3
  have lt3 : ∀ x ∈ p3, x.block < W.heap.size := by obtain ⟨m, hm⟩ := k3; exact DataW.trod_lt m _ _ _ hm
  obtain ⟨fuel3, hf3⟩ := h3
  obtain ⟨l3, hseg3, hcap3⟩ := qopen_votes hf3 (fun m hm => of_decide_eq_true (List.all_eq_true.1 hsz _ (DataW.weights_mem_each (j := 3) rfl rfl m hm)))
  have hnil3 := nil_votes hf3
  have k4 := h4
  have lt4 : ∀ x ∈ p4, x.block < W.heap.size := by obtain ⟨m, hm⟩ := k4; exact DataW.trod_lt m _ _ _ hm
  obtain ⟨vt4, rfl, hok4, hin4⟩ := qopen_vote (hval 4 31 v4 rfl rfl) h4
  clear hA0
  refine (walk y0 y1 sq2 a2 n2 cap2 l2 a3 n3 cap3 l3 vt4 W hseg2 hcap2 hseg3 hnil3 hok4 b1).mono fun e W' ⟨he, bel⟩ => ?_
  subst he
  exact ⟨_, rfl, _, _, _, [], _, [], hW', trodAll_mk1 (shut_bool Try.underlying4 _), (trodAll_cons_mk (shut_int Try.underlying3 w0) (trodAll_cons_mk (shut_int Try.underlying3 w1) (trodAll_cons_mk (Below.trod vlaid (by kernel_rfl) (of_decide_eq_true (by kernel_rfl)) k2 bel lt2) (trodAll_cons_mk (Below.trod vlaid (by kernel_rfl) (of_decide_eq_true (by kernel_rfl)) k3 bel lt3) (trodAll_cons_mk (Below.trod vlaid (by kernel_rfl) (of_decide_eq_true (by kernel_rfl)) k4 bel lt4) trodAll_mk0))))), rfl, bel.frame _, fun h => by cases h⟩

set_option maxRecDepth 100000 in
theorem lifted (os : Os) (started : os.Started) (H : Type) (enc : TypeId × Value → H) :
    ReturnsInHanded {} Try.checked os 3 .any (Rows.quorumAliensSpec.pre6 enc Try.prog Try.f3 Rows.quorumAliensRow.domain false) (Rows.quorumAliensSpec.post enc Try.prog Try.f3 false true false false) := by
  refine returnsInHanded_of_change_sized (C := Try.checked) vown started (by kernel_rfl) Try.func3
    (ChangeSpec.witness6 (enc := enc) (C := Try.checked) false ⟨#[], #[.int .i64 0, .int .i64 0, .agg #[.int .i64 0, .slice none 0 0], .slice none 0 0, .agg #[.int .i64 0, .int .i64 0, .bool false, .int .i64 0, .int .i64 0, .int .i64 0, .int .i64 0, .int .i64 0, .string ⟨#[]⟩, .string ⟨#[]⟩, .string ⟨#[]⟩, .string ⟨#[]⟩, .int .i64 0, .int .i64 0, .slice none 0 0]], []⟩ 8 (by kernel_rfl) (by kernel_rfl) (by kernel_rfl) (by kernel_rfl)) ?_
  intro W base args ds gs before hval hW _ hsz _
  exact contract H enc W base args ds gs before hval hW hsz

end quorumAliens
theorem quorumAliens_proved : Rows.QuorumAliensSaid :=
  OpenClaim.holds_of_wide 3 Try.f3 rfl rfl rfl rfl rfl rfl rfl ⟨rfl, rfl, rfl, rfl, rfl⟩ rfl rfl rfl rfl rfl (by kernel_rfl) Try.func3 (by kernel_rfl)
    (of_decide_eq_true (by kernel_rfl)) (by unfold Func.isWrapper; first | (rw [if_pos (by decide +kernel)]; kernel_rfl) | (rw [if_neg (by decide +kernel)]; exact ⟨rfl, rfl⟩))
    (fun os started H enc _ => quorumAliens.lifted os started H enc)
#print axioms quorumAliens_proved
end Go.Proofs.Ytfgcepnjdjjlbaa
