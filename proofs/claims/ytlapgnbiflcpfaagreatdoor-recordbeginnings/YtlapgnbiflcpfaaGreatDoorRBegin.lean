/- Proved: for every n, record and list of bytes RecordBeginnings answers true: a proper beginning of a record's bytes ends too early, bytes behind them are refused. Conditions: the tables of kinds and of rows and the five sentinels of package wire start as the program's text lays them (the card ties them). -/
import Derived.Test.YtlapgnbiflcpfaaGreatDoorJ41
import Derived.Test.YtlapgnbiflcpfaaGreatDoorJ44
import Derived.Test.YtlapgnbiflcpfaaGreatDoorJ42
import Derived.Test.YtlapgnbiflcpfaaGreatDoorTie
import Derived.Test.YtlapgnbiflcpfaaGreatDoorCards
import Derived.Deep.DeepHandedRow
import Derived.Deep.DeepWitnessRowRef
namespace Go.Proofs.YtlapgnbiflcpfaaGreatDoor
namespace recordBeginnings
open Go.ChangeShapes Go.WideShapes Go.ChangeAt Go.RowKit Go.Wire1

theorem own_some {w : World} {B : Nat} {v : Value} {l : List Int} (h : w.ownsRow B 5 1 v l.length (l.map (Value.int .u8))) (h0 : 0 < l.length) : ∃ g cap, v = .slice (some ⟨g, 0, none⟩) l.length cap ∧ l.length ≤ cap ∧ cap ≤ maxLen := by
  rcases h.2 with ⟨e, h1⟩ | ⟨g, cap, cur, e, _, _, h2, h3, _⟩
  · omega
  · exact ⟨g, cap, e, h2, h3⟩
set_option maxHeartbeats 8000000 in
set_option maxRecDepth 100000 in
theorem walk (n : Int) (r : Rc) (ta : Option Addr) (tn tcap : Nat) (tl : List Int) (a : Nat → Addr) (w : World) (hr : Rok w r) (ht : Seg w ta tn tl) (hty : Byt tl) (hreach : tn ≤ 140737488351232) (hR : Rws w) (hK : Knd w) (he : Errs w a) (hn1 : -9223372036854775808 ≤ r.c.n) (hn2 : r.c.n ≤ 9223372036854775807) :
    Calls Tryz.prog 7 #[.int .i64 n, .agg (rcs r).toArray, .slice ta tn tcap] w fun e w' => e = .returned (.bool true) ∧ Below w.heap.size w w' := by
  obtain ⟨i0, hi, hz0, hz1, hz2⟩ := info_parts Tryz.info5
  obtain ⟨V, hV⟩ : ∃ V, V = w.alloc (.cells (rcs r).toArray 30) := ⟨_, rfl⟩
  have Q : Hid (Blk V w.heap.size (rcs r)) := by rw [hV]; exact blk_new w 30 (rcs r)
  have BV : Hid (Below w.heap.size w V) := by rw [hV]; exact (Below.refl _ _).alloc (Nat.le_refl _) _
  have hVs : w.heap.size < V.heap.size := Q.out.lt
  have HR := hide hr
  have HT := hide ht
  have HTY := hide hty
  have HW := hide hR
  have HK := hide hK
  have HE := hide he
  have HN1 := hide hn1
  have HN2 := hide hn2
  have HRE := hide hreach
  clear hr hR hK he hn1 hn2 ht hty hreach
  go_enter Tryz.func7, Tryz.ntmps7
  go_upto_region 1 with fail
  rw [← hV]
  clear hV
  go_wp2_with fail
  refine (there6_any a _ (HW.out.below BV.out (Nat.le_refl _)) (HK.out.below BV.out (Nat.le_refl _)) (HE.out.below BV.out (Nat.le_refl _))).mono ?_
  rintro e w1 ⟨rfl, hb⟩
  have B1 : Hid (Below w.heap.size w w1) := BV.out.trans (hb.mono (by omega))
  have Q1 : Hid (Blk w1 w.heap.size (rcs r)) := Q.out.on hb
  have z1 : w.heap.size < w1.heap.size := Q1.out.lt
  clear hb
  go_wp2_with (first | (refine wpList_load_mid rfl 30 _ rfl w.heap.size 0 rfl (rcs r) _ (Q1.out.range) Tryz.underlying30 rfl (by kernel_rfl) ?_))
  by_cases hz : chkR n r = 0
  · have HZ := hide hz
    have LEN := hide (recB_len hz)
    have BYT := hide (byt_recB hz)
    have CUT : Hid (∀ k, k < (recB r).length → decR n ((recB r).take k) = (zeroRc, 11)) := fun k hk => decR_cut hz HN1.out HN2.out hk
    have REST : Hid (∀ t, t ≠ [] → decR n (recB r ++ t) = (zeroRc, 68)) := fun t ht => decR_rest hz HN1.out HN2.out ht
    refine (renc_any n r _ (HR.out.below B1.out (Nat.le_refl _)) (HW.out.below B1.out (Nat.le_refl _)) (HK.out.below B1.out (Nat.le_refl _)) HN1.out HN2.out HZ.out).mono ?_
    rintro e w2 ⟨u, rfl, ho, hb⟩
    obtain ⟨L, hL⟩ : ∃ L, Hid (recB r = L) := ⟨_, rfl⟩
    rw [hL.out] at LEN BYT CUT REST ho
    obtain ⟨pb, c2, rfl, hc2, hc2m⟩ := own_some ho LEN.out.1
    obtain ⟨sa, cap, hv, hsrc, hseg⟩ := rown_src ho
    injection hv with hv1 hv2 hv3
    subst hv1
    obtain ⟨m, hm⟩ : ∃ m, Hid (L.length = m) := ⟨_, rfl⟩
    rw [hm.out] at LEN CUT hc2 hseg ⊢
    have S2 := hide hseg
    have l1 : 0 < m := LEN.out.1
    have l2 : m < 262144 := LEN.out.2
    unfold maxLen at hc2m
    have B2 : Hid (Below w.heap.size w w2) := B1.out.trans (hb.mono (by omega))
    clear hb ho hsrc hseg hv2 hv3 hz LEN
    go_wp2_with (first | (go_at_call 11; refine (num6_any _ _).mono ?_; rintro e w' ⟨rfl, rfl⟩))
    go_loopw [10] (fun i wr => ∃ k : Nat, i = .int .i64 (k : Int) ∧ k ≤ m ∧ Hid (Below w.heap.size w wr) ∧ Hid (Seg wr (some ⟨pb, 0, none⟩) m L)) (fun i _ => m - (intOf i).toNat)
    case atStart => exact ⟨0, rfl, Nat.zero_le _, B2, S2⟩
    case round =>
      obtain ⟨k, rfl, hk, HB, HSG⟩ := hrel
      clear B2 S2
      by_cases hlt : k < m
      · by_cases h1000 : k ≥ 1000
        · have g1 : (k : Int) ≥ 1000 := by omega
          by_cases hend : (k : Int) < (m : Int) - 1000
          · go_wp2
            go_roundw
            case rel => exact ⟨k + 1, by go_num, by omega, HB, HSG⟩
            case measure => simp [intOf]; omega
          · have g2 : decide ((k : Int) < (m : Int) - 1000) = false := decide_eq_false hend
            have SK : Hid (Seg wr (some ⟨pb, 0, none⟩) k (L.take k)) := HSG.out.take (by omega)
            have YK : Hid (Byt (L.take k)) := byt_take BYT.out k
            have CK : Hid (Src (some ⟨pb, 0, none⟩) k c2) := .inr ⟨⟨pb, 0, rfl⟩, by omega, by unfold maxLen; omega⟩
            have ik : (k : Int) ≤ (c2 : Int) := by omega
            have DK : Hid (decR n (L.take k) = (zeroRc, 11)) := CUT.out k hlt
            go_wp2_with fail
            refine (rdec_any n _ _ _ (L.take k) a _ SK.out CK.out YK.out (HE.out.below HB.out (Nat.le_refl _)) (HK.out.below HB.out (Nat.le_refl _)) (HW.out.below HB.out (Nat.le_refl _))).mono ?_
            rintro e w5 ⟨rr, rfl, her, hsg, hb⟩
            rw [DK.out]
            have ER : Hid (er rr = er zeroRc) := by rw [DK.out] at her; exact her
            have SG5 : Hid (SegI w5 rr.da rr.dn rr.deps) := hsg
            have zr : w.heap.size ≤ wr.heap.size := HB.out.size
            have B5 : Hid (Below w.heap.size w w5) := HB.out.trans (hb.mono (by omega))
            have S5 : Hid (Seg w5 (some ⟨pb, 0, none⟩) m L) := HSG.out.below hb (Nat.le_refl _)
            have z5 : w.heap.size ≤ w5.heap.size := B5.out.size
            clear hb her hsg SK CK
            obtain ⟨U5, hU5⟩ : ∃ U, U = w5.alloc (.cells zeroL.toArray 30) := ⟨_, rfl⟩
            have BU5 : Hid (Below w5.heap.size w5 U5) := by rw [hU5]; exact (Below.refl _ _).alloc (Nat.le_refl _) _
            have QU5 : Hid (Blk U5 w5.heap.size zeroL) := by rw [hU5]; exact blk_new w5 30 zeroL
            have TH5 : Hid (U5.there w5.heap.size 0 18) := QU5.out.there
            obtain ⟨X5, hX5⟩ : ∃ X, X = U5.setCells w5.heap.size 0 (rcs rr) := ⟨_, rfl⟩
            have RX5 := hide (box_stored (w := w5) QU5.out (by rfl) BU5.out (Nat.le_refl _) hX5)
            have HU5 := hide hU5
            have HX5 := hide hX5
            clear hU5 hX5
            have eU5 : w5.alloc (.cells #[.int .i64 0, .int .i64 0, .int .i64 0, .int .i64 0, .int .i64 0, .bool false, .int .i64 0, .int .i64 0, .int .i64 0, .string ⟨#[]⟩, .string ⟨#[]⟩, .string ⟨#[]⟩, .string ⟨#[]⟩, .int .i64 0, .int .i64 0, .slice none 0 0, .int .i64 0, .int .i64 0] 30) = U5 := HU5.out.symm
            have zX5 : w5.heap.size < X5.heap.size := RX5.out.1.lt
            have B6 : Hid (Below w.heap.size w X5) := B5.out.trans (RX5.out.2.mono (by omega))
            have S6 : Hid (Seg X5 (some ⟨pb, 0, none⟩) m L) := S5.out.below RX5.out.2 (Nat.le_refl _)
            have G6 : Hid (SegI X5 rr.da rr.dn rr.deps) := SG5.out.below RX5.out.2 (Nat.le_refl _)
            go_upto_region 12 with (first | (refine wpList_store_mid rfl 30 _ _ rfl w5.heap.size 0 (rcs rr).toArray rfl rfl (by first | exact TH5.out | (rw [eU5]; exact TH5.out)) (by kernel_rfl) (by kernel_rfl) ?_; first | rw [← HX5.out] | (rw [eU5, ← HX5.out])))
            clear eU5
            go_wp2_with (first | (refine wpList_load_mid rfl 30 _ rfl w5.heap.size 0 rfl (rcs rr) _ (RX5.out.1.range) Tryz.underlying30 rfl (by kernel_rfl) ?_) | (refine wpList_build rfl 30 _ rfl [] rfl _ built_none ?_))
            refine (sameRec_same rr zeroRc _ ER.out G6.out (seg_none _)).mono ?_
            rintro e w7 ⟨rfl, hb⟩
            have B7 : Hid (Below w.heap.size w w7) := B6.out.trans (hb.mono (by omega))
            have S7 : Hid (Seg w7 (some ⟨pb, 0, none⟩) m L) := S6.out.below hb (Nat.le_refl _)
            clear hb
            go_wp2_with (first | (go_at_call 11; refine (num6_any _ _).mono ?_; rintro e w' ⟨rfl, rfl⟩))
            go_roundw
            case rel => exact ⟨k + 1, by go_num, by omega, B7, S7⟩
            case measure => simp [intOf]; omega
        · have g1 : decide ((k : Int) ≥ 1000) = false := decide_eq_false (by omega)
          have SK : Hid (Seg wr (some ⟨pb, 0, none⟩) k (L.take k)) := HSG.out.take (by omega)
          have YK : Hid (Byt (L.take k)) := byt_take BYT.out k
          have CK : Hid (Src (some ⟨pb, 0, none⟩) k c2) := .inr ⟨⟨pb, 0, rfl⟩, by omega, by unfold maxLen; omega⟩
          have ik : (k : Int) ≤ (c2 : Int) := by omega
          have DK : Hid (decR n (L.take k) = (zeroRc, 11)) := CUT.out k hlt
          go_wp2_with fail
          refine (rdec_any n _ _ _ (L.take k) a _ SK.out CK.out YK.out (HE.out.below HB.out (Nat.le_refl _)) (HK.out.below HB.out (Nat.le_refl _)) (HW.out.below HB.out (Nat.le_refl _))).mono ?_
          rintro e w5 ⟨rr, rfl, her, hsg, hb⟩
          rw [DK.out]
          have ER : Hid (er rr = er zeroRc) := by rw [DK.out] at her; exact her
          have SG5 : Hid (SegI w5 rr.da rr.dn rr.deps) := hsg
          have zr : w.heap.size ≤ wr.heap.size := HB.out.size
          have B5 : Hid (Below w.heap.size w w5) := HB.out.trans (hb.mono (by omega))
          have S5 : Hid (Seg w5 (some ⟨pb, 0, none⟩) m L) := HSG.out.below hb (Nat.le_refl _)
          have z5 : w.heap.size ≤ w5.heap.size := B5.out.size
          clear hb her hsg SK CK
          obtain ⟨U5, hU5⟩ : ∃ U, U = w5.alloc (.cells zeroL.toArray 30) := ⟨_, rfl⟩
          have BU5 : Hid (Below w5.heap.size w5 U5) := by rw [hU5]; exact (Below.refl _ _).alloc (Nat.le_refl _) _
          have QU5 : Hid (Blk U5 w5.heap.size zeroL) := by rw [hU5]; exact blk_new w5 30 zeroL
          have TH5 : Hid (U5.there w5.heap.size 0 18) := QU5.out.there
          obtain ⟨X5, hX5⟩ : ∃ X, X = U5.setCells w5.heap.size 0 (rcs rr) := ⟨_, rfl⟩
          have RX5 := hide (box_stored (w := w5) QU5.out (by rfl) BU5.out (Nat.le_refl _) hX5)
          have HU5 := hide hU5
          have HX5 := hide hX5
          clear hU5 hX5
          have eU5 : w5.alloc (.cells #[.int .i64 0, .int .i64 0, .int .i64 0, .int .i64 0, .int .i64 0, .bool false, .int .i64 0, .int .i64 0, .int .i64 0, .string ⟨#[]⟩, .string ⟨#[]⟩, .string ⟨#[]⟩, .string ⟨#[]⟩, .int .i64 0, .int .i64 0, .slice none 0 0, .int .i64 0, .int .i64 0] 30) = U5 := HU5.out.symm
          have zX5 : w5.heap.size < X5.heap.size := RX5.out.1.lt
          have B6 : Hid (Below w.heap.size w X5) := B5.out.trans (RX5.out.2.mono (by omega))
          have S6 : Hid (Seg X5 (some ⟨pb, 0, none⟩) m L) := S5.out.below RX5.out.2 (Nat.le_refl _)
          have G6 : Hid (SegI X5 rr.da rr.dn rr.deps) := SG5.out.below RX5.out.2 (Nat.le_refl _)
          go_upto_region 12 with (first | (refine wpList_store_mid rfl 30 _ _ rfl w5.heap.size 0 (rcs rr).toArray rfl rfl (by first | exact TH5.out | (rw [eU5]; exact TH5.out)) (by kernel_rfl) (by kernel_rfl) ?_; first | rw [← HX5.out] | (rw [eU5, ← HX5.out])))
          clear eU5
          go_wp2_with (first | (refine wpList_load_mid rfl 30 _ rfl w5.heap.size 0 rfl (rcs rr) _ (RX5.out.1.range) Tryz.underlying30 rfl (by kernel_rfl) ?_) | (refine wpList_build rfl 30 _ rfl [] rfl _ built_none ?_))
          refine (sameRec_same rr zeroRc _ ER.out G6.out (seg_none _)).mono ?_
          rintro e w7 ⟨rfl, hb⟩
          have B7 : Hid (Below w.heap.size w w7) := B6.out.trans (hb.mono (by omega))
          have S7 : Hid (Seg w7 (some ⟨pb, 0, none⟩) m L) := S6.out.below hb (Nat.le_refl _)
          clear hb
          go_wp2_with (first | (go_at_call 11; refine (num6_any _ _).mono ?_; rintro e w' ⟨rfl, rfl⟩))
          go_roundw
          case rel => exact ⟨k + 1, by go_num, by omega, B7, S7⟩
          case measure => simp [intOf]; omega
      · by_cases ht0 : tn = 0
        · subst ht0
          go_wp2
          go_ret
          exact ⟨rfl, HB.out⟩
        · have g3 : ((tn : Int) == 0) = false := by rw [beq_eq_false_iff_ne]; omega
          have zr : w.heap.size ≤ wr.heap.size := HB.out.size
          go_wp2_with fail
          refine (bytes_any (some ⟨pb, 0, none⟩) m c2 L _ HSG.out (by omega)).mono ?_
          rintro e w3 ⟨v, rfl, ho, hb⟩
          rw [hm.out] at ho
          have B3 : Hid (Below w.heap.size w w3) := HB.out.trans (hb.mono zr)
          have z3 : wr.heap.size ≤ w3.heap.size := hb.size
          have HT3 : Hid (Seg w3 ta tn tl) := HT.out.below B3.out (Nat.le_refl _)
          obtain ⟨tb, toff, rfl, hcl⟩ := HT3.out.2.2 (by omega)
          have hun : ∀ j x, (tl.map (Value.int .u8))[j]? = some x → w3.cell? ((⟨tb, toff, none⟩ : Addr).add j) = some x := fun j x hj => by
            rw [List.getElem?_map] at hj
            cases hg : tl[j]? with
            | none => rw [hg] at hj; cases hj
            | some y =>
              rw [hg] at hj
              have hjl : j < tl.length := (List.getElem?_eq_some_iff.1 hg).1
              have := hcl j (by rw [HT3.out.1] at hjl; exact hjl)
              rw [List.getD_eq_getElem?_getD, hg] at this
              simp only [Option.getD_some] at this
              rw [show (⟨tb, toff, none⟩ : Addr).add j = ⟨tb, toff + j, none⟩ by simp [Addr.add], this]
              exact hj
          have HUN := hide hun
          have HL := hide hm.out
          have OWN := hide ho
          have rch := HRE.out
          clear hcl hun ho
          go_wp2_with (first
            | (at_builtin; refine wpList_append_wide2 rfl _ _ 31 rfl wr.heap.size 5 i0 (.int .u8 0) Tryz.underlying31 hi hz0 hz1 hz2 rfl _ _ _ rfl OWN.out l1 ⟨tb, toff, none⟩ tn tcap (tl.map (Value.int .u8)) (by rw [List.length_map]; exact HT3.out.1) rfl HUN.out (by intro x hx; obtain ⟨y, _, rfl⟩ := List.mem_map.1 hx; rfl) (by omega) z3 ?_; refine hide ?_))
          intro v4 w4 ho4 hg4
          have hb4 : Below wr.heap.size wr w4 := hb.grown hg4 z3 (fun j hj => (OWN.out.lt j hj).1)
          have B4 : Hid (Below w.heap.size w w4) := HB.out.trans (hb4.mono zr)
          have z4 : w.heap.size ≤ w4.heap.size := B4.out.size
          rw [← List.map_append, show m + tn = (L ++ tl).length by rw [List.length_append, hm.out, HT3.out.1]] at ho4
          obtain ⟨sa4, cap4, rfl, hsrc4, hseg4⟩ := rown_src ho4
          have SRC4 := hide hsrc4
          have SEG4 := hide hseg4
          have YT4 : Hid (Byt (L ++ tl)) := byt_app BYT.out HTY.out
          have tne : tl ≠ [] := by
            intro q
            have := HT3.out.1
            rw [q] at this
            exact ht0 this.symm
          have DK := hide (REST.out tl tne)
          clear hb hb4 hg4 ho4 hsrc4 hseg4 tne HUN OWN
          generalize (L ++ tl) = M at *
          go_wp2_with fail
          refine (rdec_any n _ _ _ M a _ SEG4.out SRC4.out YT4.out (HE.out.below B4.out (Nat.le_refl _)) (HK.out.below B4.out (Nat.le_refl _)) (HW.out.below B4.out (Nat.le_refl _))).mono ?_
          rintro e w5 ⟨rr, rfl, her, hsg, hb⟩
          rw [DK.out]
          have B5 : Hid (Below w.heap.size w w5) := B4.out.trans (hb.mono (by omega))
          have z5 : w.heap.size ≤ w5.heap.size := B5.out.size
          clear hb her hsg SEG4 SRC4 YT4
          obtain ⟨U8, hU8⟩ : ∃ U, U = w5.alloc (.cells zeroL.toArray 30) := ⟨_, rfl⟩
          have BU8 : Hid (Below w5.heap.size w5 U8) := by rw [hU8]; exact (Below.refl _ _).alloc (Nat.le_refl _) _
          have QU8 : Hid (Blk U8 w5.heap.size zeroL) := by rw [hU8]; exact blk_new w5 30 zeroL
          have TH8 : Hid (U8.there w5.heap.size 0 18) := QU8.out.there
          obtain ⟨X8, hX8⟩ : ∃ X, X = U8.setCells w5.heap.size 0 (rcs rr) := ⟨_, rfl⟩
          have RX8 := hide (box_stored (w := w5) QU8.out (by rfl) BU8.out (Nat.le_refl _) hX8)
          have HU8 := hide hU8
          have HX8 := hide hX8
          clear hU8 hX8
          have eU8 : w5.alloc (.cells #[.int .i64 0, .int .i64 0, .int .i64 0, .int .i64 0, .int .i64 0, .bool false, .int .i64 0, .int .i64 0, .int .i64 0, .string ⟨#[]⟩, .string ⟨#[]⟩, .string ⟨#[]⟩, .string ⟨#[]⟩, .int .i64 0, .int .i64 0, .slice none 0 0, .int .i64 0, .int .i64 0] 30) = U8 := HU8.out.symm
          have zX8 : w5.heap.size < X8.heap.size := RX8.out.1.lt
          have B6 : Hid (Below w.heap.size w X8) := B5.out.trans (RX8.out.2.mono (by omega))
          go_upto_region 20 with (first | (refine wpList_store_mid rfl 30 _ _ rfl w5.heap.size 0 (rcs rr).toArray rfl rfl (by first | exact TH8.out | (rw [eU8]; exact TH8.out)) (by kernel_rfl) (by kernel_rfl) ?_; first | rw [← HX8.out] | (rw [eU8, ← HX8.out])))
          clear eU8
          go_wp2_with (first | (go_at_call 11; refine (num6_any _ _).mono ?_; rintro e w' ⟨rfl, rfl⟩))
          go_ret
          exact ⟨rfl, B6.out⟩
  · refine (renc_no n r _ (HR.out.below B1.out (Nat.le_refl _)) (HW.out.below B1.out (Nat.le_refl _)) (HK.out.below B1.out (Nat.le_refl _)) hz).mono ?_
    rintro e w2 ⟨rfl, hb⟩
    have B2 : Hid (Below w.heap.size w w2) := B1.out.trans (hb.mono (by omega))
    generalize chkR n r = z at *
    have g1 : (((z : Nat) : Int) != 0) = true := by rw [bne_iff_ne]; omega
    clear hb hz
    go_wp2_with (first | (go_at_call 11; refine (num6_any _ _).mono ?_; rintro e w' ⟨rfl, rfl⟩))
    go_ret
    exact ⟨rfl, B2.out⟩

set_option maxRecDepth 100000 in
/-- For every argument and every world. -/
theorem contract (H : Type) (enc : TypeId × Value → H) (W : World) (base : Nat) (args : Array Value) (ds gs : List (DataW H)) (before : List MemPlace)
    (hval : ∀ (j : Nat) t v, Tryz.f7.params[j]? = some t → args[j]? = some v → Value.okWide Tryz.prog W .any base t v)
    (hW : DataW.Whole enc Tryz.prog Tryz.f7.params.toList Rows.recordBeginningsSpec.vars false W args.toList ds gs before)
    (hsz : (DataW.weightsEach Tryz.prog (Tryz.f7.params.toList ++ (OpenSpec.ofChange Rows.recordBeginningsSpec).bare.plain.varTypes Tryz.prog) (ds ++ gs)).all (· ≤ reachBytes) = true)
    (hL : laidMetH Tryz.prog Rows.recordBeginningsRow.laid W) :
    Calls Tryz.prog 7 args W fun e W' => ∃ v, e = .returned v ∧ Rows.recordBeginningsSpec.post enc Tryz.prog Tryz.f7 false true false false W args v W' := by
  have hW' := hW
  obtain ⟨p, q, hA0, hV, rfl, hfz, hnd⟩ := hW
  have hA : DataW.TrodAll enc Tryz.prog W 0 (fun _ => true) true Tryz.f7.params.toList args.toList ds p := hA0
  rw [Tryz.params7] at hA hval hsz
  obtain ⟨v0, vs0, d0, ds0, p0, q0, hargs, rfl, rfl, h0, tr0⟩ := trodAll_cons hA
  obtain ⟨v1, vs1, d1, ds1, p1, q1, rfl, rfl, rfl, h1, tr1⟩ := trodAll_cons tr0
  obtain ⟨v2, vs2, d2, ds2, p2, q2, rfl, rfl, rfl, h2, tr2⟩ := trodAll_cons tr1
  obtain ⟨rfl, rfl, rfl⟩ := trodAll_nil tr2
  obtain rfl : args = #[v0, v1, v2] := by cases args; simp_all
  obtain ⟨rfl, rfl⟩ := trodVars_none hV
  obtain ⟨y0, rfl, rfl, rfl, w0⟩ := open_int Tryz.underlying3 (hval 0 3 v0 rfl rfl) h0
  have b0 := bounds_i64 w0
  have k1 := h1
  have lt1 : ∀ x ∈ p1, x.block < W.heap.size := by obtain ⟨m, hm⟩ := k1; exact DataW.trod_lt m _ _ _ hm
  obtain ⟨r1, dI1, dB1, dd1, rfl, hd1, hseg1, hcap1, b1⟩ := ropen_rec (hval 1 30 v1 rfl rfl) h1
  obtain ⟨a2, n2, cap2, rfl⟩ := okWide_slice Tryz.underlying31 (hval 2 31 v2 rfl rfl)
  have k2 := h2
  have lt2 : ∀ x ∈ p2, x.block < W.heap.size := by obtain ⟨m, hm⟩ := k2; exact DataW.trod_lt m _ _ _ hm
  obtain ⟨fuel2, hf2⟩ := h2
  obtain ⟨l2, hseg2, hbyt2, hcap2, hdat2⟩ := open_bytes hf2
  have sz1 := rsized hsz (j := 1) (r := r1) (dI := dI1) (dB := dB1) (dd := dd1) rfl (by rw [show d1 = _ from hd1]; rfl)
  have hreach2 : cap2 ≤ 140737488351232 := by
    rcases hdat2 with ⟨_, _, h⟩ | ⟨elems, spare, hd, he, hc⟩
    · omega
    · have hs := sized_slice hsz (j := 2) (t := 31) (e := 5) (elems := elems) (spare := spare) rfl (by rw [show d2 = _ from hd]; rfl) Tryz.underlying31
      rw [bytes5] at hs
      simp only [reachBytes] at hs
      omega
  have hE := errs_of_laid hL
  clear hA0
  obtain ⟨aa, haa⟩ := hE
  refine (walk y0 r1 a2 n2 cap2 l2 aa W ⟨hseg1, sz1.1, sz1.2.1⟩ hseg2 hbyt2 (Nat.le_trans hcap2 hreach2) (rws_of_laid hL) (knd_of_laid hL) haa b1.cmd.2.2.2.1 b1.cmd.2.2.2.2).mono fun e W' ⟨he, bel⟩ => ?_
  subst he
  exact ⟨_, rfl, _, _, _, [], _, [], hW', trodAll_mk1 (shut_bool Tryz.underlying4 _), (trodAll_cons_mk (shut_int Tryz.underlying3 w0) (trodAll_cons_mk (Below.trod claid (by kernel_rfl) (of_decide_eq_true (by kernel_rfl)) k1 bel lt1) (trodAll_cons_mk (Below.trod claid (by kernel_rfl) (of_decide_eq_true (by kernel_rfl)) k2 bel lt2) trodAll_mk0))), rfl, bel.frame _, fun h => by cases h⟩

theorem reads (os : Os) {H : Type} (enc : TypeId × Value → H) : ∃ places, DataW.whole enc Tryz.prog ((World.doorLaid Tryz.prog 400 os).forCall (fun _ _ => 0) ⟨#[], #[.int .i64 0, .agg #[.int .i64 0, .int .i64 0, .int .i64 0, .int .i64 0, .int .i64 0, .bool false, .int .i64 0, .int .i64 0, .int .i64 0, .string ⟨#[]⟩, .string ⟨#[]⟩, .string ⟨#[]⟩, .string ⟨#[]⟩, .int .i64 0, .int .i64 0, .slice none 0 0, .int .i64 0, .int .i64 0], .slice none 0 0], []⟩).memory Tryz.f7.params.toList Rows.recordBeginningsSpec.vars false (#[Value.int .i64 0, .agg #[.int .i64 0, .int .i64 0, .int .i64 0, .int .i64 0, .int .i64 0, .bool false, .int .i64 0, .int .i64 0, .int .i64 0, .string ⟨#[]⟩, .string ⟨#[]⟩, .string ⟨#[]⟩, .string ⟨#[]⟩, .int .i64 0, .int .i64 0, .slice none 0 0, .int .i64 0, .int .i64 0], .slice none 0 0] : Array Value).toList 8 = some ([.lit (.int .i64 0), .agg [.lit (.int .i64 0), .agg [.lit (.int .i64 0), .lit (.int .i64 0)], .agg [.lit (.int .i64 0), .lit (.int .i64 0)], .lit (.bool false), .agg [.lit (.int .i64 0), .lit (.int .i64 0), .lit (.int .i64 0), .lit (.string []), .lit (.string []), .lit (.string []), .lit (.string []), .lit (.int .i64 0)], .lit (.int .i64 0), .nil, .lit (.int .i64 0), .lit (.int .i64 0)], .nil], [], places) :=
  ⟨[], by kernel_rfl⟩

set_option maxRecDepth 100000 in
theorem lifted (os : Os) (started : os.Started) (H : Type) (enc : TypeId × Value → H) (F : Stop.Interp) :
    ReturnsInHanded {} Tryz.checked os 7 .any ((OpenSpec.ofChange Rows.recordBeginningsSpec).preRow enc Tryz.prog Tryz.f7 Rows.recordBeginningsRow.domain false Rows.recordBeginningsRow.laid) (((OpenSpec.ofChange Rows.recordBeginningsSpec).at F).post enc Tryz.prog Tryz.f7 false true false false) := by
  obtain ⟨places, hx⟩ := reads os enc
  refine returnsInHanded_of_row (C := Tryz.checked) (s := (OpenSpec.ofChange Rows.recordBeginningsSpec)) cown started (by kernel_rfl) Tryz.func7
    (witness_row_atRef (enc := enc) (C := Tryz.checked) false (World.doorLaid Tryz.prog 400 os) #[.int .i64 0, .agg #[.int .i64 0, .int .i64 0, .int .i64 0, .int .i64 0, .int .i64 0, .bool false, .int .i64 0, .int .i64 0, .int .i64 0, .string ⟨#[]⟩, .string ⟨#[]⟩, .string ⟨#[]⟩, .string ⟨#[]⟩, .int .i64 0, .int .i64 0, .slice none 0 0, .int .i64 0, .int .i64 0], .slice none 0 0] rfl (by kernel_rfl) (by kernel_rfl) (by kernel_rfl)
      (OpenSpec.preRow_of_cond 8 hx (by kernel_rfl) (fun k hk => by cases hk) (by kernel_rfl) (door_met os _))) ?_
  intro W base args ds gs before hval hW _ hcond hsz hL _ _
  exact contract H enc W base args ds gs before hval hW hsz hL

theorem said : Rows.RecordBeginningsSaid :=
  OpenClaim.holds_of_cond 7 Tryz.f7 rfl rfl rfl rfl rfl rfl rfl ⟨rfl, rfl, rfl, rfl, rfl⟩ rfl rfl rfl rfl rfl (by kernel_rfl) Tryz.func7 (by kernel_rfl)
    (of_decide_eq_true (by kernel_rfl)) (by unfold Func.isWrapper; first | (rw [if_pos (by decide +kernel)]; kernel_rfl) | (rw [if_neg (by decide +kernel)]; exact ⟨rfl, rfl⟩))
    (fun os started H enc _ F => by rw [OpenClaim.pre_eq_preRow]; exact lifted os started H enc F)

theorem plain (f : FuncId) (fn : Func) (hf : Tryz.pinned.checked.prog.funcNamed "moot/mootlaw6.RecordBeginnings" = some f) (hfn : Tryz.pinned.checked.prog.funcs[f]? = some fn) :
    true = Tryz.pinned.checked.prog.looks [] ∧ ∀ (j : Nat) t, fn.params[j]? = some t → Tryz.pinned.checked.prog.wantsStandIn t = false := by
  obtain rfl : f = 7 := Option.some.inj ((show Tryz.prog.funcNamed "moot/mootlaw6.RecordBeginnings" = some 7 by kernel_rfl).symm.trans hf) |>.symm
  obtain rfl : fn = Tryz.f7 := (Option.some.inj (Tryz.func7.symm.trans hfn)).symm
  refine ⟨by kernel_rfl, fun j t ht => ?_⟩
  rw [Tryz.params7] at ht
  have hm : t ∈ [3, 30, 31] := by simpa using Array.mem_of_getElem? ht
  have hall : ([3, 30, 31].all fun u => !Tryz.prog.wantsStandIn u) = true := by kernel_rfl
  exact (show Tryz.prog.wantsStandIn t = false by simpa using List.all_eq_true.1 hall t hm)

end recordBeginnings
theorem recordBeginnings_proved : Rows.RecordBeginningsCardSaid :=
  Claim7.holds_tied_plain_at .later [] _ _ _ _ recordBeginnings.said (fun _ h => by cases h) (by kernel_rfl) (fun _ h => by cases h) recordBeginnings_row_tie rfl ⟨rfl, rfl⟩ (by kernel_rfl) rfl recordBeginnings.plain (by kernel_rfl)
#print axioms recordBeginnings_proved
end Go.Proofs.YtlapgnbiflcpfaaGreatDoor
