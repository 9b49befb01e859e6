/- Texts of the proof, joined. -/
import Derived.Test.YtlapgnbiflcpfaaGreatDoorJ38
import Derived.Test.YtlapgnbiflcpfaaGreatDoorJ39
import Derived.Test.YtlapgnbiflcpfaaGreatDoorJ40
import Derived.Test.YtlapgnbiflcpfaaGreatDoorJ35
import Derived.Test.YtlapgnbiflcpfaaGreatDoorRows
import Derived.Test.YtlapgnbiflcpfaaGreatDoorJ09
import Derived.Test.YtlapgnbiflcpfaaGreatDoorJ06
import Derived.Test.YtlapgnbiflcpfaaGreatDoorJ08
import Derived.ProofKit
import Derived.LaidMore
import Derived.OpenShut
import Derived.Stop.Joined
import Derived.Stop.LaidErr
import Derived.MakeChecks
/- The contracts of mootlaw6's returns and there. -/
namespace Go.Proofs.YtlapgnbiflcpfaaGreatDoor
open Go.RowKit Go.Wire1

theorem er_lay {r s : Rc} (h : er r = er s) : s = r.lay s.da s.dn s.dc := by
  obtain ⟨a0, a1, a2, a3, a4, a5, a6, a7, a8, a9, b0, b1, b2, b3⟩ := r
  obtain ⟨c0, c1, c2, c3, c4, c5, c6, c7, c8, c9, d0, d1, d2, d3⟩ := s
  simp only [er, Rc.lay, Rc.mk.injEq] at h ⊢
  simp only [h, and_self]
theorem sameRec_same (r s : Rc) (w : World) (he : er r = er s) (h1 : SegI w r.da r.dn r.deps) (h2 : SegI w s.da s.dn s.deps) :
    Calls Tryz.prog 13 #[.agg (rcs r).toArray, .agg (rcs s).toArray] w fun e w' => e = .returned (.bool true) ∧ Below w.heap.size w w' := by
  have e := er_lay he
  have ed : s.deps = r.deps := by rw [e]; rfl
  rw [ed] at h2
  rw [e]
  exact sameRec_lay r _ _ _ w h1 h2
theorem rown_src {w : World} {B : Nat} {v : Value} {l : List Int} (h : w.ownsRow B 5 1 v l.length (l.map (Value.int .u8))) : ∃ a cap, v = .slice a l.length cap ∧ Src a l.length cap ∧ Seg w a l.length l := by
  obtain ⟨a, cap, hv, h1, h2, h3⟩ := seg_own h
  subst hv
  refine ⟨a, cap, rfl, ?_, h3⟩
  rcases h.2 with ⟨e, h0⟩ | ⟨g, cp, cur, e, _⟩
  · injection e with e1 e2 e3
    exact .inl ⟨h0, e3⟩
  · injection e with e1 e2 e3
    exact .inr ⟨⟨g, 0, e1⟩, h1, h2⟩
set_option maxHeartbeats 4000000 in
set_option maxRecDepth 100000 in
theorem returns6_any (n : Int) (r : Rc) (a : Nat → Addr) (w : World) (hr : Rok w r) (hR : Rws w) (hK : Knd w) (he : Errs w a) (hn1 : -9223372036854775808 ≤ r.c.n) (hn2 : r.c.n ≤ 9223372036854775807) :
    Calls Tryz.prog 15 #[.int .i64 n, .agg (rcs r).toArray] w fun e w' => e = .returned (.bool true) ∧ Below w.heap.size w w' := by
  obtain ⟨V, hV⟩ : ∃ V, V = w.alloc (.cells (rcs r).toArray 30) := ⟨_, rfl⟩
  have Q : Hid (Blk V w.heap.size (rcs r)) := by rw [hV]; exact blk_new w 30 (rcs r)
  have BV : Hid (Below w.heap.size w V) := by rw [hV]; exact (Below.refl _ _).alloc (Nat.le_refl _) _
  have hVs : w.heap.size < V.heap.size := Q.out.lt
  have HR := hide hr
  have HW := hide hR
  have HK := hide hK
  have HE := hide he
  have HN1 := hide hn1
  have HN2 := hide hn2
  clear hr hR hK he hn1 hn2
  by_cases hz : chkR n r = 0
  · have HZ := hide hz
    have LEN := hide (recB_len hz)
    have BYT := hide (byt_recB hz)
    have BACK := hide (decR_back hz HN1.out HN2.out)
    clear hz
    go_enter Tryz.func15, Tryz.ntmps15
    go_upto_region 1 with fail
    rw [← hV]
    clear hV
    go_wp2_with (first | (refine wpList_load_mid rfl 30 _ rfl w.heap.size 0 rfl (rcs r) _ (Q.out.range) Tryz.underlying30 rfl (by kernel_rfl) ?_))
    refine (recCheck_any n r _ (HR.out.below BV.out (Nat.le_refl _)) (HW.out.below BV.out (Nat.le_refl _)) (HK.out.below BV.out (Nat.le_refl _))).mono ?_
    rintro e w1 ⟨rfl, hb⟩
    rw [HZ.out]
    have B1 : Hid (Below w.heap.size w w1) := BV.out.trans (hb.mono (by omega))
    have Q1 : Hid (Blk w1 w.heap.size (rcs r)) := Q.out.on hb
    have z1 : w.heap.size < w1.heap.size := Q1.out.lt
    clear hb
    go_wp2_with (first | (refine wpList_load_mid rfl 30 _ rfl w.heap.size 0 rfl (rcs r) _ (Q1.out.range) Tryz.underlying30 rfl (by kernel_rfl) ?_))
    refine (renc_any n r _ (HR.out.below B1.out (Nat.le_refl _)) (HW.out.below B1.out (Nat.le_refl _)) (HK.out.below B1.out (Nat.le_refl _)) HN1.out HN2.out HZ.out).mono ?_
    rintro e w2 ⟨u, rfl, ho, hb⟩
    obtain ⟨sa, cap, rfl, hsrc, hseg⟩ := rown_src ho
    have SRC := hide hsrc
    have SEG := hide hseg
    have B2 : Hid (Below w.heap.size w w2) := B1.out.trans (hb.mono (by omega))
    have Q2 : Hid (Blk w2 w.heap.size (rcs r)) := Q1.out.on hb
    have z2 : w.heap.size < w2.heap.size := Q2.out.lt
    clear hb ho hsrc hseg
    obtain ⟨L, hL⟩ : ∃ L, Hid (recB r = L) := ⟨_, rfl⟩
    rw [hL.out] at LEN BYT BACK SRC SEG ⊢
    have l1 : 0 < L.length := LEN.out.1
    have l2 : L.length < 262144 := LEN.out.2
    clear hL LEN
    go_wp2_with (first | (go_at_call 11; refine (num6_any _ _).mono ?_; rintro e w' ⟨rfl, rfl⟩))
    refine (rdec_any n _ _ _ L a _ SEG.out SRC.out BYT.out (HE.out.below B2.out (Nat.le_refl _)) (HK.out.below B2.out (Nat.le_refl _)) (HW.out.below B2.out (Nat.le_refl _))).mono ?_
    rintro e w3 ⟨rr, rfl, her, hsg, hb⟩
    rw [BACK.out.2]
    have ER : Hid (er r = er rr) := (her.trans BACK.out.1).symm
    have SG3 : Hid (SegI w3 rr.da rr.dn rr.deps) := hsg
    have B3 : Hid (Below w.heap.size w w3) := B2.out.trans (hb.mono (by omega))
    have Q3 : Hid (Blk w3 w.heap.size (rcs r)) := Q2.out.on hb
    have z3 : w.heap.size < w3.heap.size := Q3.out.lt
    clear hb her hsg BACK BYT SEG SRC
    obtain ⟨U, hU⟩ : ∃ U, U = w3.alloc (.cells zeroL.toArray 30) := ⟨_, rfl⟩
    have BU : Hid (Below w3.heap.size w3 U) := by rw [hU]; exact (Below.refl _ _).alloc (Nat.le_refl _) _
    have QU : Hid (Blk U w3.heap.size zeroL) := by rw [hU]; exact blk_new w3 30 zeroL
    have TH : Hid (U.there w3.heap.size 0 18) := QU.out.there
    obtain ⟨X, hX⟩ : ∃ X, X = U.setCells w3.heap.size 0 (rcs rr) := ⟨_, rfl⟩
    have RX := hide (box_stored (w := w3) QU.out (by rfl) BU.out (Nat.le_refl _) hX)
    have BX : Hid (Below w.heap.size w X) := B3.out.trans (RX.out.2.mono (by omega))
    have QX : Hid (Blk X w.heap.size (rcs r)) := Q3.out.on RX.out.2
    have SX : Hid (SegI X rr.da rr.dn rr.deps) := SG3.out.below RX.out.2 (Nat.le_refl _)
    have HU := hide hU
    have HX := hide hX
    clear hU hX
    have eU : w3.alloc (.cells #[.int .i64 0, .int .i64 0, .int .i64 0, .int .i64 0, .int .i64 0, .bool false, .int .i64 0, .int .i64 0, .int .i64 0, .string ⟨#[]⟩, .string ⟨#[]⟩, .string ⟨#[]⟩, .string ⟨#[]⟩, .int .i64 0, .int .i64 0, .slice none 0 0, .int .i64 0, .int .i64 0] 30) = U := HU.out.symm
    have zX : w3.heap.size < X.heap.size := RX.out.1.lt
    go_upto_region 8 with (first | (refine wpList_store_mid rfl 30 _ _ rfl w3.heap.size 0 (rcs rr).toArray rfl rfl (by first | exact TH.out | (rw [eU]; exact TH.out)) (by kernel_rfl) (by kernel_rfl) ?_; first | rw [← HX.out] | (rw [eU, ← HX.out])))
    go_wp2_with (first | (refine wpList_load_mid rfl 30 _ rfl w.heap.size 0 rfl (rcs r) _ (QX.out.range) Tryz.underlying30 rfl (by kernel_rfl) ?_) | (refine wpList_load_mid rfl 30 _ rfl w3.heap.size 0 rfl (rcs rr) _ (RX.out.1.range) Tryz.underlying30 rfl (by kernel_rfl) ?_))
    refine (sameRec_same r rr _ ER.out (HR.out.below BX.out (Nat.le_refl _)).seg SX.out).mono ?_
    rintro e w4 ⟨rfl, hb⟩
    have B4 : Hid (Below w.heap.size w w4) := BX.out.trans (hb.mono (by omega))
    clear hb eU
    have g1 : ((L.length : Int) > 0) := by omega
    have g2 : ((L.length : Int) < 262144) := by omega
    go_wp2_with (first | (go_at_call 11; refine (num6_any _ _).mono ?_; rintro e w' ⟨rfl, rfl⟩))
    go_ret
    exact ⟨rfl, B4.out⟩
  · obtain ⟨z, hzz⟩ : ∃ z, Hid (chkR n r = z) := ⟨_, rfl⟩
    have HZ := hide hz
    rw [hzz.out] at hz
    have g1 : (((z : Nat) : Int) != 0) = true := by rw [bne_iff_ne]; omega
    clear hz
    go_enter Tryz.func15, Tryz.ntmps15
    go_upto_region 1 with fail
    rw [← hV]
    clear hV
    go_wp2_with (first | (refine wpList_load_mid rfl 30 _ rfl w.heap.size 0 rfl (rcs r) _ (Q.out.range) Tryz.underlying30 rfl (by kernel_rfl) ?_))
    refine (recCheck_any n r _ (HR.out.below BV.out (Nat.le_refl _)) (HW.out.below BV.out (Nat.le_refl _)) (HK.out.below BV.out (Nat.le_refl _))).mono ?_
    rintro e w1 ⟨rfl, hb⟩
    rw [hzz.out]
    have B1 : Hid (Below w.heap.size w w1) := BV.out.trans (hb.mono (by omega))
    have Q1 : Hid (Blk w1 w.heap.size (rcs r)) := Q.out.on hb
    have z1 : w.heap.size < w1.heap.size := Q1.out.lt
    clear hb
    go_wp2_with (first | (refine wpList_load_mid rfl 30 _ rfl w.heap.size 0 rfl (rcs r) _ (Q1.out.range) Tryz.underlying30 rfl (by kernel_rfl) ?_))
    refine (renc_no n r _ (HR.out.below B1.out (Nat.le_refl _)) (HW.out.below B1.out (Nat.le_refl _)) (HK.out.below B1.out (Nat.le_refl _)) HZ.out).mono ?_
    rintro e w2 ⟨rfl, hb⟩
    rw [hzz.out]
    have B2 : Hid (Below w.heap.size w w2) := B1.out.trans (hb.mono (by omega))
    clear hb
    go_wp2_with (first | (go_at_call 11; refine (num6_any _ _).mono ?_; rintro e w' ⟨rfl, rfl⟩))
    go_ret
    exact ⟨rfl, B2.out⟩

set_option maxHeartbeats 4000000 in
set_option maxRecDepth 100000 in
theorem there6_any (a : Nat → Addr) (w : World) (hR : Rws w) (hK : Knd w) (he : Errs w a) :
    Calls Tryz.prog 14 #[] w fun e w' => e = .returned (.bool true) ∧ Below w.heap.size w w' := by
  have HW := hide hR
  have HK := hide hK
  have HE := hide he
  clear hR hK he
  go_enter Tryz.func14, Tryz.ntmps14
  go_wp2_with fail
  refine (plain6_any _).mono ?_
  rintro e w1 ⟨rfl, S1, hb⟩
  obtain ⟨B, hB⟩ : ∃ B, w.heap.size + 1 = B := ⟨_, rfl⟩
  rw [hB] at S1 ⊢
  clear hB
  have B1 : Hid (Below w.heap.size w w1) := hb
  have z1 : w.heap.size ≤ w1.heap.size := B1.out.size
  have SS1 := hide S1
  clear hb S1
  go_wp2_with fail
  refine (recCheck_any 3 (plainR B) _ (plain_ok SS1.out) (HW.out.below B1.out (Nat.le_refl _)) (HK.out.below B1.out (Nat.le_refl _))).mono ?_
  rintro e w2 ⟨rfl, hb⟩
  rw [plain_chk]
  have B2 : Hid (Below w.heap.size w w2) := B1.out.trans (hb.mono (by omega))
  have z2 : w.heap.size ≤ w2.heap.size := B2.out.size
  clear hb
  go_wp2_with fail
  refine (plain6_any _).mono ?_
  rintro e w3 ⟨rfl, S3, hb⟩
  obtain ⟨C, hC⟩ : ∃ C, w2.heap.size + 1 = C := ⟨_, rfl⟩
  rw [hC] at S3 ⊢
  clear hC
  have B3 : Hid (Below w.heap.size w w3) := B2.out.trans (hb.mono (by omega))
  have z3 : w.heap.size ≤ w3.heap.size := B3.out.size
  have SS3 := hide S3
  clear hb S3
  go_wp2_with fail
  refine (returns6_any 3 (plainR C) a _ (plain_ok SS3.out) (HW.out.below B3.out (Nat.le_refl _)) (HK.out.below B3.out (Nat.le_refl _)) (HE.out.below B3.out (Nat.le_refl _)) (by show _ ≤ (0 : Int); omega) (by show (0 : Int) ≤ _; omega)).mono ?_
  rintro e w4 ⟨rfl, hb⟩
  have B4 : Hid (Below w.heap.size w w4) := B3.out.trans (hb.mono (by omega))
  clear hb
  go_wp2_with (first | (go_at_call 11; refine (num6_any _ _).mono ?_; rintro e w' ⟨rfl, rfl⟩))
  go_ret
  exact ⟨rfl, B4.out⟩
end Go.Proofs.YtlapgnbiflcpfaaGreatDoor
/- What the tied list of variables gives: the five sentinels of package wire lie at five different places, the tables of kinds and of rows lie in memory; and a state that meets it. -/
namespace Go.Proofs.YtlapgnbiflcpfaaGreatDoor
open Go.ChangeShapes Go.WideShapes Go.ChangeAt Go.RowKit Go.Wire1

/-- The rows' list. -/
abbrev laid7 : List (String × DataW Unit) := [("moot/wire.errShort", Rows.laid_moot_wire_errShort), ("moot/wire.errWide", Rows.laid_moot_wire_errWide), ("moot/wire.errForm", Rows.laid_moot_wire_errForm), ("moot/wire.errBig", Rows.laid_moot_wire_errBig), ("moot/wire.errLength", Rows.laid_moot_wire_errLength), ("moot/command.kinds", Rows.laid_moot_command_kinds), ("moot/record.rows", Rows.laid_moot_record_rows)]

theorem qgS : Tryz.prog.globalNamed "moot/wire.errShort" = some 3 := by kernel_rfl
theorem qgW : Tryz.prog.globalNamed "moot/wire.errWide" = some 4 := by kernel_rfl
theorem qgF : Tryz.prog.globalNamed "moot/wire.errForm" = some 5 := by kernel_rfl
theorem qgB : Tryz.prog.globalNamed "moot/wire.errBig" = some 6 := by kernel_rfl
theorem qgL : Tryz.prog.globalNamed "moot/wire.errLength" = some 7 := by kernel_rfl
theorem qgT0 : (Tryz.prog.globals[3]?).map (·.type) = some 154 := by kernel_rfl
theorem qgT1 : (Tryz.prog.globals[4]?).map (·.type) = some 154 := by kernel_rfl
theorem qgT2 : (Tryz.prog.globals[5]?).map (·.type) = some 154 := by kernel_rfl
theorem qgT3 : (Tryz.prog.globals[6]?).map (·.type) = some 154 := by kernel_rfl
theorem qgT4 : (Tryz.prog.globals[7]?).map (·.type) = some 154 := by kernel_rfl
theorem qgH : Tryz.prog.globalNamed "moot/command.kinds" = some 1 := by kernel_rfl
theorem qgTH : (Tryz.prog.globals[1]?).map (·.type) = some 92 := by kernel_rfl
theorem qgR : Tryz.prog.globalNamed "moot/record.rows" = some 0 := by kernel_rfl
theorem qgTR : (Tryz.prog.globals[0]?).map (·.type) = some 50 := by kernel_rfl
theorem cellsR : Tryz.prog.cellsOf 91 = 2 := by kernel_rfl
theorem cellsI : Tryz.prog.cellsOf 3 = 1 := by kernel_rfl
theorem cellsE : Tryz.prog.cellsOf 204 = 1 := by kernel_rfl
theorem cellsS : Tryz.prog.cellsOf 9 = 1 := by kernel_rfl
theorem star : "*" ++ "errors.errorString" = "*errors.errorString" := by decide
theorem rowE (u : TypeId) (h : Tryz.prog.typeName? 3 u = some "*errors.errorString") : u = 180 :=
  typeName_ptr_named (nm := "errors.errorString") (by rw [star]; kernel_rfl) (by kernel_rfl) (by decide) u (by rw [star]; exact h)

theorem door_met (os : Os) (args : Array Value) : laidMetH Tryz.prog laid7 ((World.doorLaid Tryz.prog 400 os).forCall (fun _ _ => 0) ⟨#[], args, []⟩).memory :=
  laidMetH_of_parts3 (fuel := 8) (laidMet_of_run' 8 (by kernel_rfl) (by kernel_rfl)) (by kernel_rfl) (by kernel_rfl)

theorem laid_list : (Rows.laid_moot_command_kinds : DataW Unit) = .agg ((List.range 9).map fun i => .agg [.lit (.int .i64 (fieldsL.getD i 0 : Nat)), .lit (.int .i64 (fromL.getD i 0 : Nat))]) := rfl

theorem laid_rows : (Rows.laid_moot_record_rows : DataW Unit) = .agg ((List.range 6).map fun i => .lit (.string (rowS.getD i ⟨#[]⟩).data.toList)) := rfl

set_option maxRecDepth 100000 in
theorem knd_of_laid {W : World} (h : laidMetH Tryz.prog laid7 W) : Knd W := by
  rw [MakeChecks.laidMetH_plain _ _ _ (by kernel_rfl)] at h
  obtain ⟨_, ⟨_, _, _, _, _, _, _, _, _, _, ⟨_, _, _, _, _, _, _, _, _, _, ⟨_, _, _, _, _, _, _, _, _, _, ⟨_, _, _, _, _, _, _, _, _, _, ⟨_, _, _, _, _, _, _, _, _, _, ⟨g0, t0, cs0, f0, p0, q0, hg0, ht0, hv0, hd0, _, _⟩, _⟩, _⟩, _⟩, _⟩, _⟩, _, _⟩ := h
  obtain rfl := Option.some.inj (qgH.symm.trans hg0)
  obtain rfl := Option.some.inj (qgTH.symm.trans ht0)
  rw [laid_list] at hd0
  obtain ⟨xs, m, _, hx, hlen, hn, hall⟩ := DataW.trod_array Tryz.underlying92 hd0
  simp only [Prod.mk.injEq, DataW.agg.injEq] at hx
  intro i hi
  rw [World.var?_cell hg0 hv0 (i * 2), World.var?_cell hg0 hv0 (i * 2 + 1)]
  have h1 := hall i hi
  have hxi : ∃ x, xs[i]? = some x := ⟨xs[i], List.getElem?_eq_getElem (by omega)⟩
  obtain ⟨x, hxi⟩ := hxi
  rw [hxi, cellsR] at h1
  obtain ⟨ys, n, _, hy, hl2, hyl, hf⟩ := DataW.trod_struct Tryz.underlying91 h1
  match ys, hyl with
  | [y0, y1], _ =>
    have t0 : DataW.trod (fun _ => ()) Tryz.prog W 0 (fun _ => true) false n 3 ((((cs0.toList.drop (i * 2)).take 2).drop 0).take (Tryz.prog.cellsOf 3)) = some y0 := hf 0 _ rfl
    have t1 : DataW.trod (fun _ => ()) Tryz.prog W 0 (fun _ => true) false n 3 ((((cs0.toList.drop (i * 2)).take 2).drop 1).take (Tryz.prog.cellsOf 3)) = some y1 := hf 1 _ rfl
    rw [cellsI] at t0 t1
    obtain ⟨n0, c0, z0, _⟩ := DataW.trod_int Tryz.underlying3 t0
    obtain ⟨n1, c1, z1, _⟩ := DataW.trod_int Tryz.underlying3 t1
    have h2 : (xs.map (·.1))[i]? = some (.agg [.lit (.int .i64 n0), .lit (.int .i64 n1)]) := by rw [List.getElem?_map, hxi, hy, z0, z1]; rfl
    rw [← hx.1, List.getElem?_map, List.getElem?_eq_getElem (by simpa using hi)] at h2
    simp only [List.getElem_range, Option.map_some, Option.some.injEq, DataW.agg.injEq, List.cons.injEq, DataW.lit.injEq, Lit.int.injEq, true_and, and_true] at h2
    have d0 : cs0[i * 2]? = some (.int .i64 n0) := by
      have h4 : ((((cs0.toList.drop (i * 2)).take 2).drop 0).take 1)[0]? = some (.int .i64 n0) := by rw [c0]; rfl
      simpa [List.getElem?_take] using h4
    have d1 : cs0[i * 2 + 1]? = some (.int .i64 n1) := by
      have h4 : ((((cs0.toList.drop (i * 2)).take 2).drop 1).take 1)[0]? = some (.int .i64 n1) := by rw [c1]; rfl
      simpa [List.getElem?_take] using h4
    rw [d0, d1, h2.1, h2.2]
    exact ⟨rfl, rfl⟩

set_option maxRecDepth 100000 in
theorem rws_of_laid {W : World} (h : laidMetH Tryz.prog laid7 W) : Rws W := by
  rw [MakeChecks.laidMetH_plain _ _ _ (by kernel_rfl)] at h
  obtain ⟨_, ⟨_, _, _, _, _, _, _, _, _, _, ⟨_, _, _, _, _, _, _, _, _, _, ⟨_, _, _, _, _, _, _, _, _, _, ⟨_, _, _, _, _, _, _, _, _, _, ⟨_, _, _, _, _, _, _, _, _, _, ⟨_, _, _, _, _, _, _, _, _, _, ⟨g0, t0, cs0, f0, p0, q0, hg0, ht0, hv0, hd0, _, _⟩, _⟩, _⟩, _⟩, _⟩, _⟩, _⟩, _, _⟩ := h
  obtain rfl := Option.some.inj (qgR.symm.trans hg0)
  obtain rfl := Option.some.inj (qgTR.symm.trans ht0)
  rw [laid_rows] at hd0
  obtain ⟨xs, m, _, hx, hlen, hn, hall⟩ := DataW.trod_array Tryz.underlying50 hd0
  simp only [Prod.mk.injEq, DataW.agg.injEq] at hx
  intro i hi
  rw [World.var?_cell hg0 hv0 i]
  have h1 := hall i hi
  have hxi : ∃ x, xs[i]? = some x := ⟨xs[i], List.getElem?_eq_getElem (by omega)⟩
  obtain ⟨x, hxi⟩ := hxi
  rw [hxi, cellsS, Nat.mul_one] at h1
  obtain ⟨s, c0, z0, _⟩ := DataW.trod_string Tryz.underlying9 h1
  have h2 : (xs.map (·.1))[i]? = some (.lit (.string s.data.toList)) := by rw [List.getElem?_map, hxi, z0]; rfl
  rw [← hx.1, List.getElem?_map, List.getElem?_eq_getElem (by simpa using hi)] at h2
  simp only [List.getElem_range, Option.map_some, Option.some.injEq, DataW.lit.injEq, Lit.string.injEq] at h2
  have d0 : cs0[i]? = some (.string s) := by
    have h4 : ((cs0.toList.drop i).take 1)[0]? = some (.string s) := by rw [c0]; rfl
    simpa [List.getElem?_take] using h4
  rw [d0]
  have e : rowS.getD i ⟨#[]⟩ = s := by
    cases hs : rowS.getD i ⟨#[]⟩
    cases s
    rw [hs] at h2
    simpa using h2
  rw [e]

set_option maxRecDepth 100000 in
theorem errs_of_laid {W : World} (h : laidMetH Tryz.prog laid7 W) : ∃ a, Errs W a := by
  have hkn := knd_of_laid h
  rw [MakeChecks.laidMetH_plain _ _ _ (by kernel_rfl)] at h
  obtain ⟨ps, ⟨g0, t0, cs0, f0, p0, q0, hg0, ht0, hv0, hd0, ⟨g1, t1, cs1, f1, p1, q1, hg1, ht1, hv1, hd1, ⟨g2, t2, cs2, f2, p2, q2, hg2, ht2, hv2, hd2, ⟨g3, t3, cs3, f3, p3, q3, hg3, ht3, hv3, hd3, ⟨g4, t4, cs4, f4, p4, q4, hg4, ht4, hv4, hd4, ⟨g5, t5, cs5, f5, p5, q5, hg5, ht5, hv5, hd5, ⟨g6, t6, cs6, f6, p6, q6, hg6, ht6, hv6, hd6, _, e6⟩, e5⟩, e4⟩, e3⟩, e2⟩, e1⟩, e0⟩, hnd, hrows⟩ := h
  obtain rfl := Option.some.inj (qgS.symm.trans hg0)
  obtain rfl := Option.some.inj (qgW.symm.trans hg1)
  obtain rfl := Option.some.inj (qgF.symm.trans hg2)
  obtain rfl := Option.some.inj (qgB.symm.trans hg3)
  obtain rfl := Option.some.inj (qgL.symm.trans hg4)
  obtain rfl := Option.some.inj (qgT0.symm.trans ht0)
  obtain rfl := Option.some.inj (qgT1.symm.trans ht1)
  obtain rfl := Option.some.inj (qgT2.symm.trans ht2)
  obtain rfl := Option.some.inj (qgT3.symm.trans ht3)
  obtain rfl := Option.some.inj (qgT4.symm.trans ht4)
  subst e6 e5 e4 e3 e2 e1 e0
  obtain ⟨l0⟩ := cs0
  obtain ⟨l1⟩ := cs1
  obtain ⟨l2⟩ := cs2
  obtain ⟨l3⟩ := cs3
  obtain ⟨l4⟩ := cs4
  have ok0 : ∀ u v, l0 = [.iface u v] → Value.okWide Tryz.prog W .any 0 u v := fun u v e => by
    subst e; exact (hrows 3 0 (by simp [MemPlace.row])).2 u v (by simpa using World.var?_cell hg0 hv0 0)
  have ok1 : ∀ u v, l1 = [.iface u v] → Value.okWide Tryz.prog W .any 0 u v := fun u v e => by
    subst e; exact (hrows 4 0 (by simp [MemPlace.row])).2 u v (by simpa using World.var?_cell hg1 hv1 0)
  have ok2 : ∀ u v, l2 = [.iface u v] → Value.okWide Tryz.prog W .any 0 u v := fun u v e => by
    subst e; exact (hrows 5 0 (by simp [MemPlace.row])).2 u v (by simpa using World.var?_cell hg2 hv2 0)
  have ok3 : ∀ u v, l3 = [.iface u v] → Value.okWide Tryz.prog W .any 0 u v := fun u v e => by
    subst e; exact (hrows 6 0 (by simp [MemPlace.row])).2 u v (by simpa using World.var?_cell hg3 hv3 0)
  have ok4 : ∀ u v, l4 = [.iface u v] → Value.okWide Tryz.prog W .any 0 u v := fun u v e => by
    subst e; exact (hrows 7 0 (by simp [MemPlace.row])).2 u v (by simpa using World.var?_cell hg4 hv4 0)
  obtain ⟨a0, s0, rfl, hc0, _, _, rfl⟩ := errorString_of_trod Tryz.underlying154 rowE Tryz.underlying180 Tryz.underlying204 rfl rfl Tryz.underlying9 cellsE cellsS hd0 ok0
  obtain ⟨a1, s1, rfl, hc1, _, _, rfl⟩ := errorString_of_trod Tryz.underlying154 rowE Tryz.underlying180 Tryz.underlying204 rfl rfl Tryz.underlying9 cellsE cellsS hd1 ok1
  obtain ⟨a2, s2, rfl, hc2, _, _, rfl⟩ := errorString_of_trod Tryz.underlying154 rowE Tryz.underlying180 Tryz.underlying204 rfl rfl Tryz.underlying9 cellsE cellsS hd2 ok2
  obtain ⟨a3, s3, rfl, hc3, _, _, rfl⟩ := errorString_of_trod Tryz.underlying154 rowE Tryz.underlying180 Tryz.underlying204 rfl rfl Tryz.underlying9 cellsE cellsS hd3 ok3
  obtain ⟨a4, s4, rfl, hc4, _, _, rfl⟩ := errorString_of_trod Tryz.underlying154 rowE Tryz.underlying180 Tryz.underlying204 rfl rfl Tryz.underlying9 cellsE cellsS hd4 ok4
  let a : Nat → Addr := fun i => if i = 0 then a0 else if i = 1 then a1 else if i = 2 then a2 else if i = 3 then a3 else a4
  refine ⟨a, ⟨by simpa [a] using World.var?_cell hg0 hv0 0, by simpa [a] using World.var?_cell hg1 hv1 0, by simpa [a] using World.var?_cell hg2 hv2 0, by simpa [a] using World.var?_cell hg3 hv3 0, by simpa [a] using World.var?_cell hg4 hv4 0, ?_, ?_, ?_⟩⟩
  · intro i hi
    rcases (by omega : i = 0 ∨ i = 1 ∨ i = 2 ∨ i = 3 ∨ i = 4) with rfl | rfl | rfl | rfl | rfl
    · exact (hrows a0.block a0.off (by simp [MemPlace.row])).1
    · exact (hrows a1.block a1.off (by simp [MemPlace.row])).1
    · exact (hrows a2.block a2.off (by simp [MemPlace.row])).1
    · exact (hrows a3.block a3.off (by simp [MemPlace.row])).1
    · exact (hrows a4.block a4.off (by simp [MemPlace.row])).1
  · intro i j hi hj hij
    have key : a0 ≠ a1 ∧ a0 ≠ a2 ∧ a0 ≠ a3 ∧ a0 ≠ a4 ∧ a1 ≠ a2 ∧ a1 ≠ a3 ∧ a1 ≠ a4 ∧ a2 ≠ a3 ∧ a2 ≠ a4 ∧ a3 ≠ a4 := by
      refine ⟨?_, ?_, ?_, ?_, ?_, ?_, ?_, ?_, ?_, ?_⟩ <;> (intro e; rw [e] at hnd; simp [MemPlace.row] at hnd)
    obtain ⟨k1, k2, k3, k4, k5, k6, k7, k8, k9, k10⟩ := key
    rcases (by omega : i = 0 ∨ i = 1 ∨ i = 2 ∨ i = 3 ∨ i = 4) with rfl | rfl | rfl | rfl | rfl <;>
    rcases (by omega : j = 0 ∨ j = 1 ∨ j = 2 ∨ j = 3 ∨ j = 4) with rfl | rfl | rfl | rfl | rfl <;>
    first
      | exact absurd rfl hij
      | exact k1 | exact k2 | exact k3 | exact k4 | exact k5 | exact k6 | exact k7 | exact k8 | exact k9 | exact k10
      | exact k1.symm | exact k2.symm | exact k3.symm | exact k4.symm | exact k5.symm | exact k6.symm | exact k7.symm | exact k8.symm | exact k9.symm | exact k10.symm
  · have e0 := cell_lt (show W.cell? ⟨3, 0, none⟩ = some _ from by simpa using World.var?_cell hg0 hv0 0)
    have e1 := cell_lt (show W.cell? ⟨4, 0, none⟩ = some _ from by simpa using World.var?_cell hg1 hv1 0)
    have e2 := cell_lt (show W.cell? ⟨5, 0, none⟩ = some _ from by simpa using World.var?_cell hg2 hv2 0)
    have e3 := cell_lt (show W.cell? ⟨6, 0, none⟩ = some _ from by simpa using World.var?_cell hg3 hv3 0)
    have e4 := cell_lt (show W.cell? ⟨7, 0, none⟩ = some _ from by simpa using World.var?_cell hg4 hv4 0)
    have e5 := hkn.lt
    omega
end Go.Proofs.YtlapgnbiflcpfaaGreatDoor
