/- Proved: for every version and payload FrameSeals answers true: every Seal is the document's, and the payload stays. Conditions: the table of sixteen of package crc starts as the program's text lays it (the card ties it). -/
import Derived.Test.YtnlohbfolphafaaDoorFrSlA
import Derived.Test.YtnlohbfolphafaaDoorArgs
import Derived.Test.YtnlohbfolphafaaDoorFrLaid1
import Derived.Test.YtnlohbfolphafaaDoorTie
import Derived.Test.YtnlohbfolphafaaDoorCards
import Derived.Deep.DeepHandedRow
import Derived.Deep.DeepWitnessRowRef
namespace Go.Proofs.YtnlohbfolphafaaDoor
open Go.ChangeShapes Go.WideShapes Go.ChangeAt Go.RowKit Go.Wire1 Go.Crc2 Go.Frm
namespace frameSeals

set_option maxHeartbeats 4000000 in
set_option maxRecDepth 100000 in
theorem walk (y0 : Int) (sa : Option Addr) (n cap : Nat) (l : List Int) (w : World) (hs : Seg w sa n l) (hy : Byt l) (hreach : n ≤ 140737488351232) (hH : Hal w) :
    Calls Tryd.prog 3 #[.int .i64 y0, .slice sa n cap] w fun e w' => e = .returned (.bool true) ∧ Below w.heap.size w w' := by
  have HL := hide hs.1
  have SP := hide hs
  have HY := hide hy
  have HAL := hide hH
  have hc1 := seal_any 1 (some ⟨w.heap.size, 0, none⟩) 3 3 [97, 98, 99] (w.alloc (.cells #[.int .u8 97, .int .u8 98, .int .u8 99] 5)) (by decide) (seg_new w [97, 98, 99] _ (0, 0) rfl (by decide)) byt_abc (by decide) (hH.alloc _)
  have hc2 := fun W => abc_any W
  generalize frm 1 [97, 98, 99] = FR at *
  obtain ⟨fl, hfl⟩ : ∃ fl, FR.length = fl := ⟨_, rfl⟩
  simp only [hfl] at hc1 hc2
  have HC1 := hide hc1
  have HC2 := hide hc2
  have hS1 := fun sa n cap W => seal_all y0 sa n cap l W
  have hS2 := fun W h => rseal_all y0 sa n cap l W h hy
  simp only [SlPost] at hS1 hS2
  have hAl := slR_len y0 l
  obtain ⟨A, ev, hA⟩ : ∃ A ev, slR y0 l = (A, ev) := ⟨_, _, rfl⟩
  simp only [hA] at hS1 hS2 hAl
  obtain ⟨na, hna⟩ : ∃ na, A.length = na := ⟨_, rfl⟩
  simp only [hna] at hS1 hS2 hAl
  have HS1 := hide hS1
  have HS2 := hide hS2
  obtain ⟨xs, hxs⟩ : ∃ xs, xs = l.map (fun z => bx z 85) := ⟨_, rfl⟩
  have hxl : xs.length = n := by rw [hxs, List.length_map, hs.1]
  have hxy : Byt xs := by rw [hxs]; exact byt_map85 hy
  have hS3 := fun sa cap W => seal_all y0 sa n cap xs W
  have hS4 := fun sa cap W => rseal_all y0 sa n cap xs W
  simp only [SlPost] at hS3 hS4
  obtain ⟨C, ew, hC⟩ : ∃ C ew, slR y0 xs = (C, ew) := ⟨_, _, rfl⟩
  simp only [hC] at hS3 hS4
  obtain ⟨nc, hnc⟩ : ∃ nc, C.length = nc := ⟨_, rfl⟩
  simp only [hnc] at hS3 hS4
  have HS3 := hide hS3
  have HS4 := hide hS4
  have HXS := hide hxs
  have HXL := hide hxl
  have HXY := hide hxy
  have HNA := hide hna
  have HNC := hide hnc
  clear hc1 hc2 hS1 hS2 hS3 hS4 hA hC hna hnc hxs hxl hxy hs hy hH hfl hAl
  go_enter Tryd.func3, Tryd.ntmps3
  go_wp2_with fail
  refine HC1.out.mono ?_
  rintro r_ w1 ⟨g1, c1, rfl, hg1, hO1, hB1⟩
  have BW1 : Hid (Below w.heap.size w w1) := ((Below.refl _ _).alloc (Nat.le_refl _) _).trans (hB1.mono (by simp))
  have S1 := hide (own_seg hO1).1
  clear hO1 hB1 hg1 HC1
  go_wp2_with fail
  refine (HC2.out w1).mono ?_
  rintro r_ w2 ⟨vb, rfl, hO2, hB2⟩
  obtain ⟨ab, cb, rfl⟩ := own_shape hO2
  have S2 : Hid (Seg w2 ab fl FR) := own_segN hO2
  have BW2 : Hid (Below w.heap.size w w2) := BW1.out.trans (hB2.mono BW1.out.size)
  have S1b := hide (S1.out.below hB2 (Nat.le_refl _))
  clear hO2 hB2 HC2 BW1 S1
  go_wp2_with fail
  refine (same_bel _ ab fl fl c1 cb FR FR w2 S1b.out S2.out).mono ?_
  rintro r_ w3 ⟨rfl, hB3⟩
  rw [same_yes rfl]
  have BW3 : Hid (Below w.heap.size w w3) := BW2.out.trans (hB3.mono BW2.out.size)
  clear hB3 S1b S2 BW2
  go_wp2_with fail
  refine (num_any 0 _).mono ?_
  rintro r_ w3' ⟨rfl, rfl⟩
  go_wp2_with fail
  refine (room_any sa n cap l w3 (SP.out.below BW3.out (Nat.le_refl _)) hreach).mono ?_
  rintro r_ w4 ⟨gL, cL, rfl, hM4, hB4⟩
  have M4 := hide hM4
  have BW4 : Hid (Below w.heap.size w w4) := BW3.out.trans (hB4.mono BW3.out.size)
  have gl4 : Hid (gL < w4.heap.size) := (hM4.1.lt gL rfl).2
  have glo : Hid (w.heap.size ≤ gL) := Nat.le_trans BW3.out.size hM4.2.2.2.2
  have hcL : n + 3 ≤ cL := hM4.2.2.1
  have hcM : cL ≤ 9223372036854775807 := by have := hM4.2.2.2.1; unfold maxLen at this; omega
  have hn3 : n ≤ cL := by omega
  clear hM4 hB4 BW3
  go_wp2_with fail
  have SG4 : Seg w4 (some ⟨gL, 0, none⟩) n l := by
    have := M4.out.seg.take (k := n) (by omega)
    rwa [List.take_append_of_le_length (by have := HL.out; omega), List.take_of_length_le (by have := HL.out; omega)] at this
  refine (HS1.out (some ⟨gL, 0, none⟩) n cL w4 SG4 HY.out (HAL.out.later BW4.out)).mono ?_
  rintro r_ w5 ⟨va, rfl, hO5, hB5⟩
  obtain ⟨aa, ca, rfl⟩ := own_shape hO5
  have SA5 : Hid (Seg w5 aa na A) := own_segN hO5
  have apA : Hid (∀ x, aa = some x → 0 < na → x.block ≠ gL) := own_apart hO5 gl4.out
  have BW5 : Hid (Below w.heap.size w w5) := BW4.out.trans (hB5.mono BW4.out.size)
  have M5 := hide (M4.out.below hB5 (Nat.le_refl _))
  have gl5 := hide (Nat.lt_of_lt_of_le gl4.out hB5.size)
  clear hO5 hB5 SG4 M4 BW4 gl4
  go_wp2_with fail
  refine (HS2.out w5 (SP.out.below BW5.out (Nat.le_refl _))).mono ?_
  rintro r_ w6 ⟨vB, rfl, hO6, hB6⟩
  obtain ⟨ba, cba, rfl⟩ := own_shape hO6
  have SB6 : Hid (Seg w6 ba na A) := own_segN hO6
  have apB : Hid (∀ x, ba = some x → 0 < na → x.block ≠ gL) := own_apart hO6 gl5.out
  have BW6 : Hid (Below w.heap.size w w6) := BW5.out.trans (hB6.mono BW5.out.size)
  have M6 := hide (M5.out.below hB6 (Nat.le_refl _))
  have SA6 := hide (SA5.out.below hB6 (Nat.le_refl _))
  clear hO6 hB6 M5 BW5 gl5 SA5
  go_wp2_with fail
  refine (same_bel aa ba na na ca cba A A w6 SA6.out SB6.out).mono ?_
  rintro r_ w7 ⟨rfl, hB7⟩
  rw [same_yes rfl]
  have BW7 : Hid (Below w.heap.size w w7) := BW6.out.trans (hB7.mono BW6.out.size)
  have M7 := hide (M6.out.below hB7 (Nat.le_refl _))
  have SA7 := hide (SA6.out.below hB7 (Nat.le_refl _))
  have SB7 := hide (SB6.out.below hB7 (Nat.le_refl _))
  clear hB7 BW6 M6 SA6 SB6
  go_wp2_with fail
  refine (num_any (ev : Int) _).mono ?_
  rintro r_ w7' ⟨rfl, rfl⟩
  go_wp2_with fail
  refine (room_any sa n cap l w7 (SP.out.below BW7.out (Nat.le_refl _)) hreach).mono ?_
  rintro r_ w8 ⟨g8, c8, rfl, hM8, hB8⟩
  have R8 := hide hM8.seg
  have BW8 : Hid (Below w.heap.size w w8) := BW7.out.trans (hB8.mono BW7.out.size)
  have M8 := hide (M7.out.below hB8 (Nat.le_refl _))
  have SA8 := hide (SA7.out.below hB8 (Nat.le_refl _))
  have SB8 := hide (SB7.out.below hB8 (Nat.le_refl _))
  clear hM8 hB8 BW7 M7 SA7 SB7
  go_wp2_with fail
  refine (same_bel (some ⟨gL, 0, none⟩) (some ⟨g8, 0, none⟩) (n + 3) (n + 3) cL c8 (l ++ spare) (l ++ spare) w8 M8.out.seg R8.out).mono ?_
  rintro r_ w9 ⟨rfl, hB9⟩
  rw [same_yes rfl]
  have BW9 : Hid (Below w.heap.size w w9) := BW8.out.trans (hB9.mono BW8.out.size)
  have M9 := hide (M8.out.below hB9 (Nat.le_refl _))
  have SA9 := hide (SA8.out.below hB9 (Nat.le_refl _))
  have SB9 := hide (SB8.out.below hB9 (Nat.le_refl _))
  clear hB9 BW8 M8 SA8 SB8 R8
  go_wp2
  go_loopw [11] (fun kv wr => ∃ k : Nat, kv = .int .i64 (k : Int) ∧ k ≤ n ∧ Hid (∃ B, Mine wr B gL (n + 3) cL (trX l k)) ∧ Hid (Tch gL none w9 wr)) (fun kv _ => n - (intOf kv).toNat)
  case atStart => exact ⟨0, rfl, Nat.zero_le _, ⟨_, by rw [trX_zero]; exact M9.out⟩, Tch.refl _ _ _⟩
  case round =>
    obtain ⟨k, rfl, hk, MK, TK⟩ := hrel
    by_cases hlt : k < n
    · obtain ⟨B, mk⟩ := MK.out
      have hkl : k < l.length := by have := HL.out; omega
      have hz := byt_at HY.out k
      have hat := trX_at hkl
      have MS := mk.store k (bx (l.getD k 0) 85)
      rw [trX_next hkl] at MS
      obtain ⟨b', o', e', hc'⟩ := mk.seg.2.2 (by omega)
      cases e'
      have hck := hc' k (by omega)
      rw [Nat.zero_add, hat] at hck
      have hfr := mk.1.frozenAt k
      have ex : bits .xor .u8 (l.getD k 0) 85 = bx (l.getD k 0) 85 := u8_xor _ _ hz.1 hz.2 (by decide) (by decide)
      have HMS : Hid (∃ B, Mine (wr.setCell ⟨gL, k, none⟩ (.int .u8 (bx (l.getD k 0) 85))) B gL (n + 3) cL (trX l (k + 1))) := ⟨_, MS⟩
      have HTK := hide (TK.out.setB (o := k) (.int .u8 (bx (l.getD k 0) 85)))
      clear hc' mk MS hat hz
      generalize l.getD k 0 = z at *
      generalize bx z 85 = y at *
      have i1 : (k : Int) < (n : Int) + 3 := by omega
      go_wp2
      go_roundw
      case rel => exact ⟨k + 1, by go_num, by omega, HMS, HTK⟩
      case measure => simp [intOf]; omega
    · have hkn : k = l.length := by have := HL.out; omega
      obtain ⟨B, mk⟩ := MK.out
      rw [hkn, trX_all, ← HXS.out] at mk
      have BWA : Hid (Below w.heap.size w wr) := BW9.out.trans (TK.out.below glo.out (fun j e => by cases e) BW9.out.size)
      have SAA := hide (TK.out.seg SA9.out (fun x e hn => ⟨apA.out x e hn, by intro q; cases q⟩))
      have SBA := hide (TK.out.seg SB9.out (fun x e hn => ⟨apB.out x e hn, by intro q; cases q⟩))
      have SGA : Hid (Seg wr (some ⟨gL, 0, none⟩) n xs) := by
        have := mk.seg.take (k := n) (by omega)
        rwa [List.take_append_of_le_length (by have := HXL.out; omega), List.take_of_length_le (by have := HXL.out; omega)] at this
      have hkk : ¬ ((k : Int) < (n : Int)) := by omega
      clear hkn mk MK TK
      go_wp2_with fail
      refine (HS3.out (some ⟨gL, 0, none⟩) cL wr SGA.out HXY.out (HAL.out.later BWA.out)).mono ?_
      rintro r_ wB ⟨vc, rfl, hOB, hBB⟩
      obtain ⟨xc, yc, rfl⟩ := own_shape hOB
      have SCB : Hid (Seg wB xc nc C) := own_segN hOB
      have BWB : Hid (Below w.heap.size w wB) := BWA.out.trans (hBB.mono BWA.out.size)
      have SAB := hide (SAA.out.below hBB (Nat.le_refl _))
      have SBB := hide (SBA.out.below hBB (Nat.le_refl _))
      have SGB := hide (SGA.out.below hBB (Nat.le_refl _))
      clear hOB hBB BWA SAA SBA SGA
      go_wp2_with fail
      refine (bytes_any (some ⟨gL, 0, none⟩) n cL xs wB SGB.out (by omega)).mono ?_
      rintro r_ wC ⟨vd, rfl, hOC, hBC⟩
      rw [HXL.out] at hOC
      obtain ⟨xd, yd, rfl⟩ := own_shape hOC
      have SDC : Hid (Seg wC xd n xs) := own_segN hOC
      have BWC : Hid (Below w.heap.size w wC) := BWB.out.trans (hBC.mono BWB.out.size)
      have SAC := hide (SAB.out.below hBC (Nat.le_refl _))
      have SBC := hide (SBB.out.below hBC (Nat.le_refl _))
      have SCC := hide (SCB.out.below hBC (Nat.le_refl _))
      clear hOC hBC BWB SAB SBB SCB SGB
      go_wp2_with fail
      refine (HS4.out xd yd wC SDC.out HXY.out).mono ?_
      rintro r_ wD ⟨ve, rfl, hOD, hBD⟩
      obtain ⟨xe, ye, rfl⟩ := own_shape hOD
      have SDD : Hid (Seg wD xe nc C) := own_segN hOD
      have BWD : Hid (Below w.heap.size w wD) := BWC.out.trans (hBD.mono BWC.out.size)
      have SAD := hide (SAC.out.below hBD (Nat.le_refl _))
      have SBD := hide (SBC.out.below hBD (Nat.le_refl _))
      have SCD := hide (SCC.out.below hBD (Nat.le_refl _))
      clear hOD hBD BWC SAC SBC SCC SDC
      go_wp2_with fail
      refine (same_bel xc xe nc nc yc ye C C wD SCD.out SDD.out).mono ?_
      rintro r_ wE ⟨rfl, hBE⟩
      rw [same_yes rfl]
      have BWE : Hid (Below w.heap.size w wE) := BWD.out.trans (hBE.mono BWD.out.size)
      have SAE := hide (SAD.out.below hBE (Nat.le_refl _))
      have SBE := hide (SBD.out.below hBE (Nat.le_refl _))
      clear hBE BWD SAD SBD SCD SDD
      go_wp2_with fail
      refine (same_bel aa ba na na ca cba A A wE SAE.out SBE.out).mono ?_
      rintro r_ wF ⟨rfl, hBF⟩
      rw [same_yes rfl]
      have BWF : Hid (Below w.heap.size w wF) := BWE.out.trans (hBF.mono BWE.out.size)
      clear hBF BWE SAE SBE
      go_wp2_with fail
      refine (num_any (ew : Int) _).mono ?_
      rintro r_ wF' ⟨rfl, rfl⟩
      go_wp2
      go_ret
      exact ⟨rfl, BWF.out⟩

set_option maxRecDepth 100000 in
/-- For every argument and every world. -/
theorem contract (H : Type) (enc : TypeId × Value → H) (W : World) (base : Nat) (args : Array Value) (ds gs : List (DataW H)) (before : List MemPlace)
    (hval : ∀ (j : Nat) t v, Tryd.f3.params[j]? = some t → args[j]? = some v → Value.okWide Tryd.prog W .any base t v)
    (hW : DataW.Whole enc Tryd.prog Tryd.f3.params.toList Rows.frameSealsSpec.vars false W args.toList ds gs before)
    (hsz : (DataW.weightsEach Tryd.prog (Tryd.f3.params.toList ++ (OpenSpec.ofChange Rows.frameSealsSpec).bare.plain.varTypes Tryd.prog) (ds ++ gs)).all (· ≤ reachBytes) = true)
    (hL : laidMetH Tryd.prog Rows.frameSealsRow.laid W) :
    Calls Tryd.prog 3 args W fun e W' => ∃ v, e = .returned v ∧ Rows.frameSealsSpec.post enc Tryd.prog Tryd.f3 false true false false W args v W' := by
  have hW' := hW
  obtain ⟨p, q, hA0, hV, rfl, hfz, hnd⟩ := hW
  have hA : DataW.TrodAll enc Tryd.prog W 0 (fun _ => true) true Tryd.f3.params.toList args.toList ds p := hA0
  rw [Tryd.params3] at hA hval hsz
  obtain ⟨v0, vs0, d0, ds0, p0, q0, hargs, rfl, rfl, h0, tr0⟩ := trodAll_cons hA
  obtain ⟨v1, vs1, d1, ds1, p1, q1, rfl, rfl, rfl, h1, tr1⟩ := trodAll_cons tr0
  obtain ⟨rfl, rfl, rfl⟩ := trodAll_nil tr1
  obtain rfl : args = #[v0, v1] := by cases args; simp_all
  obtain ⟨rfl, rfl⟩ := trodVars_none hV
  obtain ⟨y0, rfl, rfl, rfl, w0⟩ := open_int Tryd.underlying3 (hval 0 3 v0 rfl rfl) h0
  have b0 := bounds_i64 w0
  obtain ⟨a1, n1, cap1, rfl⟩ := okWide_slice Tryd.underlying22 (hval 1 22 v1 rfl rfl)
  have k1 := h1
  have lt1 : ∀ x ∈ p1, x.block < W.heap.size := by obtain ⟨m, hm⟩ := k1; exact DataW.trod_lt m _ _ _ hm
  obtain ⟨fuel1, hf1⟩ := h1
  obtain ⟨l1, hseg1, hbyt1, hcap1, hdat1⟩ := open_bytes hf1
  have hreach1 : cap1 ≤ 140737488351232 := by
    rcases hdat1 with ⟨_, _, h⟩ | ⟨elems, spare, hd, he, hc⟩
    · omega
    · have hs := sized_slice hsz (j := 1) (t := 22) (e := 5) (elems := elems) (spare := spare) rfl (by rw [show d1 = _ from hd]; rfl) Tryd.underlying22
      rw [bytes5] at hs
      simp only [reachBytes] at hs
      omega
  clear hA0
  refine (walk y0 a1 n1 cap1 l1 W hseg1 hbyt1 (Nat.le_trans hcap1 hreach1) (hal_of_laid hL)).mono fun e W' ⟨he, bel⟩ => ?_
  subst he
  exact ⟨_, rfl, _, _, _, [], _, [], hW', trodAll_mk1 (shut_bool Tryd.underlying4 _), (trodAll_cons_mk (shut_int Tryd.underlying3 w0) (trodAll_cons_mk (Below.trod laidOut (by kernel_rfl) (of_decide_eq_true (by kernel_rfl)) k1 bel lt1) trodAll_mk0)), rfl, bel.frame _, fun h => by cases h⟩

theorem reads (os : Os) {H : Type} (enc : TypeId × Value → H) : ∃ places, DataW.whole enc Tryd.prog ((World.doorLaid Tryd.prog 400 os).forCall (fun _ _ => 0) ⟨#[], #[.int .i64 0, .slice none 0 0], []⟩).memory Tryd.f3.params.toList Rows.frameSealsSpec.vars false (#[Value.int .i64 0, .slice none 0 0] : Array Value).toList 8 = some ([.lit (.int .i64 0), .nil], [], places) :=
  ⟨[], by kernel_rfl⟩

set_option maxRecDepth 100000 in
theorem lifted (os : Os) (started : os.Started) (H : Type) (enc : TypeId × Value → H) (F : Stop.Interp) :
    ReturnsInHanded {} Tryd.checked os 3 .any ((OpenSpec.ofChange Rows.frameSealsSpec).preRow enc Tryd.prog Tryd.f3 Rows.frameSealsRow.domain false Rows.frameSealsRow.laid) (((OpenSpec.ofChange Rows.frameSealsSpec).at F).post enc Tryd.prog Tryd.f3 false true false false) := by
  obtain ⟨places, hx⟩ := reads os enc
  refine returnsInHanded_of_row (C := Tryd.checked) (s := (OpenSpec.ofChange Rows.frameSealsSpec)) own started (by kernel_rfl) Tryd.func3
    (witness_row_atRef (enc := enc) (C := Tryd.checked) false (World.doorLaid Tryd.prog 400 os) #[.int .i64 0, .slice none 0 0] rfl (by kernel_rfl) (by kernel_rfl) (by kernel_rfl)
      (OpenSpec.preRow_of_cond 8 hx (by kernel_rfl) (fun k hk => by cases hk) (by kernel_rfl) (door_met os _))) ?_
  intro W base args ds gs before hval hW _ hcond hsz hL _ _
  exact contract H enc W base args ds gs before hval hW hsz hL

theorem said : Rows.FrameSealsSaid :=
  OpenClaim.holds_of_cond 3 Tryd.f3 rfl rfl rfl rfl rfl rfl rfl ⟨rfl, rfl, rfl, rfl, rfl⟩ rfl rfl rfl rfl rfl (by kernel_rfl) Tryd.func3 (by kernel_rfl)
    (of_decide_eq_true (by kernel_rfl)) (by unfold Func.isWrapper; first | (rw [if_pos (by decide +kernel)]; kernel_rfl) | (rw [if_neg (by decide +kernel)]; exact ⟨rfl, rfl⟩))
    (fun os started H enc _ F => by rw [OpenClaim.pre_eq_preRow]; exact lifted os started H enc F)

theorem plain (f : FuncId) (fn : Func) (hf : Tryd.pinned.checked.prog.funcNamed "moot/mootlaw7.FrameSeals" = some f) (hfn : Tryd.pinned.checked.prog.funcs[f]? = some fn) :
    true = Tryd.pinned.checked.prog.looks [] ∧ ∀ (j : Nat) t, fn.params[j]? = some t → Tryd.pinned.checked.prog.wantsStandIn t = false := by
  obtain rfl : f = 3 := Option.some.inj ((show Tryd.prog.funcNamed "moot/mootlaw7.FrameSeals" = some 3 by kernel_rfl).symm.trans hf) |>.symm
  obtain rfl : fn = Tryd.f3 := (Option.some.inj (Tryd.func3.symm.trans hfn)).symm
  refine ⟨by kernel_rfl, fun j t ht => ?_⟩
  rw [Tryd.params3] at ht
  have hm : t ∈ [3, 22] := by simpa using Array.mem_of_getElem? ht
  have hall : ([3, 22].all fun u => !Tryd.prog.wantsStandIn u) = true := by kernel_rfl
  exact (show Tryd.prog.wantsStandIn t = false by simpa using List.all_eq_true.1 hall t hm)

end frameSeals
theorem frameSeals_proved : Rows.FrameSealsCardSaid :=
  Claim7.holds_tied_plain_at .later [] _ _ _ _ frameSeals.said (fun _ h => by cases h) (by kernel_rfl) (fun _ h => by cases h) frameSeals_row_tie rfl ⟨rfl, rfl⟩ (by kernel_rfl) rfl frameSeals.plain (by kernel_rfl)
#print axioms frameSeals_proved
end Go.Proofs.YtnlohbfolphafaaDoor
