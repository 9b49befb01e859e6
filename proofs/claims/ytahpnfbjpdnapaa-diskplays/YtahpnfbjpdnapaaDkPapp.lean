/- The statements' pair of disks: appended. -/
import Derived.Test.YtahpnfbjpdnapaaDkStp
import Derived.Test.YtahpnfbjpdnapaaDkRRot
import Derived.Test.YtahpnfbjpdnapaaDkTornA
namespace Go.Proofs.Ytahpnfbjpdnapaa
open Go.RowKit Go.Wire1 Go.MuLone

theorem ee_byt17 {R : List Int} {k : Nat} (h : Byt R) : Byt (List.replicate k 17 ++ R.drop k) := fun z hz => (List.mem_append.1 hz).elim (fun h2 => by rw [List.eq_of_mem_replicate h2]; decide) (byt_drop h k z)
theorem RDst.seg {w w' : World} {b : Nat} {sv tv sv' tv' : Value} {S' T' : List Int} {E0 : Nat} (h : RDst w w' b sv tv sv' tv' S' T' E0) {a : Option Addr} {n : Nat} {l : List Int} (hs : Seg w a n l) (hsep : ∀ x, a = some x → 0 < n → x.block ≠ b ∧ sv.ownBlock ≠ some x.block ∧ tv.ownBlock ≠ some x.block) : Seg w' a n l := by
  refine ⟨hs.1, hs.2.1, fun hn => ?_⟩
  obtain ⟨c, off, rfl, hc⟩ := hs.2.2 hn
  obtain ⟨s1, s2, s3⟩ := hsep _ rfl hn
  exact ⟨c, off, rfl, fun j hj => by rw [World.cell?_of_block (w := w) (h.block c (cell_lt (hc j hj)) s1 s2 s3)]; exact hc j hj⟩

set_option maxHeartbeats 8000000 in
set_option maxRecDepth 100000 in
theorem papp_no (w : World) (ro : Nat → Nat) (o pb b rb : Nat) (pv sv tv rv : Value) (S T R : List Int) (E0 : Nat) (h : Par w ro o pb b rb pv sv tv rv S T R E0) (kd : Int) (sc : Bool) (ai xi ti : Int) (da : Option Addr) (dn dc n : Nat) (dl FL : List Int) (hs : Seg w da dn dl) (hy : Byt dl) (htop : dn ≤ 140737488351232) (ht : I64 ti) (hda : ∀ x, da = some x → 0 < dn → x.block < w.heap.size ∧ (ro x.block < o + 1 ∨ o + 4 < ro x.block)) (hFL : FL = fillL dl ti) (hFn : FL.length = n) (hfit : 4194304 < S.length + T.length + n) :
    Calls Try.prog 29 #[.pointer (some ⟨pb, 0, none⟩), .agg #[.int .i64 kd, .bool sc, .int .i64 ai, .int .i64 xi, .int .i64 ti, .slice da dn dc]] w fun r w' => r = .returned (.bool true) ∧ Stp9 w w' ro o pb E0 := by
  obtain ⟨OB, hOB⟩ : ∃ OB, OB = Obj.cells #[.int .i64 kd, .bool sc, .int .i64 ai, .int .i64 xi, .int .i64 ti, .slice da dn dc] 33 := ⟨_, rfl⟩
  obtain ⟨ro1, hro1⟩ : ∃ ro1 : Nat → Nat, ro1 = fun k => if k < w.heap.size then ro k else 0 := ⟨_, rfl⟩
  have AG1 : Hid (∀ k, k < w.heap.size → ro1 k = ro k) := fun k hk => by rw [hro1]; exact if_pos hk
  have RX1 : Hid (ro1 w.heap.size = 0) := by rw [hro1]; exact if_neg (Nat.lt_irrefl _)
  have hA : Below w.heap.size w (w.alloc OB) := (Below.refl _ _).alloc (Nat.le_refl _) _
  have PA := hide ((h.rerole AG1.out).later hA)
  have BA := hide hA
  have hrvl : Hid (∀ j, rv.ownBlock = some j → j < w.heap.size) := fun j hj => (h.room.lt j hj).2
  have SD0 := hide (hs.below hA (Nat.le_refl _))
  have HDA := hide hda
  have HFL := hide hFL
  have HFN := hide hFn
  have hyF : Hid (Byt FL) := by rw [hFL]; exact fillL_byt hy _
  have hn47 : n ≤ 140737488351232 := by rw [← hFn, hFL]; exact fillL_len dl ti (by rw [hs.1]; exact htop)
  have BOXA : Hid (Blk (w.alloc OB) w.heap.size [.int .i64 kd, .bool sc, .int .i64 ai, .int .i64 xi, .int .i64 ti, .slice da dn dc]) := by rw [hOB]; exact blk_new w _ [.int .i64 kd, .bool sc, .int .i64 ai, .int .i64 xi, .int .i64 ti, .slice da dn dc]
  obtain ⟨m3, hm3⟩ : ∃ m3, m3 = n + 3 := ⟨_, rfl⟩
  have HOB := hide hOB
  have HM3 := hide hm3
  have HFIT := hide hfit
  clear hA h hs hy hda hFL hFn hm3 hfit hro1
  go_enter Try.func29, Try.ntmps29
  go_wp2_with fail
  rw [← HOB.out]
  clear hOB
  refine (filled_any da dn dc dl ti _ SD0.out htop ht).mono ?_
  rintro e w1 ⟨v1, rfl, hown1, hb1⟩
  rw [← HFL.out, HFN.out] at hown1
  have hv1 : Hid (∀ j, v1.ownBlock = some j → w.heap.size < j) := fun j hj => by have := (hown1.lt j hj).1; simp only [sz_alloc] at this; omega
  obtain ⟨fa, fc, rfl⟩ := own_shape hown1
  obtain ⟨fa', fc', ef, _, _, sg1⟩ := seg_own (l := FL) (by rw [HFN.out]; exact hown1)
  rw [HFN.out] at ef sg1
  cases ef
  have P1 := hide (PA.out.later hb1)
  have B1 := hide (BA.out.trans (hb1.mono BA.out.size))
  have SG1 := hide sg1
  have BX1 := hide (BOXA.out.on hb1)
  have SD1 := hide (SD0.out.below hb1 (Nat.le_refl _))
  have Z1 : Hid (w.heap.size < w1.heap.size) := by have := hb1.size; simp only [sz_alloc] at this; show _ < _; omega
  clear hown1 hb1 sg1 SD0 BOXA PA BA
  go_wp2_with fail
  refine (lay_any _ ro1 o pb b rb pv sv tv rv S T R E0 P1.out fa n fc m3 FL SG1.out hyF.out (fun x hx h0 e => by have h1 := hv1.out x.block (by rw [hx]; rfl); have h2 := hrvl.out x.block e; omega) hn47 HM3.out).mono ?_
  rintro e w2 ⟨g, c, rn, R', rfl, L2⟩
  have HL2 := hide L2
  have hrc : n + 3 ≤ c := by have := L2.le; have := L2.mine.2.2.1; omega
  have hcm : c ≤ 9223372036854775807 := by have := L2.mine.2.2.2.1; unfold maxLen at this; omega
  obtain ⟨ro2, hag2, hg4, hP2, hk2⟩ := P1.out.lay L2
  have P2 := hide hP2
  have AG2 := hide hag2
  have HG4 := hide hg4
  have K2 := hide hk2
  have Z2 := hide L2.tch.size
  have RX2 : Hid (ro2 w.heap.size = 0) := (AG2.out _ Z1.out).trans RX1.out
  have DA1 : Hid (∀ x, da = some x → 0 < dn → x.block < w1.heap.size ∧ (ro1 x.block < o + 1 ∨ o + 4 < ro1 x.block)) := fun x hx h0 => by
    obtain ⟨h1, h2⟩ := HDA.out x hx h0
    rw [AG1.out _ h1]
    exact ⟨Nat.lt_trans h1 Z1.out, h2⟩
  have DA2 : Hid (∀ x, da = some x → 0 < dn → x.block < w2.heap.size ∧ (ro2 x.block < o + 1 ∨ o + 4 < ro2 x.block)) := fun x hx h0 => by
    obtain ⟨h1, h2⟩ := DA1.out x hx h0
    rw [AG2.out _ h1]
    exact ⟨Nat.lt_of_lt_of_le h1 Z2.out, h2⟩
  have BX2 := hide (BX1.out.of_block (K2.out _ Z1.out (by have := RX1.out; omega) (by have := RX1.out; omega)))
  have SEG2 : Hid (Seg w2 (some ⟨g, 0, none⟩) n FL) := by
    have h1 := L2.mine.seg.take (k := n) (by have := L2.le; omega)
    have h2 : R'.take n = FL := by
      have h3 := congrArg (List.take n) L2.tk
      rw [List.take_take, Nat.min_eq_left (by omega), List.take_left' HFN.out] at h3
      exact h3
    rw [h2] at h1
    exact h1
  have SEGM : Hid (Seg w2 (some ⟨g, 0, none⟩) m3 (FL ++ [91, 92, 93])) := by
    have h1 := L2.mine.seg.take (k := n + 3) L2.le
    rw [L2.tk, ← HM3.out] at h1
    exact h1
  have SD2 : Hid (Seg w2 da dn dl) := L2.tch.seg SD1.out (fun x hx h0 => ⟨fun e => by have h1 := (DA1.out x hx h0).2; have h2 := P1.out.q1; rw [e] at h1; omega, fun e => by have h1 := (DA1.out x hx h0).2; have h2 := P1.out.q4 _ e.symm; omega⟩)
  have c20 := hP2.box.cell 0 _ rfl
  have c21 := hP2.box.cell 1 _ rfl
  have q3 : (n : Int) ≤ (c : Int) := by omega
  have PB2 : Hid (pb < w2.heap.size) := hP2.box.lt
  have PR2 : Hid (pb ≠ rb ∧ sv.ownBlock ≠ some pb ∧ tv.ownBlock ≠ some pb) := hP2.rfree (by have := hP2.q1; omega)
  have PD2 : Hid (pb ≠ b ∧ some pb ≠ pv.ownBlock) := hP2.dfree (by have := hP2.q1; omega)
  have XW2 : Hid (w.heap.size < w2.heap.size) := by have := Z1.out; have := Z2.out; show _ < _; omega
  clear L2 SD1 SG1 BX1 hv1 hag2 hP2 hk2 hg4
  go_wp2_with fail
  go_region_held3 (fun w' => w'.cell? ⟨pb, 1, none⟩ = some (.pointer (some ⟨rb, 0, none⟩))) (first | exact c21 | go_keep | (rw [hb3.cell (by exact PB2.out)]; assumption)) ((go_at_call 39; refine (rappend_no _ rb sv tv S T E0 _ n c (P2.out.r.drew _) (by omega) HFIT.out).mono ?_; rintro e w3 ⟨rfl, hb3⟩))
  have B3 : Hid (Below w2.heap.size w2 w3) := ⟨hb3.os, hb3.tape, hb3.output, hb3.size, hb3.block⟩
  have R3 := hide (P2.out.r.stay B3.out)
  clear hb3 B3
  clear c21
  have BX3 : Hid (Blk w3 w.heap.size [.int .i64 kd, .bool sc, .int .i64 ai, .int .i64 xi, .int .i64 ti, .slice da dn dc]) := by
    obtain ⟨r1, r2, r3⟩ := P2.out.rfree (k := w.heap.size) (by have := RX2.out; omega)
    exact BX2.out.of_block (R3.out.block _ XW2.out r1 r2 r3)
  have SD3 : Hid (Seg w3 da dn dl) := R3.out.seg SD2.out (fun x hx h0 => P2.out.rfree (by have := (DA2.out x hx h0).2; omega))
  have SEG3 : Hid (Seg w3 (some ⟨g, 0, none⟩) n FL) := R3.out.seg SEG2.out (fun x hx _ => by cases hx; exact P2.out.rfree (by have := HG4.out; show ro2 g ≠ _; omega))
  have SEGM3 : Hid (Seg w3 (some ⟨g, 0, none⟩) m3 (FL ++ [91, 92, 93])) := R3.out.seg SEGM.out (fun x hx _ => by cases hx; exact P2.out.rfree (by have := HG4.out; show ro2 g ≠ _; omega))
  have DK3 : Hid (Dsk 0 w3 b pv (S ++ T) S.length E0) := by
    refine P2.out.d.on ?_ (fun j hj => ?_)
    · obtain ⟨r1, r2, r3⟩ := P2.out.rfree (k := b) (by have := P2.out.q2 b (.inl rfl); omega)
      exact R3.out.block _ P2.out.d.box.lt r1 r2 r3
    · obtain ⟨r1, r2, r3⟩ := P2.out.rfree (k := j) (by have := P2.out.q2 j (.inr hj); omega)
      exact R3.out.block _ (P2.out.d.own.lt j hj).2 r1 r2 r3
  have c30 : w3.cell? ⟨pb, 0, none⟩ = some (.pointer (some ⟨b, 0, none⟩)) := (World.cell?_of_block (R3.out.block pb PB2.out PR2.out.1 PR2.out.2.1 PR2.out.2.2)).trans c20
  have Z3 := hide R3.out.size
  have PB3 : Hid (pb < w3.heap.size) := Nat.lt_of_lt_of_le PB2.out Z3.out
  clear c20
  go_wp2_with fail
  go_region_held3 (fun w' => w'.cell? ⟨pb, 0, none⟩ = some (.pointer (some ⟨b, 0, none⟩))) (first | exact c30 | go_keep | (rw [hb4.cell (by exact PB3.out)]; assumption)) ((go_at_call 17; refine (append_no _ b pv (S ++ T) S.length E0 _ n c (DK3.out.later (below_drewN' (Below.refl _ _) _)) (by rw [List.length_append]; exact HFIT.out)).mono ?_; rintro e w4 ⟨rfl, hb4⟩))
  have B4 : Hid (Below w3.heap.size w3 w4) := ⟨hb4.os, hb4.tape, hb4.output, hb4.size, hb4.block⟩
  have D4 := hide (DK3.out.stay B4.out)
  clear hb4 B4
  clear c30
  have BX4 : Blk w4 w.heap.size [.int .i64 kd, .bool sc, .int .i64 ai, .int .i64 xi, .int .i64 ti, .slice da dn dc] := by
    obtain ⟨d1, d2⟩ := P2.out.dfree (k := w.heap.size) (by have := RX2.out; omega)
    exact BX3.out.of_block (D4.out.tch.block _ (Nat.lt_of_lt_of_le XW2.out Z3.out) d1 d2)
  have SD4 : Hid (Seg w4 da dn dl) := D4.out.tch.seg SD3.out (fun x hx h0 => P2.out.dfree (by have := (DA2.out x hx h0).2; omega))
  have SEGM4 : Hid (Seg w4 (some ⟨g, 0, none⟩) m3 (FL ++ [91, 92, 93])) := D4.out.tch.seg SEGM3.out (fun x hx _ => by cases hx; exact P2.out.dfree (by have := HG4.out; show ro2 g ≠ _; omega))
  obtain ⟨ro4, hag4, hP4, hk4⟩ := P2.out.rd R3.out D4.out
  have P4 := hide hP4
  have AG4 := hide hag4
  have K4 := hide hk4
  clear hag4 hP4 hk4
  have k0 := BX4.cell 0 _ rfl
  have k1 := BX4.cell 1 _ rfl
  have k2 := BX4.cell 2 _ rfl
  have k3 := BX4.cell 3 _ rfl
  have k4 := BX4.cell 4 _ rfl
  have k5 := BX4.cell 5 _ rfl
  clear BX4
  go_wp2_with fail
  refine (still_yes _ g m3 c n FL kd sc ai xi ti da dn dc dl SEGM4.out SD4.out HFL.out HFN.out HM3.out hn47).mono ?_
  rintro e w5 ⟨rfl, hb5⟩
  have B5 : Hid (Below w4.heap.size w4 w5) := ⟨hb5.os, hb5.tape, hb5.output, hb5.size, hb5.block⟩
  have P5 := hide (P4.out.later B5.out)
  clear k0 k1 k2 k3 k4 k5 hb5
  have M5 : Hid (Mine w5 E0 g rn c R') := ⟨by have := P5.out.room; rw [HL2.out.mine.2.1] at this; exact this, HL2.out.mine.2⟩
  have hmr : m3 ≤ rn := by have := HL2.out.le; have := HM3.out; omega
  have HRN : Hid (R'.length = rn) := HL2.out.mine.2.1
  have hrt : rn ≤ 140737488351235 := HL2.out.top
  go_wp2
  go_loopw [9] (fun iv wr => ∃ k : Nat, iv = .int .i64 (k : Int) ∧ k ≤ m3 ∧ Hid (Mine wr E0 g rn c (List.replicate k 17 ++ R'.drop k)) ∧ Hid (Tch g none w5 wr)) (fun iv _ => m3 - (intOf iv).toNat)
  case atStart => exact ⟨0, rfl, Nat.zero_le _, M5, Tch.refl _ _ _⟩
  case round =>
    obtain ⟨k, rfl, hk, HMk, HTk⟩ := hrel
    by_cases hlt : k < m3
    · have kg : wr.cell? ⟨g, k, none⟩ = some (.int .u8 ((List.replicate k 17 ++ R'.drop k).getD k 0)) := by
        obtain ⟨b9, o9, e9, h9⟩ := HMk.out.seg.2.2 (by omega)
        cases e9
        have := h9 k (by omega)
        rw [Nat.zero_add] at this
        exact this
      have fg : wr.frozen? ⟨g, k, none⟩ = false := by
        rcases HMk.out.1.2 with ⟨e, _⟩ | ⟨g', cap', cur, e, _, hh, _⟩
        · cases e
        · cases e; exact frozen_of_row wr g k cur 5 hh
      have HMn : Hid (Mine (wr.setCell ⟨g, k, none⟩ (.int .u8 17)) E0 g rn c (List.replicate (k + 1) 17 ++ R'.drop (k + 1))) := by
        have := HMk.out.store k 17
        rw [ee_set (by rw [HRN.out]; omega)] at this
        exact this
      have HTn : Hid (Tch g none w5 (wr.setCell ⟨g, k, none⟩ (.int .u8 17))) := HTk.out.setB _
      have q9 : (k : Int) < (m3 : Int) := by omega
      generalize (List.replicate k 17 ++ R'.drop k).getD k 0 = y at *
      go_wp2
      go_roundw
      case rel => exact ⟨k + 1, by go_num, by omega, HMn, HTn⟩
      case measure => simp [intOf]; omega
    · obtain rfl : m3 = k := by omega
      have HRB : Hid (Byt (List.replicate m3 (17 : Int) ++ R'.drop m3)) := ee_byt17 HL2.out.byt
      have P9 := hide (P5.out.reroom HTk.out HMk.out HRB.out)
      have ST : Hid (Stp9 w wr ro o pb E0) := by
        have z1 := B1.out.size
        have z2 := Z2.out
        have z3 := Z3.out
        have z4 := D4.out.tch.size
        have z5 := B5.out.size
        have z6 := HTk.out.size
        have ag : ∀ k, k < w.heap.size → ro4 k = ro k := fun k hk => (AG4.out k (by omega)).trans ((AG2.out k (by omega)).trans (AG1.out k hk))
        refine ⟨⟨ro4, _, _, _, _, _, _, _, _, _, ag, P9.out⟩, ?_, ?_, ?_, by omega, fun k hk hr => ?_⟩
        · rw [HTk.out.os, B5.out.os, D4.out.tch.os, R3.out.os, HL2.out.tch.os, B1.out.os]
        · rw [HTk.out.tape, B5.out.tape, D4.out.tch.tape, R3.out.tape, HL2.out.tch.tape, B1.out.tape]
        · rw [HTk.out.output, B5.out.output, D4.out.tch.output, R3.out.output, HL2.out.tch.output, B1.out.output]
        · have e1 := AG1.out k hk
          have e2 := AG2.out k (by omega)
          have hg := HG4.out
          rw [HTk.out.block k (by omega) (fun e => by rw [e] at e2 hr e1; omega) (fun e => by cases e), B5.out.block k (by omega), K4.out k (by omega) (by omega) (by omega), K2.out k (by omega) (by omega) (by omega), B1.out.block k hk]
      clear P9 HMk HTk HRB
      go_wp2_with fail
      refine (num9_any 91 _).mono ?_
      rintro e w9 ⟨rfl, rfl⟩
      go_wp2
      go_ret
      exact ⟨rfl, ST.out⟩

set_option maxHeartbeats 8000000 in
set_option maxRecDepth 100000 in
theorem papp_yes (w : World) (ro : Nat → Nat) (o pb b rb : Nat) (pv sv tv rv : Value) (S T R : List Int) (E0 : Nat) (h : Par w ro o pb b rb pv sv tv rv S T R E0) (kd : Int) (sc : Bool) (ai xi ti : Int) (da : Option Addr) (dn dc n : Nat) (dl FL : List Int) (hs : Seg w da dn dl) (hy : Byt dl) (htop : dn ≤ 140737488351232) (ht : I64 ti) (hda : ∀ x, da = some x → 0 < dn → x.block < w.heap.size ∧ (ro x.block < o + 1 ∨ o + 4 < ro x.block)) (hFL : FL = fillL dl ti) (hFn : FL.length = n) (hfit : S.length + T.length + n ≤ 4194304) :
    Calls Try.prog 29 #[.pointer (some ⟨pb, 0, none⟩), .agg #[.int .i64 kd, .bool sc, .int .i64 ai, .int .i64 xi, .int .i64 ti, .slice da dn dc]] w fun r w' => r = .returned (.bool true) ∧ Stp9 w w' ro o pb E0 := by
  obtain ⟨OB, hOB⟩ : ∃ OB, OB = Obj.cells #[.int .i64 kd, .bool sc, .int .i64 ai, .int .i64 xi, .int .i64 ti, .slice da dn dc] 33 := ⟨_, rfl⟩
  obtain ⟨ro1, hro1⟩ : ∃ ro1 : Nat → Nat, ro1 = fun k => if k < w.heap.size then ro k else 0 := ⟨_, rfl⟩
  have AG1 : Hid (∀ k, k < w.heap.size → ro1 k = ro k) := fun k hk => by rw [hro1]; exact if_pos hk
  have RX1 : Hid (ro1 w.heap.size = 0) := by rw [hro1]; exact if_neg (Nat.lt_irrefl _)
  have hA : Below w.heap.size w (w.alloc OB) := (Below.refl _ _).alloc (Nat.le_refl _) _
  have PA := hide ((h.rerole AG1.out).later hA)
  have BA := hide hA
  have hrvl : Hid (∀ j, rv.ownBlock = some j → j < w.heap.size) := fun j hj => (h.room.lt j hj).2
  have SD0 := hide (hs.below hA (Nat.le_refl _))
  have HDA := hide hda
  have HFL := hide hFL
  have HFN := hide hFn
  have hyF : Hid (Byt FL) := by rw [hFL]; exact fillL_byt hy _
  have hn47 : n ≤ 140737488351232 := by rw [← hFn, hFL]; exact fillL_len dl ti (by rw [hs.1]; exact htop)
  have BOXA : Hid (Blk (w.alloc OB) w.heap.size [.int .i64 kd, .bool sc, .int .i64 ai, .int .i64 xi, .int .i64 ti, .slice da dn dc]) := by rw [hOB]; exact blk_new w _ [.int .i64 kd, .bool sc, .int .i64 ai, .int .i64 xi, .int .i64 ti, .slice da dn dc]
  obtain ⟨m3, hm3⟩ : ∃ m3, m3 = n + 3 := ⟨_, rfl⟩
  have HOB := hide hOB
  have HM3 := hide hm3
  have HFIT := hide hfit
  clear hA h hs hy hda hFL hFn hm3 hfit hro1
  go_enter Try.func29, Try.ntmps29
  go_wp2_with fail
  rw [← HOB.out]
  clear hOB
  refine (filled_any da dn dc dl ti _ SD0.out htop ht).mono ?_
  rintro e w1 ⟨v1, rfl, hown1, hb1⟩
  rw [← HFL.out, HFN.out] at hown1
  have hv1 : Hid (∀ j, v1.ownBlock = some j → w.heap.size < j) := fun j hj => by have := (hown1.lt j hj).1; simp only [sz_alloc] at this; omega
  obtain ⟨fa, fc, rfl⟩ := own_shape hown1
  obtain ⟨fa', fc', ef, _, _, sg1⟩ := seg_own (l := FL) (by rw [HFN.out]; exact hown1)
  rw [HFN.out] at ef sg1
  cases ef
  have P1 := hide (PA.out.later hb1)
  have B1 := hide (BA.out.trans (hb1.mono BA.out.size))
  have SG1 := hide sg1
  have BX1 := hide (BOXA.out.on hb1)
  have SD1 := hide (SD0.out.below hb1 (Nat.le_refl _))
  have Z1 : Hid (w.heap.size < w1.heap.size) := by have := hb1.size; simp only [sz_alloc] at this; show _ < _; omega
  clear hown1 hb1 sg1 SD0 BOXA PA BA
  go_wp2_with fail
  refine (lay_any _ ro1 o pb b rb pv sv tv rv S T R E0 P1.out fa n fc m3 FL SG1.out hyF.out (fun x hx h0 e => by have h1 := hv1.out x.block (by rw [hx]; rfl); have h2 := hrvl.out x.block e; omega) hn47 HM3.out).mono ?_
  rintro e w2 ⟨g, c, rn, R', rfl, L2⟩
  have HL2 := hide L2
  have hrc : n + 3 ≤ c := by have := L2.le; have := L2.mine.2.2.1; omega
  have hcm : c ≤ 9223372036854775807 := by have := L2.mine.2.2.2.1; unfold maxLen at this; omega
  obtain ⟨ro2, hag2, hg4, hP2, hk2⟩ := P1.out.lay L2
  have P2 := hide hP2
  have AG2 := hide hag2
  have HG4 := hide hg4
  have K2 := hide hk2
  have Z2 := hide L2.tch.size
  have RX2 : Hid (ro2 w.heap.size = 0) := (AG2.out _ Z1.out).trans RX1.out
  have DA1 : Hid (∀ x, da = some x → 0 < dn → x.block < w1.heap.size ∧ (ro1 x.block < o + 1 ∨ o + 4 < ro1 x.block)) := fun x hx h0 => by
    obtain ⟨h1, h2⟩ := HDA.out x hx h0
    rw [AG1.out _ h1]
    exact ⟨Nat.lt_trans h1 Z1.out, h2⟩
  have DA2 : Hid (∀ x, da = some x → 0 < dn → x.block < w2.heap.size ∧ (ro2 x.block < o + 1 ∨ o + 4 < ro2 x.block)) := fun x hx h0 => by
    obtain ⟨h1, h2⟩ := DA1.out x hx h0
    rw [AG2.out _ h1]
    exact ⟨Nat.lt_of_lt_of_le h1 Z2.out, h2⟩
  have BX2 := hide (BX1.out.of_block (K2.out _ Z1.out (by have := RX1.out; omega) (by have := RX1.out; omega)))
  have SEG2 : Hid (Seg w2 (some ⟨g, 0, none⟩) n FL) := by
    have h1 := L2.mine.seg.take (k := n) (by have := L2.le; omega)
    have h2 : R'.take n = FL := by
      have h3 := congrArg (List.take n) L2.tk
      rw [List.take_take, Nat.min_eq_left (by omega), List.take_left' HFN.out] at h3
      exact h3
    rw [h2] at h1
    exact h1
  have SEGM : Hid (Seg w2 (some ⟨g, 0, none⟩) m3 (FL ++ [91, 92, 93])) := by
    have h1 := L2.mine.seg.take (k := n + 3) L2.le
    rw [L2.tk, ← HM3.out] at h1
    exact h1
  have SD2 : Hid (Seg w2 da dn dl) := L2.tch.seg SD1.out (fun x hx h0 => ⟨fun e => by have h1 := (DA1.out x hx h0).2; have h2 := P1.out.q1; rw [e] at h1; omega, fun e => by have h1 := (DA1.out x hx h0).2; have h2 := P1.out.q4 _ e.symm; omega⟩)
  have c20 := hP2.box.cell 0 _ rfl
  have c21 := hP2.box.cell 1 _ rfl
  have q3 : (n : Int) ≤ (c : Int) := by omega
  have PB2 : Hid (pb < w2.heap.size) := hP2.box.lt
  have PR2 : Hid (pb ≠ rb ∧ sv.ownBlock ≠ some pb ∧ tv.ownBlock ≠ some pb) := hP2.rfree (by have := hP2.q1; omega)
  have PD2 : Hid (pb ≠ b ∧ some pb ≠ pv.ownBlock) := hP2.dfree (by have := hP2.q1; omega)
  have XW2 : Hid (w.heap.size < w2.heap.size) := by have := Z1.out; have := Z2.out; show _ < _; omega
  clear L2 SD1 SG1 BX1 hv1 hag2 hP2 hk2 hg4
  go_wp2_with fail
  go_region_held3 (fun w' => w'.cell? ⟨pb, 1, none⟩ = some (.pointer (some ⟨rb, 0, none⟩))) (first | exact c21 | go_keep | (rw [World.cell?_of_block (hr3.block pb (by exact PB2.out) PR2.out.1 PR2.out.2.1 PR2.out.2.2)]; assumption)) ((go_at_call 39; refine (rappend_yes _ rb sv tv S T E0 _ n c FL (P2.out.r.drew _) (by exact SEG2.out) HFIT.out).mono ?_; rintro e w3 ⟨rfl, tv', hr3⟩))
  have R3 : Hid (RDst w2 w3 rb sv tv sv tv' S (T ++ FL) E0) := hr3.ofDrew
  clear hr3
  clear c21
  have BX3 : Hid (Blk w3 w.heap.size [.int .i64 kd, .bool sc, .int .i64 ai, .int .i64 xi, .int .i64 ti, .slice da dn dc]) := by
    obtain ⟨r1, r2, r3⟩ := P2.out.rfree (k := w.heap.size) (by have := RX2.out; omega)
    exact BX2.out.of_block (R3.out.block _ XW2.out r1 r2 r3)
  have SD3 : Hid (Seg w3 da dn dl) := R3.out.seg SD2.out (fun x hx h0 => P2.out.rfree (by have := (DA2.out x hx h0).2; omega))
  have SEG3 : Hid (Seg w3 (some ⟨g, 0, none⟩) n FL) := R3.out.seg SEG2.out (fun x hx _ => by cases hx; exact P2.out.rfree (by have := HG4.out; show ro2 g ≠ _; omega))
  have SEGM3 : Hid (Seg w3 (some ⟨g, 0, none⟩) m3 (FL ++ [91, 92, 93])) := R3.out.seg SEGM.out (fun x hx _ => by cases hx; exact P2.out.rfree (by have := HG4.out; show ro2 g ≠ _; omega))
  have DK3 : Hid (Dsk 0 w3 b pv (S ++ T) S.length E0) := by
    refine P2.out.d.on ?_ (fun j hj => ?_)
    · obtain ⟨r1, r2, r3⟩ := P2.out.rfree (k := b) (by have := P2.out.q2 b (.inl rfl); omega)
      exact R3.out.block _ P2.out.d.box.lt r1 r2 r3
    · obtain ⟨r1, r2, r3⟩ := P2.out.rfree (k := j) (by have := P2.out.q2 j (.inr hj); omega)
      exact R3.out.block _ (P2.out.d.own.lt j hj).2 r1 r2 r3
  have c30 : w3.cell? ⟨pb, 0, none⟩ = some (.pointer (some ⟨b, 0, none⟩)) := (World.cell?_of_block (R3.out.block pb PB2.out PR2.out.1 PR2.out.2.1 PR2.out.2.2)).trans c20
  have Z3 := hide R3.out.size
  have PB3 : Hid (pb < w3.heap.size) := Nat.lt_of_lt_of_le PB2.out Z3.out
  clear c20
  go_wp2_with fail
  go_region_held3 (fun w' => w'.cell? ⟨pb, 0, none⟩ = some (.pointer (some ⟨b, 0, none⟩))) (first | exact c30 | go_keep | (rw [World.cell?_of_block (hd4.tch.block pb (by exact PB3.out) PD2.out.1 PD2.out.2)]; assumption)) ((go_at_call 17; refine (append_yes _ b pv (S ++ T) S.length E0 _ n c FL (DK3.out.later (below_drewN' (Below.refl _ _) _)) (by exact SEG3.out) hyF.out (fun e => by cases e) (fun x hx _ => by cases hx; exact (P2.out.dfree (by have := HG4.out; show ro2 g ≠ _; omega)).1) (by rw [List.length_append]; exact HFIT.out)).mono ?_; rintro e w4 ⟨rfl, pv', hd4⟩))
  have D4 : Hid (Dst 0 w3 w4 b pv pv' (S ++ (T ++ FL)) S.length E0) := by
    rw [List.append_assoc] at hd4
    exact ⟨hd4.dsk, ⟨hd4.tch.os, hd4.tch.tape, hd4.tch.output, hd4.tch.size, hd4.tch.block⟩, hd4.lat⟩
  clear hd4
  clear c30
  have BX4 : Blk w4 w.heap.size [.int .i64 kd, .bool sc, .int .i64 ai, .int .i64 xi, .int .i64 ti, .slice da dn dc] := by
    obtain ⟨d1, d2⟩ := P2.out.dfree (k := w.heap.size) (by have := RX2.out; omega)
    exact BX3.out.of_block (D4.out.tch.block _ (Nat.lt_of_lt_of_le XW2.out Z3.out) d1 d2)
  have SD4 : Hid (Seg w4 da dn dl) := D4.out.tch.seg SD3.out (fun x hx h0 => P2.out.dfree (by have := (DA2.out x hx h0).2; omega))
  have SEGM4 : Hid (Seg w4 (some ⟨g, 0, none⟩) m3 (FL ++ [91, 92, 93])) := D4.out.tch.seg SEGM3.out (fun x hx _ => by cases hx; exact P2.out.dfree (by have := HG4.out; show ro2 g ≠ _; omega))
  obtain ⟨ro4, hag4, hP4, hk4⟩ := P2.out.rd R3.out D4.out
  have P4 := hide hP4
  have AG4 := hide hag4
  have K4 := hide hk4
  clear hag4 hP4 hk4
  have k0 := BX4.cell 0 _ rfl
  have k1 := BX4.cell 1 _ rfl
  have k2 := BX4.cell 2 _ rfl
  have k3 := BX4.cell 3 _ rfl
  have k4 := BX4.cell 4 _ rfl
  have k5 := BX4.cell 5 _ rfl
  clear BX4
  go_wp2_with fail
  refine (still_yes _ g m3 c n FL kd sc ai xi ti da dn dc dl SEGM4.out SD4.out HFL.out HFN.out HM3.out hn47).mono ?_
  rintro e w5 ⟨rfl, hb5⟩
  have B5 : Hid (Below w4.heap.size w4 w5) := ⟨hb5.os, hb5.tape, hb5.output, hb5.size, hb5.block⟩
  have P5 := hide (P4.out.later B5.out)
  clear k0 k1 k2 k3 k4 k5 hb5
  have M5 : Hid (Mine w5 E0 g rn c R') := ⟨by have := P5.out.room; rw [HL2.out.mine.2.1] at this; exact this, HL2.out.mine.2⟩
  have hmr : m3 ≤ rn := by have := HL2.out.le; have := HM3.out; omega
  have HRN : Hid (R'.length = rn) := HL2.out.mine.2.1
  have hrt : rn ≤ 140737488351235 := HL2.out.top
  go_wp2
  go_loopw [9] (fun iv wr => ∃ k : Nat, iv = .int .i64 (k : Int) ∧ k ≤ m3 ∧ Hid (Mine wr E0 g rn c (List.replicate k 17 ++ R'.drop k)) ∧ Hid (Tch g none w5 wr)) (fun iv _ => m3 - (intOf iv).toNat)
  case atStart => exact ⟨0, rfl, Nat.zero_le _, M5, Tch.refl _ _ _⟩
  case round =>
    obtain ⟨k, rfl, hk, HMk, HTk⟩ := hrel
    by_cases hlt : k < m3
    · have kg : wr.cell? ⟨g, k, none⟩ = some (.int .u8 ((List.replicate k 17 ++ R'.drop k).getD k 0)) := by
        obtain ⟨b9, o9, e9, h9⟩ := HMk.out.seg.2.2 (by omega)
        cases e9
        have := h9 k (by omega)
        rw [Nat.zero_add] at this
        exact this
      have fg : wr.frozen? ⟨g, k, none⟩ = false := by
        rcases HMk.out.1.2 with ⟨e, _⟩ | ⟨g', cap', cur, e, _, hh, _⟩
        · cases e
        · cases e; exact frozen_of_row wr g k cur 5 hh
      have HMn : Hid (Mine (wr.setCell ⟨g, k, none⟩ (.int .u8 17)) E0 g rn c (List.replicate (k + 1) 17 ++ R'.drop (k + 1))) := by
        have := HMk.out.store k 17
        rw [ee_set (by rw [HRN.out]; omega)] at this
        exact this
      have HTn : Hid (Tch g none w5 (wr.setCell ⟨g, k, none⟩ (.int .u8 17))) := HTk.out.setB _
      have q9 : (k : Int) < (m3 : Int) := by omega
      generalize (List.replicate k 17 ++ R'.drop k).getD k 0 = y at *
      go_wp2
      go_roundw
      case rel => exact ⟨k + 1, by go_num, by omega, HMn, HTn⟩
      case measure => simp [intOf]; omega
    · obtain rfl : m3 = k := by omega
      have HRB : Hid (Byt (List.replicate m3 (17 : Int) ++ R'.drop m3)) := ee_byt17 HL2.out.byt
      have P9 := hide (P5.out.reroom HTk.out HMk.out HRB.out)
      have ST : Hid (Stp9 w wr ro o pb E0) := by
        have z1 := B1.out.size
        have z2 := Z2.out
        have z3 := Z3.out
        have z4 := D4.out.tch.size
        have z5 := B5.out.size
        have z6 := HTk.out.size
        have ag : ∀ k, k < w.heap.size → ro4 k = ro k := fun k hk => (AG4.out k (by omega)).trans ((AG2.out k (by omega)).trans (AG1.out k hk))
        refine ⟨⟨ro4, _, _, _, _, _, _, _, _, _, ag, P9.out⟩, ?_, ?_, ?_, by omega, fun k hk hr => ?_⟩
        · rw [HTk.out.os, B5.out.os, D4.out.tch.os, R3.out.os, HL2.out.tch.os, B1.out.os]
        · rw [HTk.out.tape, B5.out.tape, D4.out.tch.tape, R3.out.tape, HL2.out.tch.tape, B1.out.tape]
        · rw [HTk.out.output, B5.out.output, D4.out.tch.output, R3.out.output, HL2.out.tch.output, B1.out.output]
        · have e1 := AG1.out k hk
          have e2 := AG2.out k (by omega)
          have hg := HG4.out
          rw [HTk.out.block k (by omega) (fun e => by rw [e] at e2 hr e1; omega) (fun e => by cases e), B5.out.block k (by omega), K4.out k (by omega) (by omega) (by omega), K2.out k (by omega) (by omega) (by omega), B1.out.block k hk]
      clear P9 HMk HTk HRB
      go_wp2_with fail
      refine (num9_any 0 _).mono ?_
      rintro e w9 ⟨rfl, rfl⟩
      go_wp2
      go_ret
      exact ⟨rfl, ST.out⟩

end Go.Proofs.Ytahpnfbjpdnapaa
