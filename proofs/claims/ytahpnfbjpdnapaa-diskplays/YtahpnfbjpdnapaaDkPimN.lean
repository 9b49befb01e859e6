/- The statements' pair of disks: image. -/
import Derived.Test.YtahpnfbjpdnapaaDkPar
namespace Go.Proofs.Ytahpnfbjpdnapaa
open Go.RowKit Go.Wire1 Go.MuLone

theorem ee_set {R : List Int} {k : Nat} {z : Int} (hr : k < R.length) : (List.replicate k z ++ R.drop k).set k z = List.replicate (k + 1) z ++ R.drop (k + 1) := by
  rw [List.set_append_right _ _ (by rw [List.length_replicate]; exact Nat.le_refl _), List.length_replicate, Nat.sub_self, List.drop_eq_getElem_cons hr, List.set_cons_zero, List.replicate_succ', List.append_assoc]
  rfl
theorem ee_len {R : List Int} {k : Nat} {z : Int} (hr : k ≤ R.length) : (List.replicate k z ++ R.drop k).length = R.length := by
  rw [List.length_append, List.length_replicate, List.length_drop]; omega
theorem ee_byt {R : List Int} {k : Nat} (h : Byt R) : Byt (List.replicate k 238 ++ R.drop k) := fun z hz => (List.mem_append.1 hz).elim (fun h2 => by rw [List.eq_of_mem_replicate h2]; decide) (byt_drop h k z)
/-- What image leaves: the room is another one, and else nothing of old has turned. -/
structure Img9 (w w' : World) (ro : Nat → Nat) (o pb b rb : Nat) (rv pv sv tv : Value) (S T : List Int) (E0 : Nat) : Prop where
  ex : ∃ ro' rv' R', (∀ k, k < w.heap.size → ro' k = ro k) ∧ Par w' ro' o pb b rb pv sv tv rv' S T R' E0
  tch : Tch pb rv.ownBlock w w'

set_option maxHeartbeats 8000000 in
set_option maxRecDepth 100000 in
theorem pimage_full (w : World) (ro : Nat → Nat) (o pb b rb : Nat) (pv sv tv rv : Value) (S T R : List Int) (E0 : Nat) (h : Par w ro o pb b rb pv sv tv rv S T R E0) (kd : Int) (sc : Bool) (ai xi ti : Int) (da : Option Addr) (dn dc n : Nat) (dl FL : List Int) (hs : Seg w da dn dl) (hy : Byt dl) (htop : dn ≤ 140737488351232) (ht : I64 ti) (hda : ∀ x, da = some x → 0 < dn → x.block ≠ pb ∧ rv.ownBlock ≠ some x.block) (hFL : FL = fillL dl ti) (hFn : FL.length = n) (hbig : 4194304 < n) :
    Calls Try.prog 35 #[.pointer (some ⟨pb, 0, none⟩), .agg #[.int .i64 kd, .bool sc, .int .i64 ai, .int .i64 xi, .int .i64 ti, .slice da dn dc]] w fun r w' => r = .returned (.bool true) ∧ Img9 w w' ro o pb b rb rv pv sv tv S T E0 := by
  obtain ⟨OB, hOB⟩ : ∃ OB, OB = Obj.cells #[.int .i64 kd, .bool sc, .int .i64 ai, .int .i64 xi, .int .i64 ti, .slice da dn dc] 33 := ⟨_, rfl⟩
  have hA : Below w.heap.size w (w.alloc OB) := (Below.refl _ _).alloc (Nat.le_refl _) _
  have PA := hide (h.later hA)
  have BA := hide hA
  have hE0 : Hid (E0 ≤ w.heap.size) := by have := h.low; have := h.box.lt; show E0 ≤ _; omega
  have hpb : Hid (pb < w.heap.size) := h.box.lt
  have hrvl : Hid (∀ j, rv.ownBlock = some j → j < w.heap.size) := fun j hj => (h.room.lt j hj).2
  have HH := hide h
  have SD0 := hide (hs.below hA (Nat.le_refl _))
  have HDL := hide hs
  have HYD := hide hy
  have HDA := hide hda
  have HFL := hide hFL
  have HFN := hide hFn
  have hyF : Hid (Byt FL) := by rw [hFL]; exact fillL_byt hy _
  have hn47 : n ≤ 140737488351232 := by rw [← hFn, hFL]; exact fillL_len dl ti (by rw [hs.1]; exact htop)
  have BOXA : Hid (Blk (w.alloc OB) w.heap.size [.int .i64 kd, .bool sc, .int .i64 ai, .int .i64 xi, .int .i64 ti, .slice da dn dc]) := by rw [hOB]; exact blk_new w _ [.int .i64 kd, .bool sc, .int .i64 ai, .int .i64 xi, .int .i64 ti, .slice da dn dc]
  obtain ⟨m3, hm3⟩ : ∃ m3, m3 = n + 3 := ⟨_, rfl⟩
  have HOB := hide hOB
  have HM3 := hide hm3
  clear hA h hs hy hda hFL hFn hm3
  go_enter Try.func35, Try.ntmps35
  go_wp2_with fail
  rw [← HOB.out]
  clear hOB
  refine (filled_any da dn dc dl ti _ SD0.out htop ht).mono ?_
  rintro e w1 ⟨v1, rfl, hown1, hb1⟩
  rw [← HFL.out, HFN.out] at hown1
  have hv1 : Hid (∀ j, v1.ownBlock = some j → w.heap.size < j) := fun j hj => by have := (hown1.lt j hj).1; simp only [sz_alloc] at this; omega
  obtain ⟨fa, fc, rfl⟩ := own_shape hown1
  obtain ⟨fa', fc', ef, _, _, sg1⟩ := seg_own (l := FL) (by rw [HFN.out]; exact hown1)
  rw [HFN.out] at ef sg1
  cases ef
  have P1 := hide (PA.out.later hb1)
  have B1 := hide (BA.out.trans (hb1.mono BA.out.size))
  have SG1 := hide sg1
  have BX1 := hide (BOXA.out.on hb1)
  have SD1 := hide (SD0.out.below hb1 (Nat.le_refl _))
  have Z1 : Hid (w.heap.size < w1.heap.size) := by have := hb1.size; simp only [sz_alloc] at this; show _ < _; omega
  clear hown1 hb1 sg1 SD0 BOXA PA BA
  go_wp2_with fail
  refine (lay_any _ ro o pb b rb pv sv tv rv S T R E0 P1.out fa n fc m3 FL SG1.out hyF.out (fun x hx h0 e => by have h1 := hv1.out x.block (by rw [hx]; rfl); have h2 := hrvl.out x.block e; omega) hn47 HM3.out).mono ?_
  rintro e w2 ⟨g, c, rn, R', rfl, L2⟩
  have HL2 := hide L2
  have hrc : n + 3 ≤ c := by have := L2.le; have := L2.mine.2.2.1; omega
  have hcm : c ≤ 9223372036854775807 := by have := L2.mine.2.2.2.1; unfold maxLen at this; omega
  have hw2 : Hid (w2.heap[w.heap.size]? = w1.heap[w.heap.size]?) := L2.tch.block _ Z1.out (by have := hpb.out; omega) (fun e => by have := hrvl.out _ e.symm; omega)
  have BX2 := hide (BX1.out.of_block hw2.out)
  have SEG2 : Hid (Seg w2 (some ⟨g, 0, none⟩) n FL) := by
    have h1 := L2.mine.seg.take (k := n) (by have := L2.le; omega)
    have h2 : R'.take n = FL := by
      have h3 := congrArg (List.take n) L2.tk
      rw [List.take_take, Nat.min_eq_left (by omega), List.take_left' HFN.out] at h3
      exact h3
    rw [h2] at h1
    exact h1
  have SEGM : Hid (Seg w2 (some ⟨g, 0, none⟩) m3 (FL ++ [91, 92, 93])) := by
    have h1 := L2.mine.seg.take (k := n + 3) L2.le
    rw [L2.tk, ← HM3.out] at h1
    exact h1
  have SD2 : Hid (Seg w2 da dn dl) := L2.tch.seg SD1.out (fun x hx h0 => ⟨(HDA.out x hx h0).1, fun e => (HDA.out x hx h0).2 e.symm⟩)
  have Z2 := hide L2.tch.size
  have hgl : Hid (g < w2.heap.size) := (L2.mine.1.lt g rfl).2
  have c22 := BX2.out.cell 2 _ rfl
  have HBL2 : Hid (w.heap.size < w2.heap.size) := by have := Z1.out; have := Z2.out; show _ < _; omega
  have q3 : (n : Int) ≤ (c : Int) := by omega
  clear L2 SD1 SG1 BX1 hv1
  go_wp2_with fail
  go_region_held3 (fun w' => w'.cell? ⟨w.heap.size, 2, none⟩ = some (.int .i64 ai)) (first | exact c22 | go_keep | (rw [hb3.cell (by exact HBL2.out)]; assumption)) ((go_at_call 46; refine (rimage_full _ n c ai _ hbig).mono ?_; rintro e w3 ⟨rfl, hb3⟩))
  have B3 : Hid (Below w2.heap.size w2 w3) := ⟨hb3.os, hb3.tape, hb3.output, hb3.size, hb3.block⟩
  clear hb3
  have BX3 := hide (BX2.out.on B3.out)
  have SEG3 := hide (SEG2.out.below B3.out (Nat.le_refl _))
  have c23 := BX3.out.cell 2 _ rfl
  have HBL3 : Hid (w.heap.size < w3.heap.size) := Nat.lt_of_lt_of_le HBL2.out B3.out.size
  clear c22
  go_wp2_with fail
  go_region_held3 (fun w' => w'.cell? ⟨w.heap.size, 2, none⟩ = some (.int .i64 ai)) (first | exact c23 | go_keep | (rw [hb4.cell (by exact HBL3.out)]; assumption)) ((go_at_call 47; refine (image_full _ n c ai _ hbig).mono ?_; rintro e w4 ⟨rfl, hb4⟩))
  have B4 : Hid (Below w3.heap.size w3 w4) := ⟨hb4.os, hb4.tape, hb4.output, hb4.size, hb4.block⟩
  clear hb4
  have BX4 := BX3.out.on B4.out
  have B24 := hide (B3.out.trans (B4.out.mono B3.out.size))
  have SEGM4 := hide (SEGM.out.below B24.out (Nat.le_refl _))
  have SD4 := hide (SD2.out.below B24.out (Nat.le_refl _))
  have k0 := BX4.cell 0 _ rfl
  have k1 := BX4.cell 1 _ rfl
  have k2 := BX4.cell 2 _ rfl
  have k3 := BX4.cell 3 _ rfl
  have k4 := BX4.cell 4 _ rfl
  have k5 := BX4.cell 5 _ rfl
  clear c23 BX4 SEG3
  go_wp2_with fail
  refine (num9_any 91 _).mono ?_
  rintro e w5 ⟨rfl, rfl⟩
  go_wp2_with fail
  refine (still_yes _ g m3 c n FL kd sc ai xi ti da dn dc dl SEGM4.out SD4.out HFL.out HFN.out HM3.out hn47).mono ?_
  rintro e w5 ⟨rfl, hb5⟩
  have B25 := hide (B24.out.trans (hb5.mono B24.out.size))
  clear k0 k1 k2 k3 k4 k5
  have M5 : Hid (Mine w5 E0 g rn c R') := HL2.out.mine.below B25.out (Nat.le_refl _)
  clear hb5
  have hmr : m3 ≤ rn := by have := HL2.out.le; have := HM3.out; omega
  have HRN : Hid (R'.length = rn) := HL2.out.mine.2.1
  have hrt : rn ≤ 140737488351235 := HL2.out.top
  go_wp2
  go_loopw [11] (fun iv wr => ∃ k : Nat, iv = .int .i64 (k : Int) ∧ k ≤ m3 ∧ Hid (Mine wr E0 g rn c (List.replicate k 238 ++ R'.drop k)) ∧ Hid (Tch g none w5 wr)) (fun iv _ => m3 - (intOf iv).toNat)
  case atStart => exact ⟨0, rfl, Nat.zero_le _, M5, Tch.refl _ _ _⟩
  case round =>
    obtain ⟨k, rfl, hk, HMk, HTk⟩ := hrel
    by_cases hlt : k < m3
    · have kg : wr.cell? ⟨g, k, none⟩ = some (.int .u8 ((List.replicate k 238 ++ R'.drop k).getD k 0)) := by
        obtain ⟨b9, o9, e9, h9⟩ := HMk.out.seg.2.2 (by omega)
        cases e9
        have := h9 k (by omega)
        rw [Nat.zero_add] at this
        exact this
      have fg : wr.frozen? ⟨g, k, none⟩ = false := by
        rcases HMk.out.1.2 with ⟨e, _⟩ | ⟨g', cap', cur, e, _, hh, _⟩
        · cases e
        · cases e; exact frozen_of_row wr g k cur 5 hh
      have HMn : Hid (Mine (wr.setCell ⟨g, k, none⟩ (.int .u8 238)) E0 g rn c (List.replicate (k + 1) 238 ++ R'.drop (k + 1))) := by
        have := HMk.out.store k 238
        rw [ee_set (by rw [HRN.out]; omega)] at this
        exact this
      have HTn : Hid (Tch g none w5 (wr.setCell ⟨g, k, none⟩ (.int .u8 238))) := HTk.out.setB _
      have q9 : (k : Int) < (m3 : Int) := by omega
      generalize (List.replicate k 238 ++ R'.drop k).getD k 0 = y at *
      go_wp2
      go_roundw
      case rel => exact ⟨k + 1, by go_num, by omega, HMn, HTn⟩
      case measure => simp [intOf]; omega
    · obtain rfl : m3 = k := by omega
      have HRL : Hid ((List.replicate m3 (238 : Int) ++ R'.drop m3).length = rn) := by show _ = _; rw [ee_len (by rw [HRN.out]; exact hmr), HRN.out]
      have HRB : Hid (Byt (List.replicate m3 (238 : Int) ++ R'.drop m3)) := ee_byt HL2.out.byt
      generalize (List.replicate m3 (238 : Int) ++ R'.drop m3) = RR at *
      have hgo : Hid (g < w.heap.size → ro g = o + 4) := by
        show _ → _
        intro hg
        rcases HL2.out.lat with e | e
        · exact HH.out.q4 g e.symm
        · have := e g rfl; have := Z1.out; omega
      have hgpb : pb ≠ g := fun e => by have h1 := HH.out.q1; have h2 := hgo.out (by rw [← e]; exact hpb.out); rw [e] at h1; omega
      have TW : Hid (Tch pb rv.ownBlock w wr) := by
        refine ⟨HTk.out.os.trans (B25.out.os.trans (HL2.out.tch.os.trans B1.out.os)), HTk.out.tape.trans (B25.out.tape.trans (HL2.out.tch.tape.trans B1.out.tape)), HTk.out.output.trans (B25.out.output.trans (HL2.out.tch.output.trans B1.out.output)), by have := HTk.out.size; have := B25.out.size; have := HL2.out.tch.size; have := B1.out.size; omega, fun k hk h1 h2 => ?_⟩
        have hkg : k ≠ g := fun e => by
          rcases HL2.out.lat with e2 | e2
          · exact h2 (by rw [e]; exact e2)
          · have := e2 g rfl; have := Z1.out; omega
        have z1 := B1.out.size
        have z2 := HL2.out.tch.size
        have z5 := B25.out.size
        rw [HTk.out.block k (by omega) hkg (fun e => by cases e), B25.out.block k (by omega), HL2.out.tch.block k (by omega) h1 h2, B1.out.block k hk]
      have KEEP : Hid (∀ k, k < w.heap.size → k ≠ pb → ro k ≠ o + 4 → wr.heap[k]? = w.heap[k]?) := fun k hk h1 h2 => TW.out.block k hk h1 (fun e => h2 (HH.out.q4 k e.symm))
      have BX9 : Hid (Blk wr pb [.pointer (some ⟨b, 0, none⟩), .pointer (some ⟨rb, 0, none⟩), .slice (some ⟨g, 0, none⟩) rn c]) := by
        have z1 := B1.out.size
        have z2 := HL2.out.tch.size
        have z5 := B25.out.size
        have hp := hpb.out
        exact (HL2.out.box.of_block (B25.out.block pb (by omega))).of_block (HTk.out.block pb (by omega) hgpb (fun e => by cases e))
      have PF : Hid (Par wr (fun k => if k < w.heap.size then ro k else o + 4) o pb b rb pv sv tv (.slice (some ⟨g, 0, none⟩) rn c) S T RR E0) := by
        have hro : ∀ k, k < w.heap.size → (if k < w.heap.size then ro k else o + 4) = ro k := fun k hk => if_pos hk
        refine ⟨BX9.out, HH.out.d.on (KEEP.out b HH.out.d.box.lt (fun e => by have h1 := HH.out.q1; have h2 := HH.out.q2 b (.inl rfl); rw [← e] at h1; omega) (by have h2 := HH.out.q2 b (.inl rfl); omega)) (fun j hj => KEEP.out j (HH.out.d.own.lt j hj).2 (fun e => by have h1 := HH.out.q1; have h2 := HH.out.q2 j (.inr hj); rw [← e] at h1; omega) (by have h2 := HH.out.q2 j (.inr hj); omega)), ?_, by rw [HRL.out]; exact HMk.out.1, HRB.out, HH.out.low, by rw [HRL.out]; exact HL2.out.top, (hro pb hpb.out).trans HH.out.q1, fun k hk => (hro k (by
          rcases hk with rfl | hk
          · exact HH.out.d.box.lt
          · exact (HH.out.d.own.lt k hk).2)).trans (HH.out.q2 k hk), fun k hk => (hro k (by
          rcases hk with rfl | hk | hk
          · exact HH.out.r.box.lt
          · exact (HH.out.r.so.lt k hk).2
          · exact (HH.out.r.to.lt k hk).2)).trans (HH.out.q3 k hk), ?_⟩
        · have kr : ∀ j, j < w.heap.size → ro j = o + 3 → wr.heap[j]? = w.heap[j]? := fun j hj e => KEEP.out j hj (fun e2 => by have h1 := HH.out.q1; rw [← e2] at h1; omega) (by omega)
          exact HH.out.r.on (kr rb HH.out.r.box.lt (HH.out.q3 rb (.inl rfl))) (fun j hj => kr j (HH.out.r.so.lt j hj).2 (HH.out.q3 j (.inr (.inl hj)))) (fun j hj => kr j (HH.out.r.to.lt j hj).2 (HH.out.q3 j (.inr (.inr hj))))
        · intro k hk
          have e : g = k := Option.some.inj hk
          subst e
          show (if _ then _ else _) = _
          by_cases hg : g < w.heap.size
          · rw [if_pos hg]; exact hgo.out hg
          · rw [if_neg hg]
      have IM : Hid (Img9 w wr ro o pb b rb rv pv sv tv S T E0) := ⟨⟨_, _, _, fun k hk => if_pos hk, PF.out⟩, TW.out⟩
      clear PF KEEP
      go_wp2
      go_ret
      exact ⟨rfl, IM.out⟩
set_option maxHeartbeats 8000000 in
set_option maxRecDepth 100000 in
theorem pimage_low (w : World) (ro : Nat → Nat) (o pb b rb : Nat) (pv sv tv rv : Value) (S T R : List Int) (E0 : Nat) (h : Par w ro o pb b rb pv sv tv rv S T R E0) (kd : Int) (sc : Bool) (ai xi ti : Int) (da : Option Addr) (dn dc n : Nat) (dl FL : List Int) (hs : Seg w da dn dl) (hy : Byt dl) (htop : dn ≤ 140737488351232) (ht : I64 ti) (hda : ∀ x, da = some x → 0 < dn → x.block ≠ pb ∧ rv.ownBlock ≠ some x.block) (hFL : FL = fillL dl ti) (hFn : FL.length = n) (hbig : n ≤ 4194304) (hz : ai < 0) :
    Calls Try.prog 35 #[.pointer (some ⟨pb, 0, none⟩), .agg #[.int .i64 kd, .bool sc, .int .i64 ai, .int .i64 xi, .int .i64 ti, .slice da dn dc]] w fun r w' => r = .returned (.bool true) ∧ Img9 w w' ro o pb b rb rv pv sv tv S T E0 := by
  have Hz : Hid (ai < 0) := hz
  obtain ⟨OB, hOB⟩ : ∃ OB, OB = Obj.cells #[.int .i64 kd, .bool sc, .int .i64 ai, .int .i64 xi, .int .i64 ti, .slice da dn dc] 33 := ⟨_, rfl⟩
  have hA : Below w.heap.size w (w.alloc OB) := (Below.refl _ _).alloc (Nat.le_refl _) _
  have PA := hide (h.later hA)
  have BA := hide hA
  have hE0 : Hid (E0 ≤ w.heap.size) := by have := h.low; have := h.box.lt; show E0 ≤ _; omega
  have hpb : Hid (pb < w.heap.size) := h.box.lt
  have hrvl : Hid (∀ j, rv.ownBlock = some j → j < w.heap.size) := fun j hj => (h.room.lt j hj).2
  have HH := hide h
  have SD0 := hide (hs.below hA (Nat.le_refl _))
  have HDL := hide hs
  have HYD := hide hy
  have HDA := hide hda
  have HFL := hide hFL
  have HFN := hide hFn
  have hyF : Hid (Byt FL) := by rw [hFL]; exact fillL_byt hy _
  have hn47 : n ≤ 140737488351232 := by rw [← hFn, hFL]; exact fillL_len dl ti (by rw [hs.1]; exact htop)
  have BOXA : Hid (Blk (w.alloc OB) w.heap.size [.int .i64 kd, .bool sc, .int .i64 ai, .int .i64 xi, .int .i64 ti, .slice da dn dc]) := by rw [hOB]; exact blk_new w _ [.int .i64 kd, .bool sc, .int .i64 ai, .int .i64 xi, .int .i64 ti, .slice da dn dc]
  obtain ⟨m3, hm3⟩ : ∃ m3, m3 = n + 3 := ⟨_, rfl⟩
  have HOB := hide hOB
  have HM3 := hide hm3
  clear hA h hs hy hda hFL hFn hm3
  go_enter Try.func35, Try.ntmps35
  go_wp2_with fail
  rw [← HOB.out]
  clear hOB
  refine (filled_any da dn dc dl ti _ SD0.out htop ht).mono ?_
  rintro e w1 ⟨v1, rfl, hown1, hb1⟩
  rw [← HFL.out, HFN.out] at hown1
  have hv1 : Hid (∀ j, v1.ownBlock = some j → w.heap.size < j) := fun j hj => by have := (hown1.lt j hj).1; simp only [sz_alloc] at this; omega
  obtain ⟨fa, fc, rfl⟩ := own_shape hown1
  obtain ⟨fa', fc', ef, _, _, sg1⟩ := seg_own (l := FL) (by rw [HFN.out]; exact hown1)
  rw [HFN.out] at ef sg1
  cases ef
  have P1 := hide (PA.out.later hb1)
  have B1 := hide (BA.out.trans (hb1.mono BA.out.size))
  have SG1 := hide sg1
  have BX1 := hide (BOXA.out.on hb1)
  have SD1 := hide (SD0.out.below hb1 (Nat.le_refl _))
  have Z1 : Hid (w.heap.size < w1.heap.size) := by have := hb1.size; simp only [sz_alloc] at this; show _ < _; omega
  clear hown1 hb1 sg1 SD0 BOXA PA BA
  go_wp2_with fail
  refine (lay_any _ ro o pb b rb pv sv tv rv S T R E0 P1.out fa n fc m3 FL SG1.out hyF.out (fun x hx h0 e => by have h1 := hv1.out x.block (by rw [hx]; rfl); have h2 := hrvl.out x.block e; omega) hn47 HM3.out).mono ?_
  rintro e w2 ⟨g, c, rn, R', rfl, L2⟩
  have HL2 := hide L2
  have hrc : n + 3 ≤ c := by have := L2.le; have := L2.mine.2.2.1; omega
  have hcm : c ≤ 9223372036854775807 := by have := L2.mine.2.2.2.1; unfold maxLen at this; omega
  have hw2 : Hid (w2.heap[w.heap.size]? = w1.heap[w.heap.size]?) := L2.tch.block _ Z1.out (by have := hpb.out; omega) (fun e => by have := hrvl.out _ e.symm; omega)
  have BX2 := hide (BX1.out.of_block hw2.out)
  have SEG2 : Hid (Seg w2 (some ⟨g, 0, none⟩) n FL) := by
    have h1 := L2.mine.seg.take (k := n) (by have := L2.le; omega)
    have h2 : R'.take n = FL := by
      have h3 := congrArg (List.take n) L2.tk
      rw [List.take_take, Nat.min_eq_left (by omega), List.take_left' HFN.out] at h3
      exact h3
    rw [h2] at h1
    exact h1
  have SEGM : Hid (Seg w2 (some ⟨g, 0, none⟩) m3 (FL ++ [91, 92, 93])) := by
    have h1 := L2.mine.seg.take (k := n + 3) L2.le
    rw [L2.tk, ← HM3.out] at h1
    exact h1
  have SD2 : Hid (Seg w2 da dn dl) := L2.tch.seg SD1.out (fun x hx h0 => ⟨(HDA.out x hx h0).1, fun e => (HDA.out x hx h0).2 e.symm⟩)
  have Z2 := hide L2.tch.size
  have hgl : Hid (g < w2.heap.size) := (L2.mine.1.lt g rfl).2
  have c22 := BX2.out.cell 2 _ rfl
  have HBL2 : Hid (w.heap.size < w2.heap.size) := by have := Z1.out; have := Z2.out; show _ < _; omega
  have q3 : (n : Int) ≤ (c : Int) := by omega
  clear L2 SD1 SG1 BX1 hv1
  go_wp2_with fail
  go_region_held3 (fun w' => w'.cell? ⟨w.heap.size, 2, none⟩ = some (.int .i64 ai)) (first | exact c22 | go_keep | (rw [hb3.cell (by exact HBL2.out)]; assumption)) ((go_at_call 46; refine (rimage_low _ n c ai _ hbig (by have := Hz.out; omega)).mono ?_; rintro e w3 ⟨rfl, hb3⟩))
  have B3 : Hid (Below w2.heap.size w2 w3) := ⟨hb3.os, hb3.tape, hb3.output, hb3.size, hb3.block⟩
  clear hb3
  have BX3 := hide (BX2.out.on B3.out)
  have SEG3 := hide (SEG2.out.below B3.out (Nat.le_refl _))
  have c23 := BX3.out.cell 2 _ rfl
  have HBL3 : Hid (w.heap.size < w3.heap.size) := Nat.lt_of_lt_of_le HBL2.out B3.out.size
  clear c22
  go_wp2_with fail
  go_region_held3 (fun w' => w'.cell? ⟨w.heap.size, 2, none⟩ = some (.int .i64 ai)) (first | exact c23 | go_keep | (rw [hb4.cell (by exact HBL3.out)]; assumption)) ((go_at_call 47; refine (image_low _ n c ai _ hbig (by have := Hz.out; omega)).mono ?_; rintro e w4 ⟨rfl, hb4⟩))
  have B4 : Hid (Below w3.heap.size w3 w4) := ⟨hb4.os, hb4.tape, hb4.output, hb4.size, hb4.block⟩
  clear hb4
  have BX4 := BX3.out.on B4.out
  have B24 := hide (B3.out.trans (B4.out.mono B3.out.size))
  have SEGM4 := hide (SEGM.out.below B24.out (Nat.le_refl _))
  have SD4 := hide (SD2.out.below B24.out (Nat.le_refl _))
  have k0 := BX4.cell 0 _ rfl
  have k1 := BX4.cell 1 _ rfl
  have k2 := BX4.cell 2 _ rfl
  have k3 := BX4.cell 3 _ rfl
  have k4 := BX4.cell 4 _ rfl
  have k5 := BX4.cell 5 _ rfl
  clear c23 BX4 SEG3
  go_wp2_with fail
  refine (num9_any 92 _).mono ?_
  rintro e w5 ⟨rfl, rfl⟩
  go_wp2_with fail
  refine (still_yes _ g m3 c n FL kd sc ai xi ti da dn dc dl SEGM4.out SD4.out HFL.out HFN.out HM3.out hn47).mono ?_
  rintro e w5 ⟨rfl, hb5⟩
  have B25 := hide (B24.out.trans (hb5.mono B24.out.size))
  clear k0 k1 k2 k3 k4 k5
  have M5 : Hid (Mine w5 E0 g rn c R') := HL2.out.mine.below B25.out (Nat.le_refl _)
  clear hb5
  have hmr : m3 ≤ rn := by have := HL2.out.le; have := HM3.out; omega
  have HRN : Hid (R'.length = rn) := HL2.out.mine.2.1
  have hrt : rn ≤ 140737488351235 := HL2.out.top
  go_wp2
  go_loopw [11] (fun iv wr => ∃ k : Nat, iv = .int .i64 (k : Int) ∧ k ≤ m3 ∧ Hid (Mine wr E0 g rn c (List.replicate k 238 ++ R'.drop k)) ∧ Hid (Tch g none w5 wr)) (fun iv _ => m3 - (intOf iv).toNat)
  case atStart => exact ⟨0, rfl, Nat.zero_le _, M5, Tch.refl _ _ _⟩
  case round =>
    obtain ⟨k, rfl, hk, HMk, HTk⟩ := hrel
    by_cases hlt : k < m3
    · have kg : wr.cell? ⟨g, k, none⟩ = some (.int .u8 ((List.replicate k 238 ++ R'.drop k).getD k 0)) := by
        obtain ⟨b9, o9, e9, h9⟩ := HMk.out.seg.2.2 (by omega)
        cases e9
        have := h9 k (by omega)
        rw [Nat.zero_add] at this
        exact this
      have fg : wr.frozen? ⟨g, k, none⟩ = false := by
        rcases HMk.out.1.2 with ⟨e, _⟩ | ⟨g', cap', cur, e, _, hh, _⟩
        · cases e
        · cases e; exact frozen_of_row wr g k cur 5 hh
      have HMn : Hid (Mine (wr.setCell ⟨g, k, none⟩ (.int .u8 238)) E0 g rn c (List.replicate (k + 1) 238 ++ R'.drop (k + 1))) := by
        have := HMk.out.store k 238
        rw [ee_set (by rw [HRN.out]; omega)] at this
        exact this
      have HTn : Hid (Tch g none w5 (wr.setCell ⟨g, k, none⟩ (.int .u8 238))) := HTk.out.setB _
      have q9 : (k : Int) < (m3 : Int) := by omega
      generalize (List.replicate k 238 ++ R'.drop k).getD k 0 = y at *
      go_wp2
      go_roundw
      case rel => exact ⟨k + 1, by go_num, by omega, HMn, HTn⟩
      case measure => simp [intOf]; omega
    · obtain rfl : m3 = k := by omega
      have HRL : Hid ((List.replicate m3 (238 : Int) ++ R'.drop m3).length = rn) := by show _ = _; rw [ee_len (by rw [HRN.out]; exact hmr), HRN.out]
      have HRB : Hid (Byt (List.replicate m3 (238 : Int) ++ R'.drop m3)) := ee_byt HL2.out.byt
      generalize (List.replicate m3 (238 : Int) ++ R'.drop m3) = RR at *
      have hgo : Hid (g < w.heap.size → ro g = o + 4) := by
        show _ → _
        intro hg
        rcases HL2.out.lat with e | e
        · exact HH.out.q4 g e.symm
        · have := e g rfl; have := Z1.out; omega
      have hgpb : pb ≠ g := fun e => by have h1 := HH.out.q1; have h2 := hgo.out (by rw [← e]; exact hpb.out); rw [e] at h1; omega
      have TW : Hid (Tch pb rv.ownBlock w wr) := by
        refine ⟨HTk.out.os.trans (B25.out.os.trans (HL2.out.tch.os.trans B1.out.os)), HTk.out.tape.trans (B25.out.tape.trans (HL2.out.tch.tape.trans B1.out.tape)), HTk.out.output.trans (B25.out.output.trans (HL2.out.tch.output.trans B1.out.output)), by have := HTk.out.size; have := B25.out.size; have := HL2.out.tch.size; have := B1.out.size; omega, fun k hk h1 h2 => ?_⟩
        have hkg : k ≠ g := fun e => by
          rcases HL2.out.lat with e2 | e2
          · exact h2 (by rw [e]; exact e2)
          · have := e2 g rfl; have := Z1.out; omega
        have z1 := B1.out.size
        have z2 := HL2.out.tch.size
        have z5 := B25.out.size
        rw [HTk.out.block k (by omega) hkg (fun e => by cases e), B25.out.block k (by omega), HL2.out.tch.block k (by omega) h1 h2, B1.out.block k hk]
      have KEEP : Hid (∀ k, k < w.heap.size → k ≠ pb → ro k ≠ o + 4 → wr.heap[k]? = w.heap[k]?) := fun k hk h1 h2 => TW.out.block k hk h1 (fun e => h2 (HH.out.q4 k e.symm))
      have BX9 : Hid (Blk wr pb [.pointer (some ⟨b, 0, none⟩), .pointer (some ⟨rb, 0, none⟩), .slice (some ⟨g, 0, none⟩) rn c]) := by
        have z1 := B1.out.size
        have z2 := HL2.out.tch.size
        have z5 := B25.out.size
        have hp := hpb.out
        exact (HL2.out.box.of_block (B25.out.block pb (by omega))).of_block (HTk.out.block pb (by omega) hgpb (fun e => by cases e))
      have PF : Hid (Par wr (fun k => if k < w.heap.size then ro k else o + 4) o pb b rb pv sv tv (.slice (some ⟨g, 0, none⟩) rn c) S T RR E0) := by
        have hro : ∀ k, k < w.heap.size → (if k < w.heap.size then ro k else o + 4) = ro k := fun k hk => if_pos hk
        refine ⟨BX9.out, HH.out.d.on (KEEP.out b HH.out.d.box.lt (fun e => by have h1 := HH.out.q1; have h2 := HH.out.q2 b (.inl rfl); rw [← e] at h1; omega) (by have h2 := HH.out.q2 b (.inl rfl); omega)) (fun j hj => KEEP.out j (HH.out.d.own.lt j hj).2 (fun e => by have h1 := HH.out.q1; have h2 := HH.out.q2 j (.inr hj); rw [← e] at h1; omega) (by have h2 := HH.out.q2 j (.inr hj); omega)), ?_, by rw [HRL.out]; exact HMk.out.1, HRB.out, HH.out.low, by rw [HRL.out]; exact HL2.out.top, (hro pb hpb.out).trans HH.out.q1, fun k hk => (hro k (by
          rcases hk with rfl | hk
          · exact HH.out.d.box.lt
          · exact (HH.out.d.own.lt k hk).2)).trans (HH.out.q2 k hk), fun k hk => (hro k (by
          rcases hk with rfl | hk | hk
          · exact HH.out.r.box.lt
          · exact (HH.out.r.so.lt k hk).2
          · exact (HH.out.r.to.lt k hk).2)).trans (HH.out.q3 k hk), ?_⟩
        · have kr : ∀ j, j < w.heap.size → ro j = o + 3 → wr.heap[j]? = w.heap[j]? := fun j hj e => KEEP.out j hj (fun e2 => by have h1 := HH.out.q1; rw [← e2] at h1; omega) (by omega)
          exact HH.out.r.on (kr rb HH.out.r.box.lt (HH.out.q3 rb (.inl rfl))) (fun j hj => kr j (HH.out.r.so.lt j hj).2 (HH.out.q3 j (.inr (.inl hj)))) (fun j hj => kr j (HH.out.r.to.lt j hj).2 (HH.out.q3 j (.inr (.inr hj))))
        · intro k hk
          have e : g = k := Option.some.inj hk
          subst e
          show (if _ then _ else _) = _
          by_cases hg : g < w.heap.size
          · rw [if_pos hg]; exact hgo.out hg
          · rw [if_neg hg]
      have IM : Hid (Img9 w wr ro o pb b rb rv pv sv tv S T E0) := ⟨⟨_, _, _, fun k hk => if_pos hk, PF.out⟩, TW.out⟩
      clear PF KEEP
      go_wp2
      go_ret
      exact ⟨rfl, IM.out⟩
set_option maxHeartbeats 8000000 in
set_option maxRecDepth 100000 in
theorem pimage_high (w : World) (ro : Nat → Nat) (o pb b rb : Nat) (pv sv tv rv : Value) (S T R : List Int) (E0 : Nat) (h : Par w ro o pb b rb pv sv tv rv S T R E0) (kd : Int) (sc : Bool) (ai xi ti : Int) (da : Option Addr) (dn dc n : Nat) (dl FL : List Int) (hs : Seg w da dn dl) (hy : Byt dl) (htop : dn ≤ 140737488351232) (ht : I64 ti) (hda : ∀ x, da = some x → 0 < dn → x.block ≠ pb ∧ rv.ownBlock ≠ some x.block) (hFL : FL = fillL dl ti) (hFn : FL.length = n) (hbig : n ≤ 4194304) (hz : ¬ ai < 0) (hz2 : (n : Int) < ai) :
    Calls Try.prog 35 #[.pointer (some ⟨pb, 0, none⟩), .agg #[.int .i64 kd, .bool sc, .int .i64 ai, .int .i64 xi, .int .i64 ti, .slice da dn dc]] w fun r w' => r = .returned (.bool true) ∧ Img9 w w' ro o pb b rb rv pv sv tv S T E0 := by
  have Hz : Hid (¬ ai < 0 ∧ (n : Int) < ai) := ⟨hz, hz2⟩
  obtain ⟨OB, hOB⟩ : ∃ OB, OB = Obj.cells #[.int .i64 kd, .bool sc, .int .i64 ai, .int .i64 xi, .int .i64 ti, .slice da dn dc] 33 := ⟨_, rfl⟩
  have hA : Below w.heap.size w (w.alloc OB) := (Below.refl _ _).alloc (Nat.le_refl _) _
  have PA := hide (h.later hA)
  have BA := hide hA
  have hE0 : Hid (E0 ≤ w.heap.size) := by have := h.low; have := h.box.lt; show E0 ≤ _; omega
  have hpb : Hid (pb < w.heap.size) := h.box.lt
  have hrvl : Hid (∀ j, rv.ownBlock = some j → j < w.heap.size) := fun j hj => (h.room.lt j hj).2
  have HH := hide h
  have SD0 := hide (hs.below hA (Nat.le_refl _))
  have HDL := hide hs
  have HYD := hide hy
  have HDA := hide hda
  have HFL := hide hFL
  have HFN := hide hFn
  have hyF : Hid (Byt FL) := by rw [hFL]; exact fillL_byt hy _
  have hn47 : n ≤ 140737488351232 := by rw [← hFn, hFL]; exact fillL_len dl ti (by rw [hs.1]; exact htop)
  have BOXA : Hid (Blk (w.alloc OB) w.heap.size [.int .i64 kd, .bool sc, .int .i64 ai, .int .i64 xi, .int .i64 ti, .slice da dn dc]) := by rw [hOB]; exact blk_new w _ [.int .i64 kd, .bool sc, .int .i64 ai, .int .i64 xi, .int .i64 ti, .slice da dn dc]
  obtain ⟨m3, hm3⟩ : ∃ m3, m3 = n + 3 := ⟨_, rfl⟩
  have HOB := hide hOB
  have HM3 := hide hm3
  clear hA h hs hy hda hFL hFn hm3
  go_enter Try.func35, Try.ntmps35
  go_wp2_with fail
  rw [← HOB.out]
  clear hOB
  refine (filled_any da dn dc dl ti _ SD0.out htop ht).mono ?_
  rintro e w1 ⟨v1, rfl, hown1, hb1⟩
  rw [← HFL.out, HFN.out] at hown1
  have hv1 : Hid (∀ j, v1.ownBlock = some j → w.heap.size < j) := fun j hj => by have := (hown1.lt j hj).1; simp only [sz_alloc] at this; omega
  obtain ⟨fa, fc, rfl⟩ := own_shape hown1
  obtain ⟨fa', fc', ef, _, _, sg1⟩ := seg_own (l := FL) (by rw [HFN.out]; exact hown1)
  rw [HFN.out] at ef sg1
  cases ef
  have P1 := hide (PA.out.later hb1)
  have B1 := hide (BA.out.trans (hb1.mono BA.out.size))
  have SG1 := hide sg1
  have BX1 := hide (BOXA.out.on hb1)
  have SD1 := hide (SD0.out.below hb1 (Nat.le_refl _))
  have Z1 : Hid (w.heap.size < w1.heap.size) := by have := hb1.size; simp only [sz_alloc] at this; show _ < _; omega
  clear hown1 hb1 sg1 SD0 BOXA PA BA
  go_wp2_with fail
  refine (lay_any _ ro o pb b rb pv sv tv rv S T R E0 P1.out fa n fc m3 FL SG1.out hyF.out (fun x hx h0 e => by have h1 := hv1.out x.block (by rw [hx]; rfl); have h2 := hrvl.out x.block e; omega) hn47 HM3.out).mono ?_
  rintro e w2 ⟨g, c, rn, R', rfl, L2⟩
  have HL2 := hide L2
  have hrc : n + 3 ≤ c := by have := L2.le; have := L2.mine.2.2.1; omega
  have hcm : c ≤ 9223372036854775807 := by have := L2.mine.2.2.2.1; unfold maxLen at this; omega
  have hw2 : Hid (w2.heap[w.heap.size]? = w1.heap[w.heap.size]?) := L2.tch.block _ Z1.out (by have := hpb.out; omega) (fun e => by have := hrvl.out _ e.symm; omega)
  have BX2 := hide (BX1.out.of_block hw2.out)
  have SEG2 : Hid (Seg w2 (some ⟨g, 0, none⟩) n FL) := by
    have h1 := L2.mine.seg.take (k := n) (by have := L2.le; omega)
    have h2 : R'.take n = FL := by
      have h3 := congrArg (List.take n) L2.tk
      rw [List.take_take, Nat.min_eq_left (by omega), List.take_left' HFN.out] at h3
      exact h3
    rw [h2] at h1
    exact h1
  have SEGM : Hid (Seg w2 (some ⟨g, 0, none⟩) m3 (FL ++ [91, 92, 93])) := by
    have h1 := L2.mine.seg.take (k := n + 3) L2.le
    rw [L2.tk, ← HM3.out] at h1
    exact h1
  have SD2 : Hid (Seg w2 da dn dl) := L2.tch.seg SD1.out (fun x hx h0 => ⟨(HDA.out x hx h0).1, fun e => (HDA.out x hx h0).2 e.symm⟩)
  have Z2 := hide L2.tch.size
  have hgl : Hid (g < w2.heap.size) := (L2.mine.1.lt g rfl).2
  have c22 := BX2.out.cell 2 _ rfl
  have HBL2 : Hid (w.heap.size < w2.heap.size) := by have := Z1.out; have := Z2.out; show _ < _; omega
  have q3 : (n : Int) ≤ (c : Int) := by omega
  clear L2 SD1 SG1 BX1 hv1
  go_wp2_with fail
  go_region_held3 (fun w' => w'.cell? ⟨w.heap.size, 2, none⟩ = some (.int .i64 ai)) (first | exact c22 | go_keep | (rw [hb3.cell (by exact HBL2.out)]; assumption)) ((go_at_call 46; refine (rimage_high _ n c ai _ hbig (by have := Hz.out; omega) (by have := Hz.out; omega)).mono ?_; rintro e w3 ⟨rfl, hb3⟩))
  have B3 : Hid (Below w2.heap.size w2 w3) := ⟨hb3.os, hb3.tape, hb3.output, hb3.size, hb3.block⟩
  clear hb3
  have BX3 := hide (BX2.out.on B3.out)
  have SEG3 := hide (SEG2.out.below B3.out (Nat.le_refl _))
  have c23 := BX3.out.cell 2 _ rfl
  have HBL3 : Hid (w.heap.size < w3.heap.size) := Nat.lt_of_lt_of_le HBL2.out B3.out.size
  clear c22
  go_wp2_with fail
  go_region_held3 (fun w' => w'.cell? ⟨w.heap.size, 2, none⟩ = some (.int .i64 ai)) (first | exact c23 | go_keep | (rw [hb4.cell (by exact HBL3.out)]; assumption)) ((go_at_call 47; refine (image_high _ n c ai _ hbig (by have := Hz.out; omega) (by have := Hz.out; omega)).mono ?_; rintro e w4 ⟨rfl, hb4⟩))
  have B4 : Hid (Below w3.heap.size w3 w4) := ⟨hb4.os, hb4.tape, hb4.output, hb4.size, hb4.block⟩
  clear hb4
  have BX4 := BX3.out.on B4.out
  have B24 := hide (B3.out.trans (B4.out.mono B3.out.size))
  have SEGM4 := hide (SEGM.out.below B24.out (Nat.le_refl _))
  have SD4 := hide (SD2.out.below B24.out (Nat.le_refl _))
  have k0 := BX4.cell 0 _ rfl
  have k1 := BX4.cell 1 _ rfl
  have k2 := BX4.cell 2 _ rfl
  have k3 := BX4.cell 3 _ rfl
  have k4 := BX4.cell 4 _ rfl
  have k5 := BX4.cell 5 _ rfl
  clear c23 BX4 SEG3
  go_wp2_with fail
  refine (num9_any 92 _).mono ?_
  rintro e w5 ⟨rfl, rfl⟩
  go_wp2_with fail
  refine (still_yes _ g m3 c n FL kd sc ai xi ti da dn dc dl SEGM4.out SD4.out HFL.out HFN.out HM3.out hn47).mono ?_
  rintro e w5 ⟨rfl, hb5⟩
  have B25 := hide (B24.out.trans (hb5.mono B24.out.size))
  clear k0 k1 k2 k3 k4 k5
  have M5 : Hid (Mine w5 E0 g rn c R') := HL2.out.mine.below B25.out (Nat.le_refl _)
  clear hb5
  have hmr : m3 ≤ rn := by have := HL2.out.le; have := HM3.out; omega
  have HRN : Hid (R'.length = rn) := HL2.out.mine.2.1
  have hrt : rn ≤ 140737488351235 := HL2.out.top
  go_wp2
  go_loopw [11] (fun iv wr => ∃ k : Nat, iv = .int .i64 (k : Int) ∧ k ≤ m3 ∧ Hid (Mine wr E0 g rn c (List.replicate k 238 ++ R'.drop k)) ∧ Hid (Tch g none w5 wr)) (fun iv _ => m3 - (intOf iv).toNat)
  case atStart => exact ⟨0, rfl, Nat.zero_le _, M5, Tch.refl _ _ _⟩
  case round =>
    obtain ⟨k, rfl, hk, HMk, HTk⟩ := hrel
    by_cases hlt : k < m3
    · have kg : wr.cell? ⟨g, k, none⟩ = some (.int .u8 ((List.replicate k 238 ++ R'.drop k).getD k 0)) := by
        obtain ⟨b9, o9, e9, h9⟩ := HMk.out.seg.2.2 (by omega)
        cases e9
        have := h9 k (by omega)
        rw [Nat.zero_add] at this
        exact this
      have fg : wr.frozen? ⟨g, k, none⟩ = false := by
        rcases HMk.out.1.2 with ⟨e, _⟩ | ⟨g', cap', cur, e, _, hh, _⟩
        · cases e
        · cases e; exact frozen_of_row wr g k cur 5 hh
      have HMn : Hid (Mine (wr.setCell ⟨g, k, none⟩ (.int .u8 238)) E0 g rn c (List.replicate (k + 1) 238 ++ R'.drop (k + 1))) := by
        have := HMk.out.store k 238
        rw [ee_set (by rw [HRN.out]; omega)] at this
        exact this
      have HTn : Hid (Tch g none w5 (wr.setCell ⟨g, k, none⟩ (.int .u8 238))) := HTk.out.setB _
      have q9 : (k : Int) < (m3 : Int) := by omega
      generalize (List.replicate k 238 ++ R'.drop k).getD k 0 = y at *
      go_wp2
      go_roundw
      case rel => exact ⟨k + 1, by go_num, by omega, HMn, HTn⟩
      case measure => simp [intOf]; omega
    · obtain rfl : m3 = k := by omega
      have HRL : Hid ((List.replicate m3 (238 : Int) ++ R'.drop m3).length = rn) := by show _ = _; rw [ee_len (by rw [HRN.out]; exact hmr), HRN.out]
      have HRB : Hid (Byt (List.replicate m3 (238 : Int) ++ R'.drop m3)) := ee_byt HL2.out.byt
      generalize (List.replicate m3 (238 : Int) ++ R'.drop m3) = RR at *
      have hgo : Hid (g < w.heap.size → ro g = o + 4) := by
        show _ → _
        intro hg
        rcases HL2.out.lat with e | e
        · exact HH.out.q4 g e.symm
        · have := e g rfl; have := Z1.out; omega
      have hgpb : pb ≠ g := fun e => by have h1 := HH.out.q1; have h2 := hgo.out (by rw [← e]; exact hpb.out); rw [e] at h1; omega
      have TW : Hid (Tch pb rv.ownBlock w wr) := by
        refine ⟨HTk.out.os.trans (B25.out.os.trans (HL2.out.tch.os.trans B1.out.os)), HTk.out.tape.trans (B25.out.tape.trans (HL2.out.tch.tape.trans B1.out.tape)), HTk.out.output.trans (B25.out.output.trans (HL2.out.tch.output.trans B1.out.output)), by have := HTk.out.size; have := B25.out.size; have := HL2.out.tch.size; have := B1.out.size; omega, fun k hk h1 h2 => ?_⟩
        have hkg : k ≠ g := fun e => by
          rcases HL2.out.lat with e2 | e2
          · exact h2 (by rw [e]; exact e2)
          · have := e2 g rfl; have := Z1.out; omega
        have z1 := B1.out.size
        have z2 := HL2.out.tch.size
        have z5 := B25.out.size
        rw [HTk.out.block k (by omega) hkg (fun e => by cases e), B25.out.block k (by omega), HL2.out.tch.block k (by omega) h1 h2, B1.out.block k hk]
      have KEEP : Hid (∀ k, k < w.heap.size → k ≠ pb → ro k ≠ o + 4 → wr.heap[k]? = w.heap[k]?) := fun k hk h1 h2 => TW.out.block k hk h1 (fun e => h2 (HH.out.q4 k e.symm))
      have BX9 : Hid (Blk wr pb [.pointer (some ⟨b, 0, none⟩), .pointer (some ⟨rb, 0, none⟩), .slice (some ⟨g, 0, none⟩) rn c]) := by
        have z1 := B1.out.size
        have z2 := HL2.out.tch.size
        have z5 := B25.out.size
        have hp := hpb.out
        exact (HL2.out.box.of_block (B25.out.block pb (by omega))).of_block (HTk.out.block pb (by omega) hgpb (fun e => by cases e))
      have PF : Hid (Par wr (fun k => if k < w.heap.size then ro k else o + 4) o pb b rb pv sv tv (.slice (some ⟨g, 0, none⟩) rn c) S T RR E0) := by
        have hro : ∀ k, k < w.heap.size → (if k < w.heap.size then ro k else o + 4) = ro k := fun k hk => if_pos hk
        refine ⟨BX9.out, HH.out.d.on (KEEP.out b HH.out.d.box.lt (fun e => by have h1 := HH.out.q1; have h2 := HH.out.q2 b (.inl rfl); rw [← e] at h1; omega) (by have h2 := HH.out.q2 b (.inl rfl); omega)) (fun j hj => KEEP.out j (HH.out.d.own.lt j hj).2 (fun e => by have h1 := HH.out.q1; have h2 := HH.out.q2 j (.inr hj); rw [← e] at h1; omega) (by have h2 := HH.out.q2 j (.inr hj); omega)), ?_, by rw [HRL.out]; exact HMk.out.1, HRB.out, HH.out.low, by rw [HRL.out]; exact HL2.out.top, (hro pb hpb.out).trans HH.out.q1, fun k hk => (hro k (by
          rcases hk with rfl | hk
          · exact HH.out.d.box.lt
          · exact (HH.out.d.own.lt k hk).2)).trans (HH.out.q2 k hk), fun k hk => (hro k (by
          rcases hk with rfl | hk | hk
          · exact HH.out.r.box.lt
          · exact (HH.out.r.so.lt k hk).2
          · exact (HH.out.r.to.lt k hk).2)).trans (HH.out.q3 k hk), ?_⟩
        · have kr : ∀ j, j < w.heap.size → ro j = o + 3 → wr.heap[j]? = w.heap[j]? := fun j hj e => KEEP.out j hj (fun e2 => by have h1 := HH.out.q1; rw [← e2] at h1; omega) (by omega)
          exact HH.out.r.on (kr rb HH.out.r.box.lt (HH.out.q3 rb (.inl rfl))) (fun j hj => kr j (HH.out.r.so.lt j hj).2 (HH.out.q3 j (.inr (.inl hj)))) (fun j hj => kr j (HH.out.r.to.lt j hj).2 (HH.out.q3 j (.inr (.inr hj))))
        · intro k hk
          have e : g = k := Option.some.inj hk
          subst e
          show (if _ then _ else _) = _
          by_cases hg : g < w.heap.size
          · rw [if_pos hg]; exact hgo.out hg
          · rw [if_neg hg]
      have IM : Hid (Img9 w wr ro o pb b rb rv pv sv tv S T E0) := ⟨⟨_, _, _, fun k hk => if_pos hk, PF.out⟩, TW.out⟩
      clear PF KEEP
      go_wp2
      go_ret
      exact ⟨rfl, IM.out⟩
end Go.Proofs.Ytahpnfbjpdnapaa
