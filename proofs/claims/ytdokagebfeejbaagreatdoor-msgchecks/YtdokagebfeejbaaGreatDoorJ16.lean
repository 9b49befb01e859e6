/- Texts of the proof, joined. -/
import Derived.Test.YtdokagebfeejbaaGreatDoorJ01
import Derived.Test.YtdokagebfeejbaaGreatDoorJ15
/- The contract of the scan's head. -/
namespace Go.Proofs.YtdokagebfeejbaaGreatDoor
open Go.RowKit Go.Wire1

def iHead (v n : Int) (l : List Int) (f : Int) : (Int × Int × Int) × List Int × Int :=
  (((iNext l f).1, (iInst v (iNext l f).2.1 (refF (unl (isMK v (iNext l f).1) 51) (iNext l f).2.2)).1), (iInst v (iNext l f).2.1 (refF (unl (isMK v (iNext l f).1) 51) (iNext l f).2.2)).2.1,
    refF (unl (instB n (iInst v (iNext l f).2.1 (refF (unl (isMK v (iNext l f).1) 51) (iNext l f).2.2)).1.1 (iInst v (iNext l f).2.1 (refF (unl (isMK v (iNext l f).1) 51) (iNext l f).2.2)).1.2) 52) (iInst v (iNext l f).2.1 (refF (unl (isMK v (iNext l f).1) 51) (iNext l f).2.2)).2.2)
theorem iInst_two {v x y f f3 : Int} {l l2 : List Int} (hv : v ≠ 1) (h : iInst v l f = ((x, y), l2, f3)) : iPack l f = ((y, x), l2, f3) := by
  unfold iInst at h
  rw [if_neg hv] at h
  generalize iPack l f = p at h ⊢
  obtain ⟨⟨p1, p2⟩, p3, p4⟩ := p
  simp only [Prod.mk.injEq] at h ⊢
  exact ⟨⟨h.1.2, h.1.1⟩, h.2⟩
theorem Vf6 {v n : Int} (h : v = 1) : Vf v n 6 = some (.func (.func 55) #[] #[]) := by unfold Vf; simp [h]
theorem Vf6' {v n : Int} (h : v ≠ 1) : Vf v n 6 = some (.func (.func 61) #[] #[]) := by unfold Vf; simp [h]
theorem Blk.set3 {w : World} {q : Nat} {a b c : Value} (h : Blk w q [a, b, c]) (x y z : Value) : Blk (((w.setCell ⟨q, 0, none⟩ x).setCell ⟨q, 1, none⟩ y).setCell ⟨q, 2, none⟩ z) q [x, y, z] := by
  have c0 := h.cell 0 _ rfl
  have c1 := h.cell 1 _ rfl
  have c2 := h.cell 2 _ rfl
  refine ⟨fun j u hj => ?_, fun o => by rw [World.frozen?_setCell, World.frozen?_setCell, World.frozen?_setCell]; exact h.thaw o, by have := h.lt; simpa [World.setCell] using this⟩
  match j, hj with
  | 0, hj =>
    simp at hj
    subst hj
    rw [World.cell?_setCell_other _ _ _ _ (by simp), World.cell?_setCell_other _ _ _ _ (by simp)]
    exact World.cell?_setCell_same w ⟨q, 0, none⟩ _ c0
  | 1, hj =>
    simp at hj
    subst hj
    rw [World.cell?_setCell_other _ _ _ _ (by simp)]
    exact World.cell?_setCell_same _ ⟨q, 1, none⟩ _ (by rw [World.cell?_setCell_other _ _ _ _ (by simp)]; exact c1)
  | 2, hj =>
    simp at hj
    subst hj
    exact World.cell?_setCell_same _ ⟨q, 2, none⟩ _ (by rw [World.cell?_setCell_other _ _ _ _ (by simp), World.cell?_setCell_other _ _ _ _ (by simp)]; exact c2)
  | j + 3, hj => simp at hj

section
variable (w0 : World) (g : Nat) (v n : Int) (l : List Int)
set_option maxHeartbeats 8000000 in
set_option maxRecDepth 100000 in
theorem shead_any (a : Nat → Addr) (f : Int) (w : World) (he : Errs w0 a) (hK : Kmd w0) (h : Scx w0 w g (Vf v n) l f) :
    Calls Tryz.prog 64 #[.pointer (some ⟨g, 0, none⟩)] w fun r w' => r = .returned (.agg #[.int .i64 (iHead v n l f).1.1, .int .i64 (iHead v n l f).1.2.1, .int .i64 (iHead v n l f).1.2.2]) ∧ Touch g w w' ∧ Scx w0 w' g (Vf v n) (iHead v n l f).2.1 (iHead v n l f).2.2 := by
  obtain ⟨k, l1, f1, e1⟩ : ∃ k l1 f1, Hid (iNext l f = (k, l1, f1)) := ⟨_, _, _, rfl⟩
  obtain ⟨mb, hmb⟩ : ∃ b, Hid (isMK v k = b) := ⟨_, rfl⟩
  obtain ⟨u1, hu1⟩ : ∃ u, Hid (unl mb 51 = u) := ⟨_, rfl⟩
  obtain ⟨f2, hf2⟩ : ∃ f2, Hid (refF u1 f1 = f2) := ⟨_, rfl⟩
  obtain ⟨x, y, l2, f3, e2⟩ : ∃ x y l2 f3, Hid (iInst v l1 f2 = ((x, y), l2, f3)) := ⟨_, _, _, _, rfl⟩
  obtain ⟨u2, hu2⟩ : ∃ u, Hid (unl (instB n x y) 52 = u) := ⟨_, rfl⟩
  obtain ⟨f4, hf4⟩ : ∃ f4, Hid (refF u2 f3 = f4) := ⟨_, rfl⟩
  have e0 : Hid (iHead v n l f = ((k, x, y), l2, f4)) := by
    show _ = _
    unfold iHead
    simp only [e1.out, hmb.out, hu1.out, hf2.out, e2.out, hu2.out, hf4.out]
  rw [e0.out]
  simp only
  have HX := hide (h.alloc (.cells #[.int .i64 0, .int .i64 0, .int .i64 0] 88))
  have HQ := hide (blk_new w 88 [.int .i64 0, .int .i64 0, .int .i64 0])
  have T0 : Hid (Touch g w (w.alloc (.cells #[.int .i64 0, .int .i64 0, .int .i64 0] 88))) := Touch.ofBelow ((Below.refl _ _).alloc (Nat.le_refl _) _)
  have hgl := h.lt
  have HW := hide h.low.size
  have HE := hide he
  have HKm := hide hK
  clear h he hK e0
  by_cases hv : v = 1
  · have e3 : Hid (iTwo l1 f2 = ((x, y), l2, f3)) := by have := e2.out; unfold iInst at this; rw [if_pos hv] at this; exact this
    have HV := hide hv
    clear hv
    go_enter Tryz.func64, Tryz.ntmps64
    go_wp2_with fail
    refine (inext_any w0 g (Vf v n) l f _ HX.out).mono ?_
    rintro r w1 ⟨rfl, T1, S1⟩
    rw [e1.out] at S1 ⊢
    simp only at S1 ⊢
    have HT1 := hide (T0.out.trans T1)
    have HS1 := hide S1
    have HQ1 := hide (HQ.out.touch T1 (by omega))
    have r2 : w1.cell? ⟨g, 2, none⟩ = some (.int .i64 v) := S1.more (Nat.le_refl _)
    clear T1 S1 HX HQ T0
    go_wp2
    refine wp_region_noPanic ?_
    refine wp_region_held_drew (S := (fun w' => w'.cell? ⟨g, 2, none⟩ = some (.int .i64 v))) (by kernel_rfl) r2 (fun hHeld => ?_)
    refine tk 0 ?_
    refine tk 1 ?_
    refine tk 2 ?_
    refine tk 3 ?_
    refine tk 4 ?_
    refine tk 5 ?_
    refine tk 6 ?_
    refine tk 7 ?_
    refine tk 8 ?_
    refine wpAnyH_ready (rs := [9]) (by kernel_rfl) (by simp) ?_
    refine AllReadyH.cons rfl (fun K hK => ?_) AllReadyH.nil
    rw [if_pos (by rfl)]
    go_wp2_with fail
    refine (mKind_any v k _ (HKm.out.below HS1.out.drew.low (Nat.le_refl _))).mono ?_
    rintro e w2 ⟨rfl, hw2⟩
    subst hw2
    rw [hmb.out]
    refine hK.out _ _ r2 (fun hHeld => ?_)
    clear hK K
    try simp only [Act.put, List.getElem_toArray, List.getElem_cons_succ, List.getElem_cons_zero, List.setIfInBounds_toArray, List.set_cons_zero, List.set_cons_succ]
    refine wpAnyH_ready (rs := [10]) (by kernel_rfl) (by simp) ?_
    refine AllReadyH.cons rfl (fun K hK => ?_) AllReadyH.nil
    rw [if_pos (by rfl)]
    go_wp2_with fail
    refine (unless_any mb 51 _).mono ?_
    rintro e w2 ⟨rfl, hw2⟩
    subst hw2
    rw [hu1.out]
    refine hK.out _ _ r2 (fun hHeld => ?_)
    clear hK K
    try simp only [Act.put, List.getElem_toArray, List.getElem_cons_succ, List.getElem_cons_zero, List.setIfInBounds_toArray, List.set_cons_zero, List.set_cons_succ]
    refine wpAnyH_ready (rs := [11]) (by kernel_rfl) (by simp) ?_
    refine AllReadyH.cons rfl (fun K hK => ?_) AllReadyH.nil
    rw [if_pos (by rfl)]
    go_wp2_with fail
    refine (irefuse_x w0 g (Vf v n) l1 f1 u1 _ HS1.out.drew).mono ?_
    rintro e w3 ⟨rfl, T3, S3⟩
    rw [hf2.out] at S3
    refine hK.out _ _ (S3.more (Nat.le_refl _)) (fun hHeld => ?_)
    clear hK K
    try simp only [Act.put, List.getElem_toArray, List.getElem_cons_succ, List.getElem_cons_zero, List.setIfInBounds_toArray, List.set_cons_zero, List.set_cons_succ]
    refine wpAnyH_done (by kernel_rfl) ?_ _
    refine NoPanic.normal ?_
    have HT3 : Hid (Touch g w w3) := HT1.out.drew.trans T3
    have HS3 := hide S3
    have HQ3 := hide (HQ1.out.drew.touch T3 (by omega))
    clear T3 S3 HS1 HT1 HQ1 hHeld r2
    have r6 : w3.cell? ⟨g, 6, none⟩ = some (.func (.func 55) #[] #[]) := (HS3.out.more (by omega)).trans (Vf6 HV.out)
    have hw3 : w.heap.size < w3.heap.size := HQ3.out.lt
    have hg3 : g < w3.heap.size := by omega
    go_wp2
    refine wp_region_noPanic ?_
    refine wp_region_held_drew (S := (fun w' => w'.cell? ⟨g, 6, none⟩ = some (.func (.func 55) #[] #[]))) (by kernel_rfl) r6 (fun hHeld => ?_)
    refine tk 0 ?_
    refine tk 1 ?_
    refine tk 2 ?_
    refine tk 3 ?_
    refine tk 4 ?_
    refine tk 5 ?_
    refine tk 6 ?_
    refine tk 7 ?_
    refine tk 8 ?_
    refine wpAnyH_ready (rs := [9, 11]) (by kernel_rfl) (by simp) ?_
    refine AllReadyH.cons rfl (fun K hK => ?_) (AllReadyH.cons rfl (fun K hK => ?_) AllReadyH.nil)
    · rw [if_pos (by rfl)]
      go_wp2_with fail
      refine (takeInst1_any w0 g (Vf v n) l1 a f2 _ HE.out (HS3.out.drew)).mono ?_
      rintro e w4 ⟨rfl, T4, S4⟩
      rw [e3.out] at S4 ⊢
      simp only at S4 ⊢
      have k6 : w4.cell? ⟨g, 6, none⟩ = some (.func (.func 55) #[] #[]) := (S4.more (by omega)).trans (Vf6 HV.out)
      refine hK.out _ _ k6 (fun hHeld => ?_)
      clear hK K
      try simp only [Act.put, List.getElem_toArray, List.getElem_cons_succ, List.getElem_cons_zero, List.setIfInBounds_toArray, List.set_cons_zero, List.set_cons_succ]
      refine tk 10 ?_
      refine wpAnyH_ready (rs := [11]) (by kernel_rfl) (by simp) ?_
      refine AllReadyH.cons rfl (fun K hK => ?_) AllReadyH.nil
      rw [if_pos (by rfl)]
      go_wp2_with fail
      refine hK.out _ _ (by simp [*, World.cell?_alloc_some]) (fun hHeld => ?_)
      clear hK K
      try simp only [Act.put, List.getElem_toArray, List.getElem_cons_succ, List.getElem_cons_zero, List.setIfInBounds_toArray, List.set_cons_zero, List.set_cons_succ]
      refine wpAnyH_ready (rs := [12]) (by kernel_rfl) (by simp) ?_
      refine AllReadyH.cons rfl (fun K hK => ?_) AllReadyH.nil
      rw [if_pos (by rfl)]
      have n0 := World.new_ne w4 _ k6
      go_wp2_with fail
      refine hK.out _ _ (by simp [*, World.cell?_alloc_some]) (fun hHeld => ?_)
      clear hK K
      try simp only [Act.put, List.getElem_toArray, List.getElem_cons_succ, List.getElem_cons_zero, List.setIfInBounds_toArray, List.set_cons_zero, List.set_cons_succ]
      refine wpAnyH_done (by kernel_rfl) ?_ _
      refine NoPanic.normal ?_
      have hw4 : w3.heap.size ≤ w4.heap.size := T4.size
      have HT9 : Hid (Touch g w (w4.alloc (.cells #[.int .i64 k, .int .i64 x, .int .i64 y] 88))) := (HT3.out.drew.trans T4).trans (Touch.ofBelow ((Below.refl w4.heap.size w4).alloc (Nat.le_refl _) _))
      have HS9 : Hid (Scx w0 (w4.alloc (.cells #[.int .i64 k, .int .i64 x, .int .i64 y] 88)) g (Vf v n) l2 f3) := S4.below ((Below.refl w4.heap.size w4).alloc (Nat.le_refl _) _)
      have HQ9 : Hid (Blk (w4.alloc (.cells #[.int .i64 k, .int .i64 x, .int .i64 y] 88)) w.heap.size [.int .i64 0, .int .i64 0, .int .i64 0]) := (HQ3.out.drew.touch T4 (by omega)).on ((Below.refl w4.heap.size w4).alloc (Nat.le_refl _) _)
      have HB9 : Hid (Blk (w4.alloc (.cells #[.int .i64 k, .int .i64 x, .int .i64 y] 88)) (w4.heap.size) [.int .i64 k, .int .i64 x, .int .i64 y]) := blk_new w4 88 [.int .i64 k, .int .i64 x, .int .i64 y]
      have hqg : (w4.heap.size) ≠ g := by omega
      have hqw : w.heap.size < (w4.heap.size) := by omega
      clear T4 S4 k6 hHeld HS3 HT3 HQ3 r6
      generalize (w4.alloc (.cells #[.int .i64 k, .int .i64 x, .int .i64 y] 88)) = W9 at *
      generalize (w4.heap.size) = qb at *
      have b0 := HB9.out.cell 0 _ rfl
      have b1 := HB9.out.cell 1 _ rfl
      have b2 := HB9.out.cell 2 _ rfl
      have h9 : W9.cell? ⟨g, 9, none⟩ = some (.int .i64 n) := HS9.out.more (by omega)
      go_wp2
      refine wp_region_noPanic ?_
      refine wp_region_held_drew (S := (fun w' => w'.cell? ⟨qb, 0, none⟩ = some (.int .i64 k) ∧ w'.cell? ⟨qb, 1, none⟩ = some (.int .i64 x) ∧ w'.cell? ⟨qb, 2, none⟩ = some (.int .i64 y) ∧ w'.cell? ⟨g, 9, none⟩ = some (.int .i64 n))) (by kernel_rfl) ⟨b0, b1, b2, h9⟩ (fun hHeld => ?_)
      refine tk 0 ?_
      refine tk 1 ?_
      refine tk 2 ?_
      refine tk 3 ?_
      refine tk 4 ?_
      refine tk 5 ?_
      refine tk 6 ?_
      refine tk 7 ?_
      refine wpAnyH_ready (rs := [8]) (by kernel_rfl) (by simp) ?_
      refine AllReadyH.cons rfl (fun K hK => ?_) AllReadyH.nil
      rw [if_pos (by rfl)]
      go_wp2_with fail
      refine (instFault_any k x y n _).mono ?_
      rintro e w5 ⟨rfl, hb5⟩
      rw [hu2.out]
      have B5 := Blk.on HB9.out.drew hb5
      have S5 := HS9.out.drew.below hb5
      have n5 : w5.cell? ⟨g, 9, none⟩ = some (.int .i64 n) := S5.more (by omega)
      refine hK.out _ _ ⟨B5.cell 0 _ rfl, B5.cell 1 _ rfl, B5.cell 2 _ rfl, n5⟩ (fun hHeld => ?_)
      clear hK K
      try simp only [Act.put, List.getElem_toArray, List.getElem_cons_succ, List.getElem_cons_zero, List.setIfInBounds_toArray, List.set_cons_zero, List.set_cons_succ]
      refine wpAnyH_ready (rs := [9]) (by kernel_rfl) (by simp) ?_
      refine AllReadyH.cons rfl (fun K hK => ?_) AllReadyH.nil
      rw [if_pos (by rfl)]
      go_wp2_with fail
      refine (irefuse_x w0 g (Vf v n) l2 f3 u2 _ S5).mono ?_
      rintro e w6 ⟨rfl, T6, S6⟩
      rw [hf4.out] at S6
      have B6 := B5.touch T6 hqg
      refine hK.out _ _ ⟨B6.cell 0 _ rfl, B6.cell 1 _ rfl, B6.cell 2 _ rfl, S6.more (by omega)⟩ (fun hHeld => ?_)
      clear hK K
      try simp only [Act.put, List.getElem_toArray, List.getElem_cons_succ, List.getElem_cons_zero, List.setIfInBounds_toArray, List.set_cons_zero, List.set_cons_succ]
      refine wpAnyH_done (by kernel_rfl) ?_ _
      refine NoPanic.normal ?_
      have HT6 : Hid (Touch g w w6) := (HT9.out.drew.trans (Touch.ofBelow hb5)).trans T6
      have HS6 := hide S6
      have R6 := (Blk.on HQ9.out.drew hb5).touch T6 (by omega)
      have c0 := B6.cell 0 _ rfl
      have d0 := R6.cell 0 _ rfl
      have t0 := R6.thaw 0
      have c1 := B6.cell 1 _ rfl
      have d1 := R6.cell 1 _ rfl
      have t1 := R6.thaw 1
      have c2 := B6.cell 2 _ rfl
      have d2 := R6.cell 2 _ rfl
      have t2 := R6.thaw 2
      have R : Hid (Touch g w (((w6.setCell ⟨w.heap.size, 0, none⟩ (.int .i64 k)).setCell ⟨w.heap.size, 1, none⟩ (.int .i64 x)).setCell ⟨w.heap.size, 2, none⟩ (.int .i64 y)) ∧ Scx w0 (((w6.setCell ⟨w.heap.size, 0, none⟩ (.int .i64 k)).setCell ⟨w.heap.size, 1, none⟩ (.int .i64 x)).setCell ⟨w.heap.size, 2, none⟩ (.int .i64 y)) g (Vf v n) l2 f4) := ⟨((HT6.out.setNew _ (Nat.le_refl _)).setNew _ (Nat.le_refl _)).setNew _ (Nat.le_refl _), ((HS6.out.other _ (by omega) HW.out).other _ (by omega) HW.out).other _ (by omega) HW.out⟩
      clear S5 T6 S6 B5 B6 R6 hb5 n5 h9 b0 b1 b2 HB9 HQ9 HS9 HT9 HT6 HS6 hHeld
      go_wp2
      refine bodyPost_ret (v := .agg #[.int .i64 k, .int .i64 x, .int .i64 y]) (by simp [results, Tryz.results64, go_sem, *]) rfl ⟨rfl, R.out⟩
    · rw [if_pos (by rfl)]
      go_wp2_with fail
      refine hK.out _ _ (by simp [*, World.cell?_alloc_some]) (fun hHeld => ?_)
      clear hK K
      try simp only [Act.put, List.getElem_toArray, List.getElem_cons_succ, List.getElem_cons_zero, List.setIfInBounds_toArray, List.set_cons_zero, List.set_cons_succ]
      refine wpAnyH_ready (rs := [9]) (by kernel_rfl) (by simp) ?_
      refine AllReadyH.cons rfl (fun K hK => ?_) AllReadyH.nil
      rw [if_pos (by rfl)]
      go_wp2_with fail
      refine (takeInst1_any w0 g (Vf v n) l1 a f2 _ HE.out ((HS3.out.drew).alloc (.cells #[.int .i64 0, .int .i64 0, .int .i64 0] 88))).mono ?_
      rintro e w4 ⟨rfl, T4, S4⟩
      rw [e3.out] at S4 ⊢
      simp only at S4 ⊢
      have k6 : w4.cell? ⟨g, 6, none⟩ = some (.func (.func 55) #[] #[]) := (S4.more (by omega)).trans (Vf6 HV.out)
      refine hK.out _ _ k6 (fun hHeld => ?_)
      clear hK K
      try simp only [Act.put, List.getElem_toArray, List.getElem_cons_succ, List.getElem_cons_zero, List.setIfInBounds_toArray, List.set_cons_zero, List.set_cons_succ]
      refine tk 10 ?_
      refine wpAnyH_ready (rs := [12]) (by kernel_rfl) (by simp) ?_
      refine AllReadyH.cons rfl (fun K hK => ?_) AllReadyH.nil
      rw [if_pos (by rfl)]
      have Z4 : Blk w4 w3.heap.size [.int .i64 0, .int .i64 0, .int .i64 0] := (blk_new w3.drew 88 [.int .i64 0, .int .i64 0, .int .i64 0]).touch T4 (by show w3.heap.size ≠ g; omega)
      have z0 := Z4.cell 0 _ rfl
      have z1 := Z4.cell 1 _ rfl
      have z2 := Z4.cell 2 _ rfl
      have y0 := Z4.thaw 0
      have y1 := Z4.thaw 1
      have y2 := Z4.thaw 2
      have h3g : w3.heap.size ≠ g := by omega
      go_wp2_with fail
      refine hK.out _ _ ((World.cell?_setCell_far _ ⟨w3.heap.size, 2, none⟩ _ (.int .i64 y) h3g).trans ((World.cell?_setCell_far _ ⟨w3.heap.size, 1, none⟩ _ (.int .i64 x) h3g).trans ((World.cell?_setCell_far _ ⟨w3.heap.size, 0, none⟩ _ (.int .i64 k) h3g).trans k6))) (fun hHeld => ?_)
      clear hK K
      try simp only [Act.put, List.getElem_toArray, List.getElem_cons_succ, List.getElem_cons_zero, List.setIfInBounds_toArray, List.set_cons_zero, List.set_cons_succ]
      refine wpAnyH_done (by kernel_rfl) ?_ _
      refine NoPanic.normal ?_
      have HT9 : Hid (Touch g w (((w4.setCell ⟨w3.heap.size, 0, none⟩ (.int .i64 k)).setCell ⟨w3.heap.size, 1, none⟩ (.int .i64 x)).setCell ⟨w3.heap.size, 2, none⟩ (.int .i64 y))) := ((((HT3.out.drew.trans (Touch.ofBelow ((Below.refl w3.drew.heap.size w3.drew).alloc (Nat.le_refl _) _))).trans T4).setNew _ (by omega)).setNew _ (by omega)).setNew _ (by omega)
      have HS9 : Hid (Scx w0 (((w4.setCell ⟨w3.heap.size, 0, none⟩ (.int .i64 k)).setCell ⟨w3.heap.size, 1, none⟩ (.int .i64 x)).setCell ⟨w3.heap.size, 2, none⟩ (.int .i64 y)) g (Vf v n) l2 f3) := ((S4.other _ (by omega) (by have := HW.out; omega)).other _ (by omega) (by have := HW.out; omega)).other _ (by omega) (by have := HW.out; omega)
      have HQ9 : Hid (Blk (((w4.setCell ⟨w3.heap.size, 0, none⟩ (.int .i64 k)).setCell ⟨w3.heap.size, 1, none⟩ (.int .i64 x)).setCell ⟨w3.heap.size, 2, none⟩ (.int .i64 y)) w.heap.size [.int .i64 0, .int .i64 0, .int .i64 0]) := ((((HQ3.out.drew.on ((Below.refl w3.drew.heap.size w3.drew).alloc (Nat.le_refl _) _)).touch T4 (by omega)).setOther (by omega) _).setOther (by omega) _).setOther (by omega) _
      have HB9 : Hid (Blk (((w4.setCell ⟨w3.heap.size, 0, none⟩ (.int .i64 k)).setCell ⟨w3.heap.size, 1, none⟩ (.int .i64 x)).setCell ⟨w3.heap.size, 2, none⟩ (.int .i64 y)) (w3.heap.size) [.int .i64 k, .int .i64 x, .int .i64 y]) := Z4.set3 _ _ _
      have hqg : (w3.heap.size) ≠ g := by omega
      have hqw : w.heap.size < (w3.heap.size) := by omega
      clear T4 S4 k6 hHeld HS3 HT3 HQ3 r6 Z4 z0 z1 z2 y0 y1 y2
      generalize (((w4.setCell ⟨w3.heap.size, 0, none⟩ (.int .i64 k)).setCell ⟨w3.heap.size, 1, none⟩ (.int .i64 x)).setCell ⟨w3.heap.size, 2, none⟩ (.int .i64 y)) = W9 at *
      generalize (w3.heap.size) = qb at *
      have b0 := HB9.out.cell 0 _ rfl
      have b1 := HB9.out.cell 1 _ rfl
      have b2 := HB9.out.cell 2 _ rfl
      have h9 : W9.cell? ⟨g, 9, none⟩ = some (.int .i64 n) := HS9.out.more (by omega)
      go_wp2
      refine wp_region_noPanic ?_
      refine wp_region_held_drew (S := (fun w' => w'.cell? ⟨qb, 0, none⟩ = some (.int .i64 k) ∧ w'.cell? ⟨qb, 1, none⟩ = some (.int .i64 x) ∧ w'.cell? ⟨qb, 2, none⟩ = some (.int .i64 y) ∧ w'.cell? ⟨g, 9, none⟩ = some (.int .i64 n))) (by kernel_rfl) ⟨b0, b1, b2, h9⟩ (fun hHeld => ?_)
      refine tk 0 ?_
      refine tk 1 ?_
      refine tk 2 ?_
      refine tk 3 ?_
      refine tk 4 ?_
      refine tk 5 ?_
      refine tk 6 ?_
      refine tk 7 ?_
      refine wpAnyH_ready (rs := [8]) (by kernel_rfl) (by simp) ?_
      refine AllReadyH.cons rfl (fun K hK => ?_) AllReadyH.nil
      rw [if_pos (by rfl)]
      go_wp2_with fail
      refine (instFault_any k x y n _).mono ?_
      rintro e w5 ⟨rfl, hb5⟩
      rw [hu2.out]
      have B5 := Blk.on HB9.out.drew hb5
      have S5 := HS9.out.drew.below hb5
      have n5 : w5.cell? ⟨g, 9, none⟩ = some (.int .i64 n) := S5.more (by omega)
      refine hK.out _ _ ⟨B5.cell 0 _ rfl, B5.cell 1 _ rfl, B5.cell 2 _ rfl, n5⟩ (fun hHeld => ?_)
      clear hK K
      try simp only [Act.put, List.getElem_toArray, List.getElem_cons_succ, List.getElem_cons_zero, List.setIfInBounds_toArray, List.set_cons_zero, List.set_cons_succ]
      refine wpAnyH_ready (rs := [9]) (by kernel_rfl) (by simp) ?_
      refine AllReadyH.cons rfl (fun K hK => ?_) AllReadyH.nil
      rw [if_pos (by rfl)]
      go_wp2_with fail
      refine (irefuse_x w0 g (Vf v n) l2 f3 u2 _ S5).mono ?_
      rintro e w6 ⟨rfl, T6, S6⟩
      rw [hf4.out] at S6
      have B6 := B5.touch T6 hqg
      refine hK.out _ _ ⟨B6.cell 0 _ rfl, B6.cell 1 _ rfl, B6.cell 2 _ rfl, S6.more (by omega)⟩ (fun hHeld => ?_)
      clear hK K
      try simp only [Act.put, List.getElem_toArray, List.getElem_cons_succ, List.getElem_cons_zero, List.setIfInBounds_toArray, List.set_cons_zero, List.set_cons_succ]
      refine wpAnyH_done (by kernel_rfl) ?_ _
      refine NoPanic.normal ?_
      have HT6 : Hid (Touch g w w6) := (HT9.out.drew.trans (Touch.ofBelow hb5)).trans T6
      have HS6 := hide S6
      have R6 := (Blk.on HQ9.out.drew hb5).touch T6 (by omega)
      have c0 := B6.cell 0 _ rfl
      have d0 := R6.cell 0 _ rfl
      have t0 := R6.thaw 0
      have c1 := B6.cell 1 _ rfl
      have d1 := R6.cell 1 _ rfl
      have t1 := R6.thaw 1
      have c2 := B6.cell 2 _ rfl
      have d2 := R6.cell 2 _ rfl
      have t2 := R6.thaw 2
      have R : Hid (Touch g w (((w6.setCell ⟨w.heap.size, 0, none⟩ (.int .i64 k)).setCell ⟨w.heap.size, 1, none⟩ (.int .i64 x)).setCell ⟨w.heap.size, 2, none⟩ (.int .i64 y)) ∧ Scx w0 (((w6.setCell ⟨w.heap.size, 0, none⟩ (.int .i64 k)).setCell ⟨w.heap.size, 1, none⟩ (.int .i64 x)).setCell ⟨w.heap.size, 2, none⟩ (.int .i64 y)) g (Vf v n) l2 f4) := ⟨((HT6.out.setNew _ (Nat.le_refl _)).setNew _ (Nat.le_refl _)).setNew _ (Nat.le_refl _), ((HS6.out.other _ (by omega) HW.out).other _ (by omega) HW.out).other _ (by omega) HW.out⟩
      clear S5 T6 S6 B5 B6 R6 hb5 n5 h9 b0 b1 b2 HB9 HQ9 HS9 HT9 HT6 HS6 hHeld
      go_wp2
      refine bodyPost_ret (v := .agg #[.int .i64 k, .int .i64 x, .int .i64 y]) (by simp [results, Tryz.results64, go_sem, *]) rfl ⟨rfl, R.out⟩
  · have e3 : Hid (iPack l1 f2 = ((y, x), l2, f3)) := iInst_two hv e2.out
    have HV := hide hv
    clear hv
    go_enter Tryz.func64, Tryz.ntmps64
    go_wp2_with fail
    refine (inext_any w0 g (Vf v n) l f _ HX.out).mono ?_
    rintro r w1 ⟨rfl, T1, S1⟩
    rw [e1.out] at S1 ⊢
    simp only at S1 ⊢
    have HT1 := hide (T0.out.trans T1)
    have HS1 := hide S1
    have HQ1 := hide (HQ.out.touch T1 (by omega))
    have r2 : w1.cell? ⟨g, 2, none⟩ = some (.int .i64 v) := S1.more (Nat.le_refl _)
    clear T1 S1 HX HQ T0
    go_wp2
    refine wp_region_noPanic ?_
    refine wp_region_held_drew (S := (fun w' => w'.cell? ⟨g, 2, none⟩ = some (.int .i64 v))) (by kernel_rfl) r2 (fun hHeld => ?_)
    refine tk 0 ?_
    refine tk 1 ?_
    refine tk 2 ?_
    refine tk 3 ?_
    refine tk 4 ?_
    refine tk 5 ?_
    refine tk 6 ?_
    refine tk 7 ?_
    refine tk 8 ?_
    refine wpAnyH_ready (rs := [9]) (by kernel_rfl) (by simp) ?_
    refine AllReadyH.cons rfl (fun K hK => ?_) AllReadyH.nil
    rw [if_pos (by rfl)]
    go_wp2_with fail
    refine (mKind_any v k _ (HKm.out.below HS1.out.drew.low (Nat.le_refl _))).mono ?_
    rintro e w2 ⟨rfl, hw2⟩
    subst hw2
    rw [hmb.out]
    refine hK.out _ _ r2 (fun hHeld => ?_)
    clear hK K
    try simp only [Act.put, List.getElem_toArray, List.getElem_cons_succ, List.getElem_cons_zero, List.setIfInBounds_toArray, List.set_cons_zero, List.set_cons_succ]
    refine wpAnyH_ready (rs := [10]) (by kernel_rfl) (by simp) ?_
    refine AllReadyH.cons rfl (fun K hK => ?_) AllReadyH.nil
    rw [if_pos (by rfl)]
    go_wp2_with fail
    refine (unless_any mb 51 _).mono ?_
    rintro e w2 ⟨rfl, hw2⟩
    subst hw2
    rw [hu1.out]
    refine hK.out _ _ r2 (fun hHeld => ?_)
    clear hK K
    try simp only [Act.put, List.getElem_toArray, List.getElem_cons_succ, List.getElem_cons_zero, List.setIfInBounds_toArray, List.set_cons_zero, List.set_cons_succ]
    refine wpAnyH_ready (rs := [11]) (by kernel_rfl) (by simp) ?_
    refine AllReadyH.cons rfl (fun K hK => ?_) AllReadyH.nil
    rw [if_pos (by rfl)]
    go_wp2_with fail
    refine (irefuse_x w0 g (Vf v n) l1 f1 u1 _ HS1.out.drew).mono ?_
    rintro e w3 ⟨rfl, T3, S3⟩
    rw [hf2.out] at S3
    refine hK.out _ _ (S3.more (Nat.le_refl _)) (fun hHeld => ?_)
    clear hK K
    try simp only [Act.put, List.getElem_toArray, List.getElem_cons_succ, List.getElem_cons_zero, List.setIfInBounds_toArray, List.set_cons_zero, List.set_cons_succ]
    refine wpAnyH_done (by kernel_rfl) ?_ _
    refine NoPanic.normal ?_
    have HT3 : Hid (Touch g w w3) := HT1.out.drew.trans T3
    have HS3 := hide S3
    have HQ3 := hide (HQ1.out.drew.touch T3 (by omega))
    clear T3 S3 HS1 HT1 HQ1 hHeld r2
    have r6 : w3.cell? ⟨g, 6, none⟩ = some (.func (.func 61) #[] #[]) := (HS3.out.more (by omega)).trans (Vf6' HV.out)
    have hw3 : w.heap.size < w3.heap.size := HQ3.out.lt
    have hg3 : g < w3.heap.size := by omega
    go_wp2
    refine wp_region_noPanic ?_
    refine wp_region_held_drew (S := (fun w' => w'.cell? ⟨g, 6, none⟩ = some (.func (.func 61) #[] #[]))) (by kernel_rfl) r6 (fun hHeld => ?_)
    refine tk 0 ?_
    refine tk 1 ?_
    refine tk 2 ?_
    refine tk 3 ?_
    refine tk 4 ?_
    refine tk 5 ?_
    refine tk 6 ?_
    refine tk 7 ?_
    refine tk 8 ?_
    refine wpAnyH_ready (rs := [9, 11]) (by kernel_rfl) (by simp) ?_
    refine AllReadyH.cons rfl (fun K hK => ?_) (AllReadyH.cons rfl (fun K hK => ?_) AllReadyH.nil)
    · rw [if_pos (by rfl)]
      go_wp2_with fail
      refine (takeInst2_any w0 g (Vf v n) l1 a f2 _ HE.out (HS3.out.drew)).mono ?_
      rintro e w4 ⟨rfl, T4, S4⟩
      rw [e3.out] at S4 ⊢
      simp only at S4 ⊢
      have k6 : w4.cell? ⟨g, 6, none⟩ = some (.func (.func 61) #[] #[]) := (S4.more (by omega)).trans (Vf6' HV.out)
      refine hK.out _ _ k6 (fun hHeld => ?_)
      clear hK K
      try simp only [Act.put, List.getElem_toArray, List.getElem_cons_succ, List.getElem_cons_zero, List.setIfInBounds_toArray, List.set_cons_zero, List.set_cons_succ]
      refine tk 10 ?_
      refine wpAnyH_ready (rs := [11]) (by kernel_rfl) (by simp) ?_
      refine AllReadyH.cons rfl (fun K hK => ?_) AllReadyH.nil
      rw [if_pos (by rfl)]
      go_wp2_with fail
      refine hK.out _ _ (by simp [*, World.cell?_alloc_some]) (fun hHeld => ?_)
      clear hK K
      try simp only [Act.put, List.getElem_toArray, List.getElem_cons_succ, List.getElem_cons_zero, List.setIfInBounds_toArray, List.set_cons_zero, List.set_cons_succ]
      refine wpAnyH_ready (rs := [12]) (by kernel_rfl) (by simp) ?_
      refine AllReadyH.cons rfl (fun K hK => ?_) AllReadyH.nil
      rw [if_pos (by rfl)]
      have n0 := World.new_ne w4 _ k6
      go_wp2_with fail
      refine hK.out _ _ (by simp [*, World.cell?_alloc_some]) (fun hHeld => ?_)
      clear hK K
      try simp only [Act.put, List.getElem_toArray, List.getElem_cons_succ, List.getElem_cons_zero, List.setIfInBounds_toArray, List.set_cons_zero, List.set_cons_succ]
      refine wpAnyH_done (by kernel_rfl) ?_ _
      refine NoPanic.normal ?_
      have hw4 : w3.heap.size ≤ w4.heap.size := T4.size
      have HT9 : Hid (Touch g w (w4.alloc (.cells #[.int .i64 k, .int .i64 x, .int .i64 y] 88))) := (HT3.out.drew.trans T4).trans (Touch.ofBelow ((Below.refl w4.heap.size w4).alloc (Nat.le_refl _) _))
      have HS9 : Hid (Scx w0 (w4.alloc (.cells #[.int .i64 k, .int .i64 x, .int .i64 y] 88)) g (Vf v n) l2 f3) := S4.below ((Below.refl w4.heap.size w4).alloc (Nat.le_refl _) _)
      have HQ9 : Hid (Blk (w4.alloc (.cells #[.int .i64 k, .int .i64 x, .int .i64 y] 88)) w.heap.size [.int .i64 0, .int .i64 0, .int .i64 0]) := (HQ3.out.drew.touch T4 (by omega)).on ((Below.refl w4.heap.size w4).alloc (Nat.le_refl _) _)
      have HB9 : Hid (Blk (w4.alloc (.cells #[.int .i64 k, .int .i64 x, .int .i64 y] 88)) (w4.heap.size) [.int .i64 k, .int .i64 x, .int .i64 y]) := blk_new w4 88 [.int .i64 k, .int .i64 x, .int .i64 y]
      have hqg : (w4.heap.size) ≠ g := by omega
      have hqw : w.heap.size < (w4.heap.size) := by omega
      clear T4 S4 k6 hHeld HS3 HT3 HQ3 r6
      generalize (w4.alloc (.cells #[.int .i64 k, .int .i64 x, .int .i64 y] 88)) = W9 at *
      generalize (w4.heap.size) = qb at *
      have b0 := HB9.out.cell 0 _ rfl
      have b1 := HB9.out.cell 1 _ rfl
      have b2 := HB9.out.cell 2 _ rfl
      have h9 : W9.cell? ⟨g, 9, none⟩ = some (.int .i64 n) := HS9.out.more (by omega)
      go_wp2
      refine wp_region_noPanic ?_
      refine wp_region_held_drew (S := (fun w' => w'.cell? ⟨qb, 0, none⟩ = some (.int .i64 k) ∧ w'.cell? ⟨qb, 1, none⟩ = some (.int .i64 x) ∧ w'.cell? ⟨qb, 2, none⟩ = some (.int .i64 y) ∧ w'.cell? ⟨g, 9, none⟩ = some (.int .i64 n))) (by kernel_rfl) ⟨b0, b1, b2, h9⟩ (fun hHeld => ?_)
      refine tk 0 ?_
      refine tk 1 ?_
      refine tk 2 ?_
      refine tk 3 ?_
      refine tk 4 ?_
      refine tk 5 ?_
      refine tk 6 ?_
      refine tk 7 ?_
      refine wpAnyH_ready (rs := [8]) (by kernel_rfl) (by simp) ?_
      refine AllReadyH.cons rfl (fun K hK => ?_) AllReadyH.nil
      rw [if_pos (by rfl)]
      go_wp2_with fail
      refine (instFault_any k x y n _).mono ?_
      rintro e w5 ⟨rfl, hb5⟩
      rw [hu2.out]
      have B5 := Blk.on HB9.out.drew hb5
      have S5 := HS9.out.drew.below hb5
      have n5 : w5.cell? ⟨g, 9, none⟩ = some (.int .i64 n) := S5.more (by omega)
      refine hK.out _ _ ⟨B5.cell 0 _ rfl, B5.cell 1 _ rfl, B5.cell 2 _ rfl, n5⟩ (fun hHeld => ?_)
      clear hK K
      try simp only [Act.put, List.getElem_toArray, List.getElem_cons_succ, List.getElem_cons_zero, List.setIfInBounds_toArray, List.set_cons_zero, List.set_cons_succ]
      refine wpAnyH_ready (rs := [9]) (by kernel_rfl) (by simp) ?_
      refine AllReadyH.cons rfl (fun K hK => ?_) AllReadyH.nil
      rw [if_pos (by rfl)]
      go_wp2_with fail
      refine (irefuse_x w0 g (Vf v n) l2 f3 u2 _ S5).mono ?_
      rintro e w6 ⟨rfl, T6, S6⟩
      rw [hf4.out] at S6
      have B6 := B5.touch T6 hqg
      refine hK.out _ _ ⟨B6.cell 0 _ rfl, B6.cell 1 _ rfl, B6.cell 2 _ rfl, S6.more (by omega)⟩ (fun hHeld => ?_)
      clear hK K
      try simp only [Act.put, List.getElem_toArray, List.getElem_cons_succ, List.getElem_cons_zero, List.setIfInBounds_toArray, List.set_cons_zero, List.set_cons_succ]
      refine wpAnyH_done (by kernel_rfl) ?_ _
      refine NoPanic.normal ?_
      have HT6 : Hid (Touch g w w6) := (HT9.out.drew.trans (Touch.ofBelow hb5)).trans T6
      have HS6 := hide S6
      have R6 := (Blk.on HQ9.out.drew hb5).touch T6 (by omega)
      have c0 := B6.cell 0 _ rfl
      have d0 := R6.cell 0 _ rfl
      have t0 := R6.thaw 0
      have c1 := B6.cell 1 _ rfl
      have d1 := R6.cell 1 _ rfl
      have t1 := R6.thaw 1
      have c2 := B6.cell 2 _ rfl
      have d2 := R6.cell 2 _ rfl
      have t2 := R6.thaw 2
      have R : Hid (Touch g w (((w6.setCell ⟨w.heap.size, 0, none⟩ (.int .i64 k)).setCell ⟨w.heap.size, 1, none⟩ (.int .i64 x)).setCell ⟨w.heap.size, 2, none⟩ (.int .i64 y)) ∧ Scx w0 (((w6.setCell ⟨w.heap.size, 0, none⟩ (.int .i64 k)).setCell ⟨w.heap.size, 1, none⟩ (.int .i64 x)).setCell ⟨w.heap.size, 2, none⟩ (.int .i64 y)) g (Vf v n) l2 f4) := ⟨((HT6.out.setNew _ (Nat.le_refl _)).setNew _ (Nat.le_refl _)).setNew _ (Nat.le_refl _), ((HS6.out.other _ (by omega) HW.out).other _ (by omega) HW.out).other _ (by omega) HW.out⟩
      clear S5 T6 S6 B5 B6 R6 hb5 n5 h9 b0 b1 b2 HB9 HQ9 HS9 HT9 HT6 HS6 hHeld
      go_wp2
      refine bodyPost_ret (v := .agg #[.int .i64 k, .int .i64 x, .int .i64 y]) (by simp [results, Tryz.results64, go_sem, *]) rfl ⟨rfl, R.out⟩
    · rw [if_pos (by rfl)]
      go_wp2_with fail
      refine hK.out _ _ (by simp [*, World.cell?_alloc_some]) (fun hHeld => ?_)
      clear hK K
      try simp only [Act.put, List.getElem_toArray, List.getElem_cons_succ, List.getElem_cons_zero, List.setIfInBounds_toArray, List.set_cons_zero, List.set_cons_succ]
      refine wpAnyH_ready (rs := [9]) (by kernel_rfl) (by simp) ?_
      refine AllReadyH.cons rfl (fun K hK => ?_) AllReadyH.nil
      rw [if_pos (by rfl)]
      go_wp2_with fail
      refine (takeInst2_any w0 g (Vf v n) l1 a f2 _ HE.out ((HS3.out.drew).alloc (.cells #[.int .i64 0, .int .i64 0, .int .i64 0] 88))).mono ?_
      rintro e w4 ⟨rfl, T4, S4⟩
      rw [e3.out] at S4 ⊢
      simp only at S4 ⊢
      have k6 : w4.cell? ⟨g, 6, none⟩ = some (.func (.func 61) #[] #[]) := (S4.more (by omega)).trans (Vf6' HV.out)
      refine hK.out _ _ k6 (fun hHeld => ?_)
      clear hK K
      try simp only [Act.put, List.getElem_toArray, List.getElem_cons_succ, List.getElem_cons_zero, List.setIfInBounds_toArray, List.set_cons_zero, List.set_cons_succ]
      refine tk 10 ?_
      refine wpAnyH_ready (rs := [12]) (by kernel_rfl) (by simp) ?_
      refine AllReadyH.cons rfl (fun K hK => ?_) AllReadyH.nil
      rw [if_pos (by rfl)]
      have Z4 : Blk w4 w3.heap.size [.int .i64 0, .int .i64 0, .int .i64 0] := (blk_new w3.drew 88 [.int .i64 0, .int .i64 0, .int .i64 0]).touch T4 (by show w3.heap.size ≠ g; omega)
      have z0 := Z4.cell 0 _ rfl
      have z1 := Z4.cell 1 _ rfl
      have z2 := Z4.cell 2 _ rfl
      have y0 := Z4.thaw 0
      have y1 := Z4.thaw 1
      have y2 := Z4.thaw 2
      have h3g : w3.heap.size ≠ g := by omega
      go_wp2_with fail
      refine hK.out _ _ ((World.cell?_setCell_far _ ⟨w3.heap.size, 2, none⟩ _ (.int .i64 y) h3g).trans ((World.cell?_setCell_far _ ⟨w3.heap.size, 1, none⟩ _ (.int .i64 x) h3g).trans ((World.cell?_setCell_far _ ⟨w3.heap.size, 0, none⟩ _ (.int .i64 k) h3g).trans k6))) (fun hHeld => ?_)
      clear hK K
      try simp only [Act.put, List.getElem_toArray, List.getElem_cons_succ, List.getElem_cons_zero, List.setIfInBounds_toArray, List.set_cons_zero, List.set_cons_succ]
      refine wpAnyH_done (by kernel_rfl) ?_ _
      refine NoPanic.normal ?_
      have HT9 : Hid (Touch g w (((w4.setCell ⟨w3.heap.size, 0, none⟩ (.int .i64 k)).setCell ⟨w3.heap.size, 1, none⟩ (.int .i64 x)).setCell ⟨w3.heap.size, 2, none⟩ (.int .i64 y))) := ((((HT3.out.drew.trans (Touch.ofBelow ((Below.refl w3.drew.heap.size w3.drew).alloc (Nat.le_refl _) _))).trans T4).setNew _ (by omega)).setNew _ (by omega)).setNew _ (by omega)
      have HS9 : Hid (Scx w0 (((w4.setCell ⟨w3.heap.size, 0, none⟩ (.int .i64 k)).setCell ⟨w3.heap.size, 1, none⟩ (.int .i64 x)).setCell ⟨w3.heap.size, 2, none⟩ (.int .i64 y)) g (Vf v n) l2 f3) := ((S4.other _ (by omega) (by have := HW.out; omega)).other _ (by omega) (by have := HW.out; omega)).other _ (by omega) (by have := HW.out; omega)
      have HQ9 : Hid (Blk (((w4.setCell ⟨w3.heap.size, 0, none⟩ (.int .i64 k)).setCell ⟨w3.heap.size, 1, none⟩ (.int .i64 x)).setCell ⟨w3.heap.size, 2, none⟩ (.int .i64 y)) w.heap.size [.int .i64 0, .int .i64 0, .int .i64 0]) := ((((HQ3.out.drew.on ((Below.refl w3.drew.heap.size w3.drew).alloc (Nat.le_refl _) _)).touch T4 (by omega)).setOther (by omega) _).setOther (by omega) _).setOther (by omega) _
      have HB9 : Hid (Blk (((w4.setCell ⟨w3.heap.size, 0, none⟩ (.int .i64 k)).setCell ⟨w3.heap.size, 1, none⟩ (.int .i64 x)).setCell ⟨w3.heap.size, 2, none⟩ (.int .i64 y)) (w3.heap.size) [.int .i64 k, .int .i64 x, .int .i64 y]) := Z4.set3 _ _ _
      have hqg : (w3.heap.size) ≠ g := by omega
      have hqw : w.heap.size < (w3.heap.size) := by omega
      clear T4 S4 k6 hHeld HS3 HT3 HQ3 r6 Z4 z0 z1 z2 y0 y1 y2
      generalize (((w4.setCell ⟨w3.heap.size, 0, none⟩ (.int .i64 k)).setCell ⟨w3.heap.size, 1, none⟩ (.int .i64 x)).setCell ⟨w3.heap.size, 2, none⟩ (.int .i64 y)) = W9 at *
      generalize (w3.heap.size) = qb at *
      have b0 := HB9.out.cell 0 _ rfl
      have b1 := HB9.out.cell 1 _ rfl
      have b2 := HB9.out.cell 2 _ rfl
      have h9 : W9.cell? ⟨g, 9, none⟩ = some (.int .i64 n) := HS9.out.more (by omega)
      go_wp2
      refine wp_region_noPanic ?_
      refine wp_region_held_drew (S := (fun w' => w'.cell? ⟨qb, 0, none⟩ = some (.int .i64 k) ∧ w'.cell? ⟨qb, 1, none⟩ = some (.int .i64 x) ∧ w'.cell? ⟨qb, 2, none⟩ = some (.int .i64 y) ∧ w'.cell? ⟨g, 9, none⟩ = some (.int .i64 n))) (by kernel_rfl) ⟨b0, b1, b2, h9⟩ (fun hHeld => ?_)
      refine tk 0 ?_
      refine tk 1 ?_
      refine tk 2 ?_
      refine tk 3 ?_
      refine tk 4 ?_
      refine tk 5 ?_
      refine tk 6 ?_
      refine tk 7 ?_
      refine wpAnyH_ready (rs := [8]) (by kernel_rfl) (by simp) ?_
      refine AllReadyH.cons rfl (fun K hK => ?_) AllReadyH.nil
      rw [if_pos (by rfl)]
      go_wp2_with fail
      refine (instFault_any k x y n _).mono ?_
      rintro e w5 ⟨rfl, hb5⟩
      rw [hu2.out]
      have B5 := Blk.on HB9.out.drew hb5
      have S5 := HS9.out.drew.below hb5
      have n5 : w5.cell? ⟨g, 9, none⟩ = some (.int .i64 n) := S5.more (by omega)
      refine hK.out _ _ ⟨B5.cell 0 _ rfl, B5.cell 1 _ rfl, B5.cell 2 _ rfl, n5⟩ (fun hHeld => ?_)
      clear hK K
      try simp only [Act.put, List.getElem_toArray, List.getElem_cons_succ, List.getElem_cons_zero, List.setIfInBounds_toArray, List.set_cons_zero, List.set_cons_succ]
      refine wpAnyH_ready (rs := [9]) (by kernel_rfl) (by simp) ?_
      refine AllReadyH.cons rfl (fun K hK => ?_) AllReadyH.nil
      rw [if_pos (by rfl)]
      go_wp2_with fail
      refine (irefuse_x w0 g (Vf v n) l2 f3 u2 _ S5).mono ?_
      rintro e w6 ⟨rfl, T6, S6⟩
      rw [hf4.out] at S6
      have B6 := B5.touch T6 hqg
      refine hK.out _ _ ⟨B6.cell 0 _ rfl, B6.cell 1 _ rfl, B6.cell 2 _ rfl, S6.more (by omega)⟩ (fun hHeld => ?_)
      clear hK K
      try simp only [Act.put, List.getElem_toArray, List.getElem_cons_succ, List.getElem_cons_zero, List.setIfInBounds_toArray, List.set_cons_zero, List.set_cons_succ]
      refine wpAnyH_done (by kernel_rfl) ?_ _
      refine NoPanic.normal ?_
      have HT6 : Hid (Touch g w w6) := (HT9.out.drew.trans (Touch.ofBelow hb5)).trans T6
      have HS6 := hide S6
      have R6 := (Blk.on HQ9.out.drew hb5).touch T6 (by omega)
      have c0 := B6.cell 0 _ rfl
      have d0 := R6.cell 0 _ rfl
      have t0 := R6.thaw 0
      have c1 := B6.cell 1 _ rfl
      have d1 := R6.cell 1 _ rfl
      have t1 := R6.thaw 1
      have c2 := B6.cell 2 _ rfl
      have d2 := R6.cell 2 _ rfl
      have t2 := R6.thaw 2
      have R : Hid (Touch g w (((w6.setCell ⟨w.heap.size, 0, none⟩ (.int .i64 k)).setCell ⟨w.heap.size, 1, none⟩ (.int .i64 x)).setCell ⟨w.heap.size, 2, none⟩ (.int .i64 y)) ∧ Scx w0 (((w6.setCell ⟨w.heap.size, 0, none⟩ (.int .i64 k)).setCell ⟨w.heap.size, 1, none⟩ (.int .i64 x)).setCell ⟨w.heap.size, 2, none⟩ (.int .i64 y)) g (Vf v n) l2 f4) := ⟨((HT6.out.setNew _ (Nat.le_refl _)).setNew _ (Nat.le_refl _)).setNew _ (Nat.le_refl _), ((HS6.out.other _ (by omega) HW.out).other _ (by omega) HW.out).other _ (by omega) HW.out⟩
      clear S5 T6 S6 B5 B6 R6 hb5 n5 h9 b0 b1 b2 HB9 HQ9 HS9 HT9 HT6 HS6 hHeld
      go_wp2
      refine bodyPost_ret (v := .agg #[.int .i64 k, .int .i64 x, .int .i64 y]) (by simp [results, Tryz.results64, go_sem, *]) rfl ⟨rfl, R.out⟩
end
end Go.Proofs.YtdokagebfeejbaaGreatDoor
