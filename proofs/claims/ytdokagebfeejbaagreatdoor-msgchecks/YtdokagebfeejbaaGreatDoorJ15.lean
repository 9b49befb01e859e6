/- Texts of the proof, joined. -/
import Derived.Test.YtdokagebfeejbaaGreatDoorJ01
import Derived.Test.YtdokagebfeejbaaGreatDoorJ14
/- The contract of the scan's ballot. -/
namespace Go.Proofs.YtdokagebfeejbaaGreatDoor
open Go.RowKit Go.Wire1

def iBalF (v n : Int) (kind : Nat) (row : Int) (l : List Int) (f : Int) : (Int × Int) × List Int × Int :=
  ((iBal v l f).1, (iBal v l f).2.1, refF (unl (ballB kind n row (iBal v l f).1.1 (iBal v l f).1.2) 53) (iBal v l f).2.2)
theorem Vf7 {v n : Int} (h : v = 1) : Vf v n 7 = some (.func (.func 56) #[] #[]) := by unfold Vf; simp [h]
theorem Vf7' {v n : Int} (h : v ≠ 1) : Vf v n 7 = some (.func (.func 62) #[] #[]) := by unfold Vf; simp [h]

theorem Blk.setOther {w : World} {q p o : Nat} {cs : List Value} (h : Blk w q cs) (hp : p ≠ q) (u : Value) : Blk (w.setCell ⟨p, o, none⟩ u) q cs := h.of_block (Below.heap_setCell _ _ _ _ (by show q ≠ p; omega))
theorem Blk.set2 {w : World} {q : Nat} {a b : Value} (h : Blk w q [a, b]) (x y : Value) : Blk ((w.setCell ⟨q, 0, none⟩ x).setCell ⟨q, 1, none⟩ y) q [x, y] := by
  have c0 := h.cell 0 _ rfl
  have c1 := h.cell 1 _ rfl
  refine ⟨fun j u hj => ?_, fun o => by rw [World.frozen?_setCell, World.frozen?_setCell]; exact h.thaw o, by have := h.lt; simpa [World.setCell] using this⟩
  match j, hj with
  | 0, hj =>
    simp at hj
    subst hj
    rw [World.cell?_setCell_other _ _ _ _ (by simp)]
    exact World.cell?_setCell_same w ⟨q, 0, none⟩ _ c0
  | 1, hj =>
    simp at hj
    subst hj
    exact World.cell?_setCell_same _ ⟨q, 1, none⟩ _ (by rw [World.cell?_setCell_other _ _ _ _ (by simp)]; exact c1)
  | j + 2, hj => simp at hj

section
variable (w0 : World) (g : Nat) (v n : Int) (l : List Int)
set_option maxHeartbeats 8000000 in
set_option maxRecDepth 100000 in
theorem sballot_any (a : Nat → Addr) (kind : Nat) (row num : Int) (f : Int) (w : World) (hk : kind < 10) (he : Errs w0 a) (hK : Kmd w0) (h : Scx w0 w g (Vf v n) l f) :
    Calls Tryz.prog 65 #[.pointer (some ⟨g, 0, none⟩), .agg #[.int .i64 (kind : Int), .int .i64 row, .int .i64 num]] w fun r w' => r = .returned (.agg #[.int .i64 (iBalF v n kind row l f).1.1, .int .i64 (iBalF v n kind row l f).1.2]) ∧ Touch g w w' ∧ Scx w0 w' g (Vf v n) (iBalF v n kind row l f).2.1 (iBalF v n kind row l f).2.2 := by
  obtain ⟨x, y, l1, f1, e1⟩ : ∃ x y l1 f1, Hid (iBal v l f = ((x, y), l1, f1)) := ⟨_, _, _, _, rfl⟩
  obtain ⟨u1, hu1⟩ : ∃ u, Hid (unl (ballB kind n row x y) 53 = u) := ⟨_, rfl⟩
  obtain ⟨f2, hf2⟩ : ∃ f2, Hid (refF u1 f1 = f2) := ⟨_, rfl⟩
  have e0 : Hid (iBalF v n kind row l f = ((x, y), l1, f2)) := by
    show _ = _
    unfold iBalF
    simp only [e1.out, hu1.out, hf2.out]
  rw [e0.out]
  simp only
  obtain ⟨V1, hV1⟩ : ∃ V, V = w.alloc (.cells #[.int .i64 (kind : Int), .int .i64 row, .int .i64 num] 88) := ⟨_, rfl⟩
  obtain ⟨U, hU⟩ : ∃ U, U = V1.alloc (.cells #[.int .i64 0, .int .i64 0] 25) := ⟨_, rfl⟩
  have hs1 : V1.heap.size = w.heap.size + 1 := by rw [hV1]; simp
  have hs2 : U.heap.size = w.heap.size + 2 := by rw [hU]; simp [hs1]
  have B0 : Hid (Below w.heap.size w U) := by rw [hU, hV1]; exact ((Below.refl _ w).alloc (Nat.le_refl _) _).alloc (by simp) _
  have HH : Hid (Blk U w.heap.size [.int .i64 (kind : Int), .int .i64 row, .int .i64 num]) := by rw [hU, hV1]; exact (blk_new w 88 [.int .i64 (kind : Int), .int .i64 row, .int .i64 num]).on ((Below.refl _ _).alloc (Nat.le_refl _) _)
  have HR : Hid (Blk U (w.heap.size + 1) [.int .i64 0, .int .i64 0]) := by rw [hU, ← hs1]; exact blk_new V1 25 [.int .i64 0, .int .i64 0]
  have hgl := h.lt
  have HW := hide h.low.size
  have HX : Hid (Scx w0 U g (Vf v n) l f) := h.below B0.out
  have T0 : Hid (Touch g w U) := Touch.ofBelow B0.out
  have HE := hide he
  have HKm := hide hK
  clear h he hK e0
  have hgU : g < U.heap.size := by omega
  by_cases hv : v = 1
  · have e2 : Hid (iTwo l f = ((x, y), l1, f1)) := by have := e1.out; unfold iBal at this; rw [if_pos hv] at this; exact this
    have r7 : U.cell? ⟨g, 7, none⟩ = some (.func (.func 56) #[] #[]) := (HX.out.more (by omega)).trans (Vf7 hv)
    go_enter Tryz.func65, Tryz.ntmps65
    go_wp2
    rw [← hV1, ← hU]
    clear hV1 hU
    refine wp_region_noPanic ?_
    refine wp_region_held_drew (S := (fun w' => w'.cell? ⟨g, 7, none⟩ = some (.func (.func 56) #[] #[]))) (by kernel_rfl) r7 (fun hHeld => ?_)
    refine tk 0 ?_
    refine tk 1 ?_
    refine tk 2 ?_
    refine tk 3 ?_
    refine tk 4 ?_
    refine tk 5 ?_
    refine tk 6 ?_
    refine tk 7 ?_
    refine wpAnyH_ready (rs := [8, 9]) (by kernel_rfl) (by simp) ?_
    refine AllReadyH.cons rfl (fun K hK => ?_) (AllReadyH.cons rfl (fun K hK => ?_) AllReadyH.nil)
    · rw [if_pos (by rfl)]
      go_wp2_with fail
      refine (takeBallot1_any w0 g (Vf v n) l a f _ HE.out (HX.out.drew)).mono ?_
      rintro e w1 ⟨rfl, T1, S1⟩
      rw [e2.out] at S1 ⊢
      simp only at S1 ⊢
      have k7 : w1.cell? ⟨g, 7, none⟩ = some (.func (.func 56) #[] #[]) := (S1.more (by omega)).trans (Vf7 hv)
      refine hK.out _ _ k7 (fun hHeld => ?_)
      clear hK K
      try simp only [Act.put, List.getElem_toArray, List.getElem_cons_succ, List.getElem_cons_zero, List.setIfInBounds_toArray, List.set_cons_zero, List.set_cons_succ]
      refine wpAnyH_ready (rs := [9]) (by kernel_rfl) (by simp) ?_
      refine AllReadyH.cons rfl (fun K hK => ?_) AllReadyH.nil
      rw [if_pos (by rfl)]
      go_wp2_with fail
      refine hK.out _ _ (by simp [*, World.cell?_alloc_some]) (fun hHeld => ?_)
      clear hK K
      try simp only [Act.put, List.getElem_toArray, List.getElem_cons_succ, List.getElem_cons_zero, List.setIfInBounds_toArray, List.set_cons_zero, List.set_cons_succ]
      refine wpAnyH_ready (rs := [10]) (by kernel_rfl) (by simp) ?_
      refine AllReadyH.cons rfl (fun K hK => ?_) AllReadyH.nil
      rw [if_pos (by rfl)]
      have n0 := World.new_ne w1 _ k7
      go_wp2_with fail
      refine hK.out _ _ (by simp [*, World.cell?_alloc_some]) (fun hHeld => ?_)
      clear hK K
      try simp only [Act.put, List.getElem_toArray, List.getElem_cons_succ, List.getElem_cons_zero, List.setIfInBounds_toArray, List.set_cons_zero, List.set_cons_succ]
      refine wpAnyH_done (by kernel_rfl) ?_ _
      refine NoPanic.normal ?_
      have hw1 : U.heap.size ≤ w1.heap.size := T1.size
      have HT9 : Hid (Touch g w (w1.alloc (.cells #[.int .i64 x, .int .i64 y] 25))) := ((T0.out.drew.trans T1).trans (Touch.ofBelow ((Below.refl w1.heap.size w1).alloc (Nat.le_refl _) _)))
      have HS9 : Hid (Scx w0 (w1.alloc (.cells #[.int .i64 x, .int .i64 y] 25)) g (Vf v n) l1 f1) := S1.below ((Below.refl w1.heap.size w1).alloc (Nat.le_refl _) _)
      have HH9 : Hid (Blk (w1.alloc (.cells #[.int .i64 x, .int .i64 y] 25)) w.heap.size [.int .i64 (kind : Int), .int .i64 row, .int .i64 num]) := (HH.out.drew.touch T1 (by omega)).on ((Below.refl w1.heap.size w1).alloc (Nat.le_refl _) _)
      have HR9 : Hid (Blk (w1.alloc (.cells #[.int .i64 x, .int .i64 y] 25)) (w.heap.size + 1) [.int .i64 0, .int .i64 0]) := (HR.out.drew.touch T1 (by omega)).on ((Below.refl w1.heap.size w1).alloc (Nat.le_refl _) _)
      have HQ9 : Hid (Blk (w1.alloc (.cells #[.int .i64 x, .int .i64 y] 25)) (w1.heap.size) [.int .i64 x, .int .i64 y]) := blk_new w1 25 [.int .i64 x, .int .i64 y]
      have hqg : (w1.heap.size) ≠ g := by omega
      have hqw : w.heap.size + 2 ≤ (w1.heap.size) := by omega
      clear T1 S1 k7 hHeld HX T0 HH HR r7
      generalize (w1.alloc (.cells #[.int .i64 x, .int .i64 y] 25)) = W9 at *
      generalize (w1.heap.size) = qb at *
      have h0 := HH9.out.cell 0 _ rfl
      have h1 := HH9.out.cell 1 _ rfl
      have h2 := HH9.out.cell 2 _ rfl
      have h9 : W9.cell? ⟨g, 9, none⟩ = some (.int .i64 n) := HS9.out.more (by omega)
      have b0 := HQ9.out.cell 0 _ rfl
      have b1 := HQ9.out.cell 1 _ rfl
      go_wp2
      refine wp_region_noPanic ?_
      refine wp_region_held_drew (S := (fun w' => w'.cell? ⟨w.heap.size, 0, none⟩ = some (.int .i64 (kind : Int)) ∧ w'.cell? ⟨w.heap.size, 1, none⟩ = some (.int .i64 row) ∧ w'.cell? ⟨w.heap.size, 2, none⟩ = some (.int .i64 num) ∧ w'.cell? ⟨g, 9, none⟩ = some (.int .i64 n) ∧ w'.cell? ⟨qb, 0, none⟩ = some (.int .i64 x) ∧ w'.cell? ⟨qb, 1, none⟩ = some (.int .i64 y))) (by kernel_rfl) ⟨h0, h1, h2, h9, b0, b1⟩ (fun hHeld => ?_)
      refine tk 0 ?_
      refine tk 1 ?_
      refine tk 2 ?_
      refine tk 3 ?_
      refine tk 4 ?_
      refine tk 5 ?_
      refine tk 6 ?_
      refine tk 7 ?_
      refine tk 8 ?_
      refine wpAnyH_ready (rs := [9]) (by kernel_rfl) (by simp) ?_
      refine AllReadyH.cons rfl (fun K hK => ?_) AllReadyH.nil
      rw [if_pos (by rfl)]
      go_wp2_with fail
      refine (ballotFault_any kind row num n x y _ hk (HKm.out.below HS9.out.drew.low (Nat.le_refl _))).mono ?_
      rintro e w3 ⟨rfl, hb3⟩
      rw [hu1.out]
      have H3 := Blk.on HH9.out.drew hb3
      have Q3 := Blk.on HQ9.out.drew hb3
      have S3 := HS9.out.drew.below hb3
      have n3 : w3.cell? ⟨g, 9, none⟩ = some (.int .i64 n) := S3.more (by omega)
      refine hK.out _ _ ⟨H3.cell 0 _ rfl, H3.cell 1 _ rfl, H3.cell 2 _ rfl, n3, Q3.cell 0 _ rfl, Q3.cell 1 _ rfl⟩ (fun hHeld => ?_)
      clear hK K
      try simp only [Act.put, List.getElem_toArray, List.getElem_cons_succ, List.getElem_cons_zero, List.setIfInBounds_toArray, List.set_cons_zero, List.set_cons_succ]
      refine wpAnyH_ready (rs := [10]) (by kernel_rfl) (by simp) ?_
      refine AllReadyH.cons rfl (fun K hK => ?_) AllReadyH.nil
      rw [if_pos (by rfl)]
      go_wp2_with fail
      refine (irefuse_x w0 g (Vf v n) l1 f1 u1 _ S3).mono ?_
      rintro e w4 ⟨rfl, T4, S4⟩
      rw [hf2.out] at S4
      have H4 := H3.touch T4 (by omega)
      have Q4 := Q3.touch T4 hqg
      refine hK.out _ _ ⟨H4.cell 0 _ rfl, H4.cell 1 _ rfl, H4.cell 2 _ rfl, S4.more (by omega), Q4.cell 0 _ rfl, Q4.cell 1 _ rfl⟩ (fun hHeld => ?_)
      clear hK K
      try simp only [Act.put, List.getElem_toArray, List.getElem_cons_succ, List.getElem_cons_zero, List.setIfInBounds_toArray, List.set_cons_zero, List.set_cons_succ]
      refine wpAnyH_done (by kernel_rfl) ?_ _
      refine NoPanic.normal ?_
      have HT4 : Hid (Touch g w w4) := (HT9.out.drew.trans (Touch.ofBelow hb3)).trans T4
      have HS4 := hide S4
      have R4 := (Blk.on HR9.out.drew hb3).touch T4 (by omega)
      have c0 := Q4.cell 0 _ rfl
      have c1 := Q4.cell 1 _ rfl
      have d0 := R4.cell 0 _ rfl
      have d1 := R4.cell 1 _ rfl
      have t0 := R4.thaw 0
      have t1 := R4.thaw 1
      have R : Hid (Touch g w ((w4.setCell ⟨w.heap.size + 1, 0, none⟩ (.int .i64 x)).setCell ⟨w.heap.size + 1, 1, none⟩ (.int .i64 y)) ∧ Scx w0 ((w4.setCell ⟨w.heap.size + 1, 0, none⟩ (.int .i64 x)).setCell ⟨w.heap.size + 1, 1, none⟩ (.int .i64 y)) g (Vf v n) l1 f2) := ⟨(HT4.out.setNew _ (by omega)).setNew _ (by omega), (HS4.out.other _ (by omega) (by have := HW.out; omega)).other _ (by omega) (by have := HW.out; omega)⟩
      clear S3 T4 S4 H3 H4 Q3 Q4 R4 hb3 n3 h0 h1 h2 h9 b0 b1 HH9 HR9 HQ9 HS9 HT9 HT4 HS4 hHeld
      go_wp2
      refine bodyPost_ret (v := .agg #[.int .i64 x, .int .i64 y]) (by simp [results, Tryz.results65, go_sem, *]) rfl ⟨rfl, R.out⟩
    · rw [if_pos (by rfl)]
      go_wp2_with fail
      refine hK.out _ _ (by simp [*, World.cell?_alloc_some]) (fun hHeld => ?_)
      clear hK K
      try simp only [Act.put, List.getElem_toArray, List.getElem_cons_succ, List.getElem_cons_zero, List.setIfInBounds_toArray, List.set_cons_zero, List.set_cons_succ]
      refine wpAnyH_ready (rs := [8]) (by kernel_rfl) (by simp) ?_
      refine AllReadyH.cons rfl (fun K hK => ?_) AllReadyH.nil
      rw [if_pos (by rfl)]
      go_wp2_with fail
      refine (takeBallot1_any w0 g (Vf v n) l a f _ HE.out ((HX.out.drew).alloc (.cells #[.int .i64 0, .int .i64 0] 25))).mono ?_
      rintro e w1 ⟨rfl, T1, S1⟩
      rw [e2.out] at S1 ⊢
      simp only at S1 ⊢
      have k7 : w1.cell? ⟨g, 7, none⟩ = some (.func (.func 56) #[] #[]) := (S1.more (by omega)).trans (Vf7 hv)
      refine hK.out _ _ k7 (fun hHeld => ?_)
      clear hK K
      try simp only [Act.put, List.getElem_toArray, List.getElem_cons_succ, List.getElem_cons_zero, List.setIfInBounds_toArray, List.set_cons_zero, List.set_cons_succ]
      refine wpAnyH_ready (rs := [10]) (by kernel_rfl) (by simp) ?_
      refine AllReadyH.cons rfl (fun K hK => ?_) AllReadyH.nil
      rw [if_pos (by rfl)]
      have Z1 : Blk w1 (w.heap.size + 2) [.int .i64 0, .int .i64 0] := by rw [← hs2]; exact (blk_new U.drew 25 [.int .i64 0, .int .i64 0]).touch T1 (by show U.heap.size ≠ g; omega)
      have z0 := Z1.cell 0 _ rfl
      have z1 := Z1.cell 1 _ rfl
      have y0 := Z1.thaw 0
      have y1 := Z1.thaw 1
      have hUg : w.heap.size + 2 ≠ g := by omega
      go_wp2_with fail
      refine hK.out _ _ ((World.cell?_setCell_far _ ⟨w.heap.size + 2, 1, none⟩ _ (.int .i64 y) hUg).trans ((World.cell?_setCell_far _ ⟨w.heap.size + 2, 0, none⟩ _ (.int .i64 x) hUg).trans k7)) (fun hHeld => ?_)
      clear hK K
      try simp only [Act.put, List.getElem_toArray, List.getElem_cons_succ, List.getElem_cons_zero, List.setIfInBounds_toArray, List.set_cons_zero, List.set_cons_succ]
      refine wpAnyH_done (by kernel_rfl) ?_ _
      refine NoPanic.normal ?_
      have HT9 : Hid (Touch g w ((w1.setCell ⟨w.heap.size + 2, 0, none⟩ (.int .i64 x)).setCell ⟨w.heap.size + 2, 1, none⟩ (.int .i64 y))) := (((T0.out.drew.trans (Touch.ofBelow ((Below.refl U.drew.heap.size U.drew).alloc (Nat.le_refl _) _))).trans T1).setNew _ (by omega)).setNew _ (by omega)
      have HS9 : Hid (Scx w0 ((w1.setCell ⟨w.heap.size + 2, 0, none⟩ (.int .i64 x)).setCell ⟨w.heap.size + 2, 1, none⟩ (.int .i64 y)) g (Vf v n) l1 f1) := (S1.other _ (by omega) (by have := HW.out; omega)).other _ (by omega) (by have := HW.out; omega)
      have HH9 : Hid (Blk ((w1.setCell ⟨w.heap.size + 2, 0, none⟩ (.int .i64 x)).setCell ⟨w.heap.size + 2, 1, none⟩ (.int .i64 y)) w.heap.size [.int .i64 (kind : Int), .int .i64 row, .int .i64 num]) := (((HH.out.drew.on ((Below.refl U.drew.heap.size U.drew).alloc (Nat.le_refl _) _)).touch T1 (by omega)).setOther (by omega) _).setOther (by omega) _
      have HR9 : Hid (Blk ((w1.setCell ⟨w.heap.size + 2, 0, none⟩ (.int .i64 x)).setCell ⟨w.heap.size + 2, 1, none⟩ (.int .i64 y)) (w.heap.size + 1) [.int .i64 0, .int .i64 0]) := (((HR.out.drew.on ((Below.refl U.drew.heap.size U.drew).alloc (Nat.le_refl _) _)).touch T1 (by omega)).setOther (by omega) _).setOther (by omega) _
      have HQ9 : Hid (Blk ((w1.setCell ⟨w.heap.size + 2, 0, none⟩ (.int .i64 x)).setCell ⟨w.heap.size + 2, 1, none⟩ (.int .i64 y)) (w.heap.size + 2) [.int .i64 x, .int .i64 y]) := Z1.set2 _ _
      have hqg : (w.heap.size + 2) ≠ g := by omega
      have hqw : w.heap.size + 2 ≤ (w.heap.size + 2) := by omega
      clear T1 S1 k7 hHeld HX T0 HH HR r7 Z1 z0 z1 y0 y1
      generalize ((w1.setCell ⟨w.heap.size + 2, 0, none⟩ (.int .i64 x)).setCell ⟨w.heap.size + 2, 1, none⟩ (.int .i64 y)) = W9 at *
      generalize (w.heap.size + 2) = qb at *
      have h0 := HH9.out.cell 0 _ rfl
      have h1 := HH9.out.cell 1 _ rfl
      have h2 := HH9.out.cell 2 _ rfl
      have h9 : W9.cell? ⟨g, 9, none⟩ = some (.int .i64 n) := HS9.out.more (by omega)
      have b0 := HQ9.out.cell 0 _ rfl
      have b1 := HQ9.out.cell 1 _ rfl
      go_wp2
      refine wp_region_noPanic ?_
      refine wp_region_held_drew (S := (fun w' => w'.cell? ⟨w.heap.size, 0, none⟩ = some (.int .i64 (kind : Int)) ∧ w'.cell? ⟨w.heap.size, 1, none⟩ = some (.int .i64 row) ∧ w'.cell? ⟨w.heap.size, 2, none⟩ = some (.int .i64 num) ∧ w'.cell? ⟨g, 9, none⟩ = some (.int .i64 n) ∧ w'.cell? ⟨qb, 0, none⟩ = some (.int .i64 x) ∧ w'.cell? ⟨qb, 1, none⟩ = some (.int .i64 y))) (by kernel_rfl) ⟨h0, h1, h2, h9, b0, b1⟩ (fun hHeld => ?_)
      refine tk 0 ?_
      refine tk 1 ?_
      refine tk 2 ?_
      refine tk 3 ?_
      refine tk 4 ?_
      refine tk 5 ?_
      refine tk 6 ?_
      refine tk 7 ?_
      refine tk 8 ?_
      refine wpAnyH_ready (rs := [9]) (by kernel_rfl) (by simp) ?_
      refine AllReadyH.cons rfl (fun K hK => ?_) AllReadyH.nil
      rw [if_pos (by rfl)]
      go_wp2_with fail
      refine (ballotFault_any kind row num n x y _ hk (HKm.out.below HS9.out.drew.low (Nat.le_refl _))).mono ?_
      rintro e w3 ⟨rfl, hb3⟩
      rw [hu1.out]
      have H3 := Blk.on HH9.out.drew hb3
      have Q3 := Blk.on HQ9.out.drew hb3
      have S3 := HS9.out.drew.below hb3
      have n3 : w3.cell? ⟨g, 9, none⟩ = some (.int .i64 n) := S3.more (by omega)
      refine hK.out _ _ ⟨H3.cell 0 _ rfl, H3.cell 1 _ rfl, H3.cell 2 _ rfl, n3, Q3.cell 0 _ rfl, Q3.cell 1 _ rfl⟩ (fun hHeld => ?_)
      clear hK K
      try simp only [Act.put, List.getElem_toArray, List.getElem_cons_succ, List.getElem_cons_zero, List.setIfInBounds_toArray, List.set_cons_zero, List.set_cons_succ]
      refine wpAnyH_ready (rs := [10]) (by kernel_rfl) (by simp) ?_
      refine AllReadyH.cons rfl (fun K hK => ?_) AllReadyH.nil
      rw [if_pos (by rfl)]
      go_wp2_with fail
      refine (irefuse_x w0 g (Vf v n) l1 f1 u1 _ S3).mono ?_
      rintro e w4 ⟨rfl, T4, S4⟩
      rw [hf2.out] at S4
      have H4 := H3.touch T4 (by omega)
      have Q4 := Q3.touch T4 hqg
      refine hK.out _ _ ⟨H4.cell 0 _ rfl, H4.cell 1 _ rfl, H4.cell 2 _ rfl, S4.more (by omega), Q4.cell 0 _ rfl, Q4.cell 1 _ rfl⟩ (fun hHeld => ?_)
      clear hK K
      try simp only [Act.put, List.getElem_toArray, List.getElem_cons_succ, List.getElem_cons_zero, List.setIfInBounds_toArray, List.set_cons_zero, List.set_cons_succ]
      refine wpAnyH_done (by kernel_rfl) ?_ _
      refine NoPanic.normal ?_
      have HT4 : Hid (Touch g w w4) := (HT9.out.drew.trans (Touch.ofBelow hb3)).trans T4
      have HS4 := hide S4
      have R4 := (Blk.on HR9.out.drew hb3).touch T4 (by omega)
      have c0 := Q4.cell 0 _ rfl
      have c1 := Q4.cell 1 _ rfl
      have d0 := R4.cell 0 _ rfl
      have d1 := R4.cell 1 _ rfl
      have t0 := R4.thaw 0
      have t1 := R4.thaw 1
      have R : Hid (Touch g w ((w4.setCell ⟨w.heap.size + 1, 0, none⟩ (.int .i64 x)).setCell ⟨w.heap.size + 1, 1, none⟩ (.int .i64 y)) ∧ Scx w0 ((w4.setCell ⟨w.heap.size + 1, 0, none⟩ (.int .i64 x)).setCell ⟨w.heap.size + 1, 1, none⟩ (.int .i64 y)) g (Vf v n) l1 f2) := ⟨(HT4.out.setNew _ (by omega)).setNew _ (by omega), (HS4.out.other _ (by omega) (by have := HW.out; omega)).other _ (by omega) (by have := HW.out; omega)⟩
      clear S3 T4 S4 H3 H4 Q3 Q4 R4 hb3 n3 h0 h1 h2 h9 b0 b1 HH9 HR9 HQ9 HS9 HT9 HT4 HS4 hHeld
      go_wp2
      refine bodyPost_ret (v := .agg #[.int .i64 x, .int .i64 y]) (by simp [results, Tryz.results65, go_sem, *]) rfl ⟨rfl, R.out⟩
  · have e2 : Hid (iPack l f = ((x, y), l1, f1)) := by have := e1.out; unfold iBal at this; rw [if_neg hv] at this; exact this
    have r7 : U.cell? ⟨g, 7, none⟩ = some (.func (.func 62) #[] #[]) := (HX.out.more (by omega)).trans (Vf7' hv)
    go_enter Tryz.func65, Tryz.ntmps65
    go_wp2
    rw [← hV1, ← hU]
    clear hV1 hU
    refine wp_region_noPanic ?_
    refine wp_region_held_drew (S := (fun w' => w'.cell? ⟨g, 7, none⟩ = some (.func (.func 62) #[] #[]))) (by kernel_rfl) r7 (fun hHeld => ?_)
    refine tk 0 ?_
    refine tk 1 ?_
    refine tk 2 ?_
    refine tk 3 ?_
    refine tk 4 ?_
    refine tk 5 ?_
    refine tk 6 ?_
    refine tk 7 ?_
    refine wpAnyH_ready (rs := [8, 9]) (by kernel_rfl) (by simp) ?_
    refine AllReadyH.cons rfl (fun K hK => ?_) (AllReadyH.cons rfl (fun K hK => ?_) AllReadyH.nil)
    · rw [if_pos (by rfl)]
      go_wp2_with fail
      refine (takeBallot2_any w0 g (Vf v n) l a f _ HE.out (HX.out.drew)).mono ?_
      rintro e w1 ⟨rfl, T1, S1⟩
      rw [e2.out] at S1 ⊢
      simp only at S1 ⊢
      have k7 : w1.cell? ⟨g, 7, none⟩ = some (.func (.func 62) #[] #[]) := (S1.more (by omega)).trans (Vf7' hv)
      refine hK.out _ _ k7 (fun hHeld => ?_)
      clear hK K
      try simp only [Act.put, List.getElem_toArray, List.getElem_cons_succ, List.getElem_cons_zero, List.setIfInBounds_toArray, List.set_cons_zero, List.set_cons_succ]
      refine wpAnyH_ready (rs := [9]) (by kernel_rfl) (by simp) ?_
      refine AllReadyH.cons rfl (fun K hK => ?_) AllReadyH.nil
      rw [if_pos (by rfl)]
      go_wp2_with fail
      refine hK.out _ _ (by simp [*, World.cell?_alloc_some]) (fun hHeld => ?_)
      clear hK K
      try simp only [Act.put, List.getElem_toArray, List.getElem_cons_succ, List.getElem_cons_zero, List.setIfInBounds_toArray, List.set_cons_zero, List.set_cons_succ]
      refine wpAnyH_ready (rs := [10]) (by kernel_rfl) (by simp) ?_
      refine AllReadyH.cons rfl (fun K hK => ?_) AllReadyH.nil
      rw [if_pos (by rfl)]
      have n0 := World.new_ne w1 _ k7
      go_wp2_with fail
      refine hK.out _ _ (by simp [*, World.cell?_alloc_some]) (fun hHeld => ?_)
      clear hK K
      try simp only [Act.put, List.getElem_toArray, List.getElem_cons_succ, List.getElem_cons_zero, List.setIfInBounds_toArray, List.set_cons_zero, List.set_cons_succ]
      refine wpAnyH_done (by kernel_rfl) ?_ _
      refine NoPanic.normal ?_
      have hw1 : U.heap.size ≤ w1.heap.size := T1.size
      have HT9 : Hid (Touch g w (w1.alloc (.cells #[.int .i64 x, .int .i64 y] 25))) := ((T0.out.drew.trans T1).trans (Touch.ofBelow ((Below.refl w1.heap.size w1).alloc (Nat.le_refl _) _)))
      have HS9 : Hid (Scx w0 (w1.alloc (.cells #[.int .i64 x, .int .i64 y] 25)) g (Vf v n) l1 f1) := S1.below ((Below.refl w1.heap.size w1).alloc (Nat.le_refl _) _)
      have HH9 : Hid (Blk (w1.alloc (.cells #[.int .i64 x, .int .i64 y] 25)) w.heap.size [.int .i64 (kind : Int), .int .i64 row, .int .i64 num]) := (HH.out.drew.touch T1 (by omega)).on ((Below.refl w1.heap.size w1).alloc (Nat.le_refl _) _)
      have HR9 : Hid (Blk (w1.alloc (.cells #[.int .i64 x, .int .i64 y] 25)) (w.heap.size + 1) [.int .i64 0, .int .i64 0]) := (HR.out.drew.touch T1 (by omega)).on ((Below.refl w1.heap.size w1).alloc (Nat.le_refl _) _)
      have HQ9 : Hid (Blk (w1.alloc (.cells #[.int .i64 x, .int .i64 y] 25)) (w1.heap.size) [.int .i64 x, .int .i64 y]) := blk_new w1 25 [.int .i64 x, .int .i64 y]
      have hqg : (w1.heap.size) ≠ g := by omega
      have hqw : w.heap.size + 2 ≤ (w1.heap.size) := by omega
      clear T1 S1 k7 hHeld HX T0 HH HR r7
      generalize (w1.alloc (.cells #[.int .i64 x, .int .i64 y] 25)) = W9 at *
      generalize (w1.heap.size) = qb at *
      have h0 := HH9.out.cell 0 _ rfl
      have h1 := HH9.out.cell 1 _ rfl
      have h2 := HH9.out.cell 2 _ rfl
      have h9 : W9.cell? ⟨g, 9, none⟩ = some (.int .i64 n) := HS9.out.more (by omega)
      have b0 := HQ9.out.cell 0 _ rfl
      have b1 := HQ9.out.cell 1 _ rfl
      go_wp2
      refine wp_region_noPanic ?_
      refine wp_region_held_drew (S := (fun w' => w'.cell? ⟨w.heap.size, 0, none⟩ = some (.int .i64 (kind : Int)) ∧ w'.cell? ⟨w.heap.size, 1, none⟩ = some (.int .i64 row) ∧ w'.cell? ⟨w.heap.size, 2, none⟩ = some (.int .i64 num) ∧ w'.cell? ⟨g, 9, none⟩ = some (.int .i64 n) ∧ w'.cell? ⟨qb, 0, none⟩ = some (.int .i64 x) ∧ w'.cell? ⟨qb, 1, none⟩ = some (.int .i64 y))) (by kernel_rfl) ⟨h0, h1, h2, h9, b0, b1⟩ (fun hHeld => ?_)
      refine tk 0 ?_
      refine tk 1 ?_
      refine tk 2 ?_
      refine tk 3 ?_
      refine tk 4 ?_
      refine tk 5 ?_
      refine tk 6 ?_
      refine tk 7 ?_
      refine tk 8 ?_
      refine wpAnyH_ready (rs := [9]) (by kernel_rfl) (by simp) ?_
      refine AllReadyH.cons rfl (fun K hK => ?_) AllReadyH.nil
      rw [if_pos (by rfl)]
      go_wp2_with fail
      refine (ballotFault_any kind row num n x y _ hk (HKm.out.below HS9.out.drew.low (Nat.le_refl _))).mono ?_
      rintro e w3 ⟨rfl, hb3⟩
      rw [hu1.out]
      have H3 := Blk.on HH9.out.drew hb3
      have Q3 := Blk.on HQ9.out.drew hb3
      have S3 := HS9.out.drew.below hb3
      have n3 : w3.cell? ⟨g, 9, none⟩ = some (.int .i64 n) := S3.more (by omega)
      refine hK.out _ _ ⟨H3.cell 0 _ rfl, H3.cell 1 _ rfl, H3.cell 2 _ rfl, n3, Q3.cell 0 _ rfl, Q3.cell 1 _ rfl⟩ (fun hHeld => ?_)
      clear hK K
      try simp only [Act.put, List.getElem_toArray, List.getElem_cons_succ, List.getElem_cons_zero, List.setIfInBounds_toArray, List.set_cons_zero, List.set_cons_succ]
      refine wpAnyH_ready (rs := [10]) (by kernel_rfl) (by simp) ?_
      refine AllReadyH.cons rfl (fun K hK => ?_) AllReadyH.nil
      rw [if_pos (by rfl)]
      go_wp2_with fail
      refine (irefuse_x w0 g (Vf v n) l1 f1 u1 _ S3).mono ?_
      rintro e w4 ⟨rfl, T4, S4⟩
      rw [hf2.out] at S4
      have H4 := H3.touch T4 (by omega)
      have Q4 := Q3.touch T4 hqg
      refine hK.out _ _ ⟨H4.cell 0 _ rfl, H4.cell 1 _ rfl, H4.cell 2 _ rfl, S4.more (by omega), Q4.cell 0 _ rfl, Q4.cell 1 _ rfl⟩ (fun hHeld => ?_)
      clear hK K
      try simp only [Act.put, List.getElem_toArray, List.getElem_cons_succ, List.getElem_cons_zero, List.setIfInBounds_toArray, List.set_cons_zero, List.set_cons_succ]
      refine wpAnyH_done (by kernel_rfl) ?_ _
      refine NoPanic.normal ?_
      have HT4 : Hid (Touch g w w4) := (HT9.out.drew.trans (Touch.ofBelow hb3)).trans T4
      have HS4 := hide S4
      have R4 := (Blk.on HR9.out.drew hb3).touch T4 (by omega)
      have c0 := Q4.cell 0 _ rfl
      have c1 := Q4.cell 1 _ rfl
      have d0 := R4.cell 0 _ rfl
      have d1 := R4.cell 1 _ rfl
      have t0 := R4.thaw 0
      have t1 := R4.thaw 1
      have R : Hid (Touch g w ((w4.setCell ⟨w.heap.size + 1, 0, none⟩ (.int .i64 x)).setCell ⟨w.heap.size + 1, 1, none⟩ (.int .i64 y)) ∧ Scx w0 ((w4.setCell ⟨w.heap.size + 1, 0, none⟩ (.int .i64 x)).setCell ⟨w.heap.size + 1, 1, none⟩ (.int .i64 y)) g (Vf v n) l1 f2) := ⟨(HT4.out.setNew _ (by omega)).setNew _ (by omega), (HS4.out.other _ (by omega) (by have := HW.out; omega)).other _ (by omega) (by have := HW.out; omega)⟩
      clear S3 T4 S4 H3 H4 Q3 Q4 R4 hb3 n3 h0 h1 h2 h9 b0 b1 HH9 HR9 HQ9 HS9 HT9 HT4 HS4 hHeld
      go_wp2
      refine bodyPost_ret (v := .agg #[.int .i64 x, .int .i64 y]) (by simp [results, Tryz.results65, go_sem, *]) rfl ⟨rfl, R.out⟩
    · rw [if_pos (by rfl)]
      go_wp2_with fail
      refine hK.out _ _ (by simp [*, World.cell?_alloc_some]) (fun hHeld => ?_)
      clear hK K
      try simp only [Act.put, List.getElem_toArray, List.getElem_cons_succ, List.getElem_cons_zero, List.setIfInBounds_toArray, List.set_cons_zero, List.set_cons_succ]
      refine wpAnyH_ready (rs := [8]) (by kernel_rfl) (by simp) ?_
      refine AllReadyH.cons rfl (fun K hK => ?_) AllReadyH.nil
      rw [if_pos (by rfl)]
      go_wp2_with fail
      refine (takeBallot2_any w0 g (Vf v n) l a f _ HE.out ((HX.out.drew).alloc (.cells #[.int .i64 0, .int .i64 0] 25))).mono ?_
      rintro e w1 ⟨rfl, T1, S1⟩
      rw [e2.out] at S1 ⊢
      simp only at S1 ⊢
      have k7 : w1.cell? ⟨g, 7, none⟩ = some (.func (.func 62) #[] #[]) := (S1.more (by omega)).trans (Vf7' hv)
      refine hK.out _ _ k7 (fun hHeld => ?_)
      clear hK K
      try simp only [Act.put, List.getElem_toArray, List.getElem_cons_succ, List.getElem_cons_zero, List.setIfInBounds_toArray, List.set_cons_zero, List.set_cons_succ]
      refine wpAnyH_ready (rs := [10]) (by kernel_rfl) (by simp) ?_
      refine AllReadyH.cons rfl (fun K hK => ?_) AllReadyH.nil
      rw [if_pos (by rfl)]
      have Z1 : Blk w1 (w.heap.size + 2) [.int .i64 0, .int .i64 0] := by rw [← hs2]; exact (blk_new U.drew 25 [.int .i64 0, .int .i64 0]).touch T1 (by show U.heap.size ≠ g; omega)
      have z0 := Z1.cell 0 _ rfl
      have z1 := Z1.cell 1 _ rfl
      have y0 := Z1.thaw 0
      have y1 := Z1.thaw 1
      have hUg : w.heap.size + 2 ≠ g := by omega
      go_wp2_with fail
      refine hK.out _ _ ((World.cell?_setCell_far _ ⟨w.heap.size + 2, 1, none⟩ _ (.int .i64 y) hUg).trans ((World.cell?_setCell_far _ ⟨w.heap.size + 2, 0, none⟩ _ (.int .i64 x) hUg).trans k7)) (fun hHeld => ?_)
      clear hK K
      try simp only [Act.put, List.getElem_toArray, List.getElem_cons_succ, List.getElem_cons_zero, List.setIfInBounds_toArray, List.set_cons_zero, List.set_cons_succ]
      refine wpAnyH_done (by kernel_rfl) ?_ _
      refine NoPanic.normal ?_
      have HT9 : Hid (Touch g w ((w1.setCell ⟨w.heap.size + 2, 0, none⟩ (.int .i64 x)).setCell ⟨w.heap.size + 2, 1, none⟩ (.int .i64 y))) := (((T0.out.drew.trans (Touch.ofBelow ((Below.refl U.drew.heap.size U.drew).alloc (Nat.le_refl _) _))).trans T1).setNew _ (by omega)).setNew _ (by omega)
      have HS9 : Hid (Scx w0 ((w1.setCell ⟨w.heap.size + 2, 0, none⟩ (.int .i64 x)).setCell ⟨w.heap.size + 2, 1, none⟩ (.int .i64 y)) g (Vf v n) l1 f1) := (S1.other _ (by omega) (by have := HW.out; omega)).other _ (by omega) (by have := HW.out; omega)
      have HH9 : Hid (Blk ((w1.setCell ⟨w.heap.size + 2, 0, none⟩ (.int .i64 x)).setCell ⟨w.heap.size + 2, 1, none⟩ (.int .i64 y)) w.heap.size [.int .i64 (kind : Int), .int .i64 row, .int .i64 num]) := (((HH.out.drew.on ((Below.refl U.drew.heap.size U.drew).alloc (Nat.le_refl _) _)).touch T1 (by omega)).setOther (by omega) _).setOther (by omega) _
      have HR9 : Hid (Blk ((w1.setCell ⟨w.heap.size + 2, 0, none⟩ (.int .i64 x)).setCell ⟨w.heap.size + 2, 1, none⟩ (.int .i64 y)) (w.heap.size + 1) [.int .i64 0, .int .i64 0]) := (((HR.out.drew.on ((Below.refl U.drew.heap.size U.drew).alloc (Nat.le_refl _) _)).touch T1 (by omega)).setOther (by omega) _).setOther (by omega) _
      have HQ9 : Hid (Blk ((w1.setCell ⟨w.heap.size + 2, 0, none⟩ (.int .i64 x)).setCell ⟨w.heap.size + 2, 1, none⟩ (.int .i64 y)) (w.heap.size + 2) [.int .i64 x, .int .i64 y]) := Z1.set2 _ _
      have hqg : (w.heap.size + 2) ≠ g := by omega
      have hqw : w.heap.size + 2 ≤ (w.heap.size + 2) := by omega
      clear T1 S1 k7 hHeld HX T0 HH HR r7 Z1 z0 z1 y0 y1
      generalize ((w1.setCell ⟨w.heap.size + 2, 0, none⟩ (.int .i64 x)).setCell ⟨w.heap.size + 2, 1, none⟩ (.int .i64 y)) = W9 at *
      generalize (w.heap.size + 2) = qb at *
      have h0 := HH9.out.cell 0 _ rfl
      have h1 := HH9.out.cell 1 _ rfl
      have h2 := HH9.out.cell 2 _ rfl
      have h9 : W9.cell? ⟨g, 9, none⟩ = some (.int .i64 n) := HS9.out.more (by omega)
      have b0 := HQ9.out.cell 0 _ rfl
      have b1 := HQ9.out.cell 1 _ rfl
      go_wp2
      refine wp_region_noPanic ?_
      refine wp_region_held_drew (S := (fun w' => w'.cell? ⟨w.heap.size, 0, none⟩ = some (.int .i64 (kind : Int)) ∧ w'.cell? ⟨w.heap.size, 1, none⟩ = some (.int .i64 row) ∧ w'.cell? ⟨w.heap.size, 2, none⟩ = some (.int .i64 num) ∧ w'.cell? ⟨g, 9, none⟩ = some (.int .i64 n) ∧ w'.cell? ⟨qb, 0, none⟩ = some (.int .i64 x) ∧ w'.cell? ⟨qb, 1, none⟩ = some (.int .i64 y))) (by kernel_rfl) ⟨h0, h1, h2, h9, b0, b1⟩ (fun hHeld => ?_)
      refine tk 0 ?_
      refine tk 1 ?_
      refine tk 2 ?_
      refine tk 3 ?_
      refine tk 4 ?_
      refine tk 5 ?_
      refine tk 6 ?_
      refine tk 7 ?_
      refine tk 8 ?_
      refine wpAnyH_ready (rs := [9]) (by kernel_rfl) (by simp) ?_
      refine AllReadyH.cons rfl (fun K hK => ?_) AllReadyH.nil
      rw [if_pos (by rfl)]
      go_wp2_with fail
      refine (ballotFault_any kind row num n x y _ hk (HKm.out.below HS9.out.drew.low (Nat.le_refl _))).mono ?_
      rintro e w3 ⟨rfl, hb3⟩
      rw [hu1.out]
      have H3 := Blk.on HH9.out.drew hb3
      have Q3 := Blk.on HQ9.out.drew hb3
      have S3 := HS9.out.drew.below hb3
      have n3 : w3.cell? ⟨g, 9, none⟩ = some (.int .i64 n) := S3.more (by omega)
      refine hK.out _ _ ⟨H3.cell 0 _ rfl, H3.cell 1 _ rfl, H3.cell 2 _ rfl, n3, Q3.cell 0 _ rfl, Q3.cell 1 _ rfl⟩ (fun hHeld => ?_)
      clear hK K
      try simp only [Act.put, List.getElem_toArray, List.getElem_cons_succ, List.getElem_cons_zero, List.setIfInBounds_toArray, List.set_cons_zero, List.set_cons_succ]
      refine wpAnyH_ready (rs := [10]) (by kernel_rfl) (by simp) ?_
      refine AllReadyH.cons rfl (fun K hK => ?_) AllReadyH.nil
      rw [if_pos (by rfl)]
      go_wp2_with fail
      refine (irefuse_x w0 g (Vf v n) l1 f1 u1 _ S3).mono ?_
      rintro e w4 ⟨rfl, T4, S4⟩
      rw [hf2.out] at S4
      have H4 := H3.touch T4 (by omega)
      have Q4 := Q3.touch T4 hqg
      refine hK.out _ _ ⟨H4.cell 0 _ rfl, H4.cell 1 _ rfl, H4.cell 2 _ rfl, S4.more (by omega), Q4.cell 0 _ rfl, Q4.cell 1 _ rfl⟩ (fun hHeld => ?_)
      clear hK K
      try simp only [Act.put, List.getElem_toArray, List.getElem_cons_succ, List.getElem_cons_zero, List.setIfInBounds_toArray, List.set_cons_zero, List.set_cons_succ]
      refine wpAnyH_done (by kernel_rfl) ?_ _
      refine NoPanic.normal ?_
      have HT4 : Hid (Touch g w w4) := (HT9.out.drew.trans (Touch.ofBelow hb3)).trans T4
      have HS4 := hide S4
      have R4 := (Blk.on HR9.out.drew hb3).touch T4 (by omega)
      have c0 := Q4.cell 0 _ rfl
      have c1 := Q4.cell 1 _ rfl
      have d0 := R4.cell 0 _ rfl
      have d1 := R4.cell 1 _ rfl
      have t0 := R4.thaw 0
      have t1 := R4.thaw 1
      have R : Hid (Touch g w ((w4.setCell ⟨w.heap.size + 1, 0, none⟩ (.int .i64 x)).setCell ⟨w.heap.size + 1, 1, none⟩ (.int .i64 y)) ∧ Scx w0 ((w4.setCell ⟨w.heap.size + 1, 0, none⟩ (.int .i64 x)).setCell ⟨w.heap.size + 1, 1, none⟩ (.int .i64 y)) g (Vf v n) l1 f2) := ⟨(HT4.out.setNew _ (by omega)).setNew _ (by omega), (HS4.out.other _ (by omega) (by have := HW.out; omega)).other _ (by omega) (by have := HW.out; omega)⟩
      clear S3 T4 S4 H3 H4 Q3 Q4 R4 hb3 n3 h0 h1 h2 h9 b0 b1 HH9 HR9 HQ9 HS9 HT9 HT4 HS4 hHeld
      go_wp2
      refine bodyPost_ret (v := .agg #[.int .i64 x, .int .i64 y]) (by simp [results, Tryz.results65, go_sem, *]) rfl ⟨rfl, R.out⟩
end
end Go.Proofs.YtdokagebfeejbaaGreatDoor
