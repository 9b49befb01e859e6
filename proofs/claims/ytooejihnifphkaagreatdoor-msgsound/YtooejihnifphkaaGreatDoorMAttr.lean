/- Blocks of values; the contract of the scan's attr. -/
import Derived.Test.YtooejihnifphkaaGreatDoorMScan2
import Derived.Test.YtooejihnifphkaaGreatDoorBlk
namespace Go.Proofs.YtooejihnifphkaaGreatDoor
open Go.RowKit Go.Wire1

theorem Blk.touch {w w' : World} {q g : Nat} {cs : List Value} (h : Blk w q cs) (T : Touch g w w') (hq : q ≠ g) : Blk w' q cs := h.of_block (T.block q h.lt hq)
def iAttr (v n : Int) (noop : Bool) (l : List Int) (f : Int) : (Int × List Int) × List Int × Int :=
  ((top31 (iNum l f).1, (iDeps v n (iNum l f).2.1 (refF (unl (seqB noop (top31 (iNum l f).1)) 55) (iNum l f).2.2)).1), (iDeps v n (iNum l f).2.1 (refF (unl (seqB noop (top31 (iNum l f).1)) 55) (iNum l f).2.2)).2.1,
    refF (unl (depsB n noop (iDeps v n (iNum l f).2.1 (refF (unl (seqB noop (top31 (iNum l f).1)) 55) (iNum l f).2.2)).1) 56) (iDeps v n (iNum l f).2.1 (refF (unl (seqB noop (top31 (iNum l f).1)) 55) (iNum l f).2.2)).2.2)

section
variable (w0 : World) (g : Nat) (v n : Int) (l : List Int)
set_option maxHeartbeats 8000000 in
set_option maxRecDepth 100000 in
theorem sattr_any (a : Nat → Addr) (noop : Bool) (f : Int) (w : World) (he : Errs w0 a) (h : Scx w0 w g (Vf v n) l f) :
    Calls Tryz.prog 48 #[.pointer (some ⟨g, 0, none⟩), .bool noop] w fun r w' => ∃ u, r = .returned (.agg #[.int .i64 (iAttr v n noop l f).1.1, u]) ∧ DV w' w.heap.size u (iAttr v n noop l f).1.2 ∧ Touch g w w' ∧ Scx w0 w' g (Vf v n) (iAttr v n noop l f).2.1 (iAttr v n noop l f).2.2 := by
  obtain ⟨x, l1, f1, e1⟩ : ∃ x l1 f1, Hid (iNum l f = (x, l1, f1)) := ⟨_, _, _, rfl⟩
  obtain ⟨sq, hsq⟩ : ∃ sq, Hid (top31 x = sq) := ⟨_, rfl⟩
  obtain ⟨u1, hu1⟩ : ∃ u, Hid (unl (seqB noop sq) 55 = u) := ⟨_, rfl⟩
  obtain ⟨f2, hf2⟩ : ∃ f2, Hid (refF u1 f1 = f2) := ⟨_, rfl⟩
  obtain ⟨dl, l2, f3, e2⟩ : ∃ dl l2 f3, Hid (iDeps v n l1 f2 = (dl, l2, f3)) := ⟨_, _, _, rfl⟩
  obtain ⟨u2, hu2⟩ : ∃ u, Hid (unl (depsB n noop dl) 56 = u) := ⟨_, rfl⟩
  obtain ⟨f4, hf4⟩ : ∃ f4, Hid (refF u2 f3 = f4) := ⟨_, rfl⟩
  have e0 : Hid (iAttr v n noop l f = ((sq, dl), l2, f4)) := by
    show _ = _
    unfold iAttr
    simp only [e1.out, hsq.out, hu1.out, hf2.out, e2.out, hu2.out, hf4.out]
  rw [e0.out]
  simp only
  have HX := hide (h.alloc (.cells #[.int .i64 0, .slice none 0 0] 83))
  have HQ := hide (blk_new w 83 [.int .i64 0, .slice none 0 0])
  have T0 : Hid (Touch g w (w.alloc (.cells #[.int .i64 0, .slice none 0 0] 83))) := Touch.ofBelow ((Below.refl _ _).alloc (Nat.le_refl _) _)
  have hgl := h.lt
  have HW := hide h.low.size
  have HE := hide he
  clear h he e0
  go_enter Tryz.func48, Tryz.ntmps48
  go_wp2_with fail
  refine (inumber_any w0 g (Vf v n) l a f _ HE.out HX.out).mono ?_
  rintro r w1 ⟨rfl, T1, S1⟩
  rw [e1.out] at S1 ⊢
  simp only at S1 ⊢
  have HT1 := hide (T0.out.trans T1)
  have HS1 := hide S1
  have HQ1 := hide (HQ.out.touch T1 (by omega))
  clear T1 S1 HX HQ T0
  go_wp2_with fail
  refine (intOf_any x _).mono ?_
  rintro r w1' ⟨rfl, rfl⟩
  rw [hsq.out]
  go_wp2
  refine wp_region_noPanic ?_
  refine wp_region_held_drew (S := (fun _ => True)) (by kernel_rfl) trivial (fun hHeld => ?_)
  refine wpAnyH_take (i := 0) (v := ?_) rfl (by kernel_rfl) (by kernel_rfl) (by kernel_rfl) (fun _ _ _ h => h) (Or.inl ⟨by rfl, ?_⟩) (by assumption) ?_
  rotate_left
  · intro w hSw
    try dsimp only at hSw
    go_simp
    try with_reducible rfl
  try simp only [Act.put, List.getElem_toArray, List.getElem_cons_zero, List.setIfInBounds_toArray, List.set_cons_zero, List.set_cons_succ]
  refine wpAnyH_take (i := 1) (v := ?_) rfl (by kernel_rfl) (by kernel_rfl) (by kernel_rfl) (fun _ _ _ h => h) (Or.inl ⟨by rfl, ?_⟩) (by assumption) ?_
  rotate_left
  · intro w hSw
    try dsimp only at hSw
    go_simp
    try with_reducible rfl
  try simp only [Act.put, List.getElem_toArray, List.getElem_cons_succ, List.getElem_cons_zero, List.setIfInBounds_toArray, List.set_cons_zero, List.set_cons_succ]
  refine wpAnyH_take (i := 2) (v := ?_) rfl (by kernel_rfl) (by kernel_rfl) (by kernel_rfl) (fun _ _ _ h => h) (Or.inl ⟨by rfl, ?_⟩) (by assumption) ?_
  rotate_left
  · intro w hSw
    try dsimp only at hSw
    go_simp
    try with_reducible rfl
  try simp only [Act.put, List.getElem_toArray, List.getElem_cons_succ, List.getElem_cons_zero, List.setIfInBounds_toArray, List.set_cons_zero, List.set_cons_succ]
  refine wpAnyH_take (i := 3) (v := ?_) rfl (by kernel_rfl) (by kernel_rfl) (by kernel_rfl) (fun _ _ _ h => h) (Or.inl ⟨by rfl, ?_⟩) (by assumption) ?_
  rotate_left
  · intro w hSw
    try dsimp only at hSw
    go_simp
    try with_reducible rfl
  try simp only [Act.put, List.getElem_toArray, List.getElem_cons_succ, List.getElem_cons_zero, List.setIfInBounds_toArray, List.set_cons_zero, List.set_cons_succ]
  refine wpAnyH_take (i := 4) (v := ?_) rfl (by kernel_rfl) (by kernel_rfl) (by kernel_rfl) (fun _ _ _ h => h) (Or.inl ⟨by rfl, ?_⟩) (by assumption) ?_
  rotate_left
  · intro w hSw
    try dsimp only at hSw
    go_simp
    try with_reducible rfl
  try simp only [Act.put, List.getElem_toArray, List.getElem_cons_succ, List.getElem_cons_zero, List.setIfInBounds_toArray, List.set_cons_zero, List.set_cons_succ]
  refine wpAnyH_ready (rs := [5]) (by kernel_rfl) (by simp) ?_
  refine AllReadyH.cons rfl (fun K hK => ?_) AllReadyH.nil
  rw [if_pos (by rfl)]
  go_wp2_with fail
  refine (seqFault_any noop sq _).mono ?_
  rintro e w2 ⟨rfl, hw2⟩
  subst hw2
  rw [hu1.out]
  refine hK.out _ _ trivial (fun hHeld => ?_)
  clear hK K
  try simp only [Act.put, List.getElem_toArray, List.getElem_cons_succ, List.getElem_cons_zero, List.setIfInBounds_toArray, List.set_cons_zero, List.set_cons_succ]
  refine wpAnyH_ready (rs := [6]) (by kernel_rfl) (by simp) ?_
  refine AllReadyH.cons rfl (fun K hK => ?_) AllReadyH.nil
  rw [if_pos (by rfl)]
  go_wp2_with fail
  refine (irefuse_x w0 g (Vf v n) l1 f1 u1 _ HS1.out.drew).mono ?_
  rintro e w3 ⟨rfl, T3, S3⟩
  rw [hf2.out] at S3
  refine hK.out _ _ trivial (fun hHeld => ?_)
  clear hK K
  try simp only [Act.put, List.getElem_toArray, List.getElem_cons_succ, List.getElem_cons_zero, List.setIfInBounds_toArray, List.set_cons_zero, List.set_cons_succ]
  refine wpAnyH_done (by kernel_rfl) ?_ _
  refine NoPanic.normal ?_
  have HT3 : Hid (Touch g w w3) := (HT1.out.trans (z := w1.drew) ⟨rfl, rfl, rfl, Nat.le_refl _, fun _ _ _ => rfl⟩).trans T3
  have HS3 := hide S3
  have HQ3 := hide (Blk.touch (w := w1.drew) ⟨HQ1.out.cell, HQ1.out.thaw, HQ1.out.lt⟩ T3 (by omega))
  clear T3 S3 HS1 HT1 HQ1 hHeld
  go_wp2_with fail
  refine (sdeps_any w0 g v n l1 a f2 _ HE.out HS3.out).mono ?_
  rintro r w4 ⟨u, rfl, D4, T4, S4⟩
  rw [e2.out] at D4 S4
  simp only at D4 S4
  have HD4 := hide D4
  have HT4 := hide (HT3.out.trans T4)
  have HS4 := hide S4
  have HQ4 := hide (HQ3.out.touch T4 (by omega))
  have r9 : w4.cell? ⟨g, 9, none⟩ = some (.int .i64 n) := S4.more (by omega)
  have HT3s : Hid (w.heap.size < w3.heap.size) := HQ3.out.lt
  clear D4 T4 S4 HT3 HS3 HQ3
  obtain ⟨ua, uk, uc, rfl⟩ := HD4.out.shape
  have SG : Hid (SegI w4 ua uk dl) := by
    obtain ⟨a', k', c', e', s', _⟩ := HD4.out
    cases e'
    exact s'
  go_wp2
  refine wp_region_noPanic ?_
  refine wp_region_held_drew (S := (fun w' => w'.cell? ⟨g, 9, none⟩ = some (.int .i64 n))) (by kernel_rfl) r9 (fun hHeld => ?_)
  refine wpAnyH_take (i := 0) (v := ?_) rfl (by kernel_rfl) (by kernel_rfl) (by kernel_rfl) (fun _ _ _ h => h) (Or.inl ⟨by rfl, ?_⟩) (by assumption) ?_
  rotate_left
  · intro w hSw
    try dsimp only at hSw
    go_simp
    try with_reducible rfl
  try simp only [Act.put, List.getElem_toArray, List.getElem_cons_zero, List.setIfInBounds_toArray, List.set_cons_zero, List.set_cons_succ]
  refine wpAnyH_take (i := 1) (v := ?_) rfl (by kernel_rfl) (by kernel_rfl) (by kernel_rfl) (fun _ _ _ h => h) (Or.inl ⟨by rfl, ?_⟩) (by assumption) ?_
  rotate_left
  · intro w hSw
    try dsimp only at hSw
    go_simp
    try with_reducible rfl
  try simp only [Act.put, List.getElem_toArray, List.getElem_cons_succ, List.getElem_cons_zero, List.setIfInBounds_toArray, List.set_cons_zero, List.set_cons_succ]
  refine wpAnyH_take (i := 2) (v := ?_) rfl (by kernel_rfl) (by kernel_rfl) (by kernel_rfl) (fun _ _ _ h => h) (Or.inl ⟨by rfl, ?_⟩) (by assumption) ?_
  rotate_left
  · intro w hSw
    try dsimp only at hSw
    go_simp
    try with_reducible rfl
  try simp only [Act.put, List.getElem_toArray, List.getElem_cons_succ, List.getElem_cons_zero, List.setIfInBounds_toArray, List.set_cons_zero, List.set_cons_succ]
  refine wpAnyH_take (i := 3) (v := ?_) rfl (by kernel_rfl) (by kernel_rfl) (by kernel_rfl) (fun _ _ _ h => h) (Or.inl ⟨by rfl, ?_⟩) (by assumption) ?_
  rotate_left
  · intro w hSw
    try dsimp only at hSw
    go_simp
    try with_reducible rfl
  try simp only [Act.put, List.getElem_toArray, List.getElem_cons_succ, List.getElem_cons_zero, List.setIfInBounds_toArray, List.set_cons_zero, List.set_cons_succ]
  refine wpAnyH_take (i := 4) (v := ?_) rfl (by kernel_rfl) (by kernel_rfl) (by kernel_rfl) (fun _ _ _ h => h) (Or.inl ⟨by rfl, ?_⟩) (by assumption) ?_
  rotate_left
  · intro w hSw
    try dsimp only at hSw
    go_simp
    try with_reducible rfl
  try simp only [Act.put, List.getElem_toArray, List.getElem_cons_succ, List.getElem_cons_zero, List.setIfInBounds_toArray, List.set_cons_zero, List.set_cons_succ]
  refine wpAnyH_take (i := 5) (v := ?_) rfl (by kernel_rfl) (by kernel_rfl) (by kernel_rfl) (fun _ _ _ h => h) (Or.inl ⟨by rfl, ?_⟩) (by assumption) ?_
  rotate_left
  · intro w hSw
    try dsimp only at hSw
    go_simp
    try with_reducible rfl
  try simp only [Act.put, List.getElem_toArray, List.getElem_cons_succ, List.getElem_cons_zero, List.setIfInBounds_toArray, List.set_cons_zero, List.set_cons_succ]
  refine wpAnyH_take (i := 6) (v := ?_) rfl (by kernel_rfl) (by kernel_rfl) (by kernel_rfl) (fun _ _ _ h => h) (Or.inl ⟨by rfl, ?_⟩) (by assumption) ?_
  rotate_left
  · intro w hSw
    try dsimp only at hSw
    go_simp
    try with_reducible rfl
  try simp only [Act.put, List.getElem_toArray, List.getElem_cons_succ, List.getElem_cons_zero, List.setIfInBounds_toArray, List.set_cons_zero, List.set_cons_succ]
  refine wpAnyH_take (i := 7) (v := ?_) rfl (by kernel_rfl) (by kernel_rfl) (by kernel_rfl) (fun _ _ _ h => h) (Or.inl ⟨by rfl, ?_⟩) (by assumption) ?_
  rotate_left
  · intro w hSw
    try dsimp only at hSw
    go_simp
    try with_reducible rfl
  try simp only [Act.put, List.getElem_toArray, List.getElem_cons_succ, List.getElem_cons_zero, List.setIfInBounds_toArray, List.set_cons_zero, List.set_cons_succ]
  refine wpAnyH_take (i := 8) (v := ?_) rfl (by kernel_rfl) (by kernel_rfl) (by kernel_rfl) (fun _ _ _ h => h) (Or.inl ⟨by rfl, ?_⟩) (by assumption) ?_
  rotate_left
  · intro w hSw
    try dsimp only at hSw
    go_simp
    try with_reducible rfl
  try simp only [Act.put, List.getElem_toArray, List.getElem_cons_succ, List.getElem_cons_zero, List.setIfInBounds_toArray, List.set_cons_zero, List.set_cons_succ]
  refine wpAnyH_ready (rs := [9]) (by kernel_rfl) (by simp) ?_
  refine AllReadyH.cons rfl (fun K hK => ?_) AllReadyH.nil
  rw [if_pos (by rfl)]
  go_wp2_with fail
  refine (depsFault_any n noop ua uk uc dl _ (by exact SG.out)).mono ?_
  rintro e w5 ⟨rfl, hw5⟩
  subst hw5
  rw [hu2.out]
  refine hK.out _ _ r9 (fun hHeld => ?_)
  clear hK K
  try simp only [Act.put, List.getElem_toArray, List.getElem_cons_succ, List.getElem_cons_zero, List.setIfInBounds_toArray, List.set_cons_zero, List.set_cons_succ]
  refine wpAnyH_ready (rs := [10]) (by kernel_rfl) (by simp) ?_
  refine AllReadyH.cons rfl (fun K hK => ?_) AllReadyH.nil
  rw [if_pos (by rfl)]
  go_wp2_with fail
  refine (irefuse_x w0 g (Vf v n) l2 f3 u2 _ HS4.out.drew).mono ?_
  rintro e w6 ⟨rfl, T6, S6⟩
  rw [hf4.out] at S6
  refine hK.out _ _ (S6.more (by omega)) (fun hHeld => ?_)
  clear hK K
  try simp only [Act.put, List.getElem_toArray, List.getElem_cons_succ, List.getElem_cons_zero, List.setIfInBounds_toArray, List.set_cons_zero, List.set_cons_succ]
  refine wpAnyH_done (by kernel_rfl) ?_ _
  refine NoPanic.normal ?_
  have HT6 : Hid (Touch g w w6) := (HT4.out.trans (z := w4.drew) ⟨rfl, rfl, rfl, Nat.le_refl _, fun _ _ _ => rfl⟩).trans T6
  have HD6 : Hid (DV w6 w3.heap.size (.slice ua uk uc) dl) := DV.touch (w := w4.drew) HD4.out T6 (by have := HT3s.out; omega)
  have HS6 := hide S6
  have Q6 := Blk.touch (w := w4.drew) ⟨HQ4.out.cell, HQ4.out.thaw, HQ4.out.lt⟩ T6 (by omega)
  have c0 := Q6.cell 0 _ rfl
  have c1 := Q6.cell 1 _ rfl
  have t0 := Q6.thaw 0
  have t1 := Q6.thaw 1
  have R : Hid (DV ((w6.setCell ⟨w.heap.size, 0, none⟩ (.int .i64 sq)).setCell ⟨w.heap.size, 1, none⟩ (.slice ua uk uc)) w.heap.size (.slice ua uk uc) dl ∧ Touch g w ((w6.setCell ⟨w.heap.size, 0, none⟩ (.int .i64 sq)).setCell ⟨w.heap.size, 1, none⟩ (.slice ua uk uc)) ∧ Scx w0 ((w6.setCell ⟨w.heap.size, 0, none⟩ (.int .i64 sq)).setCell ⟨w.heap.size, 1, none⟩ (.slice ua uk uc)) g (Vf v n) l2 f4) :=
    ⟨((HD6.out.set _ HT3s.out).set _ HT3s.out).less (Nat.le_of_lt HT3s.out), (HT6.out.setNew _ (Nat.le_refl _)).setNew _ (Nat.le_refl _), (HS6.out.other _ (by omega) HW.out).other _ (by omega) HW.out⟩
  clear T6 S6 Q6 HT4 HS4 HQ4 HD4 HT6 HS6 HD6 hHeld SG
  go_wp2
  refine bodyPost_ret (v := .agg #[.int .i64 sq, .slice ua uk uc]) (by simp [results, Tryz.results48, go_sem, *]) rfl ⟨_, rfl, R.out⟩
end
end Go.Proofs.YtooejihnifphkaaGreatDoor
