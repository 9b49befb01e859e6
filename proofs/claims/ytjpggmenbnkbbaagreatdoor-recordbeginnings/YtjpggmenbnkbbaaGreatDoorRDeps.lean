/- The contract of package record's isDeps. -/
import Derived.Test.YtjpggmenbnkbbaaGreatDoorRPred
import Derived.Test.YtjpggmenbnkbbaaGreatDoorRRep
import Derived.Test.YtjpggmenbnkbbaaGreatDoorVPreds
import Derived.Deep.RegionHeld3
namespace Go.Proofs.YtjpggmenbnkbbaaGreatDoor
open Go.RowKit Go.Wire1

theorem repl_getD {k q : Nat} {m : Int} (h : q < k) : (List.replicate k m).getD q 0 = m := by rw [List.getD, List.getElem?_replicate, if_pos h]; rfl
theorem covers_deps {k : Nat} (r : Rc) (h1 : 1 ≤ k) (hk : k ≤ 7) : coversB (List.replicate k (mostR r)) r.deps = depsR (k : Int) r := by
  have hm : 0 ≤ mostR r ∧ mostR r ≤ 1048576 := by unfold mostR; split <;> omega
  have hv : isVec (List.replicate k (mostR r)) = true := by
    unfold isVec okW okL
    rw [List.length_replicate, Bool.and_eq_true]
    refine ⟨decide_eq_true ⟨h1, hk⟩, List.all_eq_true.2 (fun x hx => ?_)⟩
    rw [List.eq_of_mem_replicate hx]
    exact decide_eq_true hm
  rw [Bool.eq_iff_iff]
  unfold coversB depsR
  rw [hv, List.length_replicate]
  simp only [Bool.and_eq_true, decide_eq_true_eq, true_and]
  constructor
  · rintro ⟨hl, hy, ho⟩
    refine ⟨by omega, List.all_eq_true.2 (fun x hx => ?_)⟩
    obtain ⟨q, hq, rfl⟩ := List.getElem_of_mem hx
    have h3 := overK_iff.1 ho q (by omega)
    rw [repl_getD (by omega), List.getD, List.getElem?_eq_getElem hq] at h3
    unfold isVec at hy
    have h4 := okL_at (Bool.and_eq_true _ _ ▸ hy : _ ∧ _).2 q
    rw [List.getD, List.getElem?_eq_getElem hq] at h4
    simp only [Option.getD_some] at h3 h4
    simp only [Bool.and_eq_true, decide_eq_true_eq]
    omega
  · rintro ⟨hl, ha⟩
    have ha' : ∀ q, q < r.deps.length → 0 ≤ r.deps.getD q 0 ∧ r.deps.getD q 0 ≤ mostR r := fun q hq => by
      have := List.all_eq_true.1 ha (r.deps.getD q 0) (by rw [List.getD, List.getElem?_eq_getElem hq]; exact List.getElem_mem hq)
      simpa only [Bool.and_eq_true, decide_eq_true_eq] using this
    refine ⟨by omega, ?_, overK_iff.2 (fun q hq => ?_)⟩
    · unfold isVec okW okL
      rw [Bool.and_eq_true]
      refine ⟨decide_eq_true ⟨by omega, by omega⟩, List.all_eq_true.2 (fun x hx => ?_)⟩
      have := List.all_eq_true.1 ha x hx
      simp only [Bool.and_eq_true, decide_eq_true_eq] at this
      exact decide_eq_true ⟨this.1, by omega⟩
    · rw [repl_getD hq]; exact (ha' q (by omega)).2
set_option maxHeartbeats 4000000 in
set_option maxRecDepth 100000 in
theorem risDeps_any (k : Nat) (r : Rc) (w : World) (h1 : 1 ≤ k) (hk : k ≤ 7) (hd : SegI w r.da r.dn r.deps) :
    Calls Tryz.prog 55 #[.int .i64 (k : Int), .agg (rcs r).toArray] w fun e w' => e = .returned (.bool (depsR (k : Int) r)) ∧ Below w.heap.size w w' := by
  obtain ⟨V, hV⟩ : ∃ V, V = w.alloc (.cells (rcs r).toArray 30) := ⟨_, rfl⟩
  have Q : Hid (Blk V w.heap.size (rcs r)) := by rw [hV]; exact blk_new w 30 (rcs r)
  have BV : Hid (Below w.heap.size w V) := by rw [hV]; exact (Below.refl _ _).alloc (Nat.le_refl _) _
  have hVs : w.heap.size ≤ V.heap.size := BV.out.size
  have HD := hide hd
  clear hd
  have HC := hide (covers_deps (k := k) r h1 hk)
  cases h0 : noopR r with
  | true =>
    have HQ : Hid (coversB (List.replicate k 0) r.deps = depsR (k : Int) r) := by rw [← HC.out]; show _ = _; unfold mostR; rw [h0]; rfl
    generalize depsR (k : Int) r = res at *
    clear HC
    go_enter Tryz.func55, Tryz.ntmps55
    go_wp2_with (first | (refine wpList_load_mid rfl 30 _ rfl w.heap.size 0 rfl (rcs r) _ (by first | exact Q.out.range | (rw [← hV]; exact Q.out.range)) Tryz.underlying30 rfl (by kernel_rfl) ?_))
    rw [← hV]
    clear hV
    refine (risNoop_any r _).mono ?_
    rintro e w1 ⟨rfl, hb1⟩
    have B1 : Hid (Below w.heap.size w w1) := BV.out.trans (hb1.mono hVs)
    have Q1 : Hid (Blk w1 w.heap.size (rcs r)) := Q.out.on hb1
    have S1 : Hid (SegI w1 r.da r.dn r.deps) := HD.out.below B1.out (Nat.le_refl _)
    have q15 : w1.cell? ⟨w.heap.size, 15, none⟩ = some (.slice r.da r.dn r.dc) := Q1.out.cell 15 _ (rcs15 r)
    have hw1 : w.heap.size < w1.heap.size := Q1.out.lt
    rw [h0]
    clear h0 hb1 Q BV hVs
    go_wp2
    refine wp_region_noPanic ?_
    refine wp_region_held_drew (S := (fun w' => w'.cell? ⟨w.heap.size, 15, none⟩ = some (.slice r.da r.dn r.dc))) (by kernel_rfl) q15 (fun hHeld => ?_)
    refine wpAnyH_take (i := 0) (v := ?_) rfl (by kernel_rfl) (by kernel_rfl) (by kernel_rfl) (fun _ _ _ h => h) (Or.inl ⟨by rfl, ?_⟩) (by assumption) ?_
    rotate_left
    · intro w hSw
      try dsimp only at hSw
      go_simp
      try with_reducible rfl
    try simp only [Act.put, List.getElem_toArray, List.getElem_cons_zero, List.setIfInBounds_toArray, List.set_cons_zero, List.set_cons_succ]
    refine wpAnyH_take (i := 2) (v := ?_) rfl (by kernel_rfl) (by kernel_rfl) (by kernel_rfl) (fun _ _ _ h => h) (Or.inl ⟨by rfl, ?_⟩) (by assumption) ?_
    rotate_left
    · intro w hSw
      try dsimp only at hSw
      go_simp
      try with_reducible rfl
    try simp only [Act.put, List.getElem_toArray, List.getElem_cons_succ, List.getElem_cons_zero, List.setIfInBounds_toArray, List.set_cons_zero, List.set_cons_succ]
    refine wpAnyH_take (i := 4) (v := ?_) rfl (by kernel_rfl) (by kernel_rfl) (by kernel_rfl) (fun _ _ _ h => h) (Or.inl ⟨by rfl, ?_⟩) (by assumption) ?_
    rotate_left
    · intro w hSw
      try dsimp only at hSw
      go_simp
      try with_reducible rfl
    try simp only [Act.put, List.getElem_toArray, List.getElem_cons_succ, List.getElem_cons_zero, List.setIfInBounds_toArray, List.set_cons_zero, List.set_cons_succ]
    refine wpAnyH_take (i := 5) (v := ?_) rfl (by kernel_rfl) (by kernel_rfl) (by kernel_rfl) (fun _ _ _ h => h) (Or.inl ⟨by rfl, ?_⟩) (by assumption) ?_
    rotate_left
    · intro w hSw
      try dsimp only at hSw
      go_simp
      try with_reducible rfl
    try simp only [Act.put, List.getElem_toArray, List.getElem_cons_succ, List.getElem_cons_zero, List.setIfInBounds_toArray, List.set_cons_zero, List.set_cons_succ]
    refine wpAnyH_ready (rs := [1]) (by kernel_rfl) (by simp) ?_
    refine AllReadyH.cons rfl (fun K hK => ?_) AllReadyH.nil
    rw [if_pos (by rfl)]
    go_wp2_with fail
    obtain ⟨w2, hw2⟩ : ∃ w2, w2 = (w1.alloc (.cells #[.int .i64 0] 3)).drew := ⟨_, rfl⟩
    have B2 : Hid (Below w1.heap.size w1 w2) := by rw [hw2]; exact ((Below.refl w1.heap.size w1).alloc (Nat.le_refl _) _).drewN' 1
    have K2 : Hid (Blk w2 w1.heap.size [.int .i64 0]) := by rw [hw2]; exact (blk_new w1 3 [.int .i64 0]).drewN 1
    have z2 : w1.heap.size ≤ w2.heap.size := B2.out.size
    rw [← hw2]
    clear hw2
    refine hK.out _ _ ((Q1.out.on B2.out).cell 15 _ (rcs15 r)) (fun hHeld => ?_)
    clear hK K
    try simp only [Act.put, List.getElem_toArray, List.getElem_cons_succ, List.getElem_cons_zero, List.setIfInBounds_toArray, List.set_cons_zero, List.set_cons_succ]
    refine wpAnyH_ready (rs := [3]) (by kernel_rfl) (by simp) ?_
    refine AllReadyH.cons rfl (fun K hK => ?_) AllReadyH.nil
    rw [if_pos (by rfl)]
    go_wp2_with fail
    refine (repeat_any 0 w1.heap.size k _ K2.out h1 hk (by omega)).mono ?_
    rintro e w3 ⟨rfl, G3, hb3⟩
    have z3 : w2.heap.size ≤ w3.heap.size := hb3.size
    have B3 : Hid (Below w1.heap.size w1 w3) := B2.out.trans (hb3.mono z2)
    refine hK.out _ _ ((Q1.out.on B3.out).cell 15 _ (rcs15 r)) (fun hHeld => ?_)
    clear hK K
    try simp only [Act.put, List.getElem_toArray, List.getElem_cons_succ, List.getElem_cons_zero, List.setIfInBounds_toArray, List.set_cons_zero, List.set_cons_succ]
    refine wpAnyH_ready (rs := [6]) (by kernel_rfl) (by simp) ?_
    refine AllReadyH.cons rfl (fun K hK => ?_) AllReadyH.nil
    rw [if_pos (by rfl)]
    go_wp2_with fail
    refine (covers_any _ _ k r.dn _ _ (List.replicate k 0) r.deps _ G3 (S1.out.below B3.out (Nat.le_refl _))).mono ?_
    rintro e w4 ⟨rfl, q, rfl⟩
    rw [HQ.out]
    refine hK.out _ _ ((Q1.out.on (B3.out.drewN' q)).cell 15 _ (rcs15 r)) (fun hHeld => ?_)
    clear hK K
    try simp only [Act.put, List.getElem_toArray, List.getElem_cons_succ, List.getElem_cons_zero, List.setIfInBounds_toArray, List.set_cons_zero, List.set_cons_succ]
    refine wpAnyH_take (i := 7) (v := ?_) rfl (by kernel_rfl) (by kernel_rfl) (by kernel_rfl) (fun _ _ _ h => h) (Or.inl ⟨by rfl, ?_⟩) (by assumption) ?_
    rotate_left
    · intro w hSw
      try dsimp only at hSw
      go_simp
      try with_reducible rfl
    try simp only [Act.put, List.getElem_toArray, List.getElem_cons_succ, List.getElem_cons_zero, List.setIfInBounds_toArray, List.set_cons_zero, List.set_cons_succ]
    refine wpAnyH_done (by kernel_rfl) ?_ _
    refine NoPanic.normal ?_
    go_wp2
    go_ret
    exact ⟨rfl, B1.out.trans ((B3.out.drewN' q).mono (by omega))⟩
  | false =>
    have HQ : Hid (coversB (List.replicate k 1048576) r.deps = depsR (k : Int) r) := by rw [← HC.out]; show _ = _; unfold mostR; rw [h0]; rfl
    generalize depsR (k : Int) r = res at *
    clear HC
    go_enter Tryz.func55, Tryz.ntmps55
    go_wp2_with (first | (refine wpList_load_mid rfl 30 _ rfl w.heap.size 0 rfl (rcs r) _ (by first | exact Q.out.range | (rw [← hV]; exact Q.out.range)) Tryz.underlying30 rfl (by kernel_rfl) ?_))
    rw [← hV]
    clear hV
    refine (risNoop_any r _).mono ?_
    rintro e w1 ⟨rfl, hb1⟩
    have B1 : Hid (Below w.heap.size w w1) := BV.out.trans (hb1.mono hVs)
    have Q1 : Hid (Blk w1 w.heap.size (rcs r)) := Q.out.on hb1
    have S1 : Hid (SegI w1 r.da r.dn r.deps) := HD.out.below B1.out (Nat.le_refl _)
    have q15 : w1.cell? ⟨w.heap.size, 15, none⟩ = some (.slice r.da r.dn r.dc) := Q1.out.cell 15 _ (rcs15 r)
    have hw1 : w.heap.size < w1.heap.size := Q1.out.lt
    rw [h0]
    clear h0 hb1 Q BV hVs
    go_wp2
    refine wp_region_noPanic ?_
    refine wp_region_held_drew (S := (fun w' => w'.cell? ⟨w.heap.size, 15, none⟩ = some (.slice r.da r.dn r.dc))) (by kernel_rfl) q15 (fun hHeld => ?_)
    refine wpAnyH_take (i := 0) (v := ?_) rfl (by kernel_rfl) (by kernel_rfl) (by kernel_rfl) (fun _ _ _ h => h) (Or.inl ⟨by rfl, ?_⟩) (by assumption) ?_
    rotate_left
    · intro w hSw
      try dsimp only at hSw
      go_simp
      try with_reducible rfl
    try simp only [Act.put, List.getElem_toArray, List.getElem_cons_zero, List.setIfInBounds_toArray, List.set_cons_zero, List.set_cons_succ]
    refine wpAnyH_take (i := 2) (v := ?_) rfl (by kernel_rfl) (by kernel_rfl) (by kernel_rfl) (fun _ _ _ h => h) (Or.inl ⟨by rfl, ?_⟩) (by assumption) ?_
    rotate_left
    · intro w hSw
      try dsimp only at hSw
      go_simp
      try with_reducible rfl
    try simp only [Act.put, List.getElem_toArray, List.getElem_cons_succ, List.getElem_cons_zero, List.setIfInBounds_toArray, List.set_cons_zero, List.set_cons_succ]
    refine wpAnyH_take (i := 4) (v := ?_) rfl (by kernel_rfl) (by kernel_rfl) (by kernel_rfl) (fun _ _ _ h => h) (Or.inl ⟨by rfl, ?_⟩) (by assumption) ?_
    rotate_left
    · intro w hSw
      try dsimp only at hSw
      go_simp
      try with_reducible rfl
    try simp only [Act.put, List.getElem_toArray, List.getElem_cons_succ, List.getElem_cons_zero, List.setIfInBounds_toArray, List.set_cons_zero, List.set_cons_succ]
    refine wpAnyH_take (i := 5) (v := ?_) rfl (by kernel_rfl) (by kernel_rfl) (by kernel_rfl) (fun _ _ _ h => h) (Or.inl ⟨by rfl, ?_⟩) (by assumption) ?_
    rotate_left
    · intro w hSw
      try dsimp only at hSw
      go_simp
      try with_reducible rfl
    try simp only [Act.put, List.getElem_toArray, List.getElem_cons_succ, List.getElem_cons_zero, List.setIfInBounds_toArray, List.set_cons_zero, List.set_cons_succ]
    refine wpAnyH_ready (rs := [1]) (by kernel_rfl) (by simp) ?_
    refine AllReadyH.cons rfl (fun K hK => ?_) AllReadyH.nil
    rw [if_pos (by rfl)]
    go_wp2_with fail
    obtain ⟨w2, hw2⟩ : ∃ w2, w2 = (w1.alloc (.cells #[.int .i64 1048576] 3)).drew := ⟨_, rfl⟩
    have B2 : Hid (Below w1.heap.size w1 w2) := by rw [hw2]; exact ((Below.refl w1.heap.size w1).alloc (Nat.le_refl _) _).drewN' 1
    have K2 : Hid (Blk w2 w1.heap.size [.int .i64 1048576]) := by rw [hw2]; exact (blk_new w1 3 [.int .i64 1048576]).drewN 1
    have z2 : w1.heap.size ≤ w2.heap.size := B2.out.size
    rw [← hw2]
    clear hw2
    refine hK.out _ _ ((Q1.out.on B2.out).cell 15 _ (rcs15 r)) (fun hHeld => ?_)
    clear hK K
    try simp only [Act.put, List.getElem_toArray, List.getElem_cons_succ, List.getElem_cons_zero, List.setIfInBounds_toArray, List.set_cons_zero, List.set_cons_succ]
    refine wpAnyH_ready (rs := [3]) (by kernel_rfl) (by simp) ?_
    refine AllReadyH.cons rfl (fun K hK => ?_) AllReadyH.nil
    rw [if_pos (by rfl)]
    go_wp2_with fail
    refine (repeat_any 1048576 w1.heap.size k _ K2.out h1 hk (by omega)).mono ?_
    rintro e w3 ⟨rfl, G3, hb3⟩
    have z3 : w2.heap.size ≤ w3.heap.size := hb3.size
    have B3 : Hid (Below w1.heap.size w1 w3) := B2.out.trans (hb3.mono z2)
    refine hK.out _ _ ((Q1.out.on B3.out).cell 15 _ (rcs15 r)) (fun hHeld => ?_)
    clear hK K
    try simp only [Act.put, List.getElem_toArray, List.getElem_cons_succ, List.getElem_cons_zero, List.setIfInBounds_toArray, List.set_cons_zero, List.set_cons_succ]
    refine wpAnyH_ready (rs := [6]) (by kernel_rfl) (by simp) ?_
    refine AllReadyH.cons rfl (fun K hK => ?_) AllReadyH.nil
    rw [if_pos (by rfl)]
    go_wp2_with fail
    refine (covers_any _ _ k r.dn _ _ (List.replicate k 1048576) r.deps _ G3 (S1.out.below B3.out (Nat.le_refl _))).mono ?_
    rintro e w4 ⟨rfl, q, rfl⟩
    rw [HQ.out]
    refine hK.out _ _ ((Q1.out.on (B3.out.drewN' q)).cell 15 _ (rcs15 r)) (fun hHeld => ?_)
    clear hK K
    try simp only [Act.put, List.getElem_toArray, List.getElem_cons_succ, List.getElem_cons_zero, List.setIfInBounds_toArray, List.set_cons_zero, List.set_cons_succ]
    refine wpAnyH_take (i := 7) (v := ?_) rfl (by kernel_rfl) (by kernel_rfl) (by kernel_rfl) (fun _ _ _ h => h) (Or.inl ⟨by rfl, ?_⟩) (by assumption) ?_
    rotate_left
    · intro w hSw
      try dsimp only at hSw
      go_simp
      try with_reducible rfl
    try simp only [Act.put, List.getElem_toArray, List.getElem_cons_succ, List.getElem_cons_zero, List.setIfInBounds_toArray, List.set_cons_zero, List.set_cons_succ]
    refine wpAnyH_done (by kernel_rfl) ?_ _
    refine NoPanic.normal ?_
    go_wp2
    go_ret
    exact ⟨rfl, B1.out.trans ((B3.out.drewN' q).mono (by omega))⟩
end Go.Proofs.YtjpggmenbnkbbaaGreatDoor
