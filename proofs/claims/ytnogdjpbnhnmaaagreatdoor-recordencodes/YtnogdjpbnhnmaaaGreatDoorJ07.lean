/- Texts of the proof, joined. -/
import Derived.Test.YtnogdjpbnhnmaaaGreatDoorJ02
import Derived.Test.YtnogdjpbnhnmaaaGreatDoorJ04
import Derived.Test.YtnogdjpbnhnmaaaGreatDoorJ06
import Derived.Deep.RegionHeld3
import Derived.Deep.Light
/- The contract of package record's isDeps. -/
namespace Go.Proofs.YtnogdjpbnhnmaaaGreatDoor
open Go.RowKit Go.Wire1

theorem repl_getD {k q : Nat} {m : Int} (h : q < k) : (List.replicate k m).getD q 0 = m := by rw [List.getD, List.getElem?_replicate, if_pos h]; rfl
theorem covers_deps {k : Nat} (r : Rc) (h1 : 1 ≤ k) (hk : k ≤ 7) : coversB (List.replicate k (mostR r)) r.deps = depsR (k : Int) r := by
  have hm : 0 ≤ mostR r ∧ mostR r ≤ 1048576 := by unfold mostR; split <;> omega
  have hv : isVec (List.replicate k (mostR r)) = true := by
    unfold isVec okW okL
    rw [List.length_replicate, Bool.and_eq_true]
    refine ⟨decide_eq_true ⟨h1, hk⟩, List.all_eq_true.2 (fun x hx => ?_)⟩
    rw [List.eq_of_mem_replicate hx]
    exact decide_eq_true hm
  rw [Bool.eq_iff_iff]
  unfold coversB depsR
  rw [hv, List.length_replicate]
  simp only [Bool.and_eq_true, decide_eq_true_eq, true_and]
  constructor
  · rintro ⟨hl, hy, ho⟩
    refine ⟨by omega, List.all_eq_true.2 (fun x hx => ?_)⟩
    obtain ⟨q, hq, rfl⟩ := List.getElem_of_mem hx
    have h3 := overK_iff.1 ho q (by omega)
    rw [repl_getD (by omega), List.getD, List.getElem?_eq_getElem hq] at h3
    unfold isVec at hy
    have h4 := okL_at (Bool.and_eq_true _ _ ▸ hy : _ ∧ _).2 q
    rw [List.getD, List.getElem?_eq_getElem hq] at h4
    simp only [Option.getD_some] at h3 h4
    simp only [Bool.and_eq_true, decide_eq_true_eq]
    omega
  · rintro ⟨hl, ha⟩
    have ha' : ∀ q, q < r.deps.length → 0 ≤ r.deps.getD q 0 ∧ r.deps.getD q 0 ≤ mostR r := fun q hq => by
      have := List.all_eq_true.1 ha (r.deps.getD q 0) (by rw [List.getD, List.getElem?_eq_getElem hq]; exact List.getElem_mem hq)
      simpa only [Bool.and_eq_true, decide_eq_true_eq] using this
    refine ⟨by omega, ?_, overK_iff.2 (fun q hq => ?_)⟩
    · unfold isVec okW okL
      rw [Bool.and_eq_true]
      refine ⟨decide_eq_true ⟨by omega, by omega⟩, List.all_eq_true.2 (fun x hx => ?_)⟩
      have := List.all_eq_true.1 ha x hx
      simp only [Bool.and_eq_true, decide_eq_true_eq] at this
      exact decide_eq_true ⟨this.1, by omega⟩
    · rw [repl_getD hq]; exact (ha' q (by omega)).2
set_option maxHeartbeats 4000000 in
set_option maxRecDepth 100000 in
theorem risDeps_any (k : Nat) (r : Rc) (w : World) (h1 : 1 ≤ k) (hk : k ≤ 7) (hd : SegI w r.da r.dn r.deps) :
    Calls Tryz.prog 81 #[.int .i64 (k : Int), .agg (rcs r).toArray] w fun e w' => e = .returned (.bool (depsR (k : Int) r)) ∧ Below w.heap.size w w' := by
  obtain ⟨V, hV⟩ : ∃ V, V = w.alloc (.cells (rcs r).toArray 31) := ⟨_, rfl⟩
  have Q : Hid (Blk V w.heap.size (rcs r)) := by rw [hV]; exact blk_new w 31 (rcs r)
  have BV : Hid (Below w.heap.size w V) := by rw [hV]; exact (Below.refl _ _).alloc (Nat.le_refl _) _
  have hVs : w.heap.size ≤ V.heap.size := BV.out.size
  have HD := hide hd
  clear hd
  have HC := hide (covers_deps (k := k) r h1 hk)
  cases h0 : noopR r with
  | true =>
    have HQ : Hid (coversB (List.replicate k 0) r.deps = depsR (k : Int) r) := by rw [← HC.out]; show _ = _; unfold mostR; rw [h0]; rfl
    generalize depsR (k : Int) r = res at *
    clear HC
    go_enter Tryz.func81, Tryz.ntmps81
    go_wp2_with (first | (refine wpList_load_mid rfl 31 _ rfl w.heap.size 0 rfl (rcs r) _ (by first | exact Q.out.range | (rw [← hV]; exact Q.out.range)) Tryz.underlying31 rfl (by kernel_rfl) ?_))
    rw [← hV]
    clear hV
    refine (risNoop_any r _).mono ?_
    rintro e w1 ⟨rfl, hb1⟩
    have B1 : Hid (Below w.heap.size w w1) := BV.out.trans (hb1.mono hVs)
    have Q1 : Hid (Blk w1 w.heap.size (rcs r)) := Q.out.on hb1
    have S1 : Hid (SegI w1 r.da r.dn r.deps) := HD.out.below B1.out (Nat.le_refl _)
    have q15 : w1.cell? ⟨w.heap.size, 15, none⟩ = some (.slice r.da r.dn r.dc) := Q1.out.cell 15 _ (rcs15 r)
    have hw1 : w.heap.size < w1.heap.size := Q1.out.lt
    rw [h0]
    clear h0 hb1 Q BV hVs
    go_wp2
    refine wp_region_noPanic ?_
    refine wp_region_held_drew (S := (fun w' => w'.cell? ⟨w.heap.size, 15, none⟩ = some (.slice r.da r.dn r.dc))) (by kernel_rfl) q15 (fun hHeld => ?_)
    refine tk 0 ?_
    refine tk 2 ?_
    refine tk 4 ?_
    refine tk 5 ?_
    refine wpAnyH_ready (rs := [1]) (by kernel_rfl) (by simp) ?_
    refine AllReadyH.cons rfl (fun K hK => ?_) AllReadyH.nil
    rw [if_pos (by rfl)]
    go_wp2_with fail
    obtain ⟨w2, hw2⟩ : ∃ w2, w2 = (w1.alloc (.cells #[.int .i64 0] 3)).drew := ⟨_, rfl⟩
    have B2 : Hid (Below w1.heap.size w1 w2) := by rw [hw2]; exact ((Below.refl w1.heap.size w1).alloc (Nat.le_refl _) _).drewN' 1
    have K2 : Hid (Blk w2 w1.heap.size [.int .i64 0]) := by rw [hw2]; exact (blk_new w1 3 [.int .i64 0]).drewN 1
    have z2 : w1.heap.size ≤ w2.heap.size := B2.out.size
    rw [← hw2]
    clear hw2
    refine hK.out _ _ ((Q1.out.on B2.out).cell 15 _ (rcs15 r)) (fun hHeld => ?_)
    clear hK K
    try simp only [Act.put, List.getElem_toArray, List.getElem_cons_succ, List.getElem_cons_zero, List.setIfInBounds_toArray, List.set_cons_zero, List.set_cons_succ]
    refine wpAnyH_ready (rs := [3]) (by kernel_rfl) (by simp) ?_
    refine AllReadyH.cons rfl (fun K hK => ?_) AllReadyH.nil
    rw [if_pos (by rfl)]
    go_wp2_with fail
    refine (repeat_any 0 w1.heap.size k _ K2.out h1 hk (by omega)).mono ?_
    rintro e w3 ⟨rfl, G3, hb3⟩
    have z3 : w2.heap.size ≤ w3.heap.size := hb3.size
    have B3 : Hid (Below w1.heap.size w1 w3) := B2.out.trans (hb3.mono z2)
    refine hK.out _ _ ((Q1.out.on B3.out).cell 15 _ (rcs15 r)) (fun hHeld => ?_)
    clear hK K
    try simp only [Act.put, List.getElem_toArray, List.getElem_cons_succ, List.getElem_cons_zero, List.setIfInBounds_toArray, List.set_cons_zero, List.set_cons_succ]
    refine wpAnyH_ready (rs := [6]) (by kernel_rfl) (by simp) ?_
    refine AllReadyH.cons rfl (fun K hK => ?_) AllReadyH.nil
    rw [if_pos (by rfl)]
    go_wp2_with fail
    refine (covers_any _ _ k r.dn _ _ (List.replicate k 0) r.deps _ G3 (S1.out.below B3.out (Nat.le_refl _))).mono ?_
    rintro e w4 ⟨rfl, q, rfl⟩
    rw [HQ.out]
    refine hK.out _ _ ((Q1.out.on (B3.out.drewN' q)).cell 15 _ (rcs15 r)) (fun hHeld => ?_)
    clear hK K
    try simp only [Act.put, List.getElem_toArray, List.getElem_cons_succ, List.getElem_cons_zero, List.setIfInBounds_toArray, List.set_cons_zero, List.set_cons_succ]
    refine tk 7 ?_
    refine wpAnyH_done (by kernel_rfl) ?_ _
    refine NoPanic.normal ?_
    go_wp2
    go_ret
    exact ⟨rfl, B1.out.trans ((B3.out.drewN' q).mono (by omega))⟩
  | false =>
    have HQ : Hid (coversB (List.replicate k 1048576) r.deps = depsR (k : Int) r) := by rw [← HC.out]; show _ = _; unfold mostR; rw [h0]; rfl
    generalize depsR (k : Int) r = res at *
    clear HC
    go_enter Tryz.func81, Tryz.ntmps81
    go_wp2_with (first | (refine wpList_load_mid rfl 31 _ rfl w.heap.size 0 rfl (rcs r) _ (by first | exact Q.out.range | (rw [← hV]; exact Q.out.range)) Tryz.underlying31 rfl (by kernel_rfl) ?_))
    rw [← hV]
    clear hV
    refine (risNoop_any r _).mono ?_
    rintro e w1 ⟨rfl, hb1⟩
    have B1 : Hid (Below w.heap.size w w1) := BV.out.trans (hb1.mono hVs)
    have Q1 : Hid (Blk w1 w.heap.size (rcs r)) := Q.out.on hb1
    have S1 : Hid (SegI w1 r.da r.dn r.deps) := HD.out.below B1.out (Nat.le_refl _)
    have q15 : w1.cell? ⟨w.heap.size, 15, none⟩ = some (.slice r.da r.dn r.dc) := Q1.out.cell 15 _ (rcs15 r)
    have hw1 : w.heap.size < w1.heap.size := Q1.out.lt
    rw [h0]
    clear h0 hb1 Q BV hVs
    go_wp2
    refine wp_region_noPanic ?_
    refine wp_region_held_drew (S := (fun w' => w'.cell? ⟨w.heap.size, 15, none⟩ = some (.slice r.da r.dn r.dc))) (by kernel_rfl) q15 (fun hHeld => ?_)
    refine tk 0 ?_
    refine tk 2 ?_
    refine tk 4 ?_
    refine tk 5 ?_
    refine wpAnyH_ready (rs := [1]) (by kernel_rfl) (by simp) ?_
    refine AllReadyH.cons rfl (fun K hK => ?_) AllReadyH.nil
    rw [if_pos (by rfl)]
    go_wp2_with fail
    obtain ⟨w2, hw2⟩ : ∃ w2, w2 = (w1.alloc (.cells #[.int .i64 1048576] 3)).drew := ⟨_, rfl⟩
    have B2 : Hid (Below w1.heap.size w1 w2) := by rw [hw2]; exact ((Below.refl w1.heap.size w1).alloc (Nat.le_refl _) _).drewN' 1
    have K2 : Hid (Blk w2 w1.heap.size [.int .i64 1048576]) := by rw [hw2]; exact (blk_new w1 3 [.int .i64 1048576]).drewN 1
    have z2 : w1.heap.size ≤ w2.heap.size := B2.out.size
    rw [← hw2]
    clear hw2
    refine hK.out _ _ ((Q1.out.on B2.out).cell 15 _ (rcs15 r)) (fun hHeld => ?_)
    clear hK K
    try simp only [Act.put, List.getElem_toArray, List.getElem_cons_succ, List.getElem_cons_zero, List.setIfInBounds_toArray, List.set_cons_zero, List.set_cons_succ]
    refine wpAnyH_ready (rs := [3]) (by kernel_rfl) (by simp) ?_
    refine AllReadyH.cons rfl (fun K hK => ?_) AllReadyH.nil
    rw [if_pos (by rfl)]
    go_wp2_with fail
    refine (repeat_any 1048576 w1.heap.size k _ K2.out h1 hk (by omega)).mono ?_
    rintro e w3 ⟨rfl, G3, hb3⟩
    have z3 : w2.heap.size ≤ w3.heap.size := hb3.size
    have B3 : Hid (Below w1.heap.size w1 w3) := B2.out.trans (hb3.mono z2)
    refine hK.out _ _ ((Q1.out.on B3.out).cell 15 _ (rcs15 r)) (fun hHeld => ?_)
    clear hK K
    try simp only [Act.put, List.getElem_toArray, List.getElem_cons_succ, List.getElem_cons_zero, List.setIfInBounds_toArray, List.set_cons_zero, List.set_cons_succ]
    refine wpAnyH_ready (rs := [6]) (by kernel_rfl) (by simp) ?_
    refine AllReadyH.cons rfl (fun K hK => ?_) AllReadyH.nil
    rw [if_pos (by rfl)]
    go_wp2_with fail
    refine (covers_any _ _ k r.dn _ _ (List.replicate k 1048576) r.deps _ G3 (S1.out.below B3.out (Nat.le_refl _))).mono ?_
    rintro e w4 ⟨rfl, q, rfl⟩
    rw [HQ.out]
    refine hK.out _ _ ((Q1.out.on (B3.out.drewN' q)).cell 15 _ (rcs15 r)) (fun hHeld => ?_)
    clear hK K
    try simp only [Act.put, List.getElem_toArray, List.getElem_cons_succ, List.getElem_cons_zero, List.setIfInBounds_toArray, List.set_cons_zero, List.set_cons_succ]
    refine tk 7 ?_
    refine wpAnyH_done (by kernel_rfl) ?_ _
    refine NoPanic.normal ?_
    go_wp2
    go_ret
    exact ⟨rfl, B1.out.trans ((B3.out.drewN' q).mono (by omega))⟩
end Go.Proofs.YtnogdjpbnhnmaaaGreatDoor
/- The contract of package record's isZero. -/
namespace Go.Proofs.YtnogdjpbnhnmaaaGreatDoor
open Go.RowKit Go.Wire1

set_option maxHeartbeats 2000000 in
set_option maxRecDepth 100000 in
theorem risZero_id (r : Rc) (w : World) :
    Calls Tryz.prog 87 #[.agg (rcs r).toArray, .int .i32 119] w fun e w' => e = .returned (.bool (zeroR r 119)) ∧ Below w.heap.size w w' := by
  have g16 := rcs16 r
  go_enter Tryz.func87, Tryz.ntmps87
  go_wp2
  go_ret
  exact ⟨rfl, (Below.refl _ _).alloc (Nat.le_refl _) _⟩
set_option maxHeartbeats 2000000 in
set_option maxRecDepth 100000 in
theorem risZero_n (r : Rc) (w : World) :
    Calls Tryz.prog 87 #[.agg (rcs r).toArray, .int .i32 110] w fun e w' => e = .returned (.bool (zeroR r 110)) ∧ Below w.heap.size w w' := by
  have g17 := rcs17 r
  go_enter Tryz.func87, Tryz.ntmps87
  go_wp2
  go_ret
  exact ⟨rfl, (Below.refl _ _).alloc (Nat.le_refl _) _⟩
set_option maxHeartbeats 2000000 in
set_option maxRecDepth 100000 in
theorem risZero_inst (r : Rc) (w : World) :
    Calls Tryz.prog 87 #[.agg (rcs r).toArray, .int .i32 105] w fun e w' => e = .returned (.bool (zeroR r 105)) ∧ Below w.heap.size w w' := by
  have g1 := rcs1 r
  have g2 := rcs2 r
  go_enter Tryz.func87, Tryz.ntmps87
  go_wp2
  all_goals
    go_ret
    refine ⟨?_, (Below.refl _ _).alloc (Nat.le_refl _) _⟩
    go_light
    simp [zeroR, *]
set_option maxHeartbeats 2000000 in
set_option maxRecDepth 100000 in
theorem risZero_bal (r : Rc) (w : World) :
    Calls Tryz.prog 87 #[.agg (rcs r).toArray, .int .i32 98] w fun e w' => e = .returned (.bool (zeroR r 98)) ∧ Below w.heap.size w w' := by
  have g3 := rcs3 r
  have g4 := rcs4 r
  go_enter Tryz.func87, Tryz.ntmps87
  go_wp2
  all_goals
    go_ret
    refine ⟨?_, (Below.refl _ _).alloc (Nat.le_refl _) _⟩
    go_light
    simp [zeroR, *]
set_option maxHeartbeats 2000000 in
set_option maxRecDepth 100000 in
theorem risZero_same (r : Rc) (w : World) :
    Calls Tryz.prog 87 #[.agg (rcs r).toArray, .int .i32 115] w fun e w' => e = .returned (.bool (zeroR r 115)) ∧ Below w.heap.size w w' := by
  have g5 := rcs5 r
  go_enter Tryz.func87, Tryz.ntmps87
  go_wp2
  go_ret
  exact ⟨rfl, (Below.refl _ _).alloc (Nat.le_refl _) _⟩
set_option maxHeartbeats 2000000 in
set_option maxRecDepth 100000 in
theorem risZero_cmd (r : Rc) (w : World) :
    Calls Tryz.prog 87 #[.agg (rcs r).toArray, .int .i32 99] w fun e w' => e = .returned (.bool (zeroR r 99)) ∧ Below w.heap.size w w' := by
  have g6 := rcs6 r
  have g7 := rcs7 r
  have g8 := rcs8 r
  have g9 := rcs9 r
  have g10 := rcs10 r
  have g11 := rcs11 r
  have g12 := rcs12 r
  have g13 := rcs13 r
  go_enter Tryz.func87, Tryz.ntmps87
  go_wp2
  all_goals
    go_ret
    refine ⟨?_, (Below.refl _ _).alloc (Nat.le_refl _) _⟩
    go_light
    simp [zeroR, zeroCm, *]
set_option maxHeartbeats 2000000 in
set_option maxRecDepth 100000 in
theorem risZero_seq (r : Rc) (w : World) :
    Calls Tryz.prog 87 #[.agg (rcs r).toArray, .int .i32 113] w fun e w' => e = .returned (.bool (zeroR r 113)) ∧ Below w.heap.size w w' := by
  have g14 := rcs14 r
  go_enter Tryz.func87, Tryz.ntmps87
  go_wp2
  go_ret
  exact ⟨rfl, (Below.refl _ _).alloc (Nat.le_refl _) _⟩
set_option maxHeartbeats 2000000 in
set_option maxRecDepth 100000 in
theorem risZero_deps (r : Rc) (w : World) (hd : r.deps.length = r.dn) :
    Calls Tryz.prog 87 #[.agg (rcs r).toArray, .int .i32 100] w fun e w' => e = .returned (.bool (zeroR r 100)) ∧ Below w.heap.size w w' := by
  have g15 := rcs15 r
  have HD := hide hd
  clear hd
  go_enter Tryz.func87, Tryz.ntmps87
  go_wp2
  go_ret
  exact ⟨by show _ = Ending.returned (.bool (r.deps.length == 0)); rw [HD.out]; go_light; show Ending.returned (.bool ((r.dn : Int) == 0)) = _; rw [show ((r.dn : Int) == 0) = (r.dn == 0) by rw [Bool.eq_iff_iff]; simp], (Below.refl _ _).alloc (Nat.le_refl _) _⟩
/-- A letter of a field. -/
def Ltr (x : Nat) : Prop := x = 119 ∨ x = 110 ∨ x = 105 ∨ x = 98 ∨ x = 115 ∨ x = 99 ∨ x = 113 ∨ x = 100
theorem risZero_any (r : Rc) (x : Nat) (w : World) (hx : Ltr x) (hd : r.deps.length = r.dn) :
    Calls Tryz.prog 87 #[.agg (rcs r).toArray, .int .i32 (x : Int)] w fun e w' => e = .returned (.bool (zeroR r x)) ∧ Below w.heap.size w w' := by
  rcases hx with rfl | rfl | rfl | rfl | rfl | rfl | rfl | rfl
  · exact risZero_id r w
  · exact risZero_n r w
  · exact risZero_inst r w
  · exact risZero_bal r w
  · exact risZero_same r w
  · exact risZero_cmd r w
  · exact risZero_seq r w
  · exact risZero_deps r w hd
end Go.Proofs.YtnogdjpbnhnmaaaGreatDoor
