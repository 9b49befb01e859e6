/- Texts of the proof, joined. -/
import Derived.Test.YtdokagebfeejbaaGreatDoorJ01
import Derived.Test.YtdokagebfeejbaaGreatDoorJ09
import Derived.Test.YtdokagebfeejbaaGreatDoorJ07
import Derived.Deep.RegionHeld3
/- The contracts of ballotFault, noopFault, the two voteFaults and depsFault. -/
namespace Go.Proofs.YtdokagebfeejbaaGreatDoor
open Go.RowKit Go.Wire1

def ballB (kind : Nat) (n row rnd who : Int) : Bool := balB n row rnd who && decide ((rndM.getD kind 0 : Int) ≤ rnd)
theorem b3_new (w : World) (T : TypeId) (x y z : Value) : (w.alloc (.cells #[x, y, z] T)).cell? ⟨w.heap.size, 0, none⟩ = some x ∧ (w.alloc (.cells #[x, y, z] T)).cell? ⟨w.heap.size, 1, none⟩ = some y ∧ (w.alloc (.cells #[x, y, z] T)).cell? ⟨w.heap.size, 2, none⟩ = some z :=
  ⟨by rw [World.cell?_alloc_at _ _ _ _ rfl]; rfl, by rw [World.cell?_alloc_at _ _ _ _ rfl]; rfl, by rw [World.cell?_alloc_at _ _ _ _ rfl]; rfl⟩
theorem alloc_keep {w : World} {q o : Nat} {v : Value} (x : Obj) (h : w.cell? ⟨q, o, none⟩ = some v) : (w.alloc x).cell? ⟨q, o, none⟩ = some v :=
  (((Below.refl w.heap.size w).alloc (Nat.le_refl _) x).cell (p := ⟨q, o, none⟩) (cell_lt h)).trans h

set_option maxHeartbeats 4000000 in
set_option maxRecDepth 100000 in
theorem ballotFault_any (kind : Nat) (row num n rnd who : Int) (w : World) (hk : kind < 10) (hK : Kmd w) :
    Calls Tryz.prog 79 #[.agg #[.int .i64 (kind : Int), .int .i64 row, .int .i64 num], .int .i64 n, .agg #[.int .i64 rnd, .int .i64 who]] w fun e w' => e = .returned (.int .i64 (unl (ballB kind n row rnd who) 53)) ∧ Below w.heap.size w w' := by
  obtain ⟨U, hU⟩ : ∃ U, U = w.alloc (.cells #[.int .i64 (kind : Int), .int .i64 row, .int .i64 num] 88) := ⟨_, rfl⟩
  obtain ⟨V, hV⟩ : ∃ V, V = U.alloc (.cells #[.int .i64 rnd, .int .i64 who] 25) := ⟨_, rfl⟩
  have hUs : U.heap.size = w.heap.size + 1 := by rw [hU]; simp
  have BV : Hid (Below w.heap.size w V) := by rw [hV, hU]; exact ((Below.refl _ w).alloc (Nat.le_refl _) _).alloc (by simp) _
  have h3 := b3_new w 88 (.int .i64 (kind : Int)) (.int .i64 row) (.int .i64 num)
  rw [← hU] at h3
  have h2 := b2_new U 25 rnd who
  rw [← hV, hUs] at h2
  have c0 : V.cell? ⟨w.heap.size, 0, none⟩ = some (.int .i64 (kind : Int)) := by rw [hV]; exact alloc_keep _ h3.1
  have c1 : V.cell? ⟨w.heap.size, 1, none⟩ = some (.int .i64 row) := by rw [hV]; exact alloc_keep _ h3.2.1
  have c2 : V.cell? ⟨w.heap.size, 2, none⟩ = some (.int .i64 num) := by rw [hV]; exact alloc_keep _ h3.2.2
  have d0 : V.cell? ⟨w.heap.size + 1, 0, none⟩ = some (.int .i64 rnd) := h2.c0
  have d1 : V.cell? ⟨w.heap.size + 1, 1, none⟩ = some (.int .i64 who) := h2.c1
  have k0 : V.cell? ⟨0, kind * 2 + 1, none⟩ = some (.int .i64 (rndM.getD kind 0 : Nat)) := ((hK.below BV.out (Nat.le_refl _)) kind hk).2
  clear h3 h2 hK
  obtain ⟨r0, hr0⟩ : ∃ r, Hid (rndM.getD kind 0 = r) := ⟨_, rfl⟩
  rw [hr0.out] at k0
  have HR : Hid (ballB kind n row rnd who = (balB n row rnd who && decide ((r0 : Int) ≤ rnd))) := by rw [← hr0.out]; rfl
  rw [HR.out]
  clear hr0 HR
  have hVlt : w.heap.size + 1 < V.heap.size := cell_lt d0
  have hkl : 0 < V.heap.size := cell_lt k0
  have hkI : (kind : Int) < 10 := by omega
  cases hq : balB n row rnd who with
  | true =>
    go_enter Tryz.func79, Tryz.ntmps79
    go_wp2
    rw [← hU, ← hV]
    clear hU hV
    refine wp_region_noPanic ?_
    refine wp_region_held_drew (S := (fun w' => w'.cell? ⟨w.heap.size, 0, none⟩ = some (.int .i64 (kind : Int)) ∧ w'.cell? ⟨w.heap.size, 1, none⟩ = some (.int .i64 row) ∧ w'.cell? ⟨w.heap.size, 2, none⟩ = some (.int .i64 num) ∧ w'.cell? ⟨w.heap.size + 1, 0, none⟩ = some (.int .i64 rnd) ∧ w'.cell? ⟨w.heap.size + 1, 1, none⟩ = some (.int .i64 who) ∧ w'.cell? ⟨0, kind * 2 + 1, none⟩ = some (.int .i64 (r0 : Nat)))) (by kernel_rfl) ⟨c0, c1, c2, d0, d1, k0⟩ (fun hHeld => ?_)
    refine tk 0 ?_
    refine tk 1 ?_
    refine tk 2 ?_
    refine tk 3 ?_
    refine wpAnyH_ready (rs := [4]) (by kernel_rfl) (by simp) ?_
    refine AllReadyH.cons rfl (fun K hK => ?_) AllReadyH.nil
    rw [if_pos (by rfl)]
    go_wp2_with fail
    refine (isBallot_any n row num rnd who _).mono ?_
    rintro e wA ⟨rfl, hbA⟩
    rw [hq]
    have e0 := (hbA.cell (p := ⟨w.heap.size, 0, none⟩) (by show w.heap.size < V.heap.size; omega)).trans c0
    have e1 := (hbA.cell (p := ⟨w.heap.size, 1, none⟩) (by show w.heap.size < V.heap.size; omega)).trans c1
    have e2 := (hbA.cell (p := ⟨w.heap.size, 2, none⟩) (by show w.heap.size < V.heap.size; omega)).trans c2
    have f0 := (hbA.cell (p := ⟨w.heap.size + 1, 0, none⟩) hVlt).trans d0
    have f1 := (hbA.cell (p := ⟨w.heap.size + 1, 1, none⟩) hVlt).trans d1
    have l0 := (hbA.cell (p := ⟨0, kind * 2 + 1, none⟩) hkl).trans k0
    refine hK.out _ _ ⟨e0, e1, e2, f0, f1, l0⟩ (fun hHeld => ?_)
    clear hK K
    try simp only [Act.put, List.getElem_toArray, List.getElem_cons_succ, List.getElem_cons_zero, List.setIfInBounds_toArray, List.set_cons_zero, List.set_cons_succ]
    refine tk 5 ?_
    refine tk 6 ?_
    refine tk 7 ?_
    refine tk 8 ?_
    refine tk 9 ?_
    refine tk 10 ?_
    refine tk 11 ?_
    refine tk 12 ?_
    refine tk 13 ?_
    refine tk 14 ?_
    refine wpAnyH_ready (rs := [15]) (by kernel_rfl) (by simp) ?_
    refine AllReadyH.cons rfl (fun K hK => ?_) AllReadyH.nil
    rw [if_pos (by rfl)]
    go_wp2_with fail
    refine (unless_any _ 53 _).mono ?_
    rintro e wB ⟨rfl, hwB⟩
    subst hwB
    refine hK.out _ _ ⟨e0, e1, e2, f0, f1, l0⟩ (fun hHeld => ?_)
    clear hK K
    try simp only [Act.put, List.getElem_toArray, List.getElem_cons_succ, List.getElem_cons_zero, List.setIfInBounds_toArray, List.set_cons_zero, List.set_cons_succ]
    refine tk 16 ?_
    refine wpAnyH_done (by kernel_rfl) ?_ _
    refine NoPanic.normal ?_
    have B9 : Hid (Below w.heap.size w wA) := BV.out.trans (((Below.refl V.heap.size V).drew.trans hbA).mono (by have := BV.out.size; omega))
    clear hbA
    go_wp2
    go_ret
    exact ⟨by first | rfl | (simp; done), B9.out⟩
  | false =>
    go_enter Tryz.func79, Tryz.ntmps79
    go_wp2
    rw [← hU, ← hV]
    clear hU hV
    refine wp_region_noPanic ?_
    refine wp_region_held_drew (S := (fun w' => w'.cell? ⟨w.heap.size, 0, none⟩ = some (.int .i64 (kind : Int)) ∧ w'.cell? ⟨w.heap.size, 1, none⟩ = some (.int .i64 row) ∧ w'.cell? ⟨w.heap.size, 2, none⟩ = some (.int .i64 num) ∧ w'.cell? ⟨w.heap.size + 1, 0, none⟩ = some (.int .i64 rnd) ∧ w'.cell? ⟨w.heap.size + 1, 1, none⟩ = some (.int .i64 who) ∧ w'.cell? ⟨0, kind * 2 + 1, none⟩ = some (.int .i64 (r0 : Nat)))) (by kernel_rfl) ⟨c0, c1, c2, d0, d1, k0⟩ (fun hHeld => ?_)
    refine tk 0 ?_
    refine tk 1 ?_
    refine tk 2 ?_
    refine tk 3 ?_
    refine wpAnyH_ready (rs := [4]) (by kernel_rfl) (by simp) ?_
    refine AllReadyH.cons rfl (fun K hK => ?_) AllReadyH.nil
    rw [if_pos (by rfl)]
    go_wp2_with fail
    refine (isBallot_any n row num rnd who _).mono ?_
    rintro e wA ⟨rfl, hbA⟩
    rw [hq]
    have e0 := (hbA.cell (p := ⟨w.heap.size, 0, none⟩) (by show w.heap.size < V.heap.size; omega)).trans c0
    have e1 := (hbA.cell (p := ⟨w.heap.size, 1, none⟩) (by show w.heap.size < V.heap.size; omega)).trans c1
    have e2 := (hbA.cell (p := ⟨w.heap.size, 2, none⟩) (by show w.heap.size < V.heap.size; omega)).trans c2
    have f0 := (hbA.cell (p := ⟨w.heap.size + 1, 0, none⟩) hVlt).trans d0
    have f1 := (hbA.cell (p := ⟨w.heap.size + 1, 1, none⟩) hVlt).trans d1
    have l0 := (hbA.cell (p := ⟨0, kind * 2 + 1, none⟩) hkl).trans k0
    refine hK.out _ _ ⟨e0, e1, e2, f0, f1, l0⟩ (fun hHeld => ?_)
    clear hK K
    try simp only [Act.put, List.getElem_toArray, List.getElem_cons_succ, List.getElem_cons_zero, List.setIfInBounds_toArray, List.set_cons_zero, List.set_cons_succ]
    refine tk 5 ?_
    refine wpAnyH_take (i := 6) (v := undef) rfl (by kernel_rfl) (by kernel_rfl) (by kernel_rfl) (fun _ _ _ h => h) (Or.inr ⟨by rfl, rfl⟩) (by assumption) ?_
    try simp only [Act.put, List.getElem_toArray, List.getElem_cons_succ, List.getElem_cons_zero, List.setIfInBounds_toArray, List.set_cons_zero, List.set_cons_succ]
    refine wpAnyH_take (i := 7) (v := undef) rfl (by kernel_rfl) (by kernel_rfl) (by kernel_rfl) (fun _ _ _ h => h) (Or.inr ⟨by rfl, rfl⟩) (by assumption) ?_
    try simp only [Act.put, List.getElem_toArray, List.getElem_cons_succ, List.getElem_cons_zero, List.setIfInBounds_toArray, List.set_cons_zero, List.set_cons_succ]
    refine wpAnyH_take (i := 8) (v := undef) rfl (by kernel_rfl) (by kernel_rfl) (by kernel_rfl) (fun _ _ _ h => h) (Or.inr ⟨by rfl, rfl⟩) (by assumption) ?_
    try simp only [Act.put, List.getElem_toArray, List.getElem_cons_succ, List.getElem_cons_zero, List.setIfInBounds_toArray, List.set_cons_zero, List.set_cons_succ]
    refine wpAnyH_take (i := 9) (v := undef) rfl (by kernel_rfl) (by kernel_rfl) (by kernel_rfl) (fun _ _ _ h => h) (Or.inr ⟨by rfl, rfl⟩) (by assumption) ?_
    try simp only [Act.put, List.getElem_toArray, List.getElem_cons_succ, List.getElem_cons_zero, List.setIfInBounds_toArray, List.set_cons_zero, List.set_cons_succ]
    refine wpAnyH_take (i := 10) (v := undef) rfl (by kernel_rfl) (by kernel_rfl) (by kernel_rfl) (fun _ _ _ h => h) (Or.inr ⟨by rfl, rfl⟩) (by assumption) ?_
    try simp only [Act.put, List.getElem_toArray, List.getElem_cons_succ, List.getElem_cons_zero, List.setIfInBounds_toArray, List.set_cons_zero, List.set_cons_succ]
    refine wpAnyH_take (i := 11) (v := undef) rfl (by kernel_rfl) (by kernel_rfl) (by kernel_rfl) (fun _ _ _ h => h) (Or.inr ⟨by rfl, rfl⟩) (by assumption) ?_
    try simp only [Act.put, List.getElem_toArray, List.getElem_cons_succ, List.getElem_cons_zero, List.setIfInBounds_toArray, List.set_cons_zero, List.set_cons_succ]
    refine wpAnyH_take (i := 12) (v := undef) rfl (by kernel_rfl) (by kernel_rfl) (by kernel_rfl) (fun _ _ _ h => h) (Or.inr ⟨by rfl, rfl⟩) (by assumption) ?_
    try simp only [Act.put, List.getElem_toArray, List.getElem_cons_succ, List.getElem_cons_zero, List.setIfInBounds_toArray, List.set_cons_zero, List.set_cons_succ]
    refine wpAnyH_take (i := 13) (v := undef) rfl (by kernel_rfl) (by kernel_rfl) (by kernel_rfl) (fun _ _ _ h => h) (Or.inr ⟨by rfl, rfl⟩) (by assumption) ?_
    try simp only [Act.put, List.getElem_toArray, List.getElem_cons_succ, List.getElem_cons_zero, List.setIfInBounds_toArray, List.set_cons_zero, List.set_cons_succ]
    refine tk 14 ?_
    refine wpAnyH_ready (rs := [15]) (by kernel_rfl) (by simp) ?_
    refine AllReadyH.cons rfl (fun K hK => ?_) AllReadyH.nil
    rw [if_pos (by rfl)]
    go_wp2_with fail
    refine (unless_any _ 53 _).mono ?_
    rintro e wB ⟨rfl, hwB⟩
    subst hwB
    refine hK.out _ _ ⟨e0, e1, e2, f0, f1, l0⟩ (fun hHeld => ?_)
    clear hK K
    try simp only [Act.put, List.getElem_toArray, List.getElem_cons_succ, List.getElem_cons_zero, List.setIfInBounds_toArray, List.set_cons_zero, List.set_cons_succ]
    refine tk 16 ?_
    refine wpAnyH_done (by kernel_rfl) ?_ _
    refine NoPanic.normal ?_
    have B9 : Hid (Below w.heap.size w wA) := BV.out.trans (((Below.refl V.heap.size V).drew.trans hbA).mono (by have := BV.out.size; omega))
    clear hbA
    go_wp2
    go_ret
    exact ⟨by first | rfl | (simp; done), B9.out⟩

set_option maxHeartbeats 400000 in
set_option maxRecDepth 100000 in
theorem isNoop_any (c : Cm) (seq : Int) (dv : Value) (w : World) :
    Calls Tryz.prog 82 #[.agg #[.int .i64 c.kind, .int .i64 c.client, .int .i64 c.req, .string c.key, .string c.key2, .string c.val, .string c.old, .int .i64 c.n, .int .i64 seq, dv]] w fun e w' => e = .returned (.bool (c.kind == 0)) ∧ Below w.heap.size w w' := by
  have BB : ∀ o, Hid (Below w.heap.size w (w.alloc o)) := fun o => (Below.refl _ w).alloc (Nat.le_refl _) _
  go_enter Tryz.func82, Tryz.ntmps82
  go_wp2
  go_ret
  exact ⟨rfl, (BB _).out⟩
end Go.Proofs.YtdokagebfeejbaaGreatDoor
