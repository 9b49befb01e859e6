import Derived.Deep.RegionHeld3
import Derived.Test.YtibfdoggolkljaaGreatDoorJ17
set_option maxHeartbeats 4000000
set_option maxRecDepth 100000
namespace Go.Proofs.YtibfdoggolkljaaGreatDoor
open Go.RowKit Go.Wire1
def ballB (kind : Nat) (n row rnd who : Int) : Bool := balB n row rnd who && decide ((rndM.getD kind 0 : Int) ≤ rnd)
theorem b3_new (w : World) (T : TypeId) (x y z : Value) : (w.alloc (.cells #[x, y, z] T)).cell? ⟨w.heap.size, 0, none⟩ = some x ∧ (w.alloc (.cells #[x, y, z] T)).cell? ⟨w.heap.size, 1, none⟩ = some y ∧ (w.alloc (.cells #[x, y, z] T)).cell? ⟨w.heap.size, 2, none⟩ = some z :=
 ⟨by rw [World.cell?_alloc_at _ _ _ _ rfl]; rfl, by rw [World.cell?_alloc_at _ _ _ _ rfl]; rfl, by rw [World.cell?_alloc_at _ _ _ _ rfl]; rfl⟩
theorem alloc_keep {w : World} {q o : Nat} {v : Value} (x : Obj) (h : w.cell? ⟨q, o, none⟩ = some v) : (w.alloc x).cell? ⟨q, o, none⟩ = some v :=
 (((Below.refl w.heap.size w).alloc zN x).cell (p := ⟨q, o, none⟩) (cell_lt h)).trans h
theorem ballotFault_any (kind : Nat) (row num n rnd who : Int) (w : World) (hk : kind < 10) (hK : Kmd w) :
  Calls Tryz.prog 51 #[.agg #[.int .i64 kind, .int .i64 row, .int .i64 num], .int .i64 n, .agg #[.int .i64 rnd, .int .i64 who]] w fun e w' => e = .returned (.int .i64 (unl (ballB kind n row rnd who) 53)) ∧ Below w.heap.size w w' := by
 obtain ⟨U, hU⟩ : ∃ U, U = w.alloc (.cells #[.int .i64 kind, .int .i64 row, .int .i64 num] 72) := ⟨_, rfl⟩
 obtain ⟨V, hV⟩ : ∃ V, V = U.alloc (.cells #[.int .i64 rnd, .int .i64 who] 25) := ⟨_, rfl⟩
 have hUs : U.heap.size = w.heap.size + 1 := by rw [hU]; simp
 have BV : Hid (Below w.heap.size w V) := by rw [hV, hU]; exact ((Below.refl _ w).alloc zN _).alloc (by simp) _
 have h3 := b3_new w 72 (.int .i64 kind) (.int .i64 row) (.int .i64 num)
 rw [← hU] at h3
 have h2 := b2_new U 25 rnd who
 rw [← hV, hUs] at h2
 have c0 : V.cell? ⟨w.heap.size, 0, none⟩ = some (.int .i64 kind) := by rw [hV]; exact alloc_keep _ h3.1
 have c1 : V.cell? ⟨w.heap.size, 1, none⟩ = some (.int .i64 row) := by rw [hV]; exact alloc_keep _ h3.2.1
 have c2 : V.cell? ⟨w.heap.size, 2, none⟩ = some (.int .i64 num) := by rw [hV]; exact alloc_keep _ h3.2.2
 have d0 : V.cell? ⟨w.heap.size + 1, 0, none⟩ = some (.int .i64 rnd) := h2.c0
 have d1 : V.cell? ⟨w.heap.size + 1, 1, none⟩ = some (.int .i64 who) := h2.c1
 have k0 : V.cell? ⟨0, kind * 2 + 1, none⟩ = some (.int .i64 (rndM.getD kind 0 : Nat)) := ((hK.below BV.out zN) kind hk).2
 clear h3 h2 hK
 obtain ⟨r0, hr0⟩ : ∃ r, Hid (rndM.getD kind 0 = r) := ⟨_, rfl⟩
 rw [hr0.out] at k0
 have HR : Hid (ballB kind n row rnd who = (balB n row rnd who && decide ((r0 : Int) ≤ rnd))) := by rw [← hr0.out]; rfl
 rw [HR.out]
 clear hr0 HR
 have hVlt : w.heap.size + 1 < V.heap.size := cell_lt d0
 have hkl : 0 < V.heap.size := cell_lt k0
 have hkI : (kind : Int) < 10 := by omega
 cases hq : balB n row rnd who with
 | true =>
  go_enter Tryz.func51, Tryz.ntmps51
  go_wp2
  rw [← hU, ← hV]
  clear hU hV
  refine wp_region_noPanic ?_
  refine wp_region_held_drew (S := (fun w' => w'.cell? ⟨w.heap.size, 0, none⟩ = some (.int .i64 kind) ∧ w'.cell? ⟨w.heap.size, 1, none⟩ = some (.int .i64 row) ∧ w'.cell? ⟨w.heap.size, 2, none⟩ = some (.int .i64 num) ∧ w'.cell? ⟨w.heap.size + 1, 0, none⟩ = some (.int .i64 rnd) ∧ w'.cell? ⟨w.heap.size + 1, 1, none⟩ = some (.int .i64 who) ∧ w'.cell? ⟨0, kind * 2 + 1, none⟩ = some (.int .i64 (r0 : Nat)))) (by kernel_rfl) ⟨c0, c1, c2, d0, d1, k0⟩ (fun hHeld => ?_)
  refine tk 0 ?_
  refine tk 1 ?_
  refine tk 2 ?_
  refine tk 3 ?_
  refine zR 4 fun K hK => ?_
  go_wp2_with fail
  refine (isBallot_any n row num rnd who _).mono ?_
  rintro e wA ⟨rfl, hbA⟩
  rw [hq]
  have e0 := (hbA.cell (p := ⟨w.heap.size, 0, none⟩) (by show w.heap.size < V.heap.size; omega)).trans c0
  have e1 := (hbA.cell (p := ⟨w.heap.size, 1, none⟩) (by show w.heap.size < V.heap.size; omega)).trans c1
  have e2 := (hbA.cell (p := ⟨w.heap.size, 2, none⟩) (by show w.heap.size < V.heap.size; omega)).trans c2
  have f0 := (hbA.cell (p := ⟨w.heap.size + 1, 0, none⟩) hVlt).trans d0
  have f1 := (hbA.cell (p := ⟨w.heap.size + 1, 1, none⟩) hVlt).trans d1
  have l0 := (hbA.cell (p := ⟨0, kind * 2 + 1, none⟩) hkl).trans k0
  refine hK.out _ _ ⟨e0, e1, e2, f0, f1, l0⟩ (fun hHeld => ?_)
  clear hK K
  try simp only [Act.put, zA, zB, zC, zD, zE, zF]
  refine tk 5 ?_
  refine tk 6 ?_
  refine tk 7 ?_
  refine tk 8 ?_
  refine tk 9 ?_
  refine tk 10 ?_
  refine tk 11 ?_
  refine tk 12 ?_
  refine tk 13 ?_
  refine tk 14 ?_
  refine zR 15 fun K hK => ?_
  go_wp2_with fail
  refine (unless_any _ 53 _).mono ?_
  rintro e wB ⟨rfl, hwB⟩
  subst hwB
  refine hK.out _ _ ⟨e0, e1, e2, f0, f1, l0⟩ (fun hHeld => ?_)
  clear hK K
  try simp only [Act.put, zA, zB, zC, zD, zE, zF]
  refine tk 16 ?_
  refine wpAnyH_done (by kernel_rfl) ?_ _
  refine NoPanic.normal ?_
  have B9 : Hid (Below w.heap.size w wA) := BV.out.trans (((Below.refl V.heap.size V).drew.trans hbA).mono (by have := BV.out.size; omega))
  clear hbA
  go_wp2
  go_ret
  exact ⟨by first | rfl | (simp; done), B9.out⟩
 | false =>
  go_enter Tryz.func51, Tryz.ntmps51
  go_wp2
  rw [← hU, ← hV]
  clear hU hV
  refine wp_region_noPanic ?_
  refine wp_region_held_drew (S := (fun w' => w'.cell? ⟨w.heap.size, 0, none⟩ = some (.int .i64 kind) ∧ w'.cell? ⟨w.heap.size, 1, none⟩ = some (.int .i64 row) ∧ w'.cell? ⟨w.heap.size, 2, none⟩ = some (.int .i64 num) ∧ w'.cell? ⟨w.heap.size + 1, 0, none⟩ = some (.int .i64 rnd) ∧ w'.cell? ⟨w.heap.size + 1, 1, none⟩ = some (.int .i64 who) ∧ w'.cell? ⟨0, kind * 2 + 1, none⟩ = some (.int .i64 (r0 : Nat)))) (by kernel_rfl) ⟨c0, c1, c2, d0, d1, k0⟩ (fun hHeld => ?_)
  refine tk 0 ?_
  refine tk 1 ?_
  refine tk 2 ?_
  refine tk 3 ?_
  refine zR 4 fun K hK => ?_
  go_wp2_with fail
  refine (isBallot_any n row num rnd who _).mono ?_
  rintro e wA ⟨rfl, hbA⟩
  rw [hq]
  have e0 := (hbA.cell (p := ⟨w.heap.size, 0, none⟩) (by show w.heap.size < V.heap.size; omega)).trans c0
  have e1 := (hbA.cell (p := ⟨w.heap.size, 1, none⟩) (by show w.heap.size < V.heap.size; omega)).trans c1
  have e2 := (hbA.cell (p := ⟨w.heap.size, 2, none⟩) (by show w.heap.size < V.heap.size; omega)).trans c2
  have f0 := (hbA.cell (p := ⟨w.heap.size + 1, 0, none⟩) hVlt).trans d0
  have f1 := (hbA.cell (p := ⟨w.heap.size + 1, 1, none⟩) hVlt).trans d1
  have l0 := (hbA.cell (p := ⟨0, kind * 2 + 1, none⟩) hkl).trans k0
  refine hK.out _ _ ⟨e0, e1, e2, f0, f1, l0⟩ (fun hHeld => ?_)
  clear hK K
  try simp only [Act.put, zA, zB, zC, zD, zE, zF]
  refine tk 5 ?_
  refine wpAnyH_take (i := 6) (v := undef) rfl (by kernel_rfl) (by kernel_rfl) (by kernel_rfl) (fun _ _ _ h => h) (Or.inr ⟨by rfl, rfl⟩) (by assumption) ?_
  try simp only [Act.put, zA, zB, zC, zD, zE, zF]
  refine wpAnyH_take (i := 7) (v := undef) rfl (by kernel_rfl) (by kernel_rfl) (by kernel_rfl) (fun _ _ _ h => h) (Or.inr ⟨by rfl, rfl⟩) (by assumption) ?_
  try simp only [Act.put, zA, zB, zC, zD, zE, zF]
  refine wpAnyH_take (i := 8) (v := undef) rfl (by kernel_rfl) (by kernel_rfl) (by kernel_rfl) (fun _ _ _ h => h) (Or.inr ⟨by rfl, rfl⟩) (by assumption) ?_
  try simp only [Act.put, zA, zB, zC, zD, zE, zF]
  refine wpAnyH_take (i := 9) (v := undef) rfl (by kernel_rfl) (by kernel_rfl) (by kernel_rfl) (fun _ _ _ h => h) (Or.inr ⟨by rfl, rfl⟩) (by assumption) ?_
  try simp only [Act.put, zA, zB, zC, zD, zE, zF]
  refine wpAnyH_take (i := 10) (v := undef) rfl (by kernel_rfl) (by kernel_rfl) (by kernel_rfl) (fun _ _ _ h => h) (Or.inr ⟨by rfl, rfl⟩) (by assumption) ?_
  try simp only [Act.put, zA, zB, zC, zD, zE, zF]
  refine wpAnyH_take (i := 11) (v := undef) rfl (by kernel_rfl) (by kernel_rfl) (by kernel_rfl) (fun _ _ _ h => h) (Or.inr ⟨by rfl, rfl⟩) (by assumption) ?_
  try simp only [Act.put, zA, zB, zC, zD, zE, zF]
  refine wpAnyH_take (i := 12) (v := undef) rfl (by kernel_rfl) (by kernel_rfl) (by kernel_rfl) (fun _ _ _ h => h) (Or.inr ⟨by rfl, rfl⟩) (by assumption) ?_
  try simp only [Act.put, zA, zB, zC, zD, zE, zF]
  refine wpAnyH_take (i := 13) (v := undef) rfl (by kernel_rfl) (by kernel_rfl) (by kernel_rfl) (fun _ _ _ h => h) (Or.inr ⟨by rfl, rfl⟩) (by assumption) ?_
  try simp only [Act.put, zA, zB, zC, zD, zE, zF]
  refine tk 14 ?_
  refine zR 15 fun K hK => ?_
  go_wp2_with fail
  refine (unless_any _ 53 _).mono ?_
  rintro e wB ⟨rfl, hwB⟩
  subst hwB
  refine hK.out _ _ ⟨e0, e1, e2, f0, f1, l0⟩ (fun hHeld => ?_)
  clear hK K
  try simp only [Act.put, zA, zB, zC, zD, zE, zF]
  refine tk 16 ?_
  refine wpAnyH_done (by kernel_rfl) ?_ _
  refine NoPanic.normal ?_
  have B9 : Hid (Below w.heap.size w wA) := BV.out.trans (((Below.refl V.heap.size V).drew.trans hbA).mono (by have := BV.out.size; omega))
  clear hbA
  go_wp2
  go_ret
  exact ⟨by first | rfl | (simp; done), B9.out⟩
theorem isNoop_any (c : Cm) (seq : Int) (dv : Value) (w : World) :
  Calls Tryz.prog 54 #[.agg #[.int .i64 c.kind, .int .i64 c.client, .int .i64 c.req, .string c.key, .string c.key2, .string c.val, .string c.old, .int .i64 c.n, .int .i64 seq, dv]] w fun e w' => e = .returned (.bool (c.kind == 0)) ∧ Below w.heap.size w w' := by
 have BB : ∀ o, Hid (Below w.heap.size w (w.alloc o)) := fun o => (Below.refl _ w).alloc zN _
 go_enter Tryz.func54, Tryz.ntmps54
 go_wp2
 go_ret
 exact ⟨rfl, (BB _).out⟩
open Go.RowKit Go.Wire1
theorem noopFault_any (c : Cm) (seq : Int) (dv : Value) (may : Bool) (w : World) :
  Calls Tryz.prog 53 #[.agg #[.int .i64 c.kind, .int .i64 c.client, .int .i64 c.req, .string c.key, .string c.key2, .string c.val, .string c.old, .int .i64 c.n, .int .i64 seq, dv], .bool may] w fun e w' => e = .returned (.int .i64 (unl (may || !(c.kind == 0)) 57)) ∧ Below w.heap.size w w' := by
 have BB : ∀ o, Hid (Below w.heap.size w (w.alloc o)) := fun o => (Below.refl _ w).alloc zN _
 cases may with
 | true =>
  go_enter Tryz.func53, Tryz.ntmps53
  go_wp2_with fail
  refine (unless_any _ 57 _).mono ?_
  rintro r w1 ⟨rfl, rfl⟩
  go_wp2
  go_ret
  exact ⟨rfl, (BB _).out⟩
 | false =>
  obtain ⟨b, hb⟩ : ∃ b, (c.kind == 0) = b := ⟨_, rfl⟩
  rw [hb]
  go_enter Tryz.func53, Tryz.ntmps53
  go_wp2_with fail
  refine (isNoop_any c seq dv _).mono ?_
  rintro r w1 ⟨rfl, hb1⟩
  rw [hb]
  have B1 : Hid (Below w.heap.size w w1) := (BB _).out.trans (hb1.mono (by simp))
  clear hb1
  go_wp2_with fail
  refine (unless_any _ 57 _).mono ?_
  rintro r w2 ⟨rfl, rfl⟩
  go_wp2
  go_ret
  exact ⟨rfl, B1.out⟩
theorem mayNoopP_any (kind row num rnd who : Int) (c : Cm) (seq : Int) (dv : Value) (w : World) :
  Calls Tryz.prog 40 #[.agg #[.int .i64 kind, .int .i64 row, .int .i64 num, .int .i64 rnd, .int .i64 who, .int .i64 c.kind, .int .i64 c.client, .int .i64 c.req, .string c.key, .string c.key2, .string c.val, .string c.old, .int .i64 c.n, .int .i64 seq, dv]] w fun e w' => e = .returned (.bool (kind != 1)) ∧ Below w.heap.size w w' := by
 have BB : ∀ o, Hid (Below w.heap.size w (w.alloc o)) := fun o => (Below.refl _ w).alloc zN _
 go_enter Tryz.func40, Tryz.ntmps40
 go_wp2
 go_ret
 exact ⟨rfl, (BB _).out⟩
theorem mayNoopV_any (kind row num rnd who st : Int) (sm : Bool) (vr vw : Int) (c : Cm) (seq : Int) (dv : Value) (w : World) :
  Calls Tryz.prog 61 #[.agg #[.int .i64 kind, .int .i64 row, .int .i64 num, .int .i64 rnd, .int .i64 who, .int .i64 st, .bool sm, .int .i64 vr, .int .i64 vw, .int .i64 c.kind, .int .i64 c.client, .int .i64 c.req, .string c.key, .string c.key2, .string c.val, .string c.old, .int .i64 c.n, .int .i64 seq, dv]] w fun e w' => e = .returned (.bool (st != 1)) ∧ Below w.heap.size w w' := by
 have BB : ∀ o, Hid (Below w.heap.size w (w.alloc o)) := fun o => (Below.refl _ w).alloc zN _
 go_enter Tryz.func61, Tryz.ntmps61
 go_wp2
 go_ret
 exact ⟨rfl, (BB _).out⟩
def nackB (n row rnd who vr vw : Int) : Bool := balB n row vr vw && belB rnd who vr vw
theorem voteFaultN_any (kind row num rnd who vr vw n : Int) (w : World) :
    Calls Tryz.prog 43 #[.agg #[.int .i64 kind, .int .i64 row, .int .i64 num, .int .i64 rnd, .int .i64 who, .int .i64 vr, .int .i64 vw], .int .i64 n] w fun e w' => e = .returned (.int .i64 (unl (nackB n row rnd who vr vw) 54)) ∧ Below w.heap.size w w' := by
  obtain ⟨V, hV⟩ : ∃ V, V = w.alloc (.cells #[.int .i64 kind, .int .i64 row, .int .i64 num, .int .i64 rnd, .int .i64 who, .int .i64 vr, .int .i64 vw] 89) := ⟨_, rfl⟩
  have BV : Hid (Below w.heap.size w V) := by rw [hV]; exact (Below.refl _ w).alloc zN _
  have hs : V.heap.size = w.heap.size + 1 := by rw [hV]; simp
  have c3 : V.cell? ⟨w.heap.size, 3, none⟩ = some (.int .i64 rnd) := by rw [hV, World.cell?_alloc_at _ _ _ _ rfl]; rfl
  have c4 : V.cell? ⟨w.heap.size, 4, none⟩ = some (.int .i64 who) := by rw [hV, World.cell?_alloc_at _ _ _ _ rfl]; rfl
  have c5 : V.cell? ⟨w.heap.size, 5, none⟩ = some (.int .i64 vr) := by rw [hV, World.cell?_alloc_at _ _ _ _ rfl]; rfl
  have c6 : V.cell? ⟨w.heap.size, 6, none⟩ = some (.int .i64 vw) := by rw [hV, World.cell?_alloc_at _ _ _ _ rfl]; rfl
  obtain ⟨b, hb⟩ : ∃ b, Hid (nackB n row rnd who vr vw = b) := ⟨_, rfl⟩
  rw [hb.out]
  obtain ⟨b1, h1⟩ : ∃ b, Hid (balB n row vr vw = b) := ⟨_, rfl⟩
  obtain ⟨b2, h2⟩ : ∃ b, Hid (belB rnd who vr vw = b) := ⟨_, rfl⟩
  have hbb : (b1 && b2) = b := by rw [← hb.out, ← h1.out, ← h2.out]; rfl
  subst hbb
  clear hb
  cases b1 <;> cases b2
  all_goals
    go_enter Tryz.func43, Tryz.ntmps43
    go_wp2_with fail
    rw [← hV]
    refine (isBallot_any n row num vr vw _).mono ?_
    rintro r w1 ⟨rfl, hb1⟩
    rw [h1.out]
    have k3 := (hb1.cell (p := ⟨w.heap.size, 3, none⟩) (by show w.heap.size < V.heap.size; omega)).trans c3
    have k4 := (hb1.cell (p := ⟨w.heap.size, 4, none⟩) (by show w.heap.size < V.heap.size; omega)).trans c4
    have k5 := (hb1.cell (p := ⟨w.heap.size, 5, none⟩) (by show w.heap.size < V.heap.size; omega)).trans c5
    have k6 := (hb1.cell (p := ⟨w.heap.size, 6, none⟩) (by show w.heap.size < V.heap.size; omega)).trans c6
    have B1 : Hid (Below w.heap.size w w1) := BV.out.trans (hb1.mono (by omega))
    clear hb1 hV c3 c4 c5 c6
    go_wp2_with fail
    first
    | (refine (unless_any _ 54 _).mono ?_
       rintro r w2 ⟨rfl, rfl⟩
       go_wp2
       go_ret
       exact ⟨rfl, B1.out⟩)
    | (refine (mbelow_any rnd who vr vw _).mono ?_
       rintro r w2 ⟨rfl, hb2⟩
       rw [h2.out]
       have B2 : Hid (Below w.heap.size w w2) := B1.out.trans (hb2.mono B1.out.size)
       clear hb2
       go_wp2_with fail
       refine (unless_any _ 54 _).mono ?_
       rintro r w3 ⟨rfl, rfl⟩
       go_wp2
       go_ret
       exact ⟨rfl, B2.out⟩)
def voteB (n row rnd who st : Int) (sm : Bool) (vr vw : Int) : Bool := (st == 1 || st == 2) && (balB n row vr vw && (belB vr vw rnd who && ((st == 1 && vr == 0) || !sm)))
theorem voteFaultV_any (kind row num rnd who st : Int) (sm : Bool) (vr vw : Int) (c : Cm) (seq : Int) (dv : Value) (n : Int) (w : World) :
  Calls Tryz.prog 60 #[.agg #[.int .i64 kind, .int .i64 row, .int .i64 num, .int .i64 rnd, .int .i64 who, .int .i64 st, .bool sm, .int .i64 vr, .int .i64 vw, .int .i64 c.kind, .int .i64 c.client, .int .i64 c.req, .string c.key, .string c.key2, .string c.val, .string c.old, .int .i64 c.n, .int .i64 seq, dv], .int .i64 n] w fun e w' => e = .returned (.int .i64 (unl (voteB n row rnd who st sm vr vw) 54)) ∧ Below w.heap.size w w' := by
 obtain ⟨V, hV⟩ : ∃ V, V = w.alloc (.cells #[.int .i64 kind, .int .i64 row, .int .i64 num, .int .i64 rnd, .int .i64 who, .int .i64 st, .bool sm, .int .i64 vr, .int .i64 vw, .int .i64 c.kind, .int .i64 c.client, .int .i64 c.req, .string c.key, .string c.key2, .string c.val, .string c.old, .int .i64 c.n, .int .i64 seq, dv] 87) := ⟨_, rfl⟩
 have BV : Hid (Below w.heap.size w V) := by rw [hV]; exact (Below.refl _ w).alloc zN _
 have hs : V.heap.size = w.heap.size + 1 := by rw [hV]; simp
 have CC : ∀ w1 : World, (∀ j, w1.cell? ⟨w.heap.size, j, none⟩ = V.cell? ⟨w.heap.size, j, none⟩) → w1.cell? ⟨w.heap.size, 3, none⟩ = some (.int .i64 rnd) ∧ w1.cell? ⟨w.heap.size, 4, none⟩ = some (.int .i64 who) ∧ w1.cell? ⟨w.heap.size, 6, none⟩ = some (.bool sm) ∧ w1.cell? ⟨w.heap.size, 7, none⟩ = some (.int .i64 vr) ∧ w1.cell? ⟨w.heap.size, 8, none⟩ = some (.int .i64 vw) := fun w1 h => by
  refine ⟨?_, ?_, ?_, ?_, ?_⟩ <;> (rw [h, hV, World.cell?_alloc_at _ _ _ _ rfl]; rfl)
 obtain ⟨b, hb⟩ : ∃ b, Hid (voteB n row rnd who st sm vr vw = b) := ⟨_, rfl⟩
 rw [hb.out]
 by_cases h1 : st = 1
 ·subst h1
  obtain ⟨b1, hb1⟩ : ∃ b, Hid (balB n row vr vw = b) := ⟨_, rfl⟩
  obtain ⟨b2, hb2⟩ : ∃ b, Hid (belB vr vw rnd who = b) := ⟨_, rfl⟩
  cases b1 with
  | false =>
   obtain rfl : false = b := by rw [← hb.out]; simp [voteB, hb1.out]
   go_enter Tryz.func60, Tryz.ntmps60
   go_wp2_with fail
   rw [← hV]
   refine (isBallot_any n row num vr vw _).mono ?_
   rintro r w1 ⟨rfl, hc1⟩
   rw [hb1.out]
   have B1 : Hid (Below w.heap.size w w1) := BV.out.trans (hc1.mono (by omega))
   clear hc1 hV hb CC
   go_wp2_with fail
   refine (unless_any _ 54 _).mono ?_
   rintro r w2 ⟨rfl, rfl⟩
   go_wp2
   go_ret
   exact ⟨rfl, B1.out⟩
  | true =>
   cases b2 with
   | false =>
    obtain rfl : false = b := by rw [← hb.out]; simp [voteB, hb2.out]
    go_enter Tryz.func60, Tryz.ntmps60
    go_wp2_with fail
    rw [← hV]
    refine (isBallot_any n row num vr vw _).mono ?_
    rintro r w1 ⟨rfl, hc1⟩
    rw [hb1.out]
    have B1 : Hid (Below w.heap.size w w1) := BV.out.trans (hc1.mono (by omega))
    obtain ⟨k3, k4, k6, k7, k8⟩ := CC w1 (fun j => hc1.cell (p := ⟨w.heap.size, j, none⟩) (by show w.heap.size < V.heap.size; omega))
    clear hc1 hV hb CC
    go_wp2_with fail
    refine (mbelow_any vr vw rnd who _).mono ?_
    rintro r w2 ⟨rfl, hc2⟩
    rw [hb2.out]
    have B2 : Hid (Below w.heap.size w w2) := B1.out.trans (hc2.mono B1.out.size)
    clear hc2 k3 k4 k6 k7 k8
    go_wp2_with fail
    refine (unless_any _ 54 _).mono ?_
    rintro r w3 ⟨rfl, rfl⟩
    go_wp2
    go_ret
    exact ⟨rfl, B2.out⟩
   | true =>
    obtain ⟨z, hz⟩ : ∃ z, (vr == 0) = z := ⟨_, rfl⟩
    obtain rfl : (z || !sm) = b := by rw [← hb.out]; simp [voteB, hb1.out, hb2.out, hz]
    cases z <;> cases sm
    all_goals
     go_enter Tryz.func60, Tryz.ntmps60
     go_wp2_with fail
     rw [← hV]
     refine (isBallot_any n row num vr vw _).mono ?_
     rintro r w1 ⟨rfl, hc1⟩
     rw [hb1.out]
     have B1 : Hid (Below w.heap.size w w1) := BV.out.trans (hc1.mono (by omega))
     obtain ⟨k3, k4, k6, k7, k8⟩ := CC w1 (fun j => hc1.cell (p := ⟨w.heap.size, j, none⟩) (by show w.heap.size < V.heap.size; omega))
     have HK6 := hide k6
     clear hc1 hV hb CC
     go_wp2_with fail
     refine (mbelow_any vr vw rnd who _).mono ?_
     rintro r w2 ⟨rfl, hc2⟩
     rw [hb2.out]
     have B2 : Hid (Below w.heap.size w w2) := B1.out.trans (hc2.mono B1.out.size)
     have k6 := (hc2.cell (p := ⟨w.heap.size, 6, none⟩) (cell_lt HK6.out)).trans HK6.out
     clear hc2 k3 k4 k7 k8
     go_wp2_with fail
     refine (unless_any _ 54 _).mono ?_
     rintro r w3 ⟨rfl, rfl⟩
     go_wp2
     go_ret
     exact ⟨rfl, B2.out⟩
 by_cases h2 : st = 2
 ·subst h2
  obtain ⟨b1, hb1⟩ : ∃ b, Hid (balB n row vr vw = b) := ⟨_, rfl⟩
  obtain ⟨b2, hb2⟩ : ∃ b, Hid (belB vr vw rnd who = b) := ⟨_, rfl⟩
  cases b1 with
  | false =>
   obtain rfl : false = b := by rw [← hb.out]; simp [voteB, hb1.out]
   go_enter Tryz.func60, Tryz.ntmps60
   go_wp2_with fail
   rw [← hV]
   refine (isBallot_any n row num vr vw _).mono ?_
   rintro r w1 ⟨rfl, hc1⟩
   rw [hb1.out]
   have B1 : Hid (Below w.heap.size w w1) := BV.out.trans (hc1.mono (by omega))
   clear hc1 hV hb CC
   go_wp2_with fail
   refine (unless_any _ 54 _).mono ?_
   rintro r w2 ⟨rfl, rfl⟩
   go_wp2
   go_ret
   exact ⟨rfl, B1.out⟩
  | true =>
   cases b2 with
   | false =>
    obtain rfl : false = b := by rw [← hb.out]; simp [voteB, hb2.out]
    go_enter Tryz.func60, Tryz.ntmps60
    go_wp2_with fail
    rw [← hV]
    refine (isBallot_any n row num vr vw _).mono ?_
    rintro r w1 ⟨rfl, hc1⟩
    rw [hb1.out]
    have B1 : Hid (Below w.heap.size w w1) := BV.out.trans (hc1.mono (by omega))
    obtain ⟨k3, k4, k6, k7, k8⟩ := CC w1 (fun j => hc1.cell (p := ⟨w.heap.size, j, none⟩) (by show w.heap.size < V.heap.size; omega))
    clear hc1 hV hb CC
    go_wp2_with fail
    refine (mbelow_any vr vw rnd who _).mono ?_
    rintro r w2 ⟨rfl, hc2⟩
    rw [hb2.out]
    have B2 : Hid (Below w.heap.size w w2) := B1.out.trans (hc2.mono B1.out.size)
    clear hc2 k3 k4 k6 k7 k8
    go_wp2_with fail
    refine (unless_any _ 54 _).mono ?_
    rintro r w3 ⟨rfl, rfl⟩
    go_wp2
    go_ret
    exact ⟨rfl, B2.out⟩
   | true =>
    obtain ⟨z, hz⟩ : ∃ z, (vr == 0) = z := ⟨_, rfl⟩
    obtain rfl : (!sm) = b := by rw [← hb.out]; simp [voteB, hb1.out, hb2.out]
    cases z <;> cases sm
    all_goals
     go_enter Tryz.func60, Tryz.ntmps60
     go_wp2_with fail
     rw [← hV]
     refine (isBallot_any n row num vr vw _).mono ?_
     rintro r w1 ⟨rfl, hc1⟩
     rw [hb1.out]
     have B1 : Hid (Below w.heap.size w w1) := BV.out.trans (hc1.mono (by omega))
     obtain ⟨k3, k4, k6, k7, k8⟩ := CC w1 (fun j => hc1.cell (p := ⟨w.heap.size, j, none⟩) (by show w.heap.size < V.heap.size; omega))
     have HK6 := hide k6
     clear hc1 hV hb CC
     go_wp2_with fail
     refine (mbelow_any vr vw rnd who _).mono ?_
     rintro r w2 ⟨rfl, hc2⟩
     rw [hb2.out]
     have B2 : Hid (Below w.heap.size w w2) := B1.out.trans (hc2.mono B1.out.size)
     have k6 := (hc2.cell (p := ⟨w.heap.size, 6, none⟩) (cell_lt HK6.out)).trans HK6.out
     clear hc2 k3 k4 k7 k8
     go_wp2_with fail
     refine (unless_any _ 54 _).mono ?_
     rintro r w3 ⟨rfl, rfl⟩
     go_wp2
     go_ret
     exact ⟨rfl, B2.out⟩
 have g1 : (st == 1) = false := by rw [beq_eq_false_iff_ne]; exact h1
 have g2 : (st == 2) = false := by rw [beq_eq_false_iff_ne]; exact h2
 obtain rfl : false = b := by rw [← hb.out]; simp [voteB, g1, g2]
 clear h1 h2 hb CC
 go_enter Tryz.func60, Tryz.ntmps60
 go_wp2_with fail
 rw [← hV]
 clear hV
 refine (unless_any _ 54 _).mono ?_
 rintro r w3 ⟨rfl, rfl⟩
 go_wp2
 go_ret
 exact ⟨rfl, BV.out⟩
def depP (most x : Int) : Bool := decide (0 ≤ x) && decide (x ≤ most)
def depsB (n : Int) (noop : Bool) (l : List Int) : Bool := ((l.length : Int) == n) && l.all (depP (if noop then 0 else 1048576))
theorem all_no {p : Int → Bool} {l : List Int} {k : Nat} (h : k < l.length) (hp : p (l.getD k 0) = false) : l.all p = false := by
 rw [List.all_eq_false]
 refine ⟨l.getD k 0, ?_, by rw [hp]; exact Bool.false_ne_true⟩
 rw [List.getD_eq_getElem?_getD, List.getElem?_eq_getElem h]
 exact List.getElem_mem _
theorem all_step {p : Int → Bool} {l : List Int} {k : Nat} (h : k < l.length) (ht : (l.take k).all p = true) (hp : p (l.getD k 0) = true) : (l.take (k + 1)).all p = true := by
 rw [take_next h, List.all_append, ht, List.all_cons, hp]
 rfl
theorem depsFault_any (n : Int) (noop : Bool) (a : Option Addr) (m cap : Nat) (l : List Int) (w : World) (h : SegI w a m l) :
  Calls Tryz.prog 59 #[.int .i64 n, .bool noop, .slice a m cap] w fun e w' => e = .returned (.int .i64 (unl (depsB n noop l) 56)) ∧ w = w' := by
 obtain ⟨hm, hm', ha, -⟩ := h
 have HN : Hid (l.length = m) := hm
 unfold maxLen at hm'
 clear hm
 obtain ⟨b, hb⟩ : ∃ b, Hid (depsB n noop l = b) := ⟨_, rfl⟩
 rw [hb.out]
 by_cases h0 : (m : Int) = n
 rotate_left
 ·obtain rfl : false = b := by
   rw [← hb.out]; unfold depsB; rw [HN.out]
   rw [show (((m : Nat) : Int) == n) = false by rw [beq_eq_false_iff_ne]; exact h0]; rfl
  have g0 : ((m : Int) != n) = true := by rw [bne_iff_ne]; exact h0
  clear h0 hb
  go_enter Tryz.func59, Tryz.ntmps59
  go_wp2
  go_ret
  exact ⟨rfl, rfl⟩
 subst h0
 have HB : Hid (l.all (depP (if noop then 0 else 1048576)) = b) := by show _ = _; rw [← hb.out]; unfold depsB; rw [HN.out]; simp
 clear hb
 cases noop with
 | false =>
  simp only [Bool.false_eq_true, if_false] at HB
  go_enter Tryz.func59, Tryz.ntmps59
  go_wp2
  go_loop [9, 17] (fun _ i => ∃ k : Nat, i = .int .i64 k ∧ k ≤ m ∧ Hid ((l.take k).all (depP 1048576) = true)) (fun _ i => m - (intOf i).toNat)
  case atStart => exact ⟨0, rfl, Nat.zero_le _, rfl⟩
  case round =>
   obtain ⟨k, rfl, hk, HT⟩ := hrel
   by_cases hlt : k < m
   ·obtain ⟨ba, oa, rfl, hca⟩ := ha (by omega)
    have ca := hca k hlt
    clear ha hca
    have hkl : Hid (k < l.length) := by have := HN.out; show _ < _; omega
    by_cases h0 : l.getD k 0 < 0
    ·obtain rfl : false = b := by rw [← HB.out]; exact (all_no hkl.out (by simp only [depP]; rw [decide_eq_false (by omega)]; rfl)).symm
     clear HB HT
     generalize l.getD k 0 = c at *
     go_wp2
     go_ret
     exact ⟨rfl, rfl⟩
    ·by_cases h1 : l.getD k 0 ≤ (1048576 : Int)
     ·have HT' : Hid ((l.take (k + 1)).all (depP 1048576) = true) := all_step hkl.out HT.out (by simp only [depP]; rw [decide_eq_true (by omega), decide_eq_true h1]; rfl)
      generalize l.getD k 0 = c at *
      go_wp2
      go_round
      case rel => exact ⟨k + 1, by go_num, by omega, HT'⟩
      case measure => simp [intOf]; omega
     ·obtain rfl : false = b := by rw [← HB.out]; exact (all_no hkl.out (by simp only [depP]; rw [decide_eq_false h1, Bool.and_false])).symm
      clear HB HT
      generalize l.getD k 0 = c at *
      go_wp2
      go_ret
      exact ⟨rfl, rfl⟩
   ·obtain rfl : true = b := by rw [← HB.out]; have := HT.out; rw [List.take_of_length_le (by have := HN.out; omega)] at this; exact this.symm
    clear HB HT
    go_wp2
    go_ret
    exact ⟨rfl, rfl⟩
 | true =>
  simp only [if_true] at HB
  go_enter Tryz.func59, Tryz.ntmps59
  go_wp2
  go_loop [9, 17] (fun _ i => ∃ k : Nat, i = .int .i64 k ∧ k ≤ m ∧ Hid ((l.take k).all (depP 0) = true)) (fun _ i => m - (intOf i).toNat)
  case atStart => exact ⟨0, rfl, Nat.zero_le _, rfl⟩
  case round =>
   obtain ⟨k, rfl, hk, HT⟩ := hrel
   by_cases hlt : k < m
   ·obtain ⟨ba, oa, rfl, hca⟩ := ha (by omega)
    have ca := hca k hlt
    clear ha hca
    have hkl : Hid (k < l.length) := by have := HN.out; show _ < _; omega
    by_cases h0 : l.getD k 0 < 0
    ·obtain rfl : false = b := by rw [← HB.out]; exact (all_no hkl.out (by simp only [depP]; rw [decide_eq_false (by omega)]; rfl)).symm
     clear HB HT
     generalize l.getD k 0 = c at *
     go_wp2
     go_ret
     exact ⟨rfl, rfl⟩
    ·by_cases h1 : l.getD k 0 ≤ (0 : Int)
     ·have HT' : Hid ((l.take (k + 1)).all (depP 0) = true) := all_step hkl.out HT.out (by simp only [depP]; rw [decide_eq_true (by omega), decide_eq_true h1]; rfl)
      generalize l.getD k 0 = c at *
      go_wp2
      go_round
      case rel => exact ⟨k + 1, by go_num, by omega, HT'⟩
      case measure => simp [intOf]; omega
     ·obtain rfl : false = b := by rw [← HB.out]; exact (all_no hkl.out (by simp only [depP]; rw [decide_eq_false h1, Bool.and_false])).symm
      clear HB HT
      generalize l.getD k 0 = c at *
      go_wp2
      go_ret
      exact ⟨rfl, rfl⟩
   ·obtain rfl : true = b := by rw [← HB.out]; have := HT.out; rw [List.take_of_length_le (by have := HN.out; omega)] at this; exact this.symm
    clear HB HT
    go_wp2
    go_ret
    exact ⟨rfl, rfl⟩
end Go.Proofs.YtibfdoggolkljaaGreatDoor
