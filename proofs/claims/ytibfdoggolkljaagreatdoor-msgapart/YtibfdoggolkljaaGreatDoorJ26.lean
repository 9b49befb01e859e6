import Derived.Test.YtibfdoggolkljaaGreatDoorJ22
set_option maxHeartbeats 8000000
set_option maxRecDepth 100000
namespace Go.Proofs.YtibfdoggolkljaaGreatDoor
open Go.RowKit Go.Wire1
section
variable (w0 : World) (g : Nat) (v n : Int) (l : List Int)
theorem shape_nack1 (a : Nat → Addr) (f : Int) (w : World) (row num : Int) (l1 : List Int) (f1 : Int) (HV : Hid (v = 1)) (x y : Int) (l2 : List Int) (f2 : Int) (p q : Int) (l3 : List Int) (f3 u0 f4 : Int) (he : Errs w0 a) (hKc : Knd w0) (hK : Kmd w0) (h : Scx w0 w g (Vf v n) l f) (e1 : Hid (iHead v n l f = ((8, row, num), l1, f1))) (e2 : Hid (iBalF v n 8 row l1 f1 = ((x, y), l2, f2))) (e3 : Hid (iTwo l2 f2 = ((p, q), l3, f3))) (hu : Hid (unl (nackB n row x y p q) 54 = u0)) (hf4 : Hid (refF u0 f3 = f4)) :
  Calls Tryz.prog 20 #[.pointer (some ⟨g, 0, none⟩)] w fun r w' => ∃ u, r = .returned (.iface 89 (.agg #[.int .i64 8, .int .i64 row, .int .i64 num, .int .i64 x, .int .i64 y, .int .i64 p, .int .i64 q])) ∧ DV w' w.heap.size u [] ∧ Touch g w w' ∧ Scx w0 w' g (Vf v n) l3 f4 := by
 have HX := hide h
 have HE := hide he
 have HKm := hide hK
 have HKc := hide hKc
 have hgl := h.lt
 have HW := hide h.low.size
 clear h he hK hKc
 go_enter Tryz.func20, Tryz.ntmps20
 go_wp2_with fail
 refine (shead_any w0 g v n l a f _ HE.out HKm.out HX.out).mono ?_
 rintro r w1 ⟨rfl, T1, S1⟩
 rw [e1.out] at S1 ⊢
 simp only at S1 ⊢
 obtain ⟨X, hX⟩ : ∃ X, X = w1.alloc (.cells #[.int .i64 8, .int .i64 row, .int .i64 num] 72) := ⟨_, rfl⟩
 have BX : Hid (Below w1.heap.size w1 X) := by rw [hX]; exact (Below.refl _ _).alloc zN _
 have HT1 : Hid (Touch g w X) := T1.trans (Touch.ofBelow BX.out)
 have HS1 : Hid (Scx w0 X g (Vf v n) l1 f1) := S1.below BX.out
 have HH1 : Hid (Blk X w1.heap.size [.int .i64 8, .int .i64 row, .int .i64 num]) := by rw [hX]; exact blk_new w1 72 [.int .i64 8, .int .i64 row, .int .i64 num]
 have hw1 : w.heap.size ≤ w1.heap.size := T1.size
 clear T1 S1 HX BX
 have h0 := HH1.out.cell 0 _ rfl
 have h1 := HH1.out.cell 1 _ rfl
 have h2 := HH1.out.cell 2 _ rfl
 go_wp2
 rw [← hX]
 clear hX
 have hHl : w1.heap.size < X.heap.size := HH1.out.lt
 refine wp_region_noPanic ?_
 refine wp_region_held_drew (S := (fun w' => w'.cell? ⟨w1.heap.size, 0, none⟩ = some (.int .i64 8) ∧ w'.cell? ⟨w1.heap.size, 1, none⟩ = some (.int .i64 row) ∧ w'.cell? ⟨w1.heap.size, 2, none⟩ = some (.int .i64 num))) (by kernel_rfl) ⟨h0, h1, h2⟩ (fun hHeld => ?_)
 refine tk 0 ?_
 refine tk 1 ?_
 refine tk 2 ?_
 refine wpAnyH_ready (rs := [3, 5]) (by kernel_rfl) (by simp) ?_
 refine AllReadyH.cons rfl (fun K hK => ?_) (AllReadyH.cons rfl (fun K hK => ?_) AllReadyH.nil)
 ·rw [if_pos (by rfl)]
  go_wp2_with fail
  refine (sballot_any w0 g v n l1 a 8 row num f1 _ (by omega) HE.out HKm.out (HS1.out.drew)).mono ?_
  rintro e w2 ⟨rfl, T2, S2⟩
  rw [e2.out] at S2 ⊢
  simp only at S2 ⊢
  have H2 := Blk.touch (HH1.out.drew) T2 (by omega)
  refine hK.out _ _ ⟨H2.cell 0 _ rfl, H2.cell 1 _ rfl, H2.cell 2 _ rfl⟩ (fun hHeld => ?_)
  clear hK K
  try simp only [Act.put, zA, zB, zC, zD, zE, zF]
  refine tk 4 ?_
  refine zR 5 fun K hK => ?_
  go_wp2_with fail
  refine hK.out _ _ ⟨alloc_keep _ (H2.cell 0 _ rfl), alloc_keep _ (H2.cell 1 _ rfl), alloc_keep _ (H2.cell 2 _ rfl)⟩ (fun hHeld => ?_)
  clear hK K
  try simp only [Act.put, zA, zB, zC, zD, zE, zF]
  refine zR 6 fun K hK => ?_
  go_wp2_with fail
  refine hK.out _ _ ⟨alloc_keep _ (H2.cell 0 _ rfl), alloc_keep _ (H2.cell 1 _ rfl), alloc_keep _ (H2.cell 2 _ rfl)⟩ (fun hHeld => ?_)
  clear hK K
  try simp only [Act.put, zA, zB, zC, zD, zE, zF]
  refine wpAnyH_done (by kernel_rfl) ?_ _
  refine NoPanic.normal ?_
  have hw2 : X.heap.size ≤ w2.heap.size := T2.size
  have hXw : w1.heap.size < X.heap.size := HH1.out.lt
  have HT9 : Hid (Touch g w (w2.alloc (.cells #[.int .i64 8, .int .i64 row, .int .i64 num, .int .i64 x, .int .i64 y, .int .i64 0, .int .i64 0] 89))) := (HT1.out.drew.trans T2).trans (Touch.ofBelow ((Below.refl w2.heap.size w2).alloc zN _))
  have HS9 : Hid (Scx w0 (w2.alloc (.cells #[.int .i64 8, .int .i64 row, .int .i64 num, .int .i64 x, .int .i64 y, .int .i64 0, .int .i64 0] 89)) g (Vf v n) l2 f2) := S2.below ((Below.refl w2.heap.size w2).alloc zN _)
  have HB9 : Hid (Blk (w2.alloc (.cells #[.int .i64 8, .int .i64 row, .int .i64 num, .int .i64 x, .int .i64 y, .int .i64 0, .int .i64 0] 89)) (w2.heap.size) [.int .i64 8, .int .i64 row, .int .i64 num, .int .i64 x, .int .i64 y, .int .i64 0, .int .i64 0]) := blk_new w2 89 [.int .i64 8, .int .i64 row, .int .i64 num, .int .i64 x, .int .i64 y, .int .i64 0, .int .i64 0]
  have hqg : (w2.heap.size) ≠ g := by omega
  have hqw : w1.heap.size < (w2.heap.size) := by omega
  clear T2 S2 H2 hHeld HS1 HT1 HH1 h0 h1 h2
  generalize (w2.alloc (.cells #[.int .i64 8, .int .i64 row, .int .i64 num, .int .i64 x, .int .i64 y, .int .i64 0, .int .i64 0] 89)) = W9 at *
  generalize (w2.heap.size) = qb at *
  have r7 : W9.cell? ⟨g, 7, none⟩ = some (.func (.func 29) #[] #[]) := (HS9.out.more (by omega)).trans (Vf7 HV.out)
  have hq2 : w.heap.size ≤ qb := by omega
  have hq0 : w0.heap.size ≤ qb := by have := HW.out; omega
  go_wp2
  refine wp_region_noPanic ?_
  refine wp_region_held_drew (S := (fun w' => w'.cell? ⟨g, 7, none⟩ = some (.func (.func 29) #[] #[]))) (by kernel_rfl) r7 (fun hHeld => ?_)
  refine tk 0 ?_
  refine tk 1 ?_
  refine tk 2 ?_
  refine tk 3 ?_
  refine tk 4 ?_
  refine tk 5 ?_
  refine tk 6 ?_
  refine tk 7 ?_
  refine zR 8 fun K hK => ?_
  go_wp2_with fail
  refine (takeBallot1_any w0 g (Vf v n) l2 a f2 _ HE.out HS9.out.drew).mono ?_
  rintro e w3 ⟨rfl, T3, S3⟩
  rw [e3.out] at S3 ⊢
  simp only at S3 ⊢
  have k7 : w3.cell? ⟨g, 7, none⟩ = some (.func (.func 29) #[] #[]) := (S3.more (by omega)).trans (Vf7 HV.out)
  have B3 := HB9.out.drew.touch T3 hqg
  refine hK.out _ _ k7 (fun hHeld => ?_)
  clear hK K
  try simp only [Act.put, zA, zB, zC, zD, zE, zF]
  refine tk 9 ?_
  refine zR 10 fun K hK => ?_
  have z5 := B3.cell 5 _ rfl
  have z6 := B3.cell 6 _ rfl
  have y5 := B3.thaw 5
  have y6 := B3.thaw 6
  go_wp2_with fail
  refine hK.out _ _ ((zS _ ⟨qb, 6, none⟩ _ (.int .i64 q) hqg).trans ((zS _ ⟨qb, 5, none⟩ _ (.int .i64 p) hqg).trans k7)) (fun hHeld => ?_)
  clear hK K
  try simp only [Act.put, zA, zB, zC, zD, zE, zF]
  refine wpAnyH_done (by kernel_rfl) ?_ _
  refine NoPanic.normal ?_
  have HT4 : Hid (Touch g w ((w3.setCell ⟨qb, 5, none⟩ (.int .i64 p)).setCell ⟨qb, 6, none⟩ (.int .i64 q))) := ((HT9.out.drew.trans T3).setNew _ hq2).setNew _ hq2
  have HS4 : Hid (Scx w0 ((w3.setCell ⟨qb, 5, none⟩ (.int .i64 p)).setCell ⟨qb, 6, none⟩ (.int .i64 q)) g (Vf v n) l3 f3) := (S3.other _ hqg hq0).other _ hqg hq0
  have HB4 : Hid (Blk ((w3.setCell ⟨qb, 5, none⟩ (.int .i64 p)).setCell ⟨qb, 6, none⟩ (.int .i64 q)) qb [.int .i64 8, .int .i64 row, .int .i64 num, .int .i64 x, .int .i64 y, .int .i64 p, .int .i64 q]) := (B3.setAt 5 _).setAt 6 _
  clear T3 S3 B3 HT9 HS9 HB9 z5 z6 y5 y6 k7 r7 hHeld
  generalize ((w3.setCell ⟨qb, 5, none⟩ (.int .i64 p)).setCell ⟨qb, 6, none⟩ (.int .i64 q)) = W4 at *
  have p0 := HB4.out.cell 0 _ rfl
  have p1 := HB4.out.cell 1 _ rfl
  have p2 := HB4.out.cell 2 _ rfl
  have p3 := HB4.out.cell 3 _ rfl
  have p4 := HB4.out.cell 4 _ rfl
  have p5 := HB4.out.cell 5 _ rfl
  have p6 := HB4.out.cell 6 _ rfl
  have n4 : W4.cell? ⟨g, 9, none⟩ = some (.int .i64 n) := HS4.out.more (by omega)
  go_wp2
  refine wp_region_noPanic ?_
  refine wp_region_held_drew (S := (fun w' => w'.cell? ⟨qb, 0, none⟩ = some (.int .i64 8) ∧ w'.cell? ⟨qb, 1, none⟩ = some (.int .i64 row) ∧ w'.cell? ⟨qb, 2, none⟩ = some (.int .i64 num) ∧ w'.cell? ⟨qb, 3, none⟩ = some (.int .i64 x) ∧ w'.cell? ⟨qb, 4, none⟩ = some (.int .i64 y) ∧ w'.cell? ⟨qb, 5, none⟩ = some (.int .i64 p) ∧ w'.cell? ⟨qb, 6, none⟩ = some (.int .i64 q) ∧ w'.cell? ⟨g, 9, none⟩ = some (.int .i64 n))) (by kernel_rfl) ⟨p0, p1, p2, p3, p4, p5, p6, n4⟩ (fun hHeld => ?_)
  refine tk 0 ?_
  refine tk 1 ?_
  refine tk 2 ?_
  refine tk 3 ?_
  refine tk 4 ?_
  refine tk 5 ?_
  refine tk 6 ?_
  refine tk 7 ?_
  refine zR 8 fun K hK => ?_
  go_wp2_with fail
  refine (voteFaultN_any 8 row num x y p q n _).mono ?_
  rintro e w5 ⟨rfl, hb5⟩
  rw [hu.out]
  have B5 := Blk.on HB4.out.drew hb5
  have S5 := HS4.out.drew.below hb5
  refine hK.out _ _ ⟨B5.cell 0 _ rfl, B5.cell 1 _ rfl, B5.cell 2 _ rfl, B5.cell 3 _ rfl, B5.cell 4 _ rfl, B5.cell 5 _ rfl, B5.cell 6 _ rfl, S5.more (by omega)⟩ (fun hHeld => ?_)
  clear hK K
  try simp only [Act.put, zA, zB, zC, zD, zE, zF]
  refine zR 9 fun K hK => ?_
  go_wp2_with fail
  refine (irefuse_x w0 g (Vf v n) l3 f3 u0 _ S5).mono ?_
  rintro e w6 ⟨rfl, T6, S6⟩
  rw [hf4.out] at S6
  have B6 := B5.touch T6 hqg
  refine hK.out _ _ ⟨B6.cell 0 _ rfl, B6.cell 1 _ rfl, B6.cell 2 _ rfl, B6.cell 3 _ rfl, B6.cell 4 _ rfl, B6.cell 5 _ rfl, B6.cell 6 _ rfl, S6.more (by omega)⟩ (fun hHeld => ?_)
  clear hK K
  try simp only [Act.put, zA, zB, zC, zD, zE, zF]
  refine wpAnyH_done (by kernel_rfl) ?_ _
  refine NoPanic.normal ?_
  have R : Hid (Touch g w w6 ∧ Scx w0 w6 g (Vf v n) l3 f4) := ⟨(HT4.out.drew.trans (Touch.ofBelow hb5)).trans T6, S6⟩
  have HB6 := hide B6
  clear T6 S6 B6 B5 S5 hb5 HT4 HS4 HB4 n4 hHeld p0 p1 p2 p3 p4 p5 p6
  have p0 := HB6.out.cell 0 _ rfl
  have p1 := HB6.out.cell 1 _ rfl
  have p2 := HB6.out.cell 2 _ rfl
  have p3 := HB6.out.cell 3 _ rfl
  have p4 := HB6.out.cell 4 _ rfl
  have p5 := HB6.out.cell 5 _ rfl
  have p6 := HB6.out.cell 6 _ rfl
  go_wp2
  go_ret
  exact ⟨.slice none 0 0, rfl, DV.nil _ _, R.out⟩
 ·rw [if_pos (by rfl)]
  go_wp2_with fail
  refine hK.out _ _ ⟨alloc_keep (w := X.drew) _ h0, alloc_keep (w := X.drew) _ h1, alloc_keep (w := X.drew) _ h2⟩ (fun hHeld => ?_)
  clear hK K
  try simp only [Act.put, zA, zB, zC, zD, zE, zF]
  refine zR 3 fun K hK => ?_
  go_wp2_with fail
  refine (sballot_any w0 g v n l1 a 8 row num f1 _ (by omega) HE.out HKm.out ((HS1.out.drew).alloc (.cells #[.int .i64 0, .int .i64 0, .int .i64 0, .int .i64 0, .int .i64 0, .int .i64 0, .int .i64 0] 89))).mono ?_
  rintro e w2 ⟨rfl, T2, S2⟩
  rw [e2.out] at S2 ⊢
  simp only at S2 ⊢
  have H2 := Blk.touch (Blk.on HH1.out.drew ((Below.refl X.drew.heap.size X.drew).alloc zN _)) T2 (by omega)
  refine hK.out _ _ ⟨H2.cell 0 _ rfl, H2.cell 1 _ rfl, H2.cell 2 _ rfl⟩ (fun hHeld => ?_)
  clear hK K
  try simp only [Act.put, zA, zB, zC, zD, zE, zF]
  refine tk 4 ?_
  refine zR 6 fun K hK => ?_
  have Z2 : Blk w2 X.heap.size [.int .i64 0, .int .i64 0, .int .i64 0, .int .i64 0, .int .i64 0, .int .i64 0, .int .i64 0] := (blk_new X.drew 89 [.int .i64 0, .int .i64 0, .int .i64 0, .int .i64 0, .int .i64 0, .int .i64 0, .int .i64 0]).touch T2 (by show X.heap.size ≠ g; omega)
  have BZ : Below X.drew.heap.size X.drew (X.drew.alloc (.cells #[.int .i64 0, .int .i64 0, .int .i64 0, .int .i64 0, .int .i64 0, .int .i64 0, .int .i64 0] 89)) := ((Below.refl X.drew.heap.size X.drew).alloc zN _)
  have z0 := Z2.cell 0 _ rfl
  have z1 := Z2.cell 1 _ rfl
  have z2 := Z2.cell 2 _ rfl
  have z3 := Z2.cell 3 _ rfl
  have z4 := Z2.cell 4 _ rfl
  have z5 := Z2.cell 5 _ rfl
  have z6 := Z2.cell 6 _ rfl
  have y0 := Z2.thaw 0
  have y1 := Z2.thaw 1
  have y2 := Z2.thaw 2
  have y3 := Z2.thaw 3
  have y4 := Z2.thaw 4
  have y5 := Z2.thaw 5
  have y6 := Z2.thaw 6
  have hXg : X.heap.size ≠ g := by omega
  have hXH : X.heap.size ≠ w1.heap.size := by omega
  go_wp2_with fail
  refine hK.out _ _ ⟨((zS _ ⟨X.heap.size, 6, none⟩ _ (.int .i64 0) hXH).trans ((zS _ ⟨X.heap.size, 5, none⟩ _ (.int .i64 0) hXH).trans ((zS _ ⟨X.heap.size, 4, none⟩ _ (.int .i64 y) hXH).trans ((zS _ ⟨X.heap.size, 3, none⟩ _ (.int .i64 x) hXH).trans ((zS _ ⟨X.heap.size, 2, none⟩ _ (.int .i64 num) hXH).trans ((zS _ ⟨X.heap.size, 1, none⟩ _ (.int .i64 row) hXH).trans ((zS _ ⟨X.heap.size, 0, none⟩ _ (.int .i64 8) hXH).trans (H2.cell 0 _ rfl)))))))), ((zS _ ⟨X.heap.size, 6, none⟩ _ (.int .i64 0) hXH).trans ((zS _ ⟨X.heap.size, 5, none⟩ _ (.int .i64 0) hXH).trans ((zS _ ⟨X.heap.size, 4, none⟩ _ (.int .i64 y) hXH).trans ((zS _ ⟨X.heap.size, 3, none⟩ _ (.int .i64 x) hXH).trans ((zS _ ⟨X.heap.size, 2, none⟩ _ (.int .i64 num) hXH).trans ((zS _ ⟨X.heap.size, 1, none⟩ _ (.int .i64 row) hXH).trans ((zS _ ⟨X.heap.size, 0, none⟩ _ (.int .i64 8) hXH).trans (H2.cell 1 _ rfl)))))))), ((zS _ ⟨X.heap.size, 6, none⟩ _ (.int .i64 0) hXH).trans ((zS _ ⟨X.heap.size, 5, none⟩ _ (.int .i64 0) hXH).trans ((zS _ ⟨X.heap.size, 4, none⟩ _ (.int .i64 y) hXH).trans ((zS _ ⟨X.heap.size, 3, none⟩ _ (.int .i64 x) hXH).trans ((zS _ ⟨X.heap.size, 2, none⟩ _ (.int .i64 num) hXH).trans ((zS _ ⟨X.heap.size, 1, none⟩ _ (.int .i64 row) hXH).trans ((zS _ ⟨X.heap.size, 0, none⟩ _ (.int .i64 8) hXH).trans (H2.cell 2 _ rfl))))))))⟩ (fun hHeld => ?_)
  clear hK K
  try simp only [Act.put, zA, zB, zC, zD, zE, zF]
  refine wpAnyH_done (by kernel_rfl) ?_ _
  refine NoPanic.normal ?_
  have hXq : w.heap.size ≤ X.heap.size := by omega
  have hX0 : w0.heap.size ≤ X.heap.size := by have := HW.out; omega
  have HT9 : Hid (Touch g w ((((((((w2.setCell ⟨X.heap.size, 0, none⟩ (.int .i64 8)).setCell ⟨X.heap.size, 1, none⟩ (.int .i64 row)).setCell ⟨X.heap.size, 2, none⟩ (.int .i64 num)).setCell ⟨X.heap.size, 3, none⟩ (.int .i64 x)).setCell ⟨X.heap.size, 4, none⟩ (.int .i64 y)).setCell ⟨X.heap.size, 5, none⟩ (.int .i64 0)).setCell ⟨X.heap.size, 6, none⟩ (.int .i64 0)))) := ((((((((HT1.out.drew.trans (Touch.ofBelow BZ)).trans T2).setNew _ hXq).setNew _ hXq).setNew _ hXq).setNew _ hXq).setNew _ hXq).setNew _ hXq).setNew _ hXq
  have HS9 : Hid (Scx w0 ((((((((w2.setCell ⟨X.heap.size, 0, none⟩ (.int .i64 8)).setCell ⟨X.heap.size, 1, none⟩ (.int .i64 row)).setCell ⟨X.heap.size, 2, none⟩ (.int .i64 num)).setCell ⟨X.heap.size, 3, none⟩ (.int .i64 x)).setCell ⟨X.heap.size, 4, none⟩ (.int .i64 y)).setCell ⟨X.heap.size, 5, none⟩ (.int .i64 0)).setCell ⟨X.heap.size, 6, none⟩ (.int .i64 0))) g (Vf v n) l2 f2) := (((((((S2).other _ hXg hX0).other _ hXg hX0).other _ hXg hX0).other _ hXg hX0).other _ hXg hX0).other _ hXg hX0).other _ hXg hX0
  have HB9 : Hid (Blk ((((((((w2.setCell ⟨X.heap.size, 0, none⟩ (.int .i64 8)).setCell ⟨X.heap.size, 1, none⟩ (.int .i64 row)).setCell ⟨X.heap.size, 2, none⟩ (.int .i64 num)).setCell ⟨X.heap.size, 3, none⟩ (.int .i64 x)).setCell ⟨X.heap.size, 4, none⟩ (.int .i64 y)).setCell ⟨X.heap.size, 5, none⟩ (.int .i64 0)).setCell ⟨X.heap.size, 6, none⟩ (.int .i64 0))) (X.heap.size) [.int .i64 8, .int .i64 row, .int .i64 num, .int .i64 x, .int .i64 y, .int .i64 0, .int .i64 0]) := (((((((Z2).setAt 0 _).setAt 1 _).setAt 2 _).setAt 3 _).setAt 4 _).setAt 5 _).setAt 6 _
  have hqg : (X.heap.size) ≠ g := by omega
  have hqw : w1.heap.size < (X.heap.size) := by omega
  clear T2 S2 H2 hHeld HS1 HT1 HH1 h0 h1 h2 Z2 BZ z0 y0 z1 y1 z2 y2 z3 y3 z4 y4 z5 y5 z6 y6
  generalize ((((((((w2.setCell ⟨X.heap.size, 0, none⟩ (.int .i64 8)).setCell ⟨X.heap.size, 1, none⟩ (.int .i64 row)).setCell ⟨X.heap.size, 2, none⟩ (.int .i64 num)).setCell ⟨X.heap.size, 3, none⟩ (.int .i64 x)).setCell ⟨X.heap.size, 4, none⟩ (.int .i64 y)).setCell ⟨X.heap.size, 5, none⟩ (.int .i64 0)).setCell ⟨X.heap.size, 6, none⟩ (.int .i64 0))) = W9 at *
  generalize (X.heap.size) = qb at *
  have r7 : W9.cell? ⟨g, 7, none⟩ = some (.func (.func 29) #[] #[]) := (HS9.out.more (by omega)).trans (Vf7 HV.out)
  have hq2 : w.heap.size ≤ qb := by omega
  have hq0 : w0.heap.size ≤ qb := by have := HW.out; omega
  go_wp2
  refine wp_region_noPanic ?_
  refine wp_region_held_drew (S := (fun w' => w'.cell? ⟨g, 7, none⟩ = some (.func (.func 29) #[] #[]))) (by kernel_rfl) r7 (fun hHeld => ?_)
  refine tk 0 ?_
  refine tk 1 ?_
  refine tk 2 ?_
  refine tk 3 ?_
  refine tk 4 ?_
  refine tk 5 ?_
  refine tk 6 ?_
  refine tk 7 ?_
  refine zR 8 fun K hK => ?_
  go_wp2_with fail
  refine (takeBallot1_any w0 g (Vf v n) l2 a f2 _ HE.out HS9.out.drew).mono ?_
  rintro e w3 ⟨rfl, T3, S3⟩
  rw [e3.out] at S3 ⊢
  simp only at S3 ⊢
  have k7 : w3.cell? ⟨g, 7, none⟩ = some (.func (.func 29) #[] #[]) := (S3.more (by omega)).trans (Vf7 HV.out)
  have B3 := HB9.out.drew.touch T3 hqg
  refine hK.out _ _ k7 (fun hHeld => ?_)
  clear hK K
  try simp only [Act.put, zA, zB, zC, zD, zE, zF]
  refine tk 9 ?_
  refine zR 10 fun K hK => ?_
  have z5 := B3.cell 5 _ rfl
  have z6 := B3.cell 6 _ rfl
  have y5 := B3.thaw 5
  have y6 := B3.thaw 6
  go_wp2_with fail
  refine hK.out _ _ ((zS _ ⟨qb, 6, none⟩ _ (.int .i64 q) hqg).trans ((zS _ ⟨qb, 5, none⟩ _ (.int .i64 p) hqg).trans k7)) (fun hHeld => ?_)
  clear hK K
  try simp only [Act.put, zA, zB, zC, zD, zE, zF]
  refine wpAnyH_done (by kernel_rfl) ?_ _
  refine NoPanic.normal ?_
  have HT4 : Hid (Touch g w ((w3.setCell ⟨qb, 5, none⟩ (.int .i64 p)).setCell ⟨qb, 6, none⟩ (.int .i64 q))) := ((HT9.out.drew.trans T3).setNew _ hq2).setNew _ hq2
  have HS4 : Hid (Scx w0 ((w3.setCell ⟨qb, 5, none⟩ (.int .i64 p)).setCell ⟨qb, 6, none⟩ (.int .i64 q)) g (Vf v n) l3 f3) := (S3.other _ hqg hq0).other _ hqg hq0
  have HB4 : Hid (Blk ((w3.setCell ⟨qb, 5, none⟩ (.int .i64 p)).setCell ⟨qb, 6, none⟩ (.int .i64 q)) qb [.int .i64 8, .int .i64 row, .int .i64 num, .int .i64 x, .int .i64 y, .int .i64 p, .int .i64 q]) := (B3.setAt 5 _).setAt 6 _
  clear T3 S3 B3 HT9 HS9 HB9 z5 z6 y5 y6 k7 r7 hHeld
  generalize ((w3.setCell ⟨qb, 5, none⟩ (.int .i64 p)).setCell ⟨qb, 6, none⟩ (.int .i64 q)) = W4 at *
  have p0 := HB4.out.cell 0 _ rfl
  have p1 := HB4.out.cell 1 _ rfl
  have p2 := HB4.out.cell 2 _ rfl
  have p3 := HB4.out.cell 3 _ rfl
  have p4 := HB4.out.cell 4 _ rfl
  have p5 := HB4.out.cell 5 _ rfl
  have p6 := HB4.out.cell 6 _ rfl
  have n4 : W4.cell? ⟨g, 9, none⟩ = some (.int .i64 n) := HS4.out.more (by omega)
  go_wp2
  refine wp_region_noPanic ?_
  refine wp_region_held_drew (S := (fun w' => w'.cell? ⟨qb, 0, none⟩ = some (.int .i64 8) ∧ w'.cell? ⟨qb, 1, none⟩ = some (.int .i64 row) ∧ w'.cell? ⟨qb, 2, none⟩ = some (.int .i64 num) ∧ w'.cell? ⟨qb, 3, none⟩ = some (.int .i64 x) ∧ w'.cell? ⟨qb, 4, none⟩ = some (.int .i64 y) ∧ w'.cell? ⟨qb, 5, none⟩ = some (.int .i64 p) ∧ w'.cell? ⟨qb, 6, none⟩ = some (.int .i64 q) ∧ w'.cell? ⟨g, 9, none⟩ = some (.int .i64 n))) (by kernel_rfl) ⟨p0, p1, p2, p3, p4, p5, p6, n4⟩ (fun hHeld => ?_)
  refine tk 0 ?_
  refine tk 1 ?_
  refine tk 2 ?_
  refine tk 3 ?_
  refine tk 4 ?_
  refine tk 5 ?_
  refine tk 6 ?_
  refine tk 7 ?_
  refine zR 8 fun K hK => ?_
  go_wp2_with fail
  refine (voteFaultN_any 8 row num x y p q n _).mono ?_
  rintro e w5 ⟨rfl, hb5⟩
  rw [hu.out]
  have B5 := Blk.on HB4.out.drew hb5
  have S5 := HS4.out.drew.below hb5
  refine hK.out _ _ ⟨B5.cell 0 _ rfl, B5.cell 1 _ rfl, B5.cell 2 _ rfl, B5.cell 3 _ rfl, B5.cell 4 _ rfl, B5.cell 5 _ rfl, B5.cell 6 _ rfl, S5.more (by omega)⟩ (fun hHeld => ?_)
  clear hK K
  try simp only [Act.put, zA, zB, zC, zD, zE, zF]
  refine zR 9 fun K hK => ?_
  go_wp2_with fail
  refine (irefuse_x w0 g (Vf v n) l3 f3 u0 _ S5).mono ?_
  rintro e w6 ⟨rfl, T6, S6⟩
  rw [hf4.out] at S6
  have B6 := B5.touch T6 hqg
  refine hK.out _ _ ⟨B6.cell 0 _ rfl, B6.cell 1 _ rfl, B6.cell 2 _ rfl, B6.cell 3 _ rfl, B6.cell 4 _ rfl, B6.cell 5 _ rfl, B6.cell 6 _ rfl, S6.more (by omega)⟩ (fun hHeld => ?_)
  clear hK K
  try simp only [Act.put, zA, zB, zC, zD, zE, zF]
  refine wpAnyH_done (by kernel_rfl) ?_ _
  refine NoPanic.normal ?_
  have R : Hid (Touch g w w6 ∧ Scx w0 w6 g (Vf v n) l3 f4) := ⟨(HT4.out.drew.trans (Touch.ofBelow hb5)).trans T6, S6⟩
  have HB6 := hide B6
  clear T6 S6 B6 B5 S5 hb5 HT4 HS4 HB4 n4 hHeld p0 p1 p2 p3 p4 p5 p6
  have p0 := HB6.out.cell 0 _ rfl
  have p1 := HB6.out.cell 1 _ rfl
  have p2 := HB6.out.cell 2 _ rfl
  have p3 := HB6.out.cell 3 _ rfl
  have p4 := HB6.out.cell 4 _ rfl
  have p5 := HB6.out.cell 5 _ rfl
  have p6 := HB6.out.cell 6 _ rfl
  go_wp2
  go_ret
  exact ⟨.slice none 0 0, rfl, DV.nil _ _, R.out⟩
theorem shape_nack2 (a : Nat → Addr) (f : Int) (w : World) (row num : Int) (l1 : List Int) (f1 : Int) (HV : Hid (v ≠ 1)) (x y : Int) (l2 : List Int) (f2 : Int) (p q : Int) (l3 : List Int) (f3 u0 f4 : Int) (he : Errs w0 a) (hKc : Knd w0) (hK : Kmd w0) (h : Scx w0 w g (Vf v n) l f) (e1 : Hid (iHead v n l f = ((8, row, num), l1, f1))) (e2 : Hid (iBalF v n 8 row l1 f1 = ((x, y), l2, f2))) (e3 : Hid (iPack l2 f2 = ((p, q), l3, f3))) (hu : Hid (unl (nackB n row x y p q) 54 = u0)) (hf4 : Hid (refF u0 f3 = f4)) :
  Calls Tryz.prog 20 #[.pointer (some ⟨g, 0, none⟩)] w fun r w' => ∃ u, r = .returned (.iface 89 (.agg #[.int .i64 8, .int .i64 row, .int .i64 num, .int .i64 x, .int .i64 y, .int .i64 p, .int .i64 q])) ∧ DV w' w.heap.size u [] ∧ Touch g w w' ∧ Scx w0 w' g (Vf v n) l3 f4 := by
 have HX := hide h
 have HE := hide he
 have HKm := hide hK
 have HKc := hide hKc
 have hgl := h.lt
 have HW := hide h.low.size
 clear h he hK hKc
 go_enter Tryz.func20, Tryz.ntmps20
 go_wp2_with fail
 refine (shead_any w0 g v n l a f _ HE.out HKm.out HX.out).mono ?_
 rintro r w1 ⟨rfl, T1, S1⟩
 rw [e1.out] at S1 ⊢
 simp only at S1 ⊢
 obtain ⟨X, hX⟩ : ∃ X, X = w1.alloc (.cells #[.int .i64 8, .int .i64 row, .int .i64 num] 72) := ⟨_, rfl⟩
 have BX : Hid (Below w1.heap.size w1 X) := by rw [hX]; exact (Below.refl _ _).alloc zN _
 have HT1 : Hid (Touch g w X) := T1.trans (Touch.ofBelow BX.out)
 have HS1 : Hid (Scx w0 X g (Vf v n) l1 f1) := S1.below BX.out
 have HH1 : Hid (Blk X w1.heap.size [.int .i64 8, .int .i64 row, .int .i64 num]) := by rw [hX]; exact blk_new w1 72 [.int .i64 8, .int .i64 row, .int .i64 num]
 have hw1 : w.heap.size ≤ w1.heap.size := T1.size
 clear T1 S1 HX BX
 have h0 := HH1.out.cell 0 _ rfl
 have h1 := HH1.out.cell 1 _ rfl
 have h2 := HH1.out.cell 2 _ rfl
 go_wp2
 rw [← hX]
 clear hX
 have hHl : w1.heap.size < X.heap.size := HH1.out.lt
 refine wp_region_noPanic ?_
 refine wp_region_held_drew (S := (fun w' => w'.cell? ⟨w1.heap.size, 0, none⟩ = some (.int .i64 8) ∧ w'.cell? ⟨w1.heap.size, 1, none⟩ = some (.int .i64 row) ∧ w'.cell? ⟨w1.heap.size, 2, none⟩ = some (.int .i64 num))) (by kernel_rfl) ⟨h0, h1, h2⟩ (fun hHeld => ?_)
 refine tk 0 ?_
 refine tk 1 ?_
 refine tk 2 ?_
 refine wpAnyH_ready (rs := [3, 5]) (by kernel_rfl) (by simp) ?_
 refine AllReadyH.cons rfl (fun K hK => ?_) (AllReadyH.cons rfl (fun K hK => ?_) AllReadyH.nil)
 ·rw [if_pos (by rfl)]
  go_wp2_with fail
  refine (sballot_any w0 g v n l1 a 8 row num f1 _ (by omega) HE.out HKm.out (HS1.out.drew)).mono ?_
  rintro e w2 ⟨rfl, T2, S2⟩
  rw [e2.out] at S2 ⊢
  simp only at S2 ⊢
  have H2 := Blk.touch (HH1.out.drew) T2 (by omega)
  refine hK.out _ _ ⟨H2.cell 0 _ rfl, H2.cell 1 _ rfl, H2.cell 2 _ rfl⟩ (fun hHeld => ?_)
  clear hK K
  try simp only [Act.put, zA, zB, zC, zD, zE, zF]
  refine tk 4 ?_
  refine zR 5 fun K hK => ?_
  go_wp2_with fail
  refine hK.out _ _ ⟨alloc_keep _ (H2.cell 0 _ rfl), alloc_keep _ (H2.cell 1 _ rfl), alloc_keep _ (H2.cell 2 _ rfl)⟩ (fun hHeld => ?_)
  clear hK K
  try simp only [Act.put, zA, zB, zC, zD, zE, zF]
  refine zR 6 fun K hK => ?_
  go_wp2_with fail
  refine hK.out _ _ ⟨alloc_keep _ (H2.cell 0 _ rfl), alloc_keep _ (H2.cell 1 _ rfl), alloc_keep _ (H2.cell 2 _ rfl)⟩ (fun hHeld => ?_)
  clear hK K
  try simp only [Act.put, zA, zB, zC, zD, zE, zF]
  refine wpAnyH_done (by kernel_rfl) ?_ _
  refine NoPanic.normal ?_
  have hw2 : X.heap.size ≤ w2.heap.size := T2.size
  have hXw : w1.heap.size < X.heap.size := HH1.out.lt
  have HT9 : Hid (Touch g w (w2.alloc (.cells #[.int .i64 8, .int .i64 row, .int .i64 num, .int .i64 x, .int .i64 y, .int .i64 0, .int .i64 0] 89))) := (HT1.out.drew.trans T2).trans (Touch.ofBelow ((Below.refl w2.heap.size w2).alloc zN _))
  have HS9 : Hid (Scx w0 (w2.alloc (.cells #[.int .i64 8, .int .i64 row, .int .i64 num, .int .i64 x, .int .i64 y, .int .i64 0, .int .i64 0] 89)) g (Vf v n) l2 f2) := S2.below ((Below.refl w2.heap.size w2).alloc zN _)
  have HB9 : Hid (Blk (w2.alloc (.cells #[.int .i64 8, .int .i64 row, .int .i64 num, .int .i64 x, .int .i64 y, .int .i64 0, .int .i64 0] 89)) (w2.heap.size) [.int .i64 8, .int .i64 row, .int .i64 num, .int .i64 x, .int .i64 y, .int .i64 0, .int .i64 0]) := blk_new w2 89 [.int .i64 8, .int .i64 row, .int .i64 num, .int .i64 x, .int .i64 y, .int .i64 0, .int .i64 0]
  have hqg : (w2.heap.size) ≠ g := by omega
  have hqw : w1.heap.size < (w2.heap.size) := by omega
  clear T2 S2 H2 hHeld HS1 HT1 HH1 h0 h1 h2
  generalize (w2.alloc (.cells #[.int .i64 8, .int .i64 row, .int .i64 num, .int .i64 x, .int .i64 y, .int .i64 0, .int .i64 0] 89)) = W9 at *
  generalize (w2.heap.size) = qb at *
  have r7 : W9.cell? ⟨g, 7, none⟩ = some (.func (.func 35) #[] #[]) := (HS9.out.more (by omega)).trans (Vf7' HV.out)
  have hq2 : w.heap.size ≤ qb := by omega
  have hq0 : w0.heap.size ≤ qb := by have := HW.out; omega
  go_wp2
  refine wp_region_noPanic ?_
  refine wp_region_held_drew (S := (fun w' => w'.cell? ⟨g, 7, none⟩ = some (.func (.func 35) #[] #[]))) (by kernel_rfl) r7 (fun hHeld => ?_)
  refine tk 0 ?_
  refine tk 1 ?_
  refine tk 2 ?_
  refine tk 3 ?_
  refine tk 4 ?_
  refine tk 5 ?_
  refine tk 6 ?_
  refine tk 7 ?_
  refine zR 8 fun K hK => ?_
  go_wp2_with fail
  refine (takeBallot2_any w0 g (Vf v n) l2 a f2 _ HE.out HS9.out.drew).mono ?_
  rintro e w3 ⟨rfl, T3, S3⟩
  rw [e3.out] at S3 ⊢
  simp only at S3 ⊢
  have k7 : w3.cell? ⟨g, 7, none⟩ = some (.func (.func 35) #[] #[]) := (S3.more (by omega)).trans (Vf7' HV.out)
  have B3 := HB9.out.drew.touch T3 hqg
  refine hK.out _ _ k7 (fun hHeld => ?_)
  clear hK K
  try simp only [Act.put, zA, zB, zC, zD, zE, zF]
  refine tk 9 ?_
  refine zR 10 fun K hK => ?_
  have z5 := B3.cell 5 _ rfl
  have z6 := B3.cell 6 _ rfl
  have y5 := B3.thaw 5
  have y6 := B3.thaw 6
  go_wp2_with fail
  refine hK.out _ _ ((zS _ ⟨qb, 6, none⟩ _ (.int .i64 q) hqg).trans ((zS _ ⟨qb, 5, none⟩ _ (.int .i64 p) hqg).trans k7)) (fun hHeld => ?_)
  clear hK K
  try simp only [Act.put, zA, zB, zC, zD, zE, zF]
  refine wpAnyH_done (by kernel_rfl) ?_ _
  refine NoPanic.normal ?_
  have HT4 : Hid (Touch g w ((w3.setCell ⟨qb, 5, none⟩ (.int .i64 p)).setCell ⟨qb, 6, none⟩ (.int .i64 q))) := ((HT9.out.drew.trans T3).setNew _ hq2).setNew _ hq2
  have HS4 : Hid (Scx w0 ((w3.setCell ⟨qb, 5, none⟩ (.int .i64 p)).setCell ⟨qb, 6, none⟩ (.int .i64 q)) g (Vf v n) l3 f3) := (S3.other _ hqg hq0).other _ hqg hq0
  have HB4 : Hid (Blk ((w3.setCell ⟨qb, 5, none⟩ (.int .i64 p)).setCell ⟨qb, 6, none⟩ (.int .i64 q)) qb [.int .i64 8, .int .i64 row, .int .i64 num, .int .i64 x, .int .i64 y, .int .i64 p, .int .i64 q]) := (B3.setAt 5 _).setAt 6 _
  clear T3 S3 B3 HT9 HS9 HB9 z5 z6 y5 y6 k7 r7 hHeld
  generalize ((w3.setCell ⟨qb, 5, none⟩ (.int .i64 p)).setCell ⟨qb, 6, none⟩ (.int .i64 q)) = W4 at *
  have p0 := HB4.out.cell 0 _ rfl
  have p1 := HB4.out.cell 1 _ rfl
  have p2 := HB4.out.cell 2 _ rfl
  have p3 := HB4.out.cell 3 _ rfl
  have p4 := HB4.out.cell 4 _ rfl
  have p5 := HB4.out.cell 5 _ rfl
  have p6 := HB4.out.cell 6 _ rfl
  have n4 : W4.cell? ⟨g, 9, none⟩ = some (.int .i64 n) := HS4.out.more (by omega)
  go_wp2
  refine wp_region_noPanic ?_
  refine wp_region_held_drew (S := (fun w' => w'.cell? ⟨qb, 0, none⟩ = some (.int .i64 8) ∧ w'.cell? ⟨qb, 1, none⟩ = some (.int .i64 row) ∧ w'.cell? ⟨qb, 2, none⟩ = some (.int .i64 num) ∧ w'.cell? ⟨qb, 3, none⟩ = some (.int .i64 x) ∧ w'.cell? ⟨qb, 4, none⟩ = some (.int .i64 y) ∧ w'.cell? ⟨qb, 5, none⟩ = some (.int .i64 p) ∧ w'.cell? ⟨qb, 6, none⟩ = some (.int .i64 q) ∧ w'.cell? ⟨g, 9, none⟩ = some (.int .i64 n))) (by kernel_rfl) ⟨p0, p1, p2, p3, p4, p5, p6, n4⟩ (fun hHeld => ?_)
  refine tk 0 ?_
  refine tk 1 ?_
  refine tk 2 ?_
  refine tk 3 ?_
  refine tk 4 ?_
  refine tk 5 ?_
  refine tk 6 ?_
  refine tk 7 ?_
  refine zR 8 fun K hK => ?_
  go_wp2_with fail
  refine (voteFaultN_any 8 row num x y p q n _).mono ?_
  rintro e w5 ⟨rfl, hb5⟩
  rw [hu.out]
  have B5 := Blk.on HB4.out.drew hb5
  have S5 := HS4.out.drew.below hb5
  refine hK.out _ _ ⟨B5.cell 0 _ rfl, B5.cell 1 _ rfl, B5.cell 2 _ rfl, B5.cell 3 _ rfl, B5.cell 4 _ rfl, B5.cell 5 _ rfl, B5.cell 6 _ rfl, S5.more (by omega)⟩ (fun hHeld => ?_)
  clear hK K
  try simp only [Act.put, zA, zB, zC, zD, zE, zF]
  refine zR 9 fun K hK => ?_
  go_wp2_with fail
  refine (irefuse_x w0 g (Vf v n) l3 f3 u0 _ S5).mono ?_
  rintro e w6 ⟨rfl, T6, S6⟩
  rw [hf4.out] at S6
  have B6 := B5.touch T6 hqg
  refine hK.out _ _ ⟨B6.cell 0 _ rfl, B6.cell 1 _ rfl, B6.cell 2 _ rfl, B6.cell 3 _ rfl, B6.cell 4 _ rfl, B6.cell 5 _ rfl, B6.cell 6 _ rfl, S6.more (by omega)⟩ (fun hHeld => ?_)
  clear hK K
  try simp only [Act.put, zA, zB, zC, zD, zE, zF]
  refine wpAnyH_done (by kernel_rfl) ?_ _
  refine NoPanic.normal ?_
  have R : Hid (Touch g w w6 ∧ Scx w0 w6 g (Vf v n) l3 f4) := ⟨(HT4.out.drew.trans (Touch.ofBelow hb5)).trans T6, S6⟩
  have HB6 := hide B6
  clear T6 S6 B6 B5 S5 hb5 HT4 HS4 HB4 n4 hHeld p0 p1 p2 p3 p4 p5 p6
  have p0 := HB6.out.cell 0 _ rfl
  have p1 := HB6.out.cell 1 _ rfl
  have p2 := HB6.out.cell 2 _ rfl
  have p3 := HB6.out.cell 3 _ rfl
  have p4 := HB6.out.cell 4 _ rfl
  have p5 := HB6.out.cell 5 _ rfl
  have p6 := HB6.out.cell 6 _ rfl
  go_wp2
  go_ret
  exact ⟨.slice none 0 0, rfl, DV.nil _ _, R.out⟩
 ·rw [if_pos (by rfl)]
  go_wp2_with fail
  refine hK.out _ _ ⟨alloc_keep (w := X.drew) _ h0, alloc_keep (w := X.drew) _ h1, alloc_keep (w := X.drew) _ h2⟩ (fun hHeld => ?_)
  clear hK K
  try simp only [Act.put, zA, zB, zC, zD, zE, zF]
  refine zR 3 fun K hK => ?_
  go_wp2_with fail
  refine (sballot_any w0 g v n l1 a 8 row num f1 _ (by omega) HE.out HKm.out ((HS1.out.drew).alloc (.cells #[.int .i64 0, .int .i64 0, .int .i64 0, .int .i64 0, .int .i64 0, .int .i64 0, .int .i64 0] 89))).mono ?_
  rintro e w2 ⟨rfl, T2, S2⟩
  rw [e2.out] at S2 ⊢
  simp only at S2 ⊢
  have H2 := Blk.touch (Blk.on HH1.out.drew ((Below.refl X.drew.heap.size X.drew).alloc zN _)) T2 (by omega)
  refine hK.out _ _ ⟨H2.cell 0 _ rfl, H2.cell 1 _ rfl, H2.cell 2 _ rfl⟩ (fun hHeld => ?_)
  clear hK K
  try simp only [Act.put, zA, zB, zC, zD, zE, zF]
  refine tk 4 ?_
  refine zR 6 fun K hK => ?_
  have Z2 : Blk w2 X.heap.size [.int .i64 0, .int .i64 0, .int .i64 0, .int .i64 0, .int .i64 0, .int .i64 0, .int .i64 0] := (blk_new X.drew 89 [.int .i64 0, .int .i64 0, .int .i64 0, .int .i64 0, .int .i64 0, .int .i64 0, .int .i64 0]).touch T2 (by show X.heap.size ≠ g; omega)
  have BZ : Below X.drew.heap.size X.drew (X.drew.alloc (.cells #[.int .i64 0, .int .i64 0, .int .i64 0, .int .i64 0, .int .i64 0, .int .i64 0, .int .i64 0] 89)) := ((Below.refl X.drew.heap.size X.drew).alloc zN _)
  have z0 := Z2.cell 0 _ rfl
  have z1 := Z2.cell 1 _ rfl
  have z2 := Z2.cell 2 _ rfl
  have z3 := Z2.cell 3 _ rfl
  have z4 := Z2.cell 4 _ rfl
  have z5 := Z2.cell 5 _ rfl
  have z6 := Z2.cell 6 _ rfl
  have y0 := Z2.thaw 0
  have y1 := Z2.thaw 1
  have y2 := Z2.thaw 2
  have y3 := Z2.thaw 3
  have y4 := Z2.thaw 4
  have y5 := Z2.thaw 5
  have y6 := Z2.thaw 6
  have hXg : X.heap.size ≠ g := by omega
  have hXH : X.heap.size ≠ w1.heap.size := by omega
  go_wp2_with fail
  refine hK.out _ _ ⟨((zS _ ⟨X.heap.size, 6, none⟩ _ (.int .i64 0) hXH).trans ((zS _ ⟨X.heap.size, 5, none⟩ _ (.int .i64 0) hXH).trans ((zS _ ⟨X.heap.size, 4, none⟩ _ (.int .i64 y) hXH).trans ((zS _ ⟨X.heap.size, 3, none⟩ _ (.int .i64 x) hXH).trans ((zS _ ⟨X.heap.size, 2, none⟩ _ (.int .i64 num) hXH).trans ((zS _ ⟨X.heap.size, 1, none⟩ _ (.int .i64 row) hXH).trans ((zS _ ⟨X.heap.size, 0, none⟩ _ (.int .i64 8) hXH).trans (H2.cell 0 _ rfl)))))))), ((zS _ ⟨X.heap.size, 6, none⟩ _ (.int .i64 0) hXH).trans ((zS _ ⟨X.heap.size, 5, none⟩ _ (.int .i64 0) hXH).trans ((zS _ ⟨X.heap.size, 4, none⟩ _ (.int .i64 y) hXH).trans ((zS _ ⟨X.heap.size, 3, none⟩ _ (.int .i64 x) hXH).trans ((zS _ ⟨X.heap.size, 2, none⟩ _ (.int .i64 num) hXH).trans ((zS _ ⟨X.heap.size, 1, none⟩ _ (.int .i64 row) hXH).trans ((zS _ ⟨X.heap.size, 0, none⟩ _ (.int .i64 8) hXH).trans (H2.cell 1 _ rfl)))))))), ((zS _ ⟨X.heap.size, 6, none⟩ _ (.int .i64 0) hXH).trans ((zS _ ⟨X.heap.size, 5, none⟩ _ (.int .i64 0) hXH).trans ((zS _ ⟨X.heap.size, 4, none⟩ _ (.int .i64 y) hXH).trans ((zS _ ⟨X.heap.size, 3, none⟩ _ (.int .i64 x) hXH).trans ((zS _ ⟨X.heap.size, 2, none⟩ _ (.int .i64 num) hXH).trans ((zS _ ⟨X.heap.size, 1, none⟩ _ (.int .i64 row) hXH).trans ((zS _ ⟨X.heap.size, 0, none⟩ _ (.int .i64 8) hXH).trans (H2.cell 2 _ rfl))))))))⟩ (fun hHeld => ?_)
  clear hK K
  try simp only [Act.put, zA, zB, zC, zD, zE, zF]
  refine wpAnyH_done (by kernel_rfl) ?_ _
  refine NoPanic.normal ?_
  have hXq : w.heap.size ≤ X.heap.size := by omega
  have hX0 : w0.heap.size ≤ X.heap.size := by have := HW.out; omega
  have HT9 : Hid (Touch g w ((((((((w2.setCell ⟨X.heap.size, 0, none⟩ (.int .i64 8)).setCell ⟨X.heap.size, 1, none⟩ (.int .i64 row)).setCell ⟨X.heap.size, 2, none⟩ (.int .i64 num)).setCell ⟨X.heap.size, 3, none⟩ (.int .i64 x)).setCell ⟨X.heap.size, 4, none⟩ (.int .i64 y)).setCell ⟨X.heap.size, 5, none⟩ (.int .i64 0)).setCell ⟨X.heap.size, 6, none⟩ (.int .i64 0)))) := ((((((((HT1.out.drew.trans (Touch.ofBelow BZ)).trans T2).setNew _ hXq).setNew _ hXq).setNew _ hXq).setNew _ hXq).setNew _ hXq).setNew _ hXq).setNew _ hXq
  have HS9 : Hid (Scx w0 ((((((((w2.setCell ⟨X.heap.size, 0, none⟩ (.int .i64 8)).setCell ⟨X.heap.size, 1, none⟩ (.int .i64 row)).setCell ⟨X.heap.size, 2, none⟩ (.int .i64 num)).setCell ⟨X.heap.size, 3, none⟩ (.int .i64 x)).setCell ⟨X.heap.size, 4, none⟩ (.int .i64 y)).setCell ⟨X.heap.size, 5, none⟩ (.int .i64 0)).setCell ⟨X.heap.size, 6, none⟩ (.int .i64 0))) g (Vf v n) l2 f2) := (((((((S2).other _ hXg hX0).other _ hXg hX0).other _ hXg hX0).other _ hXg hX0).other _ hXg hX0).other _ hXg hX0).other _ hXg hX0
  have HB9 : Hid (Blk ((((((((w2.setCell ⟨X.heap.size, 0, none⟩ (.int .i64 8)).setCell ⟨X.heap.size, 1, none⟩ (.int .i64 row)).setCell ⟨X.heap.size, 2, none⟩ (.int .i64 num)).setCell ⟨X.heap.size, 3, none⟩ (.int .i64 x)).setCell ⟨X.heap.size, 4, none⟩ (.int .i64 y)).setCell ⟨X.heap.size, 5, none⟩ (.int .i64 0)).setCell ⟨X.heap.size, 6, none⟩ (.int .i64 0))) (X.heap.size) [.int .i64 8, .int .i64 row, .int .i64 num, .int .i64 x, .int .i64 y, .int .i64 0, .int .i64 0]) := (((((((Z2).setAt 0 _).setAt 1 _).setAt 2 _).setAt 3 _).setAt 4 _).setAt 5 _).setAt 6 _
  have hqg : (X.heap.size) ≠ g := by omega
  have hqw : w1.heap.size < (X.heap.size) := by omega
  clear T2 S2 H2 hHeld HS1 HT1 HH1 h0 h1 h2 Z2 BZ z0 y0 z1 y1 z2 y2 z3 y3 z4 y4 z5 y5 z6 y6
  generalize ((((((((w2.setCell ⟨X.heap.size, 0, none⟩ (.int .i64 8)).setCell ⟨X.heap.size, 1, none⟩ (.int .i64 row)).setCell ⟨X.heap.size, 2, none⟩ (.int .i64 num)).setCell ⟨X.heap.size, 3, none⟩ (.int .i64 x)).setCell ⟨X.heap.size, 4, none⟩ (.int .i64 y)).setCell ⟨X.heap.size, 5, none⟩ (.int .i64 0)).setCell ⟨X.heap.size, 6, none⟩ (.int .i64 0))) = W9 at *
  generalize (X.heap.size) = qb at *
  have r7 : W9.cell? ⟨g, 7, none⟩ = some (.func (.func 35) #[] #[]) := (HS9.out.more (by omega)).trans (Vf7' HV.out)
  have hq2 : w.heap.size ≤ qb := by omega
  have hq0 : w0.heap.size ≤ qb := by have := HW.out; omega
  go_wp2
  refine wp_region_noPanic ?_
  refine wp_region_held_drew (S := (fun w' => w'.cell? ⟨g, 7, none⟩ = some (.func (.func 35) #[] #[]))) (by kernel_rfl) r7 (fun hHeld => ?_)
  refine tk 0 ?_
  refine tk 1 ?_
  refine tk 2 ?_
  refine tk 3 ?_
  refine tk 4 ?_
  refine tk 5 ?_
  refine tk 6 ?_
  refine tk 7 ?_
  refine zR 8 fun K hK => ?_
  go_wp2_with fail
  refine (takeBallot2_any w0 g (Vf v n) l2 a f2 _ HE.out HS9.out.drew).mono ?_
  rintro e w3 ⟨rfl, T3, S3⟩
  rw [e3.out] at S3 ⊢
  simp only at S3 ⊢
  have k7 : w3.cell? ⟨g, 7, none⟩ = some (.func (.func 35) #[] #[]) := (S3.more (by omega)).trans (Vf7' HV.out)
  have B3 := HB9.out.drew.touch T3 hqg
  refine hK.out _ _ k7 (fun hHeld => ?_)
  clear hK K
  try simp only [Act.put, zA, zB, zC, zD, zE, zF]
  refine tk 9 ?_
  refine zR 10 fun K hK => ?_
  have z5 := B3.cell 5 _ rfl
  have z6 := B3.cell 6 _ rfl
  have y5 := B3.thaw 5
  have y6 := B3.thaw 6
  go_wp2_with fail
  refine hK.out _ _ ((zS _ ⟨qb, 6, none⟩ _ (.int .i64 q) hqg).trans ((zS _ ⟨qb, 5, none⟩ _ (.int .i64 p) hqg).trans k7)) (fun hHeld => ?_)
  clear hK K
  try simp only [Act.put, zA, zB, zC, zD, zE, zF]
  refine wpAnyH_done (by kernel_rfl) ?_ _
  refine NoPanic.normal ?_
  have HT4 : Hid (Touch g w ((w3.setCell ⟨qb, 5, none⟩ (.int .i64 p)).setCell ⟨qb, 6, none⟩ (.int .i64 q))) := ((HT9.out.drew.trans T3).setNew _ hq2).setNew _ hq2
  have HS4 : Hid (Scx w0 ((w3.setCell ⟨qb, 5, none⟩ (.int .i64 p)).setCell ⟨qb, 6, none⟩ (.int .i64 q)) g (Vf v n) l3 f3) := (S3.other _ hqg hq0).other _ hqg hq0
  have HB4 : Hid (Blk ((w3.setCell ⟨qb, 5, none⟩ (.int .i64 p)).setCell ⟨qb, 6, none⟩ (.int .i64 q)) qb [.int .i64 8, .int .i64 row, .int .i64 num, .int .i64 x, .int .i64 y, .int .i64 p, .int .i64 q]) := (B3.setAt 5 _).setAt 6 _
  clear T3 S3 B3 HT9 HS9 HB9 z5 z6 y5 y6 k7 r7 hHeld
  generalize ((w3.setCell ⟨qb, 5, none⟩ (.int .i64 p)).setCell ⟨qb, 6, none⟩ (.int .i64 q)) = W4 at *
  have p0 := HB4.out.cell 0 _ rfl
  have p1 := HB4.out.cell 1 _ rfl
  have p2 := HB4.out.cell 2 _ rfl
  have p3 := HB4.out.cell 3 _ rfl
  have p4 := HB4.out.cell 4 _ rfl
  have p5 := HB4.out.cell 5 _ rfl
  have p6 := HB4.out.cell 6 _ rfl
  have n4 : W4.cell? ⟨g, 9, none⟩ = some (.int .i64 n) := HS4.out.more (by omega)
  go_wp2
  refine wp_region_noPanic ?_
  refine wp_region_held_drew (S := (fun w' => w'.cell? ⟨qb, 0, none⟩ = some (.int .i64 8) ∧ w'.cell? ⟨qb, 1, none⟩ = some (.int .i64 row) ∧ w'.cell? ⟨qb, 2, none⟩ = some (.int .i64 num) ∧ w'.cell? ⟨qb, 3, none⟩ = some (.int .i64 x) ∧ w'.cell? ⟨qb, 4, none⟩ = some (.int .i64 y) ∧ w'.cell? ⟨qb, 5, none⟩ = some (.int .i64 p) ∧ w'.cell? ⟨qb, 6, none⟩ = some (.int .i64 q) ∧ w'.cell? ⟨g, 9, none⟩ = some (.int .i64 n))) (by kernel_rfl) ⟨p0, p1, p2, p3, p4, p5, p6, n4⟩ (fun hHeld => ?_)
  refine tk 0 ?_
  refine tk 1 ?_
  refine tk 2 ?_
  refine tk 3 ?_
  refine tk 4 ?_
  refine tk 5 ?_
  refine tk 6 ?_
  refine tk 7 ?_
  refine zR 8 fun K hK => ?_
  go_wp2_with fail
  refine (voteFaultN_any 8 row num x y p q n _).mono ?_
  rintro e w5 ⟨rfl, hb5⟩
  rw [hu.out]
  have B5 := Blk.on HB4.out.drew hb5
  have S5 := HS4.out.drew.below hb5
  refine hK.out _ _ ⟨B5.cell 0 _ rfl, B5.cell 1 _ rfl, B5.cell 2 _ rfl, B5.cell 3 _ rfl, B5.cell 4 _ rfl, B5.cell 5 _ rfl, B5.cell 6 _ rfl, S5.more (by omega)⟩ (fun hHeld => ?_)
  clear hK K
  try simp only [Act.put, zA, zB, zC, zD, zE, zF]
  refine zR 9 fun K hK => ?_
  go_wp2_with fail
  refine (irefuse_x w0 g (Vf v n) l3 f3 u0 _ S5).mono ?_
  rintro e w6 ⟨rfl, T6, S6⟩
  rw [hf4.out] at S6
  have B6 := B5.touch T6 hqg
  refine hK.out _ _ ⟨B6.cell 0 _ rfl, B6.cell 1 _ rfl, B6.cell 2 _ rfl, B6.cell 3 _ rfl, B6.cell 4 _ rfl, B6.cell 5 _ rfl, B6.cell 6 _ rfl, S6.more (by omega)⟩ (fun hHeld => ?_)
  clear hK K
  try simp only [Act.put, zA, zB, zC, zD, zE, zF]
  refine wpAnyH_done (by kernel_rfl) ?_ _
  refine NoPanic.normal ?_
  have R : Hid (Touch g w w6 ∧ Scx w0 w6 g (Vf v n) l3 f4) := ⟨(HT4.out.drew.trans (Touch.ofBelow hb5)).trans T6, S6⟩
  have HB6 := hide B6
  clear T6 S6 B6 B5 S5 hb5 HT4 HS4 HB4 n4 hHeld p0 p1 p2 p3 p4 p5 p6
  have p0 := HB6.out.cell 0 _ rfl
  have p1 := HB6.out.cell 1 _ rfl
  have p2 := HB6.out.cell 2 _ rfl
  have p3 := HB6.out.cell 3 _ rfl
  have p4 := HB6.out.cell 4 _ rfl
  have p5 := HB6.out.cell 5 _ rfl
  have p6 := HB6.out.cell 6 _ rfl
  go_wp2
  go_ret
  exact ⟨.slice none 0 0, rfl, DV.nil _ _, R.out⟩
end
end Go.Proofs.YtibfdoggolkljaaGreatDoor
