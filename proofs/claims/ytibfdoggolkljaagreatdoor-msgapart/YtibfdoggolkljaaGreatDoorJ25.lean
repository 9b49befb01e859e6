import Derived.Test.YtibfdoggolkljaaGreatDoorJ22
set_option maxHeartbeats 8000000
set_option maxRecDepth 100000
namespace Go.Proofs.YtibfdoggolkljaaGreatDoor
open Go.RowKit Go.Wire1
section
variable (w0 : World) (g : Nat) (v n : Int) (l : List Int)
theorem shape_bal4 (a : Nat → Addr) (f : Int) (w : World) (row num : Int) (l1 : List Int) (f1 : Int) (x y : Int) (l2 : List Int) (f2 : Int) (he : Errs w0 a) (hKc : Knd w0) (hK : Kmd w0) (h : Scx w0 w g (Vf v n) l f) (e1 : Hid (iHead v n l f = ((4, row, num), l1, f1))) (e2 : Hid (iBalF v n 4 row l1 f1 = ((x, y), l2, f2))) :
  Calls Tryz.prog 20 #[.pointer (some ⟨g, 0, none⟩)] w fun r w' => ∃ u, r = .returned (.iface 82 (.agg #[.int .i64 4, .int .i64 row, .int .i64 num, .int .i64 x, .int .i64 y])) ∧ DV w' w.heap.size u [] ∧ Touch g w w' ∧ Scx w0 w' g (Vf v n) l2 f2 := by
 have HX := hide h
 have HE := hide he
 have HKm := hide hK
 have HKc := hide hKc
 have hgl := h.lt
 have HW := hide h.low.size
 clear h he hK hKc
 go_enter Tryz.func20, Tryz.ntmps20
 go_wp2_with fail
 refine (shead_any w0 g v n l a f _ HE.out HKm.out HX.out).mono ?_
 rintro r w1 ⟨rfl, T1, S1⟩
 rw [e1.out] at S1 ⊢
 simp only at S1 ⊢
 obtain ⟨X, hX⟩ : ∃ X, X = w1.alloc (.cells #[.int .i64 4, .int .i64 row, .int .i64 num] 72) := ⟨_, rfl⟩
 have BX : Hid (Below w1.heap.size w1 X) := by rw [hX]; exact (Below.refl _ _).alloc zN _
 have HT1 : Hid (Touch g w X) := T1.trans (Touch.ofBelow BX.out)
 have HS1 : Hid (Scx w0 X g (Vf v n) l1 f1) := S1.below BX.out
 have HH1 : Hid (Blk X w1.heap.size [.int .i64 4, .int .i64 row, .int .i64 num]) := by rw [hX]; exact blk_new w1 72 [.int .i64 4, .int .i64 row, .int .i64 num]
 have hw1 : w.heap.size ≤ w1.heap.size := T1.size
 clear T1 S1 HX BX
 have h0 := HH1.out.cell 0 _ rfl
 have h1 := HH1.out.cell 1 _ rfl
 have h2 := HH1.out.cell 2 _ rfl
 go_wp2
 rw [← hX]
 clear hX
 refine wp_region_noPanic ?_
 refine wp_region_held_drew (S := (fun w' => w'.cell? ⟨w1.heap.size, 0, none⟩ = some (.int .i64 4) ∧ w'.cell? ⟨w1.heap.size, 1, none⟩ = some (.int .i64 row) ∧ w'.cell? ⟨w1.heap.size, 2, none⟩ = some (.int .i64 num))) (by kernel_rfl) ⟨h0, h1, h2⟩ (fun hHeld => ?_)
 refine tk 0 ?_
 refine tk 1 ?_
 refine tk 2 ?_
 refine zR 3 fun K hK => ?_
 go_wp2_with fail
 refine (sballot_any w0 g v n l1 a 4 row num f1 _ (by omega) HE.out HKm.out HS1.out.drew).mono ?_
 rintro e w2 ⟨rfl, T2, S2⟩
 rw [e2.out] at S2 ⊢
 simp only at S2 ⊢
 have H2 := HH1.out.drew.touch T2 (by omega)
 refine hK.out _ _ ⟨H2.cell 0 _ rfl, H2.cell 1 _ rfl, H2.cell 2 _ rfl⟩ (fun hHeld => ?_)
 clear hK K
 try simp only [Act.put, zA, zB, zC, zD, zE, zF]
 refine tk 4 ?_
 refine tk 5 ?_
 refine tk 6 ?_
 refine wpAnyH_done (by kernel_rfl) ?_ _
 refine NoPanic.normal ?_
 have R : Hid (Touch g w w2 ∧ Scx w0 w2 g (Vf v n) l2 f2) := ⟨HT1.out.drew.trans T2, S2⟩
 clear T2 S2 H2 hHeld HS1 HT1 HH1 h0 h1 h2
 go_wp2
 go_ret
 exact ⟨.slice none 0 0, rfl, DV.nil _ _, R.out⟩
theorem shape_bal6 (a : Nat → Addr) (f : Int) (w : World) (row num : Int) (l1 : List Int) (f1 : Int) (x y : Int) (l2 : List Int) (f2 : Int) (he : Errs w0 a) (hKc : Knd w0) (hK : Kmd w0) (h : Scx w0 w g (Vf v n) l f) (e1 : Hid (iHead v n l f = ((6, row, num), l1, f1))) (e2 : Hid (iBalF v n 6 row l1 f1 = ((x, y), l2, f2))) :
  Calls Tryz.prog 20 #[.pointer (some ⟨g, 0, none⟩)] w fun r w' => ∃ u, r = .returned (.iface 82 (.agg #[.int .i64 6, .int .i64 row, .int .i64 num, .int .i64 x, .int .i64 y])) ∧ DV w' w.heap.size u [] ∧ Touch g w w' ∧ Scx w0 w' g (Vf v n) l2 f2 := by
 have HX := hide h
 have HE := hide he
 have HKm := hide hK
 have HKc := hide hKc
 have hgl := h.lt
 have HW := hide h.low.size
 clear h he hK hKc
 go_enter Tryz.func20, Tryz.ntmps20
 go_wp2_with fail
 refine (shead_any w0 g v n l a f _ HE.out HKm.out HX.out).mono ?_
 rintro r w1 ⟨rfl, T1, S1⟩
 rw [e1.out] at S1 ⊢
 simp only at S1 ⊢
 obtain ⟨X, hX⟩ : ∃ X, X = w1.alloc (.cells #[.int .i64 6, .int .i64 row, .int .i64 num] 72) := ⟨_, rfl⟩
 have BX : Hid (Below w1.heap.size w1 X) := by rw [hX]; exact (Below.refl _ _).alloc zN _
 have HT1 : Hid (Touch g w X) := T1.trans (Touch.ofBelow BX.out)
 have HS1 : Hid (Scx w0 X g (Vf v n) l1 f1) := S1.below BX.out
 have HH1 : Hid (Blk X w1.heap.size [.int .i64 6, .int .i64 row, .int .i64 num]) := by rw [hX]; exact blk_new w1 72 [.int .i64 6, .int .i64 row, .int .i64 num]
 have hw1 : w.heap.size ≤ w1.heap.size := T1.size
 clear T1 S1 HX BX
 have h0 := HH1.out.cell 0 _ rfl
 have h1 := HH1.out.cell 1 _ rfl
 have h2 := HH1.out.cell 2 _ rfl
 go_wp2
 rw [← hX]
 clear hX
 refine wp_region_noPanic ?_
 refine wp_region_held_drew (S := (fun w' => w'.cell? ⟨w1.heap.size, 0, none⟩ = some (.int .i64 6) ∧ w'.cell? ⟨w1.heap.size, 1, none⟩ = some (.int .i64 row) ∧ w'.cell? ⟨w1.heap.size, 2, none⟩ = some (.int .i64 num))) (by kernel_rfl) ⟨h0, h1, h2⟩ (fun hHeld => ?_)
 refine tk 0 ?_
 refine tk 1 ?_
 refine tk 2 ?_
 refine zR 3 fun K hK => ?_
 go_wp2_with fail
 refine (sballot_any w0 g v n l1 a 6 row num f1 _ (by omega) HE.out HKm.out HS1.out.drew).mono ?_
 rintro e w2 ⟨rfl, T2, S2⟩
 rw [e2.out] at S2 ⊢
 simp only at S2 ⊢
 have H2 := HH1.out.drew.touch T2 (by omega)
 refine hK.out _ _ ⟨H2.cell 0 _ rfl, H2.cell 1 _ rfl, H2.cell 2 _ rfl⟩ (fun hHeld => ?_)
 clear hK K
 try simp only [Act.put, zA, zB, zC, zD, zE, zF]
 refine tk 4 ?_
 refine tk 5 ?_
 refine tk 6 ?_
 refine wpAnyH_done (by kernel_rfl) ?_ _
 refine NoPanic.normal ?_
 have R : Hid (Touch g w w2 ∧ Scx w0 w2 g (Vf v n) l2 f2) := ⟨HT1.out.drew.trans T2, S2⟩
 clear T2 S2 H2 hHeld HS1 HT1 HH1 h0 h1 h2
 go_wp2
 go_ret
 exact ⟨.slice none 0 0, rfl, DV.nil _ _, R.out⟩
theorem shape_bare (a : Nat → Addr) (f : Int) (w : World) (k row num : Int) (l1 : List Int) (f1 : Int) (he : Errs w0 a) (hK : Kmd w0) (h : Scx w0 w g (Vf v n) l f) (e1 : Hid (iHead v n l f = ((k, row, num), l1, f1))) (hk : k < 1 ∨ 8 < k) :
  Calls Tryz.prog 20 #[.pointer (some ⟨g, 0, none⟩)] w fun r w' => ∃ u, r = .returned (.iface 91 (.agg #[.int .i64 k, .int .i64 row, .int .i64 num])) ∧ DV w' w.heap.size u [] ∧ Touch g w w' ∧ Scx w0 w' g (Vf v n) l1 f1 := by
 have HX := hide h
 have HE := hide he
 have HKm := hide hK
 have q1 : (k == 1) = false := by rw [beq_eq_false_iff_ne]; omega
 have q2 : (k == 2) = false := by rw [beq_eq_false_iff_ne]; omega
 have q3 : (k == 3) = false := by rw [beq_eq_false_iff_ne]; omega
 have q4 : (k == 4) = false := by rw [beq_eq_false_iff_ne]; omega
 have q5 : (k == 5) = false := by rw [beq_eq_false_iff_ne]; omega
 have q6 : (k == 6) = false := by rw [beq_eq_false_iff_ne]; omega
 have q7 : (k == 7) = false := by rw [beq_eq_false_iff_ne]; omega
 have q8 : (k == 8) = false := by rw [beq_eq_false_iff_ne]; omega
 clear h he hK hk
 go_enter Tryz.func20, Tryz.ntmps20
 go_wp2_with fail
 refine (shead_any w0 g v n l a f _ HE.out HKm.out HX.out).mono ?_
 rintro r w1 ⟨rfl, T1, S1⟩
 rw [e1.out] at S1 ⊢
 simp only at S1 ⊢
 have R : ∀ o, Hid (Touch g w (w1.alloc o) ∧ Scx w0 (w1.alloc o) g (Vf v n) l1 f1) := fun o => ⟨T1.trans (Touch.ofBelow ((Below.refl _ _).alloc zN _)), S1.alloc _⟩
 clear T1 S1
 go_wp2
 go_ret
 exact ⟨.slice none 0 0, rfl, DV.nil _ _, (R _).out⟩
theorem shape_prop1 (a : Nat → Addr) (f : Int) (w : World) (row num : Int) (l1 : List Int) (f1 : Int) (x y : Int) (l2 : List Int) (f2 : Int) (c : Cm) (sq : Int) (dl l3 : List Int) (f3 : Int) (he : Errs w0 a) (hKc : Knd w0) (hK : Kmd w0) (h : Scx w0 w g (Vf v n) l f) (e1 : Hid (iHead v n l f = ((1, row, num), l1, f1))) (e2 : Hid (iBalF v n 1 row l1 f1 = ((x, y), l2, f2))) (e3 : Hid (iLoad v n false l2 f2 = ((c, sq, dl), l3, f3))) :
  Calls Tryz.prog 20 #[.pointer (some ⟨g, 0, none⟩)] w fun r w' => ∃ u, r = .returned (.iface 78 (.agg #[.int .i64 1, .int .i64 row, .int .i64 num, .int .i64 x, .int .i64 y, .int .i64 c.kind, .int .i64 c.client, .int .i64 c.req, .string c.key, .string c.key2, .string c.val, .string c.old, .int .i64 c.n, .int .i64 sq, u])) ∧ DV w' w.heap.size u dl ∧ Touch g w w' ∧ Scx w0 w' g (Vf v n) l3 f3 := by
 have HX := hide h
 have HE := hide he
 have HKm := hide hK
 have HKc := hide hKc
 have hgl := h.lt
 have HW := hide h.low.size
 clear h he hK hKc
 go_enter Tryz.func20, Tryz.ntmps20
 go_wp2_with fail
 refine (shead_any w0 g v n l a f _ HE.out HKm.out HX.out).mono ?_
 rintro r w1 ⟨rfl, T1, S1⟩
 rw [e1.out] at S1 ⊢
 simp only at S1 ⊢
 obtain ⟨X, hX⟩ : ∃ X, X = w1.alloc (.cells #[.int .i64 1, .int .i64 row, .int .i64 num] 72) := ⟨_, rfl⟩
 have BX : Hid (Below w1.heap.size w1 X) := by rw [hX]; exact (Below.refl _ _).alloc zN _
 have HT1 : Hid (Touch g w X) := T1.trans (Touch.ofBelow BX.out)
 have HS1 : Hid (Scx w0 X g (Vf v n) l1 f1) := S1.below BX.out
 have HH1 : Hid (Blk X w1.heap.size [.int .i64 1, .int .i64 row, .int .i64 num]) := by rw [hX]; exact blk_new w1 72 [.int .i64 1, .int .i64 row, .int .i64 num]
 have hw1 : w.heap.size ≤ w1.heap.size := T1.size
 clear T1 S1 HX BX
 have h0 := HH1.out.cell 0 _ rfl
 have h1 := HH1.out.cell 1 _ rfl
 have h2 := HH1.out.cell 2 _ rfl
 go_wp2
 rw [← hX]
 clear hX
 have hHl : w1.heap.size < X.heap.size := HH1.out.lt
 refine wp_region_noPanic ?_
 refine wp_region_held_drew (S := (fun w' => w'.cell? ⟨w1.heap.size, 0, none⟩ = some (.int .i64 1) ∧ w'.cell? ⟨w1.heap.size, 1, none⟩ = some (.int .i64 row) ∧ w'.cell? ⟨w1.heap.size, 2, none⟩ = some (.int .i64 num))) (by kernel_rfl) ⟨h0, h1, h2⟩ (fun hHeld => ?_)
 refine tk 0 ?_
 refine tk 1 ?_
 refine tk 2 ?_
 refine wpAnyH_ready (rs := [3, 5]) (by kernel_rfl) (by simp) ?_
 refine AllReadyH.cons rfl (fun K hK => ?_) (AllReadyH.cons rfl (fun K hK => ?_) AllReadyH.nil)
 ·rw [if_pos (by rfl)]
  go_wp2_with fail
  refine (sballot_any w0 g v n l1 a 1 row num f1 _ (by omega) HE.out HKm.out (HS1.out.drew)).mono ?_
  rintro e w2 ⟨rfl, T2, S2⟩
  rw [e2.out] at S2 ⊢
  simp only at S2 ⊢
  have H2 := Blk.touch (HH1.out.drew) T2 (by omega)
  refine hK.out _ _ ⟨H2.cell 0 _ rfl, H2.cell 1 _ rfl, H2.cell 2 _ rfl⟩ (fun hHeld => ?_)
  clear hK K
  try simp only [Act.put, zA, zB, zC, zD, zE, zF]
  refine tk 4 ?_
  refine zR 5 fun K hK => ?_
  go_wp2_with fail
  refine hK.out _ _ ⟨alloc_keep _ (H2.cell 0 _ rfl), alloc_keep _ (H2.cell 1 _ rfl), alloc_keep _ (H2.cell 2 _ rfl)⟩ (fun hHeld => ?_)
  clear hK K
  try simp only [Act.put, zA, zB, zC, zD, zE, zF]
  refine zR 6 fun K hK => ?_
  go_wp2_with fail
  refine hK.out _ _ ⟨alloc_keep _ (H2.cell 0 _ rfl), alloc_keep _ (H2.cell 1 _ rfl), alloc_keep _ (H2.cell 2 _ rfl)⟩ (fun hHeld => ?_)
  clear hK K
  try simp only [Act.put, zA, zB, zC, zD, zE, zF]
  refine wpAnyH_done (by kernel_rfl) ?_ _
  refine NoPanic.normal ?_
  have hw2 : X.heap.size ≤ w2.heap.size := T2.size
  have hXw : w1.heap.size < X.heap.size := HH1.out.lt
  have HT9 : Hid (Touch g w (w2.alloc (.cells #[.int .i64 1, .int .i64 row, .int .i64 num, .int .i64 x, .int .i64 y, .int .i64 0, .int .i64 0, .int .i64 0, .string ⟨#[]⟩, .string ⟨#[]⟩, .string ⟨#[]⟩, .string ⟨#[]⟩, .int .i64 0, .int .i64 0, .slice none 0 0] 78))) := (HT1.out.drew.trans T2).trans (Touch.ofBelow ((Below.refl w2.heap.size w2).alloc zN _))
  have HS9 : Hid (Scx w0 (w2.alloc (.cells #[.int .i64 1, .int .i64 row, .int .i64 num, .int .i64 x, .int .i64 y, .int .i64 0, .int .i64 0, .int .i64 0, .string ⟨#[]⟩, .string ⟨#[]⟩, .string ⟨#[]⟩, .string ⟨#[]⟩, .int .i64 0, .int .i64 0, .slice none 0 0] 78)) g (Vf v n) l2 f2) := S2.below ((Below.refl w2.heap.size w2).alloc zN _)
  have HB9 : Hid (Blk (w2.alloc (.cells #[.int .i64 1, .int .i64 row, .int .i64 num, .int .i64 x, .int .i64 y, .int .i64 0, .int .i64 0, .int .i64 0, .string ⟨#[]⟩, .string ⟨#[]⟩, .string ⟨#[]⟩, .string ⟨#[]⟩, .int .i64 0, .int .i64 0, .slice none 0 0] 78)) (w2.heap.size) [.int .i64 1, .int .i64 row, .int .i64 num, .int .i64 x, .int .i64 y, .int .i64 0, .int .i64 0, .int .i64 0, .string ⟨#[]⟩, .string ⟨#[]⟩, .string ⟨#[]⟩, .string ⟨#[]⟩, .int .i64 0, .int .i64 0, .slice none 0 0]) := blk_new w2 78 [.int .i64 1, .int .i64 row, .int .i64 num, .int .i64 x, .int .i64 y, .int .i64 0, .int .i64 0, .int .i64 0, .string ⟨#[]⟩, .string ⟨#[]⟩, .string ⟨#[]⟩, .string ⟨#[]⟩, .int .i64 0, .int .i64 0, .slice none 0 0]
  have hqg : (w2.heap.size) ≠ g := by omega
  have hqw : w1.heap.size < (w2.heap.size) := by omega
  clear T2 S2 H2 hHeld HS1 HT1 HH1 h0 h1 h2
  generalize (w2.alloc (.cells #[.int .i64 1, .int .i64 row, .int .i64 num, .int .i64 x, .int .i64 y, .int .i64 0, .int .i64 0, .int .i64 0, .string ⟨#[]⟩, .string ⟨#[]⟩, .string ⟨#[]⟩, .string ⟨#[]⟩, .int .i64 0, .int .i64 0, .slice none 0 0] 78)) = W9 at *
  generalize (w2.heap.size) = qb at *
  have p0 := HB9.out.cell 0 _ rfl
  have p1 := HB9.out.cell 1 _ rfl
  have p2 := HB9.out.cell 2 _ rfl
  have p3 := HB9.out.cell 3 _ rfl
  have p4 := HB9.out.cell 4 _ rfl
  have p5 := HB9.out.cell 5 _ rfl
  have p6 := HB9.out.cell 6 _ rfl
  have p7 := HB9.out.cell 7 _ rfl
  have p8 := HB9.out.cell 8 _ rfl
  have p9 := HB9.out.cell 9 _ rfl
  have p10 := HB9.out.cell 10 _ rfl
  have p11 := HB9.out.cell 11 _ rfl
  have p12 := HB9.out.cell 12 _ rfl
  have p13 := HB9.out.cell 13 _ rfl
  have p14 := HB9.out.cell 14 _ rfl
  go_wp2_with fail
  refine (mayNoopP_any 1 row num x y zeroC 0 (.slice none 0 0) _).mono ?_
  rintro r w3 ⟨rfl, hb3⟩
  rw [show ((1 : Int) != 1) = false from rfl]
  have HT3 : Hid (Touch g w w3) := HT9.out.trans (Touch.ofBelow hb3)
  have HS3 := hide (HS9.out.below hb3)
  have HB3 := hide (HB9.out.on hb3)
  clear hb3 HT9 HS9 HB9 p0 p1 p2 p3 p4 p5 p6 p7 p8 p9 p10 p11 p12 p13 p14
  go_wp2_with fail
  refine (sload_any w0 g v n l2 a false f2 _ HE.out HKc.out HS3.out).mono ?_
  rintro r w4 ⟨ud, rfl, D4, T4, S4⟩
  rw [e3.out] at D4 S4 ⊢
  simp only at D4 S4 ⊢
  obtain ⟨ua, uk, uc, rfl⟩ := D4.shape
  have hs3 : Hid (qb < w3.heap.size) := HB3.out.lt
  have HT4 := hide (HT3.out.trans T4)
  have HS4 := hide S4
  have HD4 := hide D4
  have B4 := HB3.out.touch T4 hqg
  clear D4 T4 S4 HT3 HS3 HB3
  have p0 := B4.cell 0 _ rfl
  have p1 := B4.cell 1 _ rfl
  have p2 := B4.cell 2 _ rfl
  have p3 := B4.cell 3 _ rfl
  have p4 := B4.cell 4 _ rfl
  have p5 := B4.cell 5 _ rfl
  have p6 := B4.cell 6 _ rfl
  have p7 := B4.cell 7 _ rfl
  have p8 := B4.cell 8 _ rfl
  have p9 := B4.cell 9 _ rfl
  have p10 := B4.cell 10 _ rfl
  have p11 := B4.cell 11 _ rfl
  have p12 := B4.cell 12 _ rfl
  have p13 := B4.cell 13 _ rfl
  have p14 := B4.cell 14 _ rfl
  have t5 := B4.thaw 5
  have t6 := B4.thaw 6
  have t7 := B4.thaw 7
  have t8 := B4.thaw 8
  have t9 := B4.thaw 9
  have t10 := B4.thaw 10
  have t11 := B4.thaw 11
  have t12 := B4.thaw 12
  have t13 := B4.thaw 13
  have t14 := B4.thaw 14
  have hq2 : w.heap.size ≤ qb := by omega
  have hq0 : w0.heap.size ≤ qb := by have := HW.out; omega
  have R : Hid (DV ((((((((((w4.setCell ⟨qb, 5, none⟩ (.int .i64 c.kind)).setCell ⟨qb, 6, none⟩ (.int .i64 c.client)).setCell ⟨qb, 7, none⟩ (.int .i64 c.req)).setCell ⟨qb, 8, none⟩ (.string c.key)).setCell ⟨qb, 9, none⟩ (.string c.key2)).setCell ⟨qb, 10, none⟩ (.string c.val)).setCell ⟨qb, 11, none⟩ (.string c.old)).setCell ⟨qb, 12, none⟩ (.int .i64 c.n)).setCell ⟨qb, 13, none⟩ (.int .i64 sq)).setCell ⟨qb, 14, none⟩ (.slice ua uk uc)) w.heap.size (.slice ua uk uc) dl ∧ Touch g w ((((((((((w4.setCell ⟨qb, 5, none⟩ (.int .i64 c.kind)).setCell ⟨qb, 6, none⟩ (.int .i64 c.client)).setCell ⟨qb, 7, none⟩ (.int .i64 c.req)).setCell ⟨qb, 8, none⟩ (.string c.key)).setCell ⟨qb, 9, none⟩ (.string c.key2)).setCell ⟨qb, 10, none⟩ (.string c.val)).setCell ⟨qb, 11, none⟩ (.string c.old)).setCell ⟨qb, 12, none⟩ (.int .i64 c.n)).setCell ⟨qb, 13, none⟩ (.int .i64 sq)).setCell ⟨qb, 14, none⟩ (.slice ua uk uc)) ∧ Scx w0 ((((((((((w4.setCell ⟨qb, 5, none⟩ (.int .i64 c.kind)).setCell ⟨qb, 6, none⟩ (.int .i64 c.client)).setCell ⟨qb, 7, none⟩ (.int .i64 c.req)).setCell ⟨qb, 8, none⟩ (.string c.key)).setCell ⟨qb, 9, none⟩ (.string c.key2)).setCell ⟨qb, 10, none⟩ (.string c.val)).setCell ⟨qb, 11, none⟩ (.string c.old)).setCell ⟨qb, 12, none⟩ (.int .i64 c.n)).setCell ⟨qb, 13, none⟩ (.int .i64 sq)).setCell ⟨qb, 14, none⟩ (.slice ua uk uc)) g (Vf v n) l3 f3) := ⟨((((((((((HD4.out.set _ hs3.out).set _ hs3.out).set _ hs3.out).set _ hs3.out).set _ hs3.out).set _ hs3.out).set _ hs3.out).set _ hs3.out).set _ hs3.out).set _ hs3.out).less (by have := hs3.out; omega), ((((((((((HT4.out.setNew _ hq2).setNew _ hq2).setNew _ hq2).setNew _ hq2).setNew _ hq2).setNew _ hq2).setNew _ hq2).setNew _ hq2).setNew _ hq2).setNew _ hq2), ((((((((((HS4.out.other _ hqg hq0).other _ hqg hq0).other _ hqg hq0).other _ hqg hq0).other _ hqg hq0).other _ hqg hq0).other _ hqg hq0).other _ hqg hq0).other _ hqg hq0).other _ hqg hq0)⟩
  clear B4 HD4 HT4 HS4
  go_wp2
  go_ret
  exact ⟨.slice ua uk uc, rfl, R.out⟩
 ·rw [if_pos (by rfl)]
  go_wp2_with fail
  refine hK.out _ _ ⟨alloc_keep (w := X.drew) _ h0, alloc_keep (w := X.drew) _ h1, alloc_keep (w := X.drew) _ h2⟩ (fun hHeld => ?_)
  clear hK K
  try simp only [Act.put, zA, zB, zC, zD, zE, zF]
  refine zR 3 fun K hK => ?_
  go_wp2_with fail
  refine (sballot_any w0 g v n l1 a 1 row num f1 _ (by omega) HE.out HKm.out ((HS1.out.drew).alloc (.cells #[.int .i64 0, .int .i64 0, .int .i64 0, .int .i64 0, .int .i64 0, .int .i64 0, .int .i64 0, .int .i64 0, .string ⟨#[]⟩, .string ⟨#[]⟩, .string ⟨#[]⟩, .string ⟨#[]⟩, .int .i64 0, .int .i64 0, .slice none 0 0] 78))).mono ?_
  rintro e w2 ⟨rfl, T2, S2⟩
  rw [e2.out] at S2 ⊢
  simp only at S2 ⊢
  have H2 := Blk.touch (Blk.on HH1.out.drew ((Below.refl X.drew.heap.size X.drew).alloc zN _)) T2 (by omega)
  refine hK.out _ _ ⟨H2.cell 0 _ rfl, H2.cell 1 _ rfl, H2.cell 2 _ rfl⟩ (fun hHeld => ?_)
  clear hK K
  try simp only [Act.put, zA, zB, zC, zD, zE, zF]
  refine tk 4 ?_
  refine zR 6 fun K hK => ?_
  have Z2 : Blk w2 X.heap.size [.int .i64 0, .int .i64 0, .int .i64 0, .int .i64 0, .int .i64 0, .int .i64 0, .int .i64 0, .int .i64 0, .string ⟨#[]⟩, .string ⟨#[]⟩, .string ⟨#[]⟩, .string ⟨#[]⟩, .int .i64 0, .int .i64 0, .slice none 0 0] := (blk_new X.drew 78 [.int .i64 0, .int .i64 0, .int .i64 0, .int .i64 0, .int .i64 0, .int .i64 0, .int .i64 0, .int .i64 0, .string ⟨#[]⟩, .string ⟨#[]⟩, .string ⟨#[]⟩, .string ⟨#[]⟩, .int .i64 0, .int .i64 0, .slice none 0 0]).touch T2 (by show X.heap.size ≠ g; omega)
  have BZ : Below X.drew.heap.size X.drew (X.drew.alloc (.cells #[.int .i64 0, .int .i64 0, .int .i64 0, .int .i64 0, .int .i64 0, .int .i64 0, .int .i64 0, .int .i64 0, .string ⟨#[]⟩, .string ⟨#[]⟩, .string ⟨#[]⟩, .string ⟨#[]⟩, .int .i64 0, .int .i64 0, .slice none 0 0] 78)) := ((Below.refl X.drew.heap.size X.drew).alloc zN _)
  have z0 := Z2.cell 0 _ rfl
  have z1 := Z2.cell 1 _ rfl
  have z2 := Z2.cell 2 _ rfl
  have z3 := Z2.cell 3 _ rfl
  have z4 := Z2.cell 4 _ rfl
  have z5 := Z2.cell 5 _ rfl
  have z6 := Z2.cell 6 _ rfl
  have z7 := Z2.cell 7 _ rfl
  have z8 := Z2.cell 8 _ rfl
  have z9 := Z2.cell 9 _ rfl
  have z10 := Z2.cell 10 _ rfl
  have z11 := Z2.cell 11 _ rfl
  have z12 := Z2.cell 12 _ rfl
  have z13 := Z2.cell 13 _ rfl
  have z14 := Z2.cell 14 _ rfl
  have y0 := Z2.thaw 0
  have y1 := Z2.thaw 1
  have y2 := Z2.thaw 2
  have y3 := Z2.thaw 3
  have y4 := Z2.thaw 4
  have y5 := Z2.thaw 5
  have y6 := Z2.thaw 6
  have y7 := Z2.thaw 7
  have y8 := Z2.thaw 8
  have y9 := Z2.thaw 9
  have y10 := Z2.thaw 10
  have y11 := Z2.thaw 11
  have y12 := Z2.thaw 12
  have y13 := Z2.thaw 13
  have y14 := Z2.thaw 14
  have hXg : X.heap.size ≠ g := by omega
  have hXH : X.heap.size ≠ w1.heap.size := by omega
  go_wp2_with fail
  refine hK.out _ _ ⟨((zS _ ⟨X.heap.size, 14, none⟩ _ (.slice none 0 0) hXH).trans ((zS _ ⟨X.heap.size, 13, none⟩ _ (.int .i64 0) hXH).trans ((zS _ ⟨X.heap.size, 12, none⟩ _ (.int .i64 0) hXH).trans ((zS _ ⟨X.heap.size, 11, none⟩ _ (.string ⟨#[]⟩) hXH).trans ((zS _ ⟨X.heap.size, 10, none⟩ _ (.string ⟨#[]⟩) hXH).trans ((zS _ ⟨X.heap.size, 9, none⟩ _ (.string ⟨#[]⟩) hXH).trans ((zS _ ⟨X.heap.size, 8, none⟩ _ (.string ⟨#[]⟩) hXH).trans ((zS _ ⟨X.heap.size, 7, none⟩ _ (.int .i64 0) hXH).trans ((zS _ ⟨X.heap.size, 6, none⟩ _ (.int .i64 0) hXH).trans ((zS _ ⟨X.heap.size, 5, none⟩ _ (.int .i64 0) hXH).trans ((zS _ ⟨X.heap.size, 4, none⟩ _ (.int .i64 y) hXH).trans ((zS _ ⟨X.heap.size, 3, none⟩ _ (.int .i64 x) hXH).trans ((zS _ ⟨X.heap.size, 2, none⟩ _ (.int .i64 num) hXH).trans ((zS _ ⟨X.heap.size, 1, none⟩ _ (.int .i64 row) hXH).trans ((zS _ ⟨X.heap.size, 0, none⟩ _ (.int .i64 1) hXH).trans (H2.cell 0 _ rfl)))))))))))))))), ((zS _ ⟨X.heap.size, 14, none⟩ _ (.slice none 0 0) hXH).trans ((zS _ ⟨X.heap.size, 13, none⟩ _ (.int .i64 0) hXH).trans ((zS _ ⟨X.heap.size, 12, none⟩ _ (.int .i64 0) hXH).trans ((zS _ ⟨X.heap.size, 11, none⟩ _ (.string ⟨#[]⟩) hXH).trans ((zS _ ⟨X.heap.size, 10, none⟩ _ (.string ⟨#[]⟩) hXH).trans ((zS _ ⟨X.heap.size, 9, none⟩ _ (.string ⟨#[]⟩) hXH).trans ((zS _ ⟨X.heap.size, 8, none⟩ _ (.string ⟨#[]⟩) hXH).trans ((zS _ ⟨X.heap.size, 7, none⟩ _ (.int .i64 0) hXH).trans ((zS _ ⟨X.heap.size, 6, none⟩ _ (.int .i64 0) hXH).trans ((zS _ ⟨X.heap.size, 5, none⟩ _ (.int .i64 0) hXH).trans ((zS _ ⟨X.heap.size, 4, none⟩ _ (.int .i64 y) hXH).trans ((zS _ ⟨X.heap.size, 3, none⟩ _ (.int .i64 x) hXH).trans ((zS _ ⟨X.heap.size, 2, none⟩ _ (.int .i64 num) hXH).trans ((zS _ ⟨X.heap.size, 1, none⟩ _ (.int .i64 row) hXH).trans ((zS _ ⟨X.heap.size, 0, none⟩ _ (.int .i64 1) hXH).trans (H2.cell 1 _ rfl)))))))))))))))), ((zS _ ⟨X.heap.size, 14, none⟩ _ (.slice none 0 0) hXH).trans ((zS _ ⟨X.heap.size, 13, none⟩ _ (.int .i64 0) hXH).trans ((zS _ ⟨X.heap.size, 12, none⟩ _ (.int .i64 0) hXH).trans ((zS _ ⟨X.heap.size, 11, none⟩ _ (.string ⟨#[]⟩) hXH).trans ((zS _ ⟨X.heap.size, 10, none⟩ _ (.string ⟨#[]⟩) hXH).trans ((zS _ ⟨X.heap.size, 9, none⟩ _ (.string ⟨#[]⟩) hXH).trans ((zS _ ⟨X.heap.size, 8, none⟩ _ (.string ⟨#[]⟩) hXH).trans ((zS _ ⟨X.heap.size, 7, none⟩ _ (.int .i64 0) hXH).trans ((zS _ ⟨X.heap.size, 6, none⟩ _ (.int .i64 0) hXH).trans ((zS _ ⟨X.heap.size, 5, none⟩ _ (.int .i64 0) hXH).trans ((zS _ ⟨X.heap.size, 4, none⟩ _ (.int .i64 y) hXH).trans ((zS _ ⟨X.heap.size, 3, none⟩ _ (.int .i64 x) hXH).trans ((zS _ ⟨X.heap.size, 2, none⟩ _ (.int .i64 num) hXH).trans ((zS _ ⟨X.heap.size, 1, none⟩ _ (.int .i64 row) hXH).trans ((zS _ ⟨X.heap.size, 0, none⟩ _ (.int .i64 1) hXH).trans (H2.cell 2 _ rfl))))))))))))))))⟩ (fun hHeld => ?_)
  clear hK K
  try simp only [Act.put, zA, zB, zC, zD, zE, zF]
  refine wpAnyH_done (by kernel_rfl) ?_ _
  refine NoPanic.normal ?_
  have hXq : w.heap.size ≤ X.heap.size := by omega
  have hX0 : w0.heap.size ≤ X.heap.size := by have := HW.out; omega
  have HT9 : Hid (Touch g w ((((((((((((((((w2.setCell ⟨X.heap.size, 0, none⟩ (.int .i64 1)).setCell ⟨X.heap.size, 1, none⟩ (.int .i64 row)).setCell ⟨X.heap.size, 2, none⟩ (.int .i64 num)).setCell ⟨X.heap.size, 3, none⟩ (.int .i64 x)).setCell ⟨X.heap.size, 4, none⟩ (.int .i64 y)).setCell ⟨X.heap.size, 5, none⟩ (.int .i64 0)).setCell ⟨X.heap.size, 6, none⟩ (.int .i64 0)).setCell ⟨X.heap.size, 7, none⟩ (.int .i64 0)).setCell ⟨X.heap.size, 8, none⟩ (.string ⟨#[]⟩)).setCell ⟨X.heap.size, 9, none⟩ (.string ⟨#[]⟩)).setCell ⟨X.heap.size, 10, none⟩ (.string ⟨#[]⟩)).setCell ⟨X.heap.size, 11, none⟩ (.string ⟨#[]⟩)).setCell ⟨X.heap.size, 12, none⟩ (.int .i64 0)).setCell ⟨X.heap.size, 13, none⟩ (.int .i64 0)).setCell ⟨X.heap.size, 14, none⟩ (.slice none 0 0)))) := ((((((((((((((((HT1.out.drew.trans (Touch.ofBelow BZ)).trans T2).setNew _ hXq).setNew _ hXq).setNew _ hXq).setNew _ hXq).setNew _ hXq).setNew _ hXq).setNew _ hXq).setNew _ hXq).setNew _ hXq).setNew _ hXq).setNew _ hXq).setNew _ hXq).setNew _ hXq).setNew _ hXq).setNew _ hXq
  have HS9 : Hid (Scx w0 ((((((((((((((((w2.setCell ⟨X.heap.size, 0, none⟩ (.int .i64 1)).setCell ⟨X.heap.size, 1, none⟩ (.int .i64 row)).setCell ⟨X.heap.size, 2, none⟩ (.int .i64 num)).setCell ⟨X.heap.size, 3, none⟩ (.int .i64 x)).setCell ⟨X.heap.size, 4, none⟩ (.int .i64 y)).setCell ⟨X.heap.size, 5, none⟩ (.int .i64 0)).setCell ⟨X.heap.size, 6, none⟩ (.int .i64 0)).setCell ⟨X.heap.size, 7, none⟩ (.int .i64 0)).setCell ⟨X.heap.size, 8, none⟩ (.string ⟨#[]⟩)).setCell ⟨X.heap.size, 9, none⟩ (.string ⟨#[]⟩)).setCell ⟨X.heap.size, 10, none⟩ (.string ⟨#[]⟩)).setCell ⟨X.heap.size, 11, none⟩ (.string ⟨#[]⟩)).setCell ⟨X.heap.size, 12, none⟩ (.int .i64 0)).setCell ⟨X.heap.size, 13, none⟩ (.int .i64 0)).setCell ⟨X.heap.size, 14, none⟩ (.slice none 0 0))) g (Vf v n) l2 f2) := (((((((((((((((S2).other _ hXg hX0).other _ hXg hX0).other _ hXg hX0).other _ hXg hX0).other _ hXg hX0).other _ hXg hX0).other _ hXg hX0).other _ hXg hX0).other _ hXg hX0).other _ hXg hX0).other _ hXg hX0).other _ hXg hX0).other _ hXg hX0).other _ hXg hX0).other _ hXg hX0
  have HB9 : Hid (Blk ((((((((((((((((w2.setCell ⟨X.heap.size, 0, none⟩ (.int .i64 1)).setCell ⟨X.heap.size, 1, none⟩ (.int .i64 row)).setCell ⟨X.heap.size, 2, none⟩ (.int .i64 num)).setCell ⟨X.heap.size, 3, none⟩ (.int .i64 x)).setCell ⟨X.heap.size, 4, none⟩ (.int .i64 y)).setCell ⟨X.heap.size, 5, none⟩ (.int .i64 0)).setCell ⟨X.heap.size, 6, none⟩ (.int .i64 0)).setCell ⟨X.heap.size, 7, none⟩ (.int .i64 0)).setCell ⟨X.heap.size, 8, none⟩ (.string ⟨#[]⟩)).setCell ⟨X.heap.size, 9, none⟩ (.string ⟨#[]⟩)).setCell ⟨X.heap.size, 10, none⟩ (.string ⟨#[]⟩)).setCell ⟨X.heap.size, 11, none⟩ (.string ⟨#[]⟩)).setCell ⟨X.heap.size, 12, none⟩ (.int .i64 0)).setCell ⟨X.heap.size, 13, none⟩ (.int .i64 0)).setCell ⟨X.heap.size, 14, none⟩ (.slice none 0 0))) (X.heap.size) [.int .i64 1, .int .i64 row, .int .i64 num, .int .i64 x, .int .i64 y, .int .i64 0, .int .i64 0, .int .i64 0, .string ⟨#[]⟩, .string ⟨#[]⟩, .string ⟨#[]⟩, .string ⟨#[]⟩, .int .i64 0, .int .i64 0, .slice none 0 0]) := (((((((((((((((Z2).setAt 0 _).setAt 1 _).setAt 2 _).setAt 3 _).setAt 4 _).setAt 5 _).setAt 6 _).setAt 7 _).setAt 8 _).setAt 9 _).setAt 10 _).setAt 11 _).setAt 12 _).setAt 13 _).setAt 14 _
  have hqg : (X.heap.size) ≠ g := by omega
  have hqw : w1.heap.size < (X.heap.size) := by omega
  clear T2 S2 H2 hHeld HS1 HT1 HH1 h0 h1 h2 Z2 BZ z0 y0 z1 y1 z2 y2 z3 y3 z4 y4 z5 y5 z6 y6 z7 y7 z8 y8 z9 y9 z10 y10 z11 y11 z12 y12 z13 y13 z14 y14
  generalize ((((((((((((((((w2.setCell ⟨X.heap.size, 0, none⟩ (.int .i64 1)).setCell ⟨X.heap.size, 1, none⟩ (.int .i64 row)).setCell ⟨X.heap.size, 2, none⟩ (.int .i64 num)).setCell ⟨X.heap.size, 3, none⟩ (.int .i64 x)).setCell ⟨X.heap.size, 4, none⟩ (.int .i64 y)).setCell ⟨X.heap.size, 5, none⟩ (.int .i64 0)).setCell ⟨X.heap.size, 6, none⟩ (.int .i64 0)).setCell ⟨X.heap.size, 7, none⟩ (.int .i64 0)).setCell ⟨X.heap.size, 8, none⟩ (.string ⟨#[]⟩)).setCell ⟨X.heap.size, 9, none⟩ (.string ⟨#[]⟩)).setCell ⟨X.heap.size, 10, none⟩ (.string ⟨#[]⟩)).setCell ⟨X.heap.size, 11, none⟩ (.string ⟨#[]⟩)).setCell ⟨X.heap.size, 12, none⟩ (.int .i64 0)).setCell ⟨X.heap.size, 13, none⟩ (.int .i64 0)).setCell ⟨X.heap.size, 14, none⟩ (.slice none 0 0))) = W9 at *
  generalize (X.heap.size) = qb at *
  have p0 := HB9.out.cell 0 _ rfl
  have p1 := HB9.out.cell 1 _ rfl
  have p2 := HB9.out.cell 2 _ rfl
  have p3 := HB9.out.cell 3 _ rfl
  have p4 := HB9.out.cell 4 _ rfl
  have p5 := HB9.out.cell 5 _ rfl
  have p6 := HB9.out.cell 6 _ rfl
  have p7 := HB9.out.cell 7 _ rfl
  have p8 := HB9.out.cell 8 _ rfl
  have p9 := HB9.out.cell 9 _ rfl
  have p10 := HB9.out.cell 10 _ rfl
  have p11 := HB9.out.cell 11 _ rfl
  have p12 := HB9.out.cell 12 _ rfl
  have p13 := HB9.out.cell 13 _ rfl
  have p14 := HB9.out.cell 14 _ rfl
  go_wp2_with fail
  refine (mayNoopP_any 1 row num x y zeroC 0 (.slice none 0 0) _).mono ?_
  rintro r w3 ⟨rfl, hb3⟩
  rw [show ((1 : Int) != 1) = false from rfl]
  have HT3 : Hid (Touch g w w3) := HT9.out.trans (Touch.ofBelow hb3)
  have HS3 := hide (HS9.out.below hb3)
  have HB3 := hide (HB9.out.on hb3)
  clear hb3 HT9 HS9 HB9 p0 p1 p2 p3 p4 p5 p6 p7 p8 p9 p10 p11 p12 p13 p14
  go_wp2_with fail
  refine (sload_any w0 g v n l2 a false f2 _ HE.out HKc.out HS3.out).mono ?_
  rintro r w4 ⟨ud, rfl, D4, T4, S4⟩
  rw [e3.out] at D4 S4 ⊢
  simp only at D4 S4 ⊢
  obtain ⟨ua, uk, uc, rfl⟩ := D4.shape
  have hs3 : Hid (qb < w3.heap.size) := HB3.out.lt
  have HT4 := hide (HT3.out.trans T4)
  have HS4 := hide S4
  have HD4 := hide D4
  have B4 := HB3.out.touch T4 hqg
  clear D4 T4 S4 HT3 HS3 HB3
  have p0 := B4.cell 0 _ rfl
  have p1 := B4.cell 1 _ rfl
  have p2 := B4.cell 2 _ rfl
  have p3 := B4.cell 3 _ rfl
  have p4 := B4.cell 4 _ rfl
  have p5 := B4.cell 5 _ rfl
  have p6 := B4.cell 6 _ rfl
  have p7 := B4.cell 7 _ rfl
  have p8 := B4.cell 8 _ rfl
  have p9 := B4.cell 9 _ rfl
  have p10 := B4.cell 10 _ rfl
  have p11 := B4.cell 11 _ rfl
  have p12 := B4.cell 12 _ rfl
  have p13 := B4.cell 13 _ rfl
  have p14 := B4.cell 14 _ rfl
  have t5 := B4.thaw 5
  have t6 := B4.thaw 6
  have t7 := B4.thaw 7
  have t8 := B4.thaw 8
  have t9 := B4.thaw 9
  have t10 := B4.thaw 10
  have t11 := B4.thaw 11
  have t12 := B4.thaw 12
  have t13 := B4.thaw 13
  have t14 := B4.thaw 14
  have hq2 : w.heap.size ≤ qb := by omega
  have hq0 : w0.heap.size ≤ qb := by have := HW.out; omega
  have R : Hid (DV ((((((((((w4.setCell ⟨qb, 5, none⟩ (.int .i64 c.kind)).setCell ⟨qb, 6, none⟩ (.int .i64 c.client)).setCell ⟨qb, 7, none⟩ (.int .i64 c.req)).setCell ⟨qb, 8, none⟩ (.string c.key)).setCell ⟨qb, 9, none⟩ (.string c.key2)).setCell ⟨qb, 10, none⟩ (.string c.val)).setCell ⟨qb, 11, none⟩ (.string c.old)).setCell ⟨qb, 12, none⟩ (.int .i64 c.n)).setCell ⟨qb, 13, none⟩ (.int .i64 sq)).setCell ⟨qb, 14, none⟩ (.slice ua uk uc)) w.heap.size (.slice ua uk uc) dl ∧ Touch g w ((((((((((w4.setCell ⟨qb, 5, none⟩ (.int .i64 c.kind)).setCell ⟨qb, 6, none⟩ (.int .i64 c.client)).setCell ⟨qb, 7, none⟩ (.int .i64 c.req)).setCell ⟨qb, 8, none⟩ (.string c.key)).setCell ⟨qb, 9, none⟩ (.string c.key2)).setCell ⟨qb, 10, none⟩ (.string c.val)).setCell ⟨qb, 11, none⟩ (.string c.old)).setCell ⟨qb, 12, none⟩ (.int .i64 c.n)).setCell ⟨qb, 13, none⟩ (.int .i64 sq)).setCell ⟨qb, 14, none⟩ (.slice ua uk uc)) ∧ Scx w0 ((((((((((w4.setCell ⟨qb, 5, none⟩ (.int .i64 c.kind)).setCell ⟨qb, 6, none⟩ (.int .i64 c.client)).setCell ⟨qb, 7, none⟩ (.int .i64 c.req)).setCell ⟨qb, 8, none⟩ (.string c.key)).setCell ⟨qb, 9, none⟩ (.string c.key2)).setCell ⟨qb, 10, none⟩ (.string c.val)).setCell ⟨qb, 11, none⟩ (.string c.old)).setCell ⟨qb, 12, none⟩ (.int .i64 c.n)).setCell ⟨qb, 13, none⟩ (.int .i64 sq)).setCell ⟨qb, 14, none⟩ (.slice ua uk uc)) g (Vf v n) l3 f3) := ⟨((((((((((HD4.out.set _ hs3.out).set _ hs3.out).set _ hs3.out).set _ hs3.out).set _ hs3.out).set _ hs3.out).set _ hs3.out).set _ hs3.out).set _ hs3.out).set _ hs3.out).less (by have := hs3.out; omega), ((((((((((HT4.out.setNew _ hq2).setNew _ hq2).setNew _ hq2).setNew _ hq2).setNew _ hq2).setNew _ hq2).setNew _ hq2).setNew _ hq2).setNew _ hq2).setNew _ hq2), ((((((((((HS4.out.other _ hqg hq0).other _ hqg hq0).other _ hqg hq0).other _ hqg hq0).other _ hqg hq0).other _ hqg hq0).other _ hqg hq0).other _ hqg hq0).other _ hqg hq0).other _ hqg hq0)⟩
  clear B4 HD4 HT4 HS4
  go_wp2
  go_ret
  exact ⟨.slice ua uk uc, rfl, R.out⟩
theorem shape_prop3 (a : Nat → Addr) (f : Int) (w : World) (row num : Int) (l1 : List Int) (f1 : Int) (x y : Int) (l2 : List Int) (f2 : Int) (c : Cm) (sq : Int) (dl l3 : List Int) (f3 : Int) (he : Errs w0 a) (hKc : Knd w0) (hK : Kmd w0) (h : Scx w0 w g (Vf v n) l f) (e1 : Hid (iHead v n l f = ((3, row, num), l1, f1))) (e2 : Hid (iBalF v n 3 row l1 f1 = ((x, y), l2, f2))) (e3 : Hid (iLoad v n true l2 f2 = ((c, sq, dl), l3, f3))) :
  Calls Tryz.prog 20 #[.pointer (some ⟨g, 0, none⟩)] w fun r w' => ∃ u, r = .returned (.iface 78 (.agg #[.int .i64 3, .int .i64 row, .int .i64 num, .int .i64 x, .int .i64 y, .int .i64 c.kind, .int .i64 c.client, .int .i64 c.req, .string c.key, .string c.key2, .string c.val, .string c.old, .int .i64 c.n, .int .i64 sq, u])) ∧ DV w' w.heap.size u dl ∧ Touch g w w' ∧ Scx w0 w' g (Vf v n) l3 f3 := by
 have HX := hide h
 have HE := hide he
 have HKm := hide hK
 have HKc := hide hKc
 have hgl := h.lt
 have HW := hide h.low.size
 clear h he hK hKc
 go_enter Tryz.func20, Tryz.ntmps20
 go_wp2_with fail
 refine (shead_any w0 g v n l a f _ HE.out HKm.out HX.out).mono ?_
 rintro r w1 ⟨rfl, T1, S1⟩
 rw [e1.out] at S1 ⊢
 simp only at S1 ⊢
 obtain ⟨X, hX⟩ : ∃ X, X = w1.alloc (.cells #[.int .i64 3, .int .i64 row, .int .i64 num] 72) := ⟨_, rfl⟩
 have BX : Hid (Below w1.heap.size w1 X) := by rw [hX]; exact (Below.refl _ _).alloc zN _
 have HT1 : Hid (Touch g w X) := T1.trans (Touch.ofBelow BX.out)
 have HS1 : Hid (Scx w0 X g (Vf v n) l1 f1) := S1.below BX.out
 have HH1 : Hid (Blk X w1.heap.size [.int .i64 3, .int .i64 row, .int .i64 num]) := by rw [hX]; exact blk_new w1 72 [.int .i64 3, .int .i64 row, .int .i64 num]
 have hw1 : w.heap.size ≤ w1.heap.size := T1.size
 clear T1 S1 HX BX
 have h0 := HH1.out.cell 0 _ rfl
 have h1 := HH1.out.cell 1 _ rfl
 have h2 := HH1.out.cell 2 _ rfl
 go_wp2
 rw [← hX]
 clear hX
 have hHl : w1.heap.size < X.heap.size := HH1.out.lt
 refine wp_region_noPanic ?_
 refine wp_region_held_drew (S := (fun w' => w'.cell? ⟨w1.heap.size, 0, none⟩ = some (.int .i64 3) ∧ w'.cell? ⟨w1.heap.size, 1, none⟩ = some (.int .i64 row) ∧ w'.cell? ⟨w1.heap.size, 2, none⟩ = some (.int .i64 num))) (by kernel_rfl) ⟨h0, h1, h2⟩ (fun hHeld => ?_)
 refine tk 0 ?_
 refine tk 1 ?_
 refine tk 2 ?_
 refine wpAnyH_ready (rs := [3, 5]) (by kernel_rfl) (by simp) ?_
 refine AllReadyH.cons rfl (fun K hK => ?_) (AllReadyH.cons rfl (fun K hK => ?_) AllReadyH.nil)
 ·rw [if_pos (by rfl)]
  go_wp2_with fail
  refine (sballot_any w0 g v n l1 a 3 row num f1 _ (by omega) HE.out HKm.out (HS1.out.drew)).mono ?_
  rintro e w2 ⟨rfl, T2, S2⟩
  rw [e2.out] at S2 ⊢
  simp only at S2 ⊢
  have H2 := Blk.touch (HH1.out.drew) T2 (by omega)
  refine hK.out _ _ ⟨H2.cell 0 _ rfl, H2.cell 1 _ rfl, H2.cell 2 _ rfl⟩ (fun hHeld => ?_)
  clear hK K
  try simp only [Act.put, zA, zB, zC, zD, zE, zF]
  refine tk 4 ?_
  refine zR 5 fun K hK => ?_
  go_wp2_with fail
  refine hK.out _ _ ⟨alloc_keep _ (H2.cell 0 _ rfl), alloc_keep _ (H2.cell 1 _ rfl), alloc_keep _ (H2.cell 2 _ rfl)⟩ (fun hHeld => ?_)
  clear hK K
  try simp only [Act.put, zA, zB, zC, zD, zE, zF]
  refine zR 6 fun K hK => ?_
  go_wp2_with fail
  refine hK.out _ _ ⟨alloc_keep _ (H2.cell 0 _ rfl), alloc_keep _ (H2.cell 1 _ rfl), alloc_keep _ (H2.cell 2 _ rfl)⟩ (fun hHeld => ?_)
  clear hK K
  try simp only [Act.put, zA, zB, zC, zD, zE, zF]
  refine wpAnyH_done (by kernel_rfl) ?_ _
  refine NoPanic.normal ?_
  have hw2 : X.heap.size ≤ w2.heap.size := T2.size
  have hXw : w1.heap.size < X.heap.size := HH1.out.lt
  have HT9 : Hid (Touch g w (w2.alloc (.cells #[.int .i64 3, .int .i64 row, .int .i64 num, .int .i64 x, .int .i64 y, .int .i64 0, .int .i64 0, .int .i64 0, .string ⟨#[]⟩, .string ⟨#[]⟩, .string ⟨#[]⟩, .string ⟨#[]⟩, .int .i64 0, .int .i64 0, .slice none 0 0] 78))) := (HT1.out.drew.trans T2).trans (Touch.ofBelow ((Below.refl w2.heap.size w2).alloc zN _))
  have HS9 : Hid (Scx w0 (w2.alloc (.cells #[.int .i64 3, .int .i64 row, .int .i64 num, .int .i64 x, .int .i64 y, .int .i64 0, .int .i64 0, .int .i64 0, .string ⟨#[]⟩, .string ⟨#[]⟩, .string ⟨#[]⟩, .string ⟨#[]⟩, .int .i64 0, .int .i64 0, .slice none 0 0] 78)) g (Vf v n) l2 f2) := S2.below ((Below.refl w2.heap.size w2).alloc zN _)
  have HB9 : Hid (Blk (w2.alloc (.cells #[.int .i64 3, .int .i64 row, .int .i64 num, .int .i64 x, .int .i64 y, .int .i64 0, .int .i64 0, .int .i64 0, .string ⟨#[]⟩, .string ⟨#[]⟩, .string ⟨#[]⟩, .string ⟨#[]⟩, .int .i64 0, .int .i64 0, .slice none 0 0] 78)) (w2.heap.size) [.int .i64 3, .int .i64 row, .int .i64 num, .int .i64 x, .int .i64 y, .int .i64 0, .int .i64 0, .int .i64 0, .string ⟨#[]⟩, .string ⟨#[]⟩, .string ⟨#[]⟩, .string ⟨#[]⟩, .int .i64 0, .int .i64 0, .slice none 0 0]) := blk_new w2 78 [.int .i64 3, .int .i64 row, .int .i64 num, .int .i64 x, .int .i64 y, .int .i64 0, .int .i64 0, .int .i64 0, .string ⟨#[]⟩, .string ⟨#[]⟩, .string ⟨#[]⟩, .string ⟨#[]⟩, .int .i64 0, .int .i64 0, .slice none 0 0]
  have hqg : (w2.heap.size) ≠ g := by omega
  have hqw : w1.heap.size < (w2.heap.size) := by omega
  clear T2 S2 H2 hHeld HS1 HT1 HH1 h0 h1 h2
  generalize (w2.alloc (.cells #[.int .i64 3, .int .i64 row, .int .i64 num, .int .i64 x, .int .i64 y, .int .i64 0, .int .i64 0, .int .i64 0, .string ⟨#[]⟩, .string ⟨#[]⟩, .string ⟨#[]⟩, .string ⟨#[]⟩, .int .i64 0, .int .i64 0, .slice none 0 0] 78)) = W9 at *
  generalize (w2.heap.size) = qb at *
  have p0 := HB9.out.cell 0 _ rfl
  have p1 := HB9.out.cell 1 _ rfl
  have p2 := HB9.out.cell 2 _ rfl
  have p3 := HB9.out.cell 3 _ rfl
  have p4 := HB9.out.cell 4 _ rfl
  have p5 := HB9.out.cell 5 _ rfl
  have p6 := HB9.out.cell 6 _ rfl
  have p7 := HB9.out.cell 7 _ rfl
  have p8 := HB9.out.cell 8 _ rfl
  have p9 := HB9.out.cell 9 _ rfl
  have p10 := HB9.out.cell 10 _ rfl
  have p11 := HB9.out.cell 11 _ rfl
  have p12 := HB9.out.cell 12 _ rfl
  have p13 := HB9.out.cell 13 _ rfl
  have p14 := HB9.out.cell 14 _ rfl
  go_wp2_with fail
  refine (mayNoopP_any 3 row num x y zeroC 0 (.slice none 0 0) _).mono ?_
  rintro r w3 ⟨rfl, hb3⟩
  rw [show ((3 : Int) != 1) = true from rfl]
  have HT3 : Hid (Touch g w w3) := HT9.out.trans (Touch.ofBelow hb3)
  have HS3 := hide (HS9.out.below hb3)
  have HB3 := hide (HB9.out.on hb3)
  clear hb3 HT9 HS9 HB9 p0 p1 p2 p3 p4 p5 p6 p7 p8 p9 p10 p11 p12 p13 p14
  go_wp2_with fail
  refine (sload_any w0 g v n l2 a true f2 _ HE.out HKc.out HS3.out).mono ?_
  rintro r w4 ⟨ud, rfl, D4, T4, S4⟩
  rw [e3.out] at D4 S4 ⊢
  simp only at D4 S4 ⊢
  obtain ⟨ua, uk, uc, rfl⟩ := D4.shape
  have hs3 : Hid (qb < w3.heap.size) := HB3.out.lt
  have HT4 := hide (HT3.out.trans T4)
  have HS4 := hide S4
  have HD4 := hide D4
  have B4 := HB3.out.touch T4 hqg
  clear D4 T4 S4 HT3 HS3 HB3
  have p0 := B4.cell 0 _ rfl
  have p1 := B4.cell 1 _ rfl
  have p2 := B4.cell 2 _ rfl
  have p3 := B4.cell 3 _ rfl
  have p4 := B4.cell 4 _ rfl
  have p5 := B4.cell 5 _ rfl
  have p6 := B4.cell 6 _ rfl
  have p7 := B4.cell 7 _ rfl
  have p8 := B4.cell 8 _ rfl
  have p9 := B4.cell 9 _ rfl
  have p10 := B4.cell 10 _ rfl
  have p11 := B4.cell 11 _ rfl
  have p12 := B4.cell 12 _ rfl
  have p13 := B4.cell 13 _ rfl
  have p14 := B4.cell 14 _ rfl
  have t5 := B4.thaw 5
  have t6 := B4.thaw 6
  have t7 := B4.thaw 7
  have t8 := B4.thaw 8
  have t9 := B4.thaw 9
  have t10 := B4.thaw 10
  have t11 := B4.thaw 11
  have t12 := B4.thaw 12
  have t13 := B4.thaw 13
  have t14 := B4.thaw 14
  have hq2 : w.heap.size ≤ qb := by omega
  have hq0 : w0.heap.size ≤ qb := by have := HW.out; omega
  have R : Hid (DV ((((((((((w4.setCell ⟨qb, 5, none⟩ (.int .i64 c.kind)).setCell ⟨qb, 6, none⟩ (.int .i64 c.client)).setCell ⟨qb, 7, none⟩ (.int .i64 c.req)).setCell ⟨qb, 8, none⟩ (.string c.key)).setCell ⟨qb, 9, none⟩ (.string c.key2)).setCell ⟨qb, 10, none⟩ (.string c.val)).setCell ⟨qb, 11, none⟩ (.string c.old)).setCell ⟨qb, 12, none⟩ (.int .i64 c.n)).setCell ⟨qb, 13, none⟩ (.int .i64 sq)).setCell ⟨qb, 14, none⟩ (.slice ua uk uc)) w.heap.size (.slice ua uk uc) dl ∧ Touch g w ((((((((((w4.setCell ⟨qb, 5, none⟩ (.int .i64 c.kind)).setCell ⟨qb, 6, none⟩ (.int .i64 c.client)).setCell ⟨qb, 7, none⟩ (.int .i64 c.req)).setCell ⟨qb, 8, none⟩ (.string c.key)).setCell ⟨qb, 9, none⟩ (.string c.key2)).setCell ⟨qb, 10, none⟩ (.string c.val)).setCell ⟨qb, 11, none⟩ (.string c.old)).setCell ⟨qb, 12, none⟩ (.int .i64 c.n)).setCell ⟨qb, 13, none⟩ (.int .i64 sq)).setCell ⟨qb, 14, none⟩ (.slice ua uk uc)) ∧ Scx w0 ((((((((((w4.setCell ⟨qb, 5, none⟩ (.int .i64 c.kind)).setCell ⟨qb, 6, none⟩ (.int .i64 c.client)).setCell ⟨qb, 7, none⟩ (.int .i64 c.req)).setCell ⟨qb, 8, none⟩ (.string c.key)).setCell ⟨qb, 9, none⟩ (.string c.key2)).setCell ⟨qb, 10, none⟩ (.string c.val)).setCell ⟨qb, 11, none⟩ (.string c.old)).setCell ⟨qb, 12, none⟩ (.int .i64 c.n)).setCell ⟨qb, 13, none⟩ (.int .i64 sq)).setCell ⟨qb, 14, none⟩ (.slice ua uk uc)) g (Vf v n) l3 f3) := ⟨((((((((((HD4.out.set _ hs3.out).set _ hs3.out).set _ hs3.out).set _ hs3.out).set _ hs3.out).set _ hs3.out).set _ hs3.out).set _ hs3.out).set _ hs3.out).set _ hs3.out).less (by have := hs3.out; omega), ((((((((((HT4.out.setNew _ hq2).setNew _ hq2).setNew _ hq2).setNew _ hq2).setNew _ hq2).setNew _ hq2).setNew _ hq2).setNew _ hq2).setNew _ hq2).setNew _ hq2), ((((((((((HS4.out.other _ hqg hq0).other _ hqg hq0).other _ hqg hq0).other _ hqg hq0).other _ hqg hq0).other _ hqg hq0).other _ hqg hq0).other _ hqg hq0).other _ hqg hq0).other _ hqg hq0)⟩
  clear B4 HD4 HT4 HS4
  go_wp2
  go_ret
  exact ⟨.slice ua uk uc, rfl, R.out⟩
 ·rw [if_pos (by rfl)]
  go_wp2_with fail
  refine hK.out _ _ ⟨alloc_keep (w := X.drew) _ h0, alloc_keep (w := X.drew) _ h1, alloc_keep (w := X.drew) _ h2⟩ (fun hHeld => ?_)
  clear hK K
  try simp only [Act.put, zA, zB, zC, zD, zE, zF]
  refine zR 3 fun K hK => ?_
  go_wp2_with fail
  refine (sballot_any w0 g v n l1 a 3 row num f1 _ (by omega) HE.out HKm.out ((HS1.out.drew).alloc (.cells #[.int .i64 0, .int .i64 0, .int .i64 0, .int .i64 0, .int .i64 0, .int .i64 0, .int .i64 0, .int .i64 0, .string ⟨#[]⟩, .string ⟨#[]⟩, .string ⟨#[]⟩, .string ⟨#[]⟩, .int .i64 0, .int .i64 0, .slice none 0 0] 78))).mono ?_
  rintro e w2 ⟨rfl, T2, S2⟩
  rw [e2.out] at S2 ⊢
  simp only at S2 ⊢
  have H2 := Blk.touch (Blk.on HH1.out.drew ((Below.refl X.drew.heap.size X.drew).alloc zN _)) T2 (by omega)
  refine hK.out _ _ ⟨H2.cell 0 _ rfl, H2.cell 1 _ rfl, H2.cell 2 _ rfl⟩ (fun hHeld => ?_)
  clear hK K
  try simp only [Act.put, zA, zB, zC, zD, zE, zF]
  refine tk 4 ?_
  refine zR 6 fun K hK => ?_
  have Z2 : Blk w2 X.heap.size [.int .i64 0, .int .i64 0, .int .i64 0, .int .i64 0, .int .i64 0, .int .i64 0, .int .i64 0, .int .i64 0, .string ⟨#[]⟩, .string ⟨#[]⟩, .string ⟨#[]⟩, .string ⟨#[]⟩, .int .i64 0, .int .i64 0, .slice none 0 0] := (blk_new X.drew 78 [.int .i64 0, .int .i64 0, .int .i64 0, .int .i64 0, .int .i64 0, .int .i64 0, .int .i64 0, .int .i64 0, .string ⟨#[]⟩, .string ⟨#[]⟩, .string ⟨#[]⟩, .string ⟨#[]⟩, .int .i64 0, .int .i64 0, .slice none 0 0]).touch T2 (by show X.heap.size ≠ g; omega)
  have BZ : Below X.drew.heap.size X.drew (X.drew.alloc (.cells #[.int .i64 0, .int .i64 0, .int .i64 0, .int .i64 0, .int .i64 0, .int .i64 0, .int .i64 0, .int .i64 0, .string ⟨#[]⟩, .string ⟨#[]⟩, .string ⟨#[]⟩, .string ⟨#[]⟩, .int .i64 0, .int .i64 0, .slice none 0 0] 78)) := ((Below.refl X.drew.heap.size X.drew).alloc zN _)
  have z0 := Z2.cell 0 _ rfl
  have z1 := Z2.cell 1 _ rfl
  have z2 := Z2.cell 2 _ rfl
  have z3 := Z2.cell 3 _ rfl
  have z4 := Z2.cell 4 _ rfl
  have z5 := Z2.cell 5 _ rfl
  have z6 := Z2.cell 6 _ rfl
  have z7 := Z2.cell 7 _ rfl
  have z8 := Z2.cell 8 _ rfl
  have z9 := Z2.cell 9 _ rfl
  have z10 := Z2.cell 10 _ rfl
  have z11 := Z2.cell 11 _ rfl
  have z12 := Z2.cell 12 _ rfl
  have z13 := Z2.cell 13 _ rfl
  have z14 := Z2.cell 14 _ rfl
  have y0 := Z2.thaw 0
  have y1 := Z2.thaw 1
  have y2 := Z2.thaw 2
  have y3 := Z2.thaw 3
  have y4 := Z2.thaw 4
  have y5 := Z2.thaw 5
  have y6 := Z2.thaw 6
  have y7 := Z2.thaw 7
  have y8 := Z2.thaw 8
  have y9 := Z2.thaw 9
  have y10 := Z2.thaw 10
  have y11 := Z2.thaw 11
  have y12 := Z2.thaw 12
  have y13 := Z2.thaw 13
  have y14 := Z2.thaw 14
  have hXg : X.heap.size ≠ g := by omega
  have hXH : X.heap.size ≠ w1.heap.size := by omega
  go_wp2_with fail
  refine hK.out _ _ ⟨((zS _ ⟨X.heap.size, 14, none⟩ _ (.slice none 0 0) hXH).trans ((zS _ ⟨X.heap.size, 13, none⟩ _ (.int .i64 0) hXH).trans ((zS _ ⟨X.heap.size, 12, none⟩ _ (.int .i64 0) hXH).trans ((zS _ ⟨X.heap.size, 11, none⟩ _ (.string ⟨#[]⟩) hXH).trans ((zS _ ⟨X.heap.size, 10, none⟩ _ (.string ⟨#[]⟩) hXH).trans ((zS _ ⟨X.heap.size, 9, none⟩ _ (.string ⟨#[]⟩) hXH).trans ((zS _ ⟨X.heap.size, 8, none⟩ _ (.string ⟨#[]⟩) hXH).trans ((zS _ ⟨X.heap.size, 7, none⟩ _ (.int .i64 0) hXH).trans ((zS _ ⟨X.heap.size, 6, none⟩ _ (.int .i64 0) hXH).trans ((zS _ ⟨X.heap.size, 5, none⟩ _ (.int .i64 0) hXH).trans ((zS _ ⟨X.heap.size, 4, none⟩ _ (.int .i64 y) hXH).trans ((zS _ ⟨X.heap.size, 3, none⟩ _ (.int .i64 x) hXH).trans ((zS _ ⟨X.heap.size, 2, none⟩ _ (.int .i64 num) hXH).trans ((zS _ ⟨X.heap.size, 1, none⟩ _ (.int .i64 row) hXH).trans ((zS _ ⟨X.heap.size, 0, none⟩ _ (.int .i64 3) hXH).trans (H2.cell 0 _ rfl)))))))))))))))), ((zS _ ⟨X.heap.size, 14, none⟩ _ (.slice none 0 0) hXH).trans ((zS _ ⟨X.heap.size, 13, none⟩ _ (.int .i64 0) hXH).trans ((zS _ ⟨X.heap.size, 12, none⟩ _ (.int .i64 0) hXH).trans ((zS _ ⟨X.heap.size, 11, none⟩ _ (.string ⟨#[]⟩) hXH).trans ((zS _ ⟨X.heap.size, 10, none⟩ _ (.string ⟨#[]⟩) hXH).trans ((zS _ ⟨X.heap.size, 9, none⟩ _ (.string ⟨#[]⟩) hXH).trans ((zS _ ⟨X.heap.size, 8, none⟩ _ (.string ⟨#[]⟩) hXH).trans ((zS _ ⟨X.heap.size, 7, none⟩ _ (.int .i64 0) hXH).trans ((zS _ ⟨X.heap.size, 6, none⟩ _ (.int .i64 0) hXH).trans ((zS _ ⟨X.heap.size, 5, none⟩ _ (.int .i64 0) hXH).trans ((zS _ ⟨X.heap.size, 4, none⟩ _ (.int .i64 y) hXH).trans ((zS _ ⟨X.heap.size, 3, none⟩ _ (.int .i64 x) hXH).trans ((zS _ ⟨X.heap.size, 2, none⟩ _ (.int .i64 num) hXH).trans ((zS _ ⟨X.heap.size, 1, none⟩ _ (.int .i64 row) hXH).trans ((zS _ ⟨X.heap.size, 0, none⟩ _ (.int .i64 3) hXH).trans (H2.cell 1 _ rfl)))))))))))))))), ((zS _ ⟨X.heap.size, 14, none⟩ _ (.slice none 0 0) hXH).trans ((zS _ ⟨X.heap.size, 13, none⟩ _ (.int .i64 0) hXH).trans ((zS _ ⟨X.heap.size, 12, none⟩ _ (.int .i64 0) hXH).trans ((zS _ ⟨X.heap.size, 11, none⟩ _ (.string ⟨#[]⟩) hXH).trans ((zS _ ⟨X.heap.size, 10, none⟩ _ (.string ⟨#[]⟩) hXH).trans ((zS _ ⟨X.heap.size, 9, none⟩ _ (.string ⟨#[]⟩) hXH).trans ((zS _ ⟨X.heap.size, 8, none⟩ _ (.string ⟨#[]⟩) hXH).trans ((zS _ ⟨X.heap.size, 7, none⟩ _ (.int .i64 0) hXH).trans ((zS _ ⟨X.heap.size, 6, none⟩ _ (.int .i64 0) hXH).trans ((zS _ ⟨X.heap.size, 5, none⟩ _ (.int .i64 0) hXH).trans ((zS _ ⟨X.heap.size, 4, none⟩ _ (.int .i64 y) hXH).trans ((zS _ ⟨X.heap.size, 3, none⟩ _ (.int .i64 x) hXH).trans ((zS _ ⟨X.heap.size, 2, none⟩ _ (.int .i64 num) hXH).trans ((zS _ ⟨X.heap.size, 1, none⟩ _ (.int .i64 row) hXH).trans ((zS _ ⟨X.heap.size, 0, none⟩ _ (.int .i64 3) hXH).trans (H2.cell 2 _ rfl))))))))))))))))⟩ (fun hHeld => ?_)
  clear hK K
  try simp only [Act.put, zA, zB, zC, zD, zE, zF]
  refine wpAnyH_done (by kernel_rfl) ?_ _
  refine NoPanic.normal ?_
  have hXq : w.heap.size ≤ X.heap.size := by omega
  have hX0 : w0.heap.size ≤ X.heap.size := by have := HW.out; omega
  have HT9 : Hid (Touch g w ((((((((((((((((w2.setCell ⟨X.heap.size, 0, none⟩ (.int .i64 3)).setCell ⟨X.heap.size, 1, none⟩ (.int .i64 row)).setCell ⟨X.heap.size, 2, none⟩ (.int .i64 num)).setCell ⟨X.heap.size, 3, none⟩ (.int .i64 x)).setCell ⟨X.heap.size, 4, none⟩ (.int .i64 y)).setCell ⟨X.heap.size, 5, none⟩ (.int .i64 0)).setCell ⟨X.heap.size, 6, none⟩ (.int .i64 0)).setCell ⟨X.heap.size, 7, none⟩ (.int .i64 0)).setCell ⟨X.heap.size, 8, none⟩ (.string ⟨#[]⟩)).setCell ⟨X.heap.size, 9, none⟩ (.string ⟨#[]⟩)).setCell ⟨X.heap.size, 10, none⟩ (.string ⟨#[]⟩)).setCell ⟨X.heap.size, 11, none⟩ (.string ⟨#[]⟩)).setCell ⟨X.heap.size, 12, none⟩ (.int .i64 0)).setCell ⟨X.heap.size, 13, none⟩ (.int .i64 0)).setCell ⟨X.heap.size, 14, none⟩ (.slice none 0 0)))) := ((((((((((((((((HT1.out.drew.trans (Touch.ofBelow BZ)).trans T2).setNew _ hXq).setNew _ hXq).setNew _ hXq).setNew _ hXq).setNew _ hXq).setNew _ hXq).setNew _ hXq).setNew _ hXq).setNew _ hXq).setNew _ hXq).setNew _ hXq).setNew _ hXq).setNew _ hXq).setNew _ hXq).setNew _ hXq
  have HS9 : Hid (Scx w0 ((((((((((((((((w2.setCell ⟨X.heap.size, 0, none⟩ (.int .i64 3)).setCell ⟨X.heap.size, 1, none⟩ (.int .i64 row)).setCell ⟨X.heap.size, 2, none⟩ (.int .i64 num)).setCell ⟨X.heap.size, 3, none⟩ (.int .i64 x)).setCell ⟨X.heap.size, 4, none⟩ (.int .i64 y)).setCell ⟨X.heap.size, 5, none⟩ (.int .i64 0)).setCell ⟨X.heap.size, 6, none⟩ (.int .i64 0)).setCell ⟨X.heap.size, 7, none⟩ (.int .i64 0)).setCell ⟨X.heap.size, 8, none⟩ (.string ⟨#[]⟩)).setCell ⟨X.heap.size, 9, none⟩ (.string ⟨#[]⟩)).setCell ⟨X.heap.size, 10, none⟩ (.string ⟨#[]⟩)).setCell ⟨X.heap.size, 11, none⟩ (.string ⟨#[]⟩)).setCell ⟨X.heap.size, 12, none⟩ (.int .i64 0)).setCell ⟨X.heap.size, 13, none⟩ (.int .i64 0)).setCell ⟨X.heap.size, 14, none⟩ (.slice none 0 0))) g (Vf v n) l2 f2) := (((((((((((((((S2).other _ hXg hX0).other _ hXg hX0).other _ hXg hX0).other _ hXg hX0).other _ hXg hX0).other _ hXg hX0).other _ hXg hX0).other _ hXg hX0).other _ hXg hX0).other _ hXg hX0).other _ hXg hX0).other _ hXg hX0).other _ hXg hX0).other _ hXg hX0).other _ hXg hX0
  have HB9 : Hid (Blk ((((((((((((((((w2.setCell ⟨X.heap.size, 0, none⟩ (.int .i64 3)).setCell ⟨X.heap.size, 1, none⟩ (.int .i64 row)).setCell ⟨X.heap.size, 2, none⟩ (.int .i64 num)).setCell ⟨X.heap.size, 3, none⟩ (.int .i64 x)).setCell ⟨X.heap.size, 4, none⟩ (.int .i64 y)).setCell ⟨X.heap.size, 5, none⟩ (.int .i64 0)).setCell ⟨X.heap.size, 6, none⟩ (.int .i64 0)).setCell ⟨X.heap.size, 7, none⟩ (.int .i64 0)).setCell ⟨X.heap.size, 8, none⟩ (.string ⟨#[]⟩)).setCell ⟨X.heap.size, 9, none⟩ (.string ⟨#[]⟩)).setCell ⟨X.heap.size, 10, none⟩ (.string ⟨#[]⟩)).setCell ⟨X.heap.size, 11, none⟩ (.string ⟨#[]⟩)).setCell ⟨X.heap.size, 12, none⟩ (.int .i64 0)).setCell ⟨X.heap.size, 13, none⟩ (.int .i64 0)).setCell ⟨X.heap.size, 14, none⟩ (.slice none 0 0))) (X.heap.size) [.int .i64 3, .int .i64 row, .int .i64 num, .int .i64 x, .int .i64 y, .int .i64 0, .int .i64 0, .int .i64 0, .string ⟨#[]⟩, .string ⟨#[]⟩, .string ⟨#[]⟩, .string ⟨#[]⟩, .int .i64 0, .int .i64 0, .slice none 0 0]) := (((((((((((((((Z2).setAt 0 _).setAt 1 _).setAt 2 _).setAt 3 _).setAt 4 _).setAt 5 _).setAt 6 _).setAt 7 _).setAt 8 _).setAt 9 _).setAt 10 _).setAt 11 _).setAt 12 _).setAt 13 _).setAt 14 _
  have hqg : (X.heap.size) ≠ g := by omega
  have hqw : w1.heap.size < (X.heap.size) := by omega
  clear T2 S2 H2 hHeld HS1 HT1 HH1 h0 h1 h2 Z2 BZ z0 y0 z1 y1 z2 y2 z3 y3 z4 y4 z5 y5 z6 y6 z7 y7 z8 y8 z9 y9 z10 y10 z11 y11 z12 y12 z13 y13 z14 y14
  generalize ((((((((((((((((w2.setCell ⟨X.heap.size, 0, none⟩ (.int .i64 3)).setCell ⟨X.heap.size, 1, none⟩ (.int .i64 row)).setCell ⟨X.heap.size, 2, none⟩ (.int .i64 num)).setCell ⟨X.heap.size, 3, none⟩ (.int .i64 x)).setCell ⟨X.heap.size, 4, none⟩ (.int .i64 y)).setCell ⟨X.heap.size, 5, none⟩ (.int .i64 0)).setCell ⟨X.heap.size, 6, none⟩ (.int .i64 0)).setCell ⟨X.heap.size, 7, none⟩ (.int .i64 0)).setCell ⟨X.heap.size, 8, none⟩ (.string ⟨#[]⟩)).setCell ⟨X.heap.size, 9, none⟩ (.string ⟨#[]⟩)).setCell ⟨X.heap.size, 10, none⟩ (.string ⟨#[]⟩)).setCell ⟨X.heap.size, 11, none⟩ (.string ⟨#[]⟩)).setCell ⟨X.heap.size, 12, none⟩ (.int .i64 0)).setCell ⟨X.heap.size, 13, none⟩ (.int .i64 0)).setCell ⟨X.heap.size, 14, none⟩ (.slice none 0 0))) = W9 at *
  generalize (X.heap.size) = qb at *
  have p0 := HB9.out.cell 0 _ rfl
  have p1 := HB9.out.cell 1 _ rfl
  have p2 := HB9.out.cell 2 _ rfl
  have p3 := HB9.out.cell 3 _ rfl
  have p4 := HB9.out.cell 4 _ rfl
  have p5 := HB9.out.cell 5 _ rfl
  have p6 := HB9.out.cell 6 _ rfl
  have p7 := HB9.out.cell 7 _ rfl
  have p8 := HB9.out.cell 8 _ rfl
  have p9 := HB9.out.cell 9 _ rfl
  have p10 := HB9.out.cell 10 _ rfl
  have p11 := HB9.out.cell 11 _ rfl
  have p12 := HB9.out.cell 12 _ rfl
  have p13 := HB9.out.cell 13 _ rfl
  have p14 := HB9.out.cell 14 _ rfl
  go_wp2_with fail
  refine (mayNoopP_any 3 row num x y zeroC 0 (.slice none 0 0) _).mono ?_
  rintro r w3 ⟨rfl, hb3⟩
  rw [show ((3 : Int) != 1) = true from rfl]
  have HT3 : Hid (Touch g w w3) := HT9.out.trans (Touch.ofBelow hb3)
  have HS3 := hide (HS9.out.below hb3)
  have HB3 := hide (HB9.out.on hb3)
  clear hb3 HT9 HS9 HB9 p0 p1 p2 p3 p4 p5 p6 p7 p8 p9 p10 p11 p12 p13 p14
  go_wp2_with fail
  refine (sload_any w0 g v n l2 a true f2 _ HE.out HKc.out HS3.out).mono ?_
  rintro r w4 ⟨ud, rfl, D4, T4, S4⟩
  rw [e3.out] at D4 S4 ⊢
  simp only at D4 S4 ⊢
  obtain ⟨ua, uk, uc, rfl⟩ := D4.shape
  have hs3 : Hid (qb < w3.heap.size) := HB3.out.lt
  have HT4 := hide (HT3.out.trans T4)
  have HS4 := hide S4
  have HD4 := hide D4
  have B4 := HB3.out.touch T4 hqg
  clear D4 T4 S4 HT3 HS3 HB3
  have p0 := B4.cell 0 _ rfl
  have p1 := B4.cell 1 _ rfl
  have p2 := B4.cell 2 _ rfl
  have p3 := B4.cell 3 _ rfl
  have p4 := B4.cell 4 _ rfl
  have p5 := B4.cell 5 _ rfl
  have p6 := B4.cell 6 _ rfl
  have p7 := B4.cell 7 _ rfl
  have p8 := B4.cell 8 _ rfl
  have p9 := B4.cell 9 _ rfl
  have p10 := B4.cell 10 _ rfl
  have p11 := B4.cell 11 _ rfl
  have p12 := B4.cell 12 _ rfl
  have p13 := B4.cell 13 _ rfl
  have p14 := B4.cell 14 _ rfl
  have t5 := B4.thaw 5
  have t6 := B4.thaw 6
  have t7 := B4.thaw 7
  have t8 := B4.thaw 8
  have t9 := B4.thaw 9
  have t10 := B4.thaw 10
  have t11 := B4.thaw 11
  have t12 := B4.thaw 12
  have t13 := B4.thaw 13
  have t14 := B4.thaw 14
  have hq2 : w.heap.size ≤ qb := by omega
  have hq0 : w0.heap.size ≤ qb := by have := HW.out; omega
  have R : Hid (DV ((((((((((w4.setCell ⟨qb, 5, none⟩ (.int .i64 c.kind)).setCell ⟨qb, 6, none⟩ (.int .i64 c.client)).setCell ⟨qb, 7, none⟩ (.int .i64 c.req)).setCell ⟨qb, 8, none⟩ (.string c.key)).setCell ⟨qb, 9, none⟩ (.string c.key2)).setCell ⟨qb, 10, none⟩ (.string c.val)).setCell ⟨qb, 11, none⟩ (.string c.old)).setCell ⟨qb, 12, none⟩ (.int .i64 c.n)).setCell ⟨qb, 13, none⟩ (.int .i64 sq)).setCell ⟨qb, 14, none⟩ (.slice ua uk uc)) w.heap.size (.slice ua uk uc) dl ∧ Touch g w ((((((((((w4.setCell ⟨qb, 5, none⟩ (.int .i64 c.kind)).setCell ⟨qb, 6, none⟩ (.int .i64 c.client)).setCell ⟨qb, 7, none⟩ (.int .i64 c.req)).setCell ⟨qb, 8, none⟩ (.string c.key)).setCell ⟨qb, 9, none⟩ (.string c.key2)).setCell ⟨qb, 10, none⟩ (.string c.val)).setCell ⟨qb, 11, none⟩ (.string c.old)).setCell ⟨qb, 12, none⟩ (.int .i64 c.n)).setCell ⟨qb, 13, none⟩ (.int .i64 sq)).setCell ⟨qb, 14, none⟩ (.slice ua uk uc)) ∧ Scx w0 ((((((((((w4.setCell ⟨qb, 5, none⟩ (.int .i64 c.kind)).setCell ⟨qb, 6, none⟩ (.int .i64 c.client)).setCell ⟨qb, 7, none⟩ (.int .i64 c.req)).setCell ⟨qb, 8, none⟩ (.string c.key)).setCell ⟨qb, 9, none⟩ (.string c.key2)).setCell ⟨qb, 10, none⟩ (.string c.val)).setCell ⟨qb, 11, none⟩ (.string c.old)).setCell ⟨qb, 12, none⟩ (.int .i64 c.n)).setCell ⟨qb, 13, none⟩ (.int .i64 sq)).setCell ⟨qb, 14, none⟩ (.slice ua uk uc)) g (Vf v n) l3 f3) := ⟨((((((((((HD4.out.set _ hs3.out).set _ hs3.out).set _ hs3.out).set _ hs3.out).set _ hs3.out).set _ hs3.out).set _ hs3.out).set _ hs3.out).set _ hs3.out).set _ hs3.out).less (by have := hs3.out; omega), ((((((((((HT4.out.setNew _ hq2).setNew _ hq2).setNew _ hq2).setNew _ hq2).setNew _ hq2).setNew _ hq2).setNew _ hq2).setNew _ hq2).setNew _ hq2).setNew _ hq2), ((((((((((HS4.out.other _ hqg hq0).other _ hqg hq0).other _ hqg hq0).other _ hqg hq0).other _ hqg hq0).other _ hqg hq0).other _ hqg hq0).other _ hqg hq0).other _ hqg hq0).other _ hqg hq0)⟩
  clear B4 HD4 HT4 HS4
  go_wp2
  go_ret
  exact ⟨.slice ua uk uc, rfl, R.out⟩
theorem shape_est (a : Nat → Addr) (f : Int) (w : World) (row num : Int) (l1 : List Int) (f1 : Int) (x y : Int) (l2 : List Int) (f2 : Int) (sq : Int) (dl l3 : List Int) (f3 : Int) (he : Errs w0 a) (hKc : Knd w0) (hK : Kmd w0) (h : Scx w0 w g (Vf v n) l f) (e1 : Hid (iHead v n l f = ((2, row, num), l1, f1))) (e2 : Hid (iBalF v n 2 row l1 f1 = ((x, y), l2, f2))) (e3 : Hid (iAttr v n false l2 f2 = ((sq, dl), l3, f3))) :
  Calls Tryz.prog 20 #[.pointer (some ⟨g, 0, none⟩)] w fun r w' => ∃ u, r = .returned (.iface 80 (.agg #[.int .i64 2, .int .i64 row, .int .i64 num, .int .i64 x, .int .i64 y, .int .i64 sq, u])) ∧ DV w' w.heap.size u dl ∧ Touch g w w' ∧ Scx w0 w' g (Vf v n) l3 f3 := by
 have HX := hide h
 have HE := hide he
 have HKm := hide hK
 have HKc := hide hKc
 have hgl := h.lt
 have HW := hide h.low.size
 clear h he hK hKc
 go_enter Tryz.func20, Tryz.ntmps20
 go_wp2_with fail
 refine (shead_any w0 g v n l a f _ HE.out HKm.out HX.out).mono ?_
 rintro r w1 ⟨rfl, T1, S1⟩
 rw [e1.out] at S1 ⊢
 simp only at S1 ⊢
 obtain ⟨X, hX⟩ : ∃ X, X = w1.alloc (.cells #[.int .i64 2, .int .i64 row, .int .i64 num] 72) := ⟨_, rfl⟩
 have BX : Hid (Below w1.heap.size w1 X) := by rw [hX]; exact (Below.refl _ _).alloc zN _
 have HT1 : Hid (Touch g w X) := T1.trans (Touch.ofBelow BX.out)
 have HS1 : Hid (Scx w0 X g (Vf v n) l1 f1) := S1.below BX.out
 have HH1 : Hid (Blk X w1.heap.size [.int .i64 2, .int .i64 row, .int .i64 num]) := by rw [hX]; exact blk_new w1 72 [.int .i64 2, .int .i64 row, .int .i64 num]
 have hw1 : w.heap.size ≤ w1.heap.size := T1.size
 clear T1 S1 HX BX
 have h0 := HH1.out.cell 0 _ rfl
 have h1 := HH1.out.cell 1 _ rfl
 have h2 := HH1.out.cell 2 _ rfl
 go_wp2
 rw [← hX]
 clear hX
 have hHl : w1.heap.size < X.heap.size := HH1.out.lt
 refine wp_region_noPanic ?_
 refine wp_region_held_drew (S := (fun w' => w'.cell? ⟨w1.heap.size, 0, none⟩ = some (.int .i64 2) ∧ w'.cell? ⟨w1.heap.size, 1, none⟩ = some (.int .i64 row) ∧ w'.cell? ⟨w1.heap.size, 2, none⟩ = some (.int .i64 num))) (by kernel_rfl) ⟨h0, h1, h2⟩ (fun hHeld => ?_)
 refine tk 0 ?_
 refine tk 1 ?_
 refine tk 2 ?_
 refine wpAnyH_ready (rs := [3, 5]) (by kernel_rfl) (by simp) ?_
 refine AllReadyH.cons rfl (fun K hK => ?_) (AllReadyH.cons rfl (fun K hK => ?_) AllReadyH.nil)
 ·rw [if_pos (by rfl)]
  go_wp2_with fail
  refine (sballot_any w0 g v n l1 a 2 row num f1 _ (by omega) HE.out HKm.out (HS1.out.drew)).mono ?_
  rintro e w2 ⟨rfl, T2, S2⟩
  rw [e2.out] at S2 ⊢
  simp only at S2 ⊢
  have H2 := Blk.touch (HH1.out.drew) T2 (by omega)
  refine hK.out _ _ ⟨H2.cell 0 _ rfl, H2.cell 1 _ rfl, H2.cell 2 _ rfl⟩ (fun hHeld => ?_)
  clear hK K
  try simp only [Act.put, zA, zB, zC, zD, zE, zF]
  refine tk 4 ?_
  refine zR 5 fun K hK => ?_
  go_wp2_with fail
  refine hK.out _ _ ⟨alloc_keep _ (H2.cell 0 _ rfl), alloc_keep _ (H2.cell 1 _ rfl), alloc_keep _ (H2.cell 2 _ rfl)⟩ (fun hHeld => ?_)
  clear hK K
  try simp only [Act.put, zA, zB, zC, zD, zE, zF]
  refine zR 6 fun K hK => ?_
  go_wp2_with fail
  refine hK.out _ _ ⟨alloc_keep _ (H2.cell 0 _ rfl), alloc_keep _ (H2.cell 1 _ rfl), alloc_keep _ (H2.cell 2 _ rfl)⟩ (fun hHeld => ?_)
  clear hK K
  try simp only [Act.put, zA, zB, zC, zD, zE, zF]
  refine wpAnyH_done (by kernel_rfl) ?_ _
  refine NoPanic.normal ?_
  have hw2 : X.heap.size ≤ w2.heap.size := T2.size
  have hXw : w1.heap.size < X.heap.size := HH1.out.lt
  have HT9 : Hid (Touch g w (w2.alloc (.cells #[.int .i64 2, .int .i64 row, .int .i64 num, .int .i64 x, .int .i64 y, .int .i64 0, .slice none 0 0] 80))) := (HT1.out.drew.trans T2).trans (Touch.ofBelow ((Below.refl w2.heap.size w2).alloc zN _))
  have HS9 : Hid (Scx w0 (w2.alloc (.cells #[.int .i64 2, .int .i64 row, .int .i64 num, .int .i64 x, .int .i64 y, .int .i64 0, .slice none 0 0] 80)) g (Vf v n) l2 f2) := S2.below ((Below.refl w2.heap.size w2).alloc zN _)
  have HB9 : Hid (Blk (w2.alloc (.cells #[.int .i64 2, .int .i64 row, .int .i64 num, .int .i64 x, .int .i64 y, .int .i64 0, .slice none 0 0] 80)) (w2.heap.size) [.int .i64 2, .int .i64 row, .int .i64 num, .int .i64 x, .int .i64 y, .int .i64 0, .slice none 0 0]) := blk_new w2 80 [.int .i64 2, .int .i64 row, .int .i64 num, .int .i64 x, .int .i64 y, .int .i64 0, .slice none 0 0]
  have hqg : (w2.heap.size) ≠ g := by omega
  have hqw : w1.heap.size < (w2.heap.size) := by omega
  clear T2 S2 H2 hHeld HS1 HT1 HH1 h0 h1 h2
  generalize (w2.alloc (.cells #[.int .i64 2, .int .i64 row, .int .i64 num, .int .i64 x, .int .i64 y, .int .i64 0, .slice none 0 0] 80)) = W9 at *
  generalize (w2.heap.size) = qb at *
  go_wp2_with fail
  refine (sattr_any w0 g v n l2 a false f2 _ HE.out HS9.out).mono ?_
  rintro r w4 ⟨ud, rfl, D4, T4, S4⟩
  rw [e3.out] at D4 S4 ⊢
  simp only at D4 S4 ⊢
  obtain ⟨ua, uk, uc, rfl⟩ := D4.shape
  have hs3 : Hid (qb < W9.heap.size) := HB9.out.lt
  have HT4 := hide (HT9.out.trans T4)
  have HS4 := hide S4
  have HD4 := hide D4
  have B4 := HB9.out.touch T4 hqg
  clear D4 T4 S4 HT9 HS9 HB9
  have p0 := B4.cell 0 _ rfl
  have p1 := B4.cell 1 _ rfl
  have p2 := B4.cell 2 _ rfl
  have p3 := B4.cell 3 _ rfl
  have p4 := B4.cell 4 _ rfl
  have p5 := B4.cell 5 _ rfl
  have p6 := B4.cell 6 _ rfl
  have t5 := B4.thaw 5
  have t6 := B4.thaw 6
  have hq2 : w.heap.size ≤ qb := by omega
  have hq0 : w0.heap.size ≤ qb := by have := HW.out; omega
  have R : Hid (DV ((w4.setCell ⟨qb, 5, none⟩ (.int .i64 sq)).setCell ⟨qb, 6, none⟩ (.slice ua uk uc)) w.heap.size (.slice ua uk uc) dl ∧ Touch g w ((w4.setCell ⟨qb, 5, none⟩ (.int .i64 sq)).setCell ⟨qb, 6, none⟩ (.slice ua uk uc)) ∧ Scx w0 ((w4.setCell ⟨qb, 5, none⟩ (.int .i64 sq)).setCell ⟨qb, 6, none⟩ (.slice ua uk uc)) g (Vf v n) l3 f3) := ⟨((HD4.out.set _ hs3.out).set _ hs3.out).less (by have := hs3.out; omega), (HT4.out.setNew _ hq2).setNew _ hq2, (HS4.out.other _ hqg hq0).other _ hqg hq0⟩
  clear B4 HD4 HT4 HS4
  go_wp2
  go_ret
  exact ⟨.slice ua uk uc, rfl, R.out⟩
 ·rw [if_pos (by rfl)]
  go_wp2_with fail
  refine hK.out _ _ ⟨alloc_keep (w := X.drew) _ h0, alloc_keep (w := X.drew) _ h1, alloc_keep (w := X.drew) _ h2⟩ (fun hHeld => ?_)
  clear hK K
  try simp only [Act.put, zA, zB, zC, zD, zE, zF]
  refine zR 3 fun K hK => ?_
  go_wp2_with fail
  refine (sballot_any w0 g v n l1 a 2 row num f1 _ (by omega) HE.out HKm.out ((HS1.out.drew).alloc (.cells #[.int .i64 0, .int .i64 0, .int .i64 0, .int .i64 0, .int .i64 0, .int .i64 0, .slice none 0 0] 80))).mono ?_
  rintro e w2 ⟨rfl, T2, S2⟩
  rw [e2.out] at S2 ⊢
  simp only at S2 ⊢
  have H2 := Blk.touch (Blk.on HH1.out.drew ((Below.refl X.drew.heap.size X.drew).alloc zN _)) T2 (by omega)
  refine hK.out _ _ ⟨H2.cell 0 _ rfl, H2.cell 1 _ rfl, H2.cell 2 _ rfl⟩ (fun hHeld => ?_)
  clear hK K
  try simp only [Act.put, zA, zB, zC, zD, zE, zF]
  refine tk 4 ?_
  refine zR 6 fun K hK => ?_
  have Z2 : Blk w2 X.heap.size [.int .i64 0, .int .i64 0, .int .i64 0, .int .i64 0, .int .i64 0, .int .i64 0, .slice none 0 0] := (blk_new X.drew 80 [.int .i64 0, .int .i64 0, .int .i64 0, .int .i64 0, .int .i64 0, .int .i64 0, .slice none 0 0]).touch T2 (by show X.heap.size ≠ g; omega)
  have BZ : Below X.drew.heap.size X.drew (X.drew.alloc (.cells #[.int .i64 0, .int .i64 0, .int .i64 0, .int .i64 0, .int .i64 0, .int .i64 0, .slice none 0 0] 80)) := ((Below.refl X.drew.heap.size X.drew).alloc zN _)
  have z0 := Z2.cell 0 _ rfl
  have z1 := Z2.cell 1 _ rfl
  have z2 := Z2.cell 2 _ rfl
  have z3 := Z2.cell 3 _ rfl
  have z4 := Z2.cell 4 _ rfl
  have z5 := Z2.cell 5 _ rfl
  have z6 := Z2.cell 6 _ rfl
  have y0 := Z2.thaw 0
  have y1 := Z2.thaw 1
  have y2 := Z2.thaw 2
  have y3 := Z2.thaw 3
  have y4 := Z2.thaw 4
  have y5 := Z2.thaw 5
  have y6 := Z2.thaw 6
  have hXg : X.heap.size ≠ g := by omega
  have hXH : X.heap.size ≠ w1.heap.size := by omega
  go_wp2_with fail
  refine hK.out _ _ ⟨((zS _ ⟨X.heap.size, 6, none⟩ _ (.slice none 0 0) hXH).trans ((zS _ ⟨X.heap.size, 5, none⟩ _ (.int .i64 0) hXH).trans ((zS _ ⟨X.heap.size, 4, none⟩ _ (.int .i64 y) hXH).trans ((zS _ ⟨X.heap.size, 3, none⟩ _ (.int .i64 x) hXH).trans ((zS _ ⟨X.heap.size, 2, none⟩ _ (.int .i64 num) hXH).trans ((zS _ ⟨X.heap.size, 1, none⟩ _ (.int .i64 row) hXH).trans ((zS _ ⟨X.heap.size, 0, none⟩ _ (.int .i64 2) hXH).trans (H2.cell 0 _ rfl)))))))), ((zS _ ⟨X.heap.size, 6, none⟩ _ (.slice none 0 0) hXH).trans ((zS _ ⟨X.heap.size, 5, none⟩ _ (.int .i64 0) hXH).trans ((zS _ ⟨X.heap.size, 4, none⟩ _ (.int .i64 y) hXH).trans ((zS _ ⟨X.heap.size, 3, none⟩ _ (.int .i64 x) hXH).trans ((zS _ ⟨X.heap.size, 2, none⟩ _ (.int .i64 num) hXH).trans ((zS _ ⟨X.heap.size, 1, none⟩ _ (.int .i64 row) hXH).trans ((zS _ ⟨X.heap.size, 0, none⟩ _ (.int .i64 2) hXH).trans (H2.cell 1 _ rfl)))))))), ((zS _ ⟨X.heap.size, 6, none⟩ _ (.slice none 0 0) hXH).trans ((zS _ ⟨X.heap.size, 5, none⟩ _ (.int .i64 0) hXH).trans ((zS _ ⟨X.heap.size, 4, none⟩ _ (.int .i64 y) hXH).trans ((zS _ ⟨X.heap.size, 3, none⟩ _ (.int .i64 x) hXH).trans ((zS _ ⟨X.heap.size, 2, none⟩ _ (.int .i64 num) hXH).trans ((zS _ ⟨X.heap.size, 1, none⟩ _ (.int .i64 row) hXH).trans ((zS _ ⟨X.heap.size, 0, none⟩ _ (.int .i64 2) hXH).trans (H2.cell 2 _ rfl))))))))⟩ (fun hHeld => ?_)
  clear hK K
  try simp only [Act.put, zA, zB, zC, zD, zE, zF]
  refine wpAnyH_done (by kernel_rfl) ?_ _
  refine NoPanic.normal ?_
  have hXq : w.heap.size ≤ X.heap.size := by omega
  have hX0 : w0.heap.size ≤ X.heap.size := by have := HW.out; omega
  have HT9 : Hid (Touch g w ((((((((w2.setCell ⟨X.heap.size, 0, none⟩ (.int .i64 2)).setCell ⟨X.heap.size, 1, none⟩ (.int .i64 row)).setCell ⟨X.heap.size, 2, none⟩ (.int .i64 num)).setCell ⟨X.heap.size, 3, none⟩ (.int .i64 x)).setCell ⟨X.heap.size, 4, none⟩ (.int .i64 y)).setCell ⟨X.heap.size, 5, none⟩ (.int .i64 0)).setCell ⟨X.heap.size, 6, none⟩ (.slice none 0 0)))) := ((((((((HT1.out.drew.trans (Touch.ofBelow BZ)).trans T2).setNew _ hXq).setNew _ hXq).setNew _ hXq).setNew _ hXq).setNew _ hXq).setNew _ hXq).setNew _ hXq
  have HS9 : Hid (Scx w0 ((((((((w2.setCell ⟨X.heap.size, 0, none⟩ (.int .i64 2)).setCell ⟨X.heap.size, 1, none⟩ (.int .i64 row)).setCell ⟨X.heap.size, 2, none⟩ (.int .i64 num)).setCell ⟨X.heap.size, 3, none⟩ (.int .i64 x)).setCell ⟨X.heap.size, 4, none⟩ (.int .i64 y)).setCell ⟨X.heap.size, 5, none⟩ (.int .i64 0)).setCell ⟨X.heap.size, 6, none⟩ (.slice none 0 0))) g (Vf v n) l2 f2) := (((((((S2).other _ hXg hX0).other _ hXg hX0).other _ hXg hX0).other _ hXg hX0).other _ hXg hX0).other _ hXg hX0).other _ hXg hX0
  have HB9 : Hid (Blk ((((((((w2.setCell ⟨X.heap.size, 0, none⟩ (.int .i64 2)).setCell ⟨X.heap.size, 1, none⟩ (.int .i64 row)).setCell ⟨X.heap.size, 2, none⟩ (.int .i64 num)).setCell ⟨X.heap.size, 3, none⟩ (.int .i64 x)).setCell ⟨X.heap.size, 4, none⟩ (.int .i64 y)).setCell ⟨X.heap.size, 5, none⟩ (.int .i64 0)).setCell ⟨X.heap.size, 6, none⟩ (.slice none 0 0))) (X.heap.size) [.int .i64 2, .int .i64 row, .int .i64 num, .int .i64 x, .int .i64 y, .int .i64 0, .slice none 0 0]) := (((((((Z2).setAt 0 _).setAt 1 _).setAt 2 _).setAt 3 _).setAt 4 _).setAt 5 _).setAt 6 _
  have hqg : (X.heap.size) ≠ g := by omega
  have hqw : w1.heap.size < (X.heap.size) := by omega
  clear T2 S2 H2 hHeld HS1 HT1 HH1 h0 h1 h2 Z2 BZ z0 y0 z1 y1 z2 y2 z3 y3 z4 y4 z5 y5 z6 y6
  generalize ((((((((w2.setCell ⟨X.heap.size, 0, none⟩ (.int .i64 2)).setCell ⟨X.heap.size, 1, none⟩ (.int .i64 row)).setCell ⟨X.heap.size, 2, none⟩ (.int .i64 num)).setCell ⟨X.heap.size, 3, none⟩ (.int .i64 x)).setCell ⟨X.heap.size, 4, none⟩ (.int .i64 y)).setCell ⟨X.heap.size, 5, none⟩ (.int .i64 0)).setCell ⟨X.heap.size, 6, none⟩ (.slice none 0 0))) = W9 at *
  generalize (X.heap.size) = qb at *
  go_wp2_with fail
  refine (sattr_any w0 g v n l2 a false f2 _ HE.out HS9.out).mono ?_
  rintro r w4 ⟨ud, rfl, D4, T4, S4⟩
  rw [e3.out] at D4 S4 ⊢
  simp only at D4 S4 ⊢
  obtain ⟨ua, uk, uc, rfl⟩ := D4.shape
  have hs3 : Hid (qb < W9.heap.size) := HB9.out.lt
  have HT4 := hide (HT9.out.trans T4)
  have HS4 := hide S4
  have HD4 := hide D4
  have B4 := HB9.out.touch T4 hqg
  clear D4 T4 S4 HT9 HS9 HB9
  have p0 := B4.cell 0 _ rfl
  have p1 := B4.cell 1 _ rfl
  have p2 := B4.cell 2 _ rfl
  have p3 := B4.cell 3 _ rfl
  have p4 := B4.cell 4 _ rfl
  have p5 := B4.cell 5 _ rfl
  have p6 := B4.cell 6 _ rfl
  have t5 := B4.thaw 5
  have t6 := B4.thaw 6
  have hq2 : w.heap.size ≤ qb := by omega
  have hq0 : w0.heap.size ≤ qb := by have := HW.out; omega
  have R : Hid (DV ((w4.setCell ⟨qb, 5, none⟩ (.int .i64 sq)).setCell ⟨qb, 6, none⟩ (.slice ua uk uc)) w.heap.size (.slice ua uk uc) dl ∧ Touch g w ((w4.setCell ⟨qb, 5, none⟩ (.int .i64 sq)).setCell ⟨qb, 6, none⟩ (.slice ua uk uc)) ∧ Scx w0 ((w4.setCell ⟨qb, 5, none⟩ (.int .i64 sq)).setCell ⟨qb, 6, none⟩ (.slice ua uk uc)) g (Vf v n) l3 f3) := ⟨((HD4.out.set _ hs3.out).set _ hs3.out).less (by have := hs3.out; omega), (HT4.out.setNew _ hq2).setNew _ hq2, (HS4.out.other _ hqg hq0).other _ hqg hq0⟩
  clear B4 HD4 HT4 HS4
  go_wp2
  go_ret
  exact ⟨.slice ua uk uc, rfl, R.out⟩
theorem shape_com (a : Nat → Addr) (f : Int) (w : World) (row num : Int) (l1 : List Int) (f1 : Int) (c : Cm) (sq : Int) (dl l2 : List Int) (f2 : Int) (he : Errs w0 a) (hKc : Knd w0) (hK : Kmd w0) (h : Scx w0 w g (Vf v n) l f) (e1 : Hid (iHead v n l f = ((5, row, num), l1, f1))) (e2 : Hid (iLoad v n true l1 f1 = ((c, sq, dl), l2, f2))) :
  Calls Tryz.prog 20 #[.pointer (some ⟨g, 0, none⟩)] w fun r w' => ∃ u, r = .returned (.iface 84 (.agg #[.int .i64 5, .int .i64 row, .int .i64 num, .int .i64 c.kind, .int .i64 c.client, .int .i64 c.req, .string c.key, .string c.key2, .string c.val, .string c.old, .int .i64 c.n, .int .i64 sq, u])) ∧ DV w' w.heap.size u dl ∧ Touch g w w' ∧ Scx w0 w' g (Vf v n) l2 f2 := by
 have HX := hide h
 have HE := hide he
 have HKm := hide hK
 have HKc := hide hKc
 have hgl := h.lt
 have HW := hide h.low.size
 clear h he hK hKc
 go_enter Tryz.func20, Tryz.ntmps20
 go_wp2_with fail
 refine (shead_any w0 g v n l a f _ HE.out HKm.out HX.out).mono ?_
 rintro r w1 ⟨rfl, T1, S1⟩
 rw [e1.out] at S1 ⊢
 simp only at S1 ⊢
 obtain ⟨X, hX⟩ : ∃ X, X = w1.alloc (.cells #[.int .i64 5, .int .i64 row, .int .i64 num] 72) := ⟨_, rfl⟩
 have BX : Hid (Below w1.heap.size w1 X) := by rw [hX]; exact (Below.refl _ _).alloc zN _
 have HT1 : Hid (Touch g w X) := T1.trans (Touch.ofBelow BX.out)
 have HS1 : Hid (Scx w0 X g (Vf v n) l1 f1) := S1.below BX.out
 have HH1 : Hid (Blk X w1.heap.size [.int .i64 5, .int .i64 row, .int .i64 num]) := by rw [hX]; exact blk_new w1 72 [.int .i64 5, .int .i64 row, .int .i64 num]
 have hw1 : w.heap.size ≤ w1.heap.size := T1.size
 clear T1 S1 HX BX
 have h0 := HH1.out.cell 0 _ rfl
 have h1 := HH1.out.cell 1 _ rfl
 have h2 := HH1.out.cell 2 _ rfl
 go_wp2
 rw [← hX]
 clear hX
 refine wp_region_noPanic ?_
 refine wp_region_held_drew (S := (fun w' => w'.cell? ⟨w1.heap.size, 0, none⟩ = some (.int .i64 5) ∧ w'.cell? ⟨w1.heap.size, 1, none⟩ = some (.int .i64 row) ∧ w'.cell? ⟨w1.heap.size, 2, none⟩ = some (.int .i64 num))) (by kernel_rfl) ⟨h0, h1, h2⟩ (fun hHeld => ?_)
 refine tk 0 ?_
 refine tk 1 ?_
 refine zR 2 fun K hK => ?_
 go_wp2_with fail
 refine (sload_any w0 g v n l1 a true f1 _ HE.out HKc.out HS1.out.drew).mono ?_
 rintro e w2 ⟨ud, rfl, D2, T2, S2⟩
 rw [e2.out] at D2 S2 ⊢
 simp only at D2 S2 ⊢
 obtain ⟨ua, uk, uc, rfl⟩ := D2.shape
 have H2 := HH1.out.drew.touch T2 (by omega)
 refine hK.out _ _ ⟨H2.cell 0 _ rfl, H2.cell 1 _ rfl, H2.cell 2 _ rfl⟩ (fun hHeld => ?_)
 clear hK K
 try simp only [Act.put, zA, zB, zC, zD, zE, zF]
 refine tk 3 ?_
 refine tk 4 ?_
 refine tk 5 ?_
 refine wpAnyH_done (by kernel_rfl) ?_ _
 refine NoPanic.normal ?_
 have hX1 : Hid (w.heap.size ≤ X.heap.size) := HT1.out.size
 have R : Hid (DV w2 w.heap.size (.slice ua uk uc) dl ∧ Touch g w w2 ∧ Scx w0 w2 g (Vf v n) l2 f2) := ⟨D2.less hX1.out, HT1.out.drew.trans T2, S2⟩
 clear T2 S2 D2 H2 hHeld HS1 HT1 HH1 h0 h1 h2
 go_wp2
 go_ret
 exact ⟨.slice ua uk uc, rfl, R.out⟩
end
end Go.Proofs.YtibfdoggolkljaaGreatDoor
