/- Texts of the proof, joined. -/
import Derived.Test.YtnogdjpbnhnmaaaGreatDoorJ43
/- The contract of the document's own Encode of records. -/
namespace Go.Proofs.YtnogdjpbnhnmaaaGreatDoor
open Go.RowKit Go.Wire1

theorem seg_one6 (w : World) (x : Int) : Seg (w.alloc (.cells #[.int .u8 x] 5)) (some ⟨w.heap.size, 0, none⟩) 1 [x] := by
  refine ⟨rfl, by unfold maxLen; omega, fun _ => ⟨w.heap.size, 0, rfl, fun j hj => ?_⟩⟩
  rw [World.cell?_alloc_at _ _ _ _ rfl]
  obtain rfl : j = 0 := by omega
  rfl

theorem pack6_zero {l : List Int} (h : isVec l = true) : packE 2 l = 0 := by
  unfold isVec at h
  rw [Bool.and_eq_true] at h
  exact (pack_ok (.inr rfl) h.1 h.2).1

set_option maxHeartbeats 4000000 in
set_option maxRecDepth 100000 in
theorem r6_1 (n : Int) (r : Rc) (w : World) (hr : Rok w r) (hz : chkR n r = 0) (hk : r.kind = 1) :
    Calls Tryz.prog 14 #[.int .i64 n, .agg (rcs r).toArray] w fun e w' => ∃ u, e = .returned (.tuple #[u, .int .i64 0]) ∧ w'.ownsRow w.heap.size 5 1 u (recB r).length ((recB r).map (Value.int .u8)) ∧ Below w.heap.size w w' := by
  obtain ⟨V, hV, Q⟩ := zX w 31 (rcs r)
  have BV : Hid (Below w.heap.size w V) := by rw [hV]; exact (Below.refl _ _).alloc (Nat.le_refl _) _
  have HR := hide hr
  have HFit := hide (fit_of_chk hz)
  have HZ := hide hz
  have HKK := hide hk
  have HXR : Hid (rowR r.kind = [119, 110]) := by show _ = _; rw [hk]; rfl
  have FT : Hid (∀ x ∈ ([119, 110] : List Nat), fitF r x) := by intro x hx; exact HFit.out x (by rw [HXR.out]; exact hx)
  obtain ⟨i1, i2⟩ : 0 ≤ r.id ∧ r.id ≤ 1073741824 := FT.out 119 (by simp)
  obtain ⟨i3, i4⟩ : 0 ≤ r.n ∧ r.n ≤ 1073741824 := FT.out 110 (by simp)
  obtain ⟨x1, hx1⟩ := Int.eq_ofNat_of_zero_le i1
  obtain ⟨x2, hx2⟩ := Int.eq_ofNat_of_zero_le i3
  have E1 : Hid (wrF r 119 = enc x1) := by show enc r.id.toNat = _; rw [hx1]; rfl
  have E2 : Hid (wrF r 110 = enc x2) := by show enc r.n.toNat = _; rw [hx2]; rfl
  have y1 : x1 ≤ 1073741824 := by omega
  have y1a : (0 : Int) ≤ (x1 : Int) := by omega
  have y1b : (x1 : Int) ≤ 1073741824 := by omega
  have y2 : x2 ≤ 1073741824 := by omega
  have y2a : (0 : Int) ≤ (x2 : Int) := by omega
  have y2b : (x2 : Int) ≤ 1073741824 := by omega
  clear i1 i2 i3 i4
  have HX1 := hide hx1
  have HX2 := hide hx2
  clear hr hz hk HFit HXR FT hx1 hx2
  go_enter Tryz.func14, Tryz.ntmps14
  go_upto_region 1 with fail
  rw [← hV]
  clear hV
  go_wp2_with (first | (refine wpList_load_mid rfl 31 _ rfl w.heap.size 0 rfl (rcs r) _ Q.out.range Tryz.underlying31 rfl (by kernel_rfl) ?_))
  refine (refCheck_any n r _ (HR.out.below BV.out (Nat.le_refl _))).mono ?_
  rintro e w1 ⟨rfl, hb1⟩
  rw [HZ.out]
  have B1 : Hid (Below w.heap.size w w1) := BV.out.trans (hb1.mono BV.out.size)
  have Q1 : Hid (Blk w1 w.heap.size (rcs r)) := Q.out.on hb1
  clear hb1 Q BV
  obtain ⟨W, hW⟩ : ∃ W, W = w1.alloc (.cells #[.int .u8 1] 5) := ⟨_, rfl⟩
  have BW : Hid (Below w1.heap.size w1 W) := by rw [hW]; exact (Below.refl _ _).alloc (Nat.le_refl _) _
  have SW : Hid (Seg W (some ⟨w1.heap.size, 0, none⟩) 1 [1]) := by rw [hW]; exact seg_one6 w1 1
  have Q2 : Hid (Blk W w.heap.size (rcs r)) := Q1.out.on BW.out
  have B2 : Hid (Below w.heap.size w W) := B1.out.trans (BW.out.mono B1.out.size)
  have d0 : w1.cell? ⟨w.heap.size, 0, none⟩ = some (.int .i64 1) := by rw [← HKK.out]; exact Q1.out.cell 0 _ (rcs0 r)
  have z1 : w.heap.size < w1.heap.size := Q1.out.lt
  clear B1 Q1 BW
  have HW := hide hW
  clear hW
  go_upto_region 5 with fail
  rw [show w1.alloc (.cells #[.int .u8 1] 5) = W from HW.out.symm]
  clear d0 HW
  obtain ⟨q0, hq0⟩ : ∃ q0, Hid (w1.heap.size = q0) := ⟨_, rfl⟩
  rw [hq0.out] at SW z1 ⊢
  clear hq0
  have c0 : W.cell? ⟨w.heap.size, 0, none⟩ = some (.int .i64 1) := by rw [← HKK.out]; exact Q2.out.cell 0 _ (rcs0 r)
  have c16 : W.cell? ⟨w.heap.size, 16, none⟩ = some (.int .i64 (x1 : Int)) := by rw [← HX1.out]; exact Q2.out.cell 16 _ (rcs16 r)
  have c17 : W.cell? ⟨w.heap.size, 17, none⟩ = some (.int .i64 (x2 : Int)) := by rw [← HX2.out]; exact Q2.out.cell 17 _ (rcs17 r)
  go_wp2_with fail
  refine (number6_any _ _ _ [1] (x1) _ SW.out (by omega) (by omega)).mono ?_
  rintro e W3 ⟨v3, rfl, o3, b3⟩
  have Q3 := hide (Q2.out.on b3)
  have B3 := hide (B2.out.trans (b3.mono B2.out.size))
  obtain ⟨L3, hL3⟩ : ∃ L3, Hid ([1] ++ enc (x1) = L3) := ⟨[1] ++ enc (x1), hide rfl⟩
  rw [hL3.out] at o3
  have lb3 : L3.length ≤ 11 := by rw [← hL3.out, List.length_append]; have e9 : (enc (x1)).length ≤ 10 := (enc_le _ (by omega)).2; simp only [List.length_cons, List.length_nil]; omega
  obtain ⟨a3, cp3, rfl, k3a, k3b, s3⟩ := seg_own o3
  have S3 := hide s3
  have O3 := hide (own_more o3 B2.out.size)
  obtain ⟨n3, hn3⟩ : ∃ n3, Hid (L3.length = n3) := ⟨_, rfl⟩
  rw [hn3.out] at S3 lb3 O3 ⊢
  clear o3 b3 s3 k3a k3b
  clear c0 c16 c17 Q2 SW
  have c0 : W3.cell? ⟨w.heap.size, 0, none⟩ = some (.int .i64 1) := by rw [← HKK.out]; exact Q3.out.cell 0 _ (rcs0 r)
  have c16 : W3.cell? ⟨w.heap.size, 16, none⟩ = some (.int .i64 (x1 : Int)) := by rw [← HX1.out]; exact Q3.out.cell 16 _ (rcs16 r)
  have c17 : W3.cell? ⟨w.heap.size, 17, none⟩ = some (.int .i64 (x2 : Int)) := by rw [← HX2.out]; exact Q3.out.cell 17 _ (rcs17 r)
  go_wp2_with fail
  refine (number6_any _ _ _ L3 (x2) _ S3.out (by omega) (by omega)).mono ?_
  rintro e W4 ⟨v4, rfl, o4, b4⟩
  have Q4 := hide (Q3.out.on b4)
  have B4 := hide (B3.out.trans (b4.mono B3.out.size))
  obtain ⟨L4, hL4⟩ : ∃ L4, Hid (L3 ++ enc (x2) = L4) := ⟨L3 ++ enc (x2), hide rfl⟩
  rw [hL4.out] at o4
  have lb4 : L4.length ≤ 21 := by rw [← hL4.out, List.length_append]; have e9 : (enc (x2)).length ≤ 10 := (enc_le _ (by omega)).2; have e8 := hn3.out; omega
  obtain ⟨a4, cp4, rfl, k4a, k4b, s4⟩ := seg_own o4
  have S4 := hide s4
  have O4 := hide (own_more o4 B3.out.size)
  obtain ⟨n4, hn4⟩ : ∃ n4, Hid (L4.length = n4) := ⟨_, rfl⟩
  rw [hn4.out] at S4 lb4 O4 ⊢
  clear o4 b4 s4 k4a k4b
  clear c0 c16 c17 Q3 S3
  have c0 : W4.cell? ⟨w.heap.size, 0, none⟩ = some (.int .i64 1) := by rw [← HKK.out]; exact Q4.out.cell 0 _ (rcs0 r)
  have c16 : W4.cell? ⟨w.heap.size, 16, none⟩ = some (.int .i64 (x1 : Int)) := by rw [← HX1.out]; exact Q4.out.cell 16 _ (rcs16 r)
  have c17 : W4.cell? ⟨w.heap.size, 17, none⟩ = some (.int .i64 (x2 : Int)) := by rw [← HX2.out]; exact Q4.out.cell 17 _ (rcs17 r)
  go_wp2_with fail
  go_ret2
  have FIN : Hid (recB r = L4) := by
    show r.kind :: (rowR r.kind).flatMap (wrF r) = _
    rw [HKK.out, show rowR 1 = [119, 110] from rfl]
    simp only [List.flatMap_cons, List.flatMap_nil, E1.out, E2.out]
    rw [← hL4.out, ← hL3.out]
    simp
  rw [FIN.out, hn4.out]
  exact ⟨_, rfl, O4.out, B4.out⟩

set_option maxHeartbeats 4000000 in
set_option maxRecDepth 100000 in
theorem r6_2 (n : Int) (r : Rc) (w : World) (hr : Rok w r) (hz : chkR n r = 0) (hk : r.kind = 2) :
    Calls Tryz.prog 14 #[.int .i64 n, .agg (rcs r).toArray] w fun e w' => ∃ u, e = .returned (.tuple #[u, .int .i64 0]) ∧ w'.ownsRow w.heap.size 5 1 u (recB r).length ((recB r).map (Value.int .u8)) ∧ Below w.heap.size w w' := by
  obtain ⟨V, hV, Q⟩ := zX w 31 (rcs r)
  have BV : Hid (Below w.heap.size w V) := by rw [hV]; exact (Below.refl _ _).alloc (Nat.le_refl _) _
  have HR := hide hr
  have HFit := hide (fit_of_chk hz)
  have HZ := hide hz
  have HKK := hide hk
  have HXR : Hid (rowR r.kind = [105, 98]) := by show _ = _; rw [hk]; rfl
  have FT : Hid (∀ x ∈ ([105, 98] : List Nat), fitF r x) := by intro x hx; exact HFit.out x (by rw [HXR.out]; exact hx)
  obtain ⟨i1, i2, i3, i4⟩ : 0 ≤ r.row ∧ r.row ≤ 7 ∧ 0 ≤ r.num ∧ r.num ≤ 1048576 := FT.out 105 (by simp)
  obtain ⟨x1, hx1⟩ := Int.eq_ofNat_of_zero_le i1
  obtain ⟨x2, hx2⟩ := Int.eq_ofNat_of_zero_le i3
  have E1 : Hid (wrF r 105 = enc (8 * x2 + x1)) := by show enc (8 * r.num + r.row).toNat = _; rw [hx1, hx2]; exact congrArg enc (by omega)
  obtain ⟨i5, i6, i7, i8⟩ : 0 ≤ r.who ∧ r.who ≤ 7 ∧ 0 ≤ r.round ∧ r.round ≤ 65535 := FT.out 98 (by simp)
  obtain ⟨x3, hx3⟩ := Int.eq_ofNat_of_zero_le i5
  obtain ⟨x4, hx4⟩ := Int.eq_ofNat_of_zero_le i7
  have E2 : Hid (wrF r 98 = enc (8 * x4 + x3)) := by show enc (8 * r.round + r.who).toNat = _; rw [hx3, hx4]; exact congrArg enc (by omega)
  have y1 : x1 ≤ 7 := by omega
  have y1a : (0 : Int) ≤ (x1 : Int) := by omega
  have y1b : (x1 : Int) ≤ 7 := by omega
  have y2 : x2 ≤ 1048576 := by omega
  have y2a : (0 : Int) ≤ (x2 : Int) := by omega
  have y2b : (x2 : Int) ≤ 1048576 := by omega
  have y3 : x3 ≤ 7 := by omega
  have y3a : (0 : Int) ≤ (x3 : Int) := by omega
  have y3b : (x3 : Int) ≤ 7 := by omega
  have y4 : x4 ≤ 65535 := by omega
  have y4a : (0 : Int) ≤ (x4 : Int) := by omega
  have y4b : (x4 : Int) ≤ 65535 := by omega
  clear i1 i2 i3 i4 i5 i6 i7 i8
  have HX1 := hide hx1
  have HX2 := hide hx2
  have HX3 := hide hx3
  have HX4 := hide hx4
  clear hr hz hk HFit HXR FT hx1 hx2 hx3 hx4
  go_enter Tryz.func14, Tryz.ntmps14
  go_upto_region 1 with fail
  rw [← hV]
  clear hV
  go_wp2_with (first | (refine wpList_load_mid rfl 31 _ rfl w.heap.size 0 rfl (rcs r) _ Q.out.range Tryz.underlying31 rfl (by kernel_rfl) ?_))
  refine (refCheck_any n r _ (HR.out.below BV.out (Nat.le_refl _))).mono ?_
  rintro e w1 ⟨rfl, hb1⟩
  rw [HZ.out]
  have B1 : Hid (Below w.heap.size w w1) := BV.out.trans (hb1.mono BV.out.size)
  have Q1 : Hid (Blk w1 w.heap.size (rcs r)) := Q.out.on hb1
  clear hb1 Q BV
  obtain ⟨W, hW⟩ : ∃ W, W = w1.alloc (.cells #[.int .u8 2] 5) := ⟨_, rfl⟩
  have BW : Hid (Below w1.heap.size w1 W) := by rw [hW]; exact (Below.refl _ _).alloc (Nat.le_refl _) _
  have SW : Hid (Seg W (some ⟨w1.heap.size, 0, none⟩) 1 [2]) := by rw [hW]; exact seg_one6 w1 2
  have Q2 : Hid (Blk W w.heap.size (rcs r)) := Q1.out.on BW.out
  have B2 : Hid (Below w.heap.size w W) := B1.out.trans (BW.out.mono B1.out.size)
  have d0 : w1.cell? ⟨w.heap.size, 0, none⟩ = some (.int .i64 2) := by rw [← HKK.out]; exact Q1.out.cell 0 _ (rcs0 r)
  have z1 : w.heap.size < w1.heap.size := Q1.out.lt
  clear B1 Q1 BW
  have HW := hide hW
  clear hW
  go_upto_region 5 with fail
  rw [show w1.alloc (.cells #[.int .u8 2] 5) = W from HW.out.symm]
  clear d0 HW
  obtain ⟨q0, hq0⟩ : ∃ q0, Hid (w1.heap.size = q0) := ⟨_, rfl⟩
  rw [hq0.out] at SW z1 ⊢
  clear hq0
  have c0 : W.cell? ⟨w.heap.size, 0, none⟩ = some (.int .i64 2) := by rw [← HKK.out]; exact Q2.out.cell 0 _ (rcs0 r)
  have c1 : W.cell? ⟨w.heap.size, 1, none⟩ = some (.int .i64 (x1 : Int)) := by rw [← HX1.out]; exact Q2.out.cell 1 _ (rcs1 r)
  have c2 : W.cell? ⟨w.heap.size, 2, none⟩ = some (.int .i64 (x2 : Int)) := by rw [← HX2.out]; exact Q2.out.cell 2 _ (rcs2 r)
  have c4 : W.cell? ⟨w.heap.size, 4, none⟩ = some (.int .i64 (x3 : Int)) := by rw [← HX3.out]; exact Q2.out.cell 4 _ (rcs4 r)
  have c3 : W.cell? ⟨w.heap.size, 3, none⟩ = some (.int .i64 (x4 : Int)) := by rw [← HX4.out]; exact Q2.out.cell 3 _ (rcs3 r)
  have HB : Hid (Calls Tryz.prog 29 #[.int .i64 2] W fun e w' => e = .returned (.bool true) ∧ W = w') := refHasBal_any 2 W (by decide) (by decide)
  have HCm : Hid (Calls Tryz.prog 30 #[.int .i64 2] W fun e w' => e = .returned (.bool false) ∧ W = w') := refHasCmd_any 2 W (by decide) (by decide)
  go_wp2_with (first | (go_at_call 29; refine HB.out.mono ?_; rintro e w' ⟨rfl, rfl⟩) | (go_at_call 30; refine HCm.out.mono ?_; rintro e w' ⟨rfl, rfl⟩))
  refine (number6_any _ _ _ [2] (8 * x2 + x1) _ SW.out (by omega) (by omega)).mono ?_
  rintro e W3 ⟨v3, rfl, o3, b3⟩
  have Q3 := hide (Q2.out.on b3)
  have B3 := hide (B2.out.trans (b3.mono B2.out.size))
  obtain ⟨L3, hL3⟩ : ∃ L3, Hid ([2] ++ enc (8 * x2 + x1) = L3) := ⟨[2] ++ enc (8 * x2 + x1), hide rfl⟩
  rw [hL3.out] at o3
  have lb3 : L3.length ≤ 11 := by rw [← hL3.out, List.length_append]; have e9 : (enc (8 * x2 + x1)).length ≤ 10 := (enc_le _ (by omega)).2; simp only [List.length_cons, List.length_nil]; omega
  obtain ⟨a3, cp3, rfl, k3a, k3b, s3⟩ := seg_own o3
  have S3 := hide s3
  have O3 := hide (own_more o3 B2.out.size)
  obtain ⟨n3, hn3⟩ : ∃ n3, Hid (L3.length = n3) := ⟨_, rfl⟩
  rw [hn3.out] at S3 lb3 O3 ⊢
  clear o3 b3 s3 k3a k3b
  clear c0 c1 c2 c4 c3 Q2 SW HB HCm
  have c0 : W3.cell? ⟨w.heap.size, 0, none⟩ = some (.int .i64 2) := by rw [← HKK.out]; exact Q3.out.cell 0 _ (rcs0 r)
  have c1 : W3.cell? ⟨w.heap.size, 1, none⟩ = some (.int .i64 (x1 : Int)) := by rw [← HX1.out]; exact Q3.out.cell 1 _ (rcs1 r)
  have c2 : W3.cell? ⟨w.heap.size, 2, none⟩ = some (.int .i64 (x2 : Int)) := by rw [← HX2.out]; exact Q3.out.cell 2 _ (rcs2 r)
  have c4 : W3.cell? ⟨w.heap.size, 4, none⟩ = some (.int .i64 (x3 : Int)) := by rw [← HX3.out]; exact Q3.out.cell 4 _ (rcs4 r)
  have c3 : W3.cell? ⟨w.heap.size, 3, none⟩ = some (.int .i64 (x4 : Int)) := by rw [← HX4.out]; exact Q3.out.cell 3 _ (rcs3 r)
  have HB : Hid (Calls Tryz.prog 29 #[.int .i64 2] W3 fun e w' => e = .returned (.bool true) ∧ W3 = w') := refHasBal_any 2 W3 (by decide) (by decide)
  have HCm : Hid (Calls Tryz.prog 30 #[.int .i64 2] W3 fun e w' => e = .returned (.bool false) ∧ W3 = w') := refHasCmd_any 2 W3 (by decide) (by decide)
  go_wp2_with (first | (go_at_call 29; refine HB.out.mono ?_; rintro e w' ⟨rfl, rfl⟩) | (go_at_call 30; refine HCm.out.mono ?_; rintro e w' ⟨rfl, rfl⟩))
  refine (number6_any _ _ _ L3 (8 * x4 + x3) _ S3.out (by omega) (by omega)).mono ?_
  rintro e W4 ⟨v4, rfl, o4, b4⟩
  have Q4 := hide (Q3.out.on b4)
  have B4 := hide (B3.out.trans (b4.mono B3.out.size))
  obtain ⟨L4, hL4⟩ : ∃ L4, Hid (L3 ++ enc (8 * x4 + x3) = L4) := ⟨L3 ++ enc (8 * x4 + x3), hide rfl⟩
  rw [hL4.out] at o4
  have lb4 : L4.length ≤ 21 := by rw [← hL4.out, List.length_append]; have e9 : (enc (8 * x4 + x3)).length ≤ 10 := (enc_le _ (by omega)).2; have e8 := hn3.out; omega
  obtain ⟨a4, cp4, rfl, k4a, k4b, s4⟩ := seg_own o4
  have S4 := hide s4
  have O4 := hide (own_more o4 B3.out.size)
  obtain ⟨n4, hn4⟩ : ∃ n4, Hid (L4.length = n4) := ⟨_, rfl⟩
  rw [hn4.out] at S4 lb4 O4 ⊢
  clear o4 b4 s4 k4a k4b
  clear c0 c1 c2 c4 c3 Q3 S3 HB HCm
  have c0 : W4.cell? ⟨w.heap.size, 0, none⟩ = some (.int .i64 2) := by rw [← HKK.out]; exact Q4.out.cell 0 _ (rcs0 r)
  have c1 : W4.cell? ⟨w.heap.size, 1, none⟩ = some (.int .i64 (x1 : Int)) := by rw [← HX1.out]; exact Q4.out.cell 1 _ (rcs1 r)
  have c2 : W4.cell? ⟨w.heap.size, 2, none⟩ = some (.int .i64 (x2 : Int)) := by rw [← HX2.out]; exact Q4.out.cell 2 _ (rcs2 r)
  have c4 : W4.cell? ⟨w.heap.size, 4, none⟩ = some (.int .i64 (x3 : Int)) := by rw [← HX3.out]; exact Q4.out.cell 4 _ (rcs4 r)
  have c3 : W4.cell? ⟨w.heap.size, 3, none⟩ = some (.int .i64 (x4 : Int)) := by rw [← HX4.out]; exact Q4.out.cell 3 _ (rcs3 r)
  have HB : Hid (Calls Tryz.prog 29 #[.int .i64 2] W4 fun e w' => e = .returned (.bool true) ∧ W4 = w') := refHasBal_any 2 W4 (by decide) (by decide)
  have HCm : Hid (Calls Tryz.prog 30 #[.int .i64 2] W4 fun e w' => e = .returned (.bool false) ∧ W4 = w') := refHasCmd_any 2 W4 (by decide) (by decide)
  go_wp2_with (first | (go_at_call 29; refine HB.out.mono ?_; rintro e w' ⟨rfl, rfl⟩) | (go_at_call 30; refine HCm.out.mono ?_; rintro e w' ⟨rfl, rfl⟩))
  go_ret2
  have FIN : Hid (recB r = L4) := by
    show r.kind :: (rowR r.kind).flatMap (wrF r) = _
    rw [HKK.out, show rowR 2 = [105, 98] from rfl]
    simp only [List.flatMap_cons, List.flatMap_nil, E1.out, E2.out]
    rw [← hL4.out, ← hL3.out]
    simp
  rw [FIN.out, hn4.out]
  exact ⟨_, rfl, O4.out, B4.out⟩

set_option maxHeartbeats 4000000 in
set_option maxRecDepth 100000 in
theorem r6_3tn (n : Int) (r : Rc) (w : World) (hr : Rok w r) (hn1 : -9223372036854775808 ≤ r.c.n) (hn2 : r.c.n ≤ 9223372036854775807) (hz : chkR n r = 0) (hk : r.kind = 3) (hs : r.same = true) (hq : r.c.kind = 0) :
    Calls Tryz.prog 14 #[.int .i64 n, .agg (rcs r).toArray] w fun e w' => ∃ u, e = .returned (.tuple #[u, .int .i64 0]) ∧ w'.ownsRow w.heap.size 5 1 u (recB r).length ((recB r).map (Value.int .u8)) ∧ Below w.heap.size w w' := by
  obtain ⟨V, hV, Q⟩ := zX w 31 (rcs r)
  have BV : Hid (Below w.heap.size w V) := by rw [hV]; exact (Below.refl _ _).alloc (Nat.le_refl _) _
  have HR := hide hr
  have HFit := hide (fit_of_chk hz)
  have HZ := hide hz
  have HKK := hide hk
  have HSS := hide hs
  have HQ0 := hide hq
  have HXR : Hid (rowR r.kind = [105, 98, 115, 99, 113, 100]) := by show _ = _; rw [hk]; rfl
  have FT : Hid (∀ x ∈ ([105, 98, 115, 99, 113, 100] : List Nat), fitF r x) := by intro x hx; exact HFit.out x (by rw [HXR.out]; exact hx)
  obtain ⟨i1, i2, i3, i4⟩ : 0 ≤ r.row ∧ r.row ≤ 7 ∧ 0 ≤ r.num ∧ r.num ≤ 1048576 := FT.out 105 (by simp)
  obtain ⟨x1, hx1⟩ := Int.eq_ofNat_of_zero_le i1
  obtain ⟨x2, hx2⟩ := Int.eq_ofNat_of_zero_le i3
  have E1 : Hid (wrF r 105 = enc (8 * x2 + x1)) := by show enc (8 * r.num + r.row).toNat = _; rw [hx1, hx2]; exact congrArg enc (by omega)
  obtain ⟨i5, i6, i7, i8⟩ : 0 ≤ r.who ∧ r.who ≤ 7 ∧ 0 ≤ r.round ∧ r.round ≤ 65535 := FT.out 98 (by simp)
  obtain ⟨x3, hx3⟩ := Int.eq_ofNat_of_zero_le i5
  obtain ⟨x4, hx4⟩ := Int.eq_ofNat_of_zero_le i7
  have E2 : Hid (wrF r 98 = enc (8 * x4 + x3)) := by show enc (8 * r.round + r.who).toNat = _; rw [hx3, hx4]; exact congrArg enc (by omega)
  have E3 : Hid (wrF r 115 = [1]) := by show [if r.same then (1 : Int) else 0] = _; rw [hs]; rfl
  have HC : Hid (chk 2 r.c = 0) := FT.out 99 (by simp)
  have E4 : Hid (wrF r 99 = encC r.c) := rfl
  have NO : Hid (noopR r = true) := by show _ = _; simp [noopR, hq]
  have E5 : Hid (wrF r 113 = []) := by show (if noopR r then [] else enc r.seq.toNat) = _; rw [NO.out]; rfl
  have E6 : Hid (wrF r 100 = []) := by show (if noopR r then [] else packL 2 r.deps) = _; rw [NO.out]; rfl
  have CL : Hid ((encC r.c).length ≤ 131281) := encC_le HC.out
  have y1 : x1 ≤ 7 := by omega
  have y1a : (0 : Int) ≤ (x1 : Int) := by omega
  have y1b : (x1 : Int) ≤ 7 := by omega
  have y2 : x2 ≤ 1048576 := by omega
  have y2a : (0 : Int) ≤ (x2 : Int) := by omega
  have y2b : (x2 : Int) ≤ 1048576 := by omega
  have y3 : x3 ≤ 7 := by omega
  have y3a : (0 : Int) ≤ (x3 : Int) := by omega
  have y3b : (x3 : Int) ≤ 7 := by omega
  have y4 : x4 ≤ 65535 := by omega
  have y4a : (0 : Int) ≤ (x4 : Int) := by omega
  have y4b : (x4 : Int) ≤ 65535 := by omega
  clear i1 i2 i3 i4 i5 i6 i7 i8
  have HX1 := hide hx1
  have HX2 := hide hx2
  have HX3 := hide hx3
  have HX4 := hide hx4
  clear hr hz hk HFit HXR FT hq hs hx1 hx2 hx3 hx4
  go_enter Tryz.func14, Tryz.ntmps14
  go_upto_region 1 with fail
  rw [← hV]
  clear hV
  go_wp2_with (first | (refine wpList_load_mid rfl 31 _ rfl w.heap.size 0 rfl (rcs r) _ Q.out.range Tryz.underlying31 rfl (by kernel_rfl) ?_))
  refine (refCheck_any n r _ (HR.out.below BV.out (Nat.le_refl _))).mono ?_
  rintro e w1 ⟨rfl, hb1⟩
  rw [HZ.out]
  have B1 : Hid (Below w.heap.size w w1) := BV.out.trans (hb1.mono BV.out.size)
  have Q1 : Hid (Blk w1 w.heap.size (rcs r)) := Q.out.on hb1
  clear hb1 Q BV
  obtain ⟨W, hW⟩ : ∃ W, W = w1.alloc (.cells #[.int .u8 3] 5) := ⟨_, rfl⟩
  have BW : Hid (Below w1.heap.size w1 W) := by rw [hW]; exact (Below.refl _ _).alloc (Nat.le_refl _) _
  have SW : Hid (Seg W (some ⟨w1.heap.size, 0, none⟩) 1 [3]) := by rw [hW]; exact seg_one6 w1 3
  have Q2 : Hid (Blk W w.heap.size (rcs r)) := Q1.out.on BW.out
  have B2 : Hid (Below w.heap.size w W) := B1.out.trans (BW.out.mono B1.out.size)
  have d0 : w1.cell? ⟨w.heap.size, 0, none⟩ = some (.int .i64 3) := by rw [← HKK.out]; exact Q1.out.cell 0 _ (rcs0 r)
  have z1 : w.heap.size < w1.heap.size := Q1.out.lt
  clear B1 Q1 BW
  have HW := hide hW
  clear hW
  go_upto_region 5 with fail
  rw [show w1.alloc (.cells #[.int .u8 3] 5) = W from HW.out.symm]
  clear d0 HW
  obtain ⟨q0, hq0⟩ : ∃ q0, Hid (w1.heap.size = q0) := ⟨_, rfl⟩
  rw [hq0.out] at SW z1 ⊢
  clear hq0
  have c0 : W.cell? ⟨w.heap.size, 0, none⟩ = some (.int .i64 3) := by rw [← HKK.out]; exact Q2.out.cell 0 _ (rcs0 r)
  have c1 : W.cell? ⟨w.heap.size, 1, none⟩ = some (.int .i64 (x1 : Int)) := by rw [← HX1.out]; exact Q2.out.cell 1 _ (rcs1 r)
  have c2 : W.cell? ⟨w.heap.size, 2, none⟩ = some (.int .i64 (x2 : Int)) := by rw [← HX2.out]; exact Q2.out.cell 2 _ (rcs2 r)
  have c4 : W.cell? ⟨w.heap.size, 4, none⟩ = some (.int .i64 (x3 : Int)) := by rw [← HX3.out]; exact Q2.out.cell 4 _ (rcs4 r)
  have c3 : W.cell? ⟨w.heap.size, 3, none⟩ = some (.int .i64 (x4 : Int)) := by rw [← HX4.out]; exact Q2.out.cell 3 _ (rcs3 r)
  have c5 : W.cell? ⟨w.heap.size, 5, none⟩ = some (.bool true) := by rw [← HSS.out]; exact Q2.out.cell 5 _ (rcs5 r)
  have c6 : W.cell? ⟨w.heap.size, 6, none⟩ = some (.int .i64 0) := by rw [← HQ0.out]; exact Q2.out.cell 6 _ (rcs6 r)
  have c7 := Q2.out.cell 7 _ (rcs7 r)
  have c8 := Q2.out.cell 8 _ (rcs8 r)
  have c9 := Q2.out.cell 9 _ (rcs9 r)
  have c10 := Q2.out.cell 10 _ (rcs10 r)
  have c11 := Q2.out.cell 11 _ (rcs11 r)
  have c12 := Q2.out.cell 12 _ (rcs12 r)
  have c13 := Q2.out.cell 13 _ (rcs13 r)
  have HB : Hid (Calls Tryz.prog 29 #[.int .i64 3] W fun e w' => e = .returned (.bool true) ∧ W = w') := refHasBal_any 3 W (by decide) (by decide)
  have HCm : Hid (Calls Tryz.prog 30 #[.int .i64 3] W fun e w' => e = .returned (.bool true) ∧ W = w') := refHasCmd_any 3 W (by decide) (by decide)
  go_wp2_with (first | (go_at_call 29; refine HB.out.mono ?_; rintro e w' ⟨rfl, rfl⟩) | (go_at_call 30; refine HCm.out.mono ?_; rintro e w' ⟨rfl, rfl⟩))
  refine (number6_any _ _ _ [3] (8 * x2 + x1) _ SW.out (by omega) (by omega)).mono ?_
  rintro e W3 ⟨v3, rfl, o3, b3⟩
  have Q3 := hide (Q2.out.on b3)
  have B3 := hide (B2.out.trans (b3.mono B2.out.size))
  obtain ⟨L3, hL3⟩ : ∃ L3, Hid ([3] ++ enc (8 * x2 + x1) = L3) := ⟨[3] ++ enc (8 * x2 + x1), hide rfl⟩
  rw [hL3.out] at o3
  have lb3 : L3.length ≤ 11 := by rw [← hL3.out, List.length_append]; have e9 : (enc (8 * x2 + x1)).length ≤ 10 := (enc_le _ (by omega)).2; simp only [List.length_cons, List.length_nil]; omega
  obtain ⟨a3, cp3, rfl, k3a, k3b, s3⟩ := seg_own o3
  have S3 := hide s3
  have O3 := hide (own_more o3 B2.out.size)
  obtain ⟨n3, hn3⟩ : ∃ n3, Hid (L3.length = n3) := ⟨_, rfl⟩
  rw [hn3.out] at S3 lb3 O3 ⊢
  clear o3 b3 s3 k3a k3b
  clear c0 c1 c2 c4 c3 c5 c6 c7 c8 c9 c10 c11 c12 c13 Q2 SW HB HCm
  have c0 : W3.cell? ⟨w.heap.size, 0, none⟩ = some (.int .i64 3) := by rw [← HKK.out]; exact Q3.out.cell 0 _ (rcs0 r)
  have c1 : W3.cell? ⟨w.heap.size, 1, none⟩ = some (.int .i64 (x1 : Int)) := by rw [← HX1.out]; exact Q3.out.cell 1 _ (rcs1 r)
  have c2 : W3.cell? ⟨w.heap.size, 2, none⟩ = some (.int .i64 (x2 : Int)) := by rw [← HX2.out]; exact Q3.out.cell 2 _ (rcs2 r)
  have c4 : W3.cell? ⟨w.heap.size, 4, none⟩ = some (.int .i64 (x3 : Int)) := by rw [← HX3.out]; exact Q3.out.cell 4 _ (rcs4 r)
  have c3 : W3.cell? ⟨w.heap.size, 3, none⟩ = some (.int .i64 (x4 : Int)) := by rw [← HX4.out]; exact Q3.out.cell 3 _ (rcs3 r)
  have c5 : W3.cell? ⟨w.heap.size, 5, none⟩ = some (.bool true) := by rw [← HSS.out]; exact Q3.out.cell 5 _ (rcs5 r)
  have c6 : W3.cell? ⟨w.heap.size, 6, none⟩ = some (.int .i64 0) := by rw [← HQ0.out]; exact Q3.out.cell 6 _ (rcs6 r)
  have c7 := Q3.out.cell 7 _ (rcs7 r)
  have c8 := Q3.out.cell 8 _ (rcs8 r)
  have c9 := Q3.out.cell 9 _ (rcs9 r)
  have c10 := Q3.out.cell 10 _ (rcs10 r)
  have c11 := Q3.out.cell 11 _ (rcs11 r)
  have c12 := Q3.out.cell 12 _ (rcs12 r)
  have c13 := Q3.out.cell 13 _ (rcs13 r)
  have HB : Hid (Calls Tryz.prog 29 #[.int .i64 3] W3 fun e w' => e = .returned (.bool true) ∧ W3 = w') := refHasBal_any 3 W3 (by decide) (by decide)
  have HCm : Hid (Calls Tryz.prog 30 #[.int .i64 3] W3 fun e w' => e = .returned (.bool true) ∧ W3 = w') := refHasCmd_any 3 W3 (by decide) (by decide)
  go_wp2_with (first | (go_at_call 29; refine HB.out.mono ?_; rintro e w' ⟨rfl, rfl⟩) | (go_at_call 30; refine HCm.out.mono ?_; rintro e w' ⟨rfl, rfl⟩))
  refine (number6_any _ _ _ L3 (8 * x4 + x3) _ S3.out (by omega) (by omega)).mono ?_
  rintro e W4 ⟨v4, rfl, o4, b4⟩
  have Q4 := hide (Q3.out.on b4)
  have B4 := hide (B3.out.trans (b4.mono B3.out.size))
  obtain ⟨L4, hL4⟩ : ∃ L4, Hid (L3 ++ enc (8 * x4 + x3) = L4) := ⟨L3 ++ enc (8 * x4 + x3), hide rfl⟩
  rw [hL4.out] at o4
  have lb4 : L4.length ≤ 21 := by rw [← hL4.out, List.length_append]; have e9 : (enc (8 * x4 + x3)).length ≤ 10 := (enc_le _ (by omega)).2; have e8 := hn3.out; omega
  have N4 : Hid (∀ k, v4.ownBlock = some k → w.heap.size < k) := fun k hk => Nat.lt_of_lt_of_le Q3.out.lt (World.ownsRow.lt o4 k hk).1
  obtain ⟨a4, cp4, rfl, k4a, k4b, s4⟩ := seg_own o4
  have S4 := hide s4
  have O4 := hide (own_more o4 B3.out.size)
  obtain ⟨n4, hn4⟩ : ∃ n4, Hid (L4.length = n4) := ⟨_, rfl⟩
  rw [hn4.out] at S4 lb4 O4 N4 ⊢
  clear o4 b4 s4 k4a k4b
  clear c0 c1 c2 c4 c3 c5 c6 c7 c8 c9 c10 c11 c12 c13 Q3 S3 HB HCm
  have c0 : W4.cell? ⟨w.heap.size, 0, none⟩ = some (.int .i64 3) := by rw [← HKK.out]; exact Q4.out.cell 0 _ (rcs0 r)
  have c1 : W4.cell? ⟨w.heap.size, 1, none⟩ = some (.int .i64 (x1 : Int)) := by rw [← HX1.out]; exact Q4.out.cell 1 _ (rcs1 r)
  have c2 : W4.cell? ⟨w.heap.size, 2, none⟩ = some (.int .i64 (x2 : Int)) := by rw [← HX2.out]; exact Q4.out.cell 2 _ (rcs2 r)
  have c4 : W4.cell? ⟨w.heap.size, 4, none⟩ = some (.int .i64 (x3 : Int)) := by rw [← HX3.out]; exact Q4.out.cell 4 _ (rcs4 r)
  have c3 : W4.cell? ⟨w.heap.size, 3, none⟩ = some (.int .i64 (x4 : Int)) := by rw [← HX4.out]; exact Q4.out.cell 3 _ (rcs3 r)
  have c5 : W4.cell? ⟨w.heap.size, 5, none⟩ = some (.bool true) := by rw [← HSS.out]; exact Q4.out.cell 5 _ (rcs5 r)
  have c6 : W4.cell? ⟨w.heap.size, 6, none⟩ = some (.int .i64 0) := by rw [← HQ0.out]; exact Q4.out.cell 6 _ (rcs6 r)
  have c7 := Q4.out.cell 7 _ (rcs7 r)
  have c8 := Q4.out.cell 8 _ (rcs8 r)
  have c9 := Q4.out.cell 9 _ (rcs9 r)
  have c10 := Q4.out.cell 10 _ (rcs10 r)
  have c11 := Q4.out.cell 11 _ (rcs11 r)
  have c12 := Q4.out.cell 12 _ (rcs12 r)
  have c13 := Q4.out.cell 13 _ (rcs13 r)
  have HB : Hid (Calls Tryz.prog 29 #[.int .i64 3] W4 fun e w' => e = .returned (.bool true) ∧ W4 = w') := refHasBal_any 3 W4 (by decide) (by decide)
  have HCm : Hid (Calls Tryz.prog 30 #[.int .i64 3] W4 fun e w' => e = .returned (.bool true) ∧ W4 = w') := refHasCmd_any 3 W4 (by decide) (by decide)
  have HA4 := hide (World.ownsRow.alloc O4.out (.cells #[.int .u8 1] 5))
  obtain ⟨i0, hi, hz0, hz1, hz2⟩ := info_parts Tryz.info5
  have w9 : w.heap.size < W4.heap.size := Q4.out.lt
  go_wp2_with (first | (go_at_call 29; refine HB.out.mono ?_; rintro e w' ⟨rfl, rfl⟩) | (at_builtin; refine wpList_append_own2 rfl _ _ 22 rfl w.heap.size 5 i0 (.int .u8 0) 1 1 Tryz.underlying22 hi hz0 hz1 hz2 rfl (by decide) _ _ _ rfl HA4.out ⟨W4.heap.size, 0, none⟩ 1 1 [.int .u8 1] rfl rfl ?c1 ?c2 (by omega) ?c3 ?c4 ?c5 ?_))
  case c1 =>
    first
    | (intro j u hj
       match j, hj with
       | 0, hj => simp at hj; subst hj; simp [Addr.add])
  case c2 => first | rfl | (intro u hu; simp at hu; subst hu; rfl)
  case c3 => unfold maxLen; omega
  case c4 => omega
  case c5 => first | omega | (simp; omega)
  intro v5 W5 o5 g5 h5
  have B5 := hide ((B4.out.alloc (by have := B4.out.size; omega) (.cells #[.int .u8 1] 5)).grown g5 (by simp; omega) (fun j hj => (World.ownsRow.lt O4.out j hj).1))
  have Q5 : Hid (Blk W5 w.heap.size (rcs r)) := by
    refine (Q4.out.on ((Below.refl _ _).alloc (Nat.le_refl _) (.cells #[.int .u8 1] 5))).of_block (g5.block _ (by simp; omega) (fun e => ?_))
    have h := N4.out _ e.symm
    omega
  obtain ⟨L5, hL5⟩ : ∃ L5, Hid (L4 ++ [1] = L5) := ⟨L4 ++ [1], hide rfl⟩
  have lb5 : L5.length ≤ 22 := by rw [← hL5.out, List.length_append]; have e8 := hn4.out; simp only [List.length_cons, List.length_nil]; omega
  have O5 : Hid (W5.ownsRow w.heap.size 5 1 v5 L5.length (L5.map (Value.int .u8))) := by rw [← hL5.out, List.length_append, List.map_append, hn4.out]; exact o5
  obtain ⟨a5, cp5, rfl, k5a, k5b, s5⟩ := seg_own O5.out
  have S5 := hide s5
  obtain ⟨n5, hn5⟩ : ∃ n5, Hid (L5.length = n5) := ⟨_, rfl⟩
  rw [hn5.out] at S5 lb5 O5 ⊢
  clear o5 g5 h5 s5 k5a k5b HA4 w9 hi hz0 hz1 hz2
  clear c0 c1 c2 c4 c3 c5 c6 c7 c8 c9 c10 c11 c12 c13 Q4 S4 HB HCm
  have c0 : W5.cell? ⟨w.heap.size, 0, none⟩ = some (.int .i64 3) := by rw [← HKK.out]; exact Q5.out.cell 0 _ (rcs0 r)
  have c1 : W5.cell? ⟨w.heap.size, 1, none⟩ = some (.int .i64 (x1 : Int)) := by rw [← HX1.out]; exact Q5.out.cell 1 _ (rcs1 r)
  have c2 : W5.cell? ⟨w.heap.size, 2, none⟩ = some (.int .i64 (x2 : Int)) := by rw [← HX2.out]; exact Q5.out.cell 2 _ (rcs2 r)
  have c4 : W5.cell? ⟨w.heap.size, 4, none⟩ = some (.int .i64 (x3 : Int)) := by rw [← HX3.out]; exact Q5.out.cell 4 _ (rcs4 r)
  have c3 : W5.cell? ⟨w.heap.size, 3, none⟩ = some (.int .i64 (x4 : Int)) := by rw [← HX4.out]; exact Q5.out.cell 3 _ (rcs3 r)
  have c5 : W5.cell? ⟨w.heap.size, 5, none⟩ = some (.bool true) := by rw [← HSS.out]; exact Q5.out.cell 5 _ (rcs5 r)
  have c6 : W5.cell? ⟨w.heap.size, 6, none⟩ = some (.int .i64 0) := by rw [← HQ0.out]; exact Q5.out.cell 6 _ (rcs6 r)
  have c7 := Q5.out.cell 7 _ (rcs7 r)
  have c8 := Q5.out.cell 8 _ (rcs8 r)
  have c9 := Q5.out.cell 9 _ (rcs9 r)
  have c10 := Q5.out.cell 10 _ (rcs10 r)
  have c11 := Q5.out.cell 11 _ (rcs11 r)
  have c12 := Q5.out.cell 12 _ (rcs12 r)
  have c13 := Q5.out.cell 13 _ (rcs13 r)
  have HB : Hid (Calls Tryz.prog 29 #[.int .i64 3] W5 fun e w' => e = .returned (.bool true) ∧ W5 = w') := refHasBal_any 3 W5 (by decide) (by decide)
  have HCm : Hid (Calls Tryz.prog 30 #[.int .i64 3] W5 fun e w' => e = .returned (.bool true) ∧ W5 = w') := refHasCmd_any 3 W5 (by decide) (by decide)
  go_wp2_with (first | (go_at_call 29; refine HB.out.mono ?_; rintro e w' ⟨rfl, rfl⟩) | (go_at_call 30; refine HCm.out.mono ?_; rintro e w' ⟨rfl, rfl⟩))
  have HEn := hide (rencode_any 2 r.c W5 HR.out.k1 HR.out.k2 hn1 hn2 HC.out)
  rw [HQ0.out] at HEn
  refine HEn.out.mono ?_
  rintro e W6 ⟨u6, rfl, o6, b6⟩
  obtain ⟨C, hC⟩ : ∃ C, Hid (encC r.c = C) := ⟨_, rfl⟩
  rw [hC.out] at o6
  have lC : C.length ≤ 131281 := by rw [← hC.out]; exact CL.out
  obtain ⟨a6, cp6, rfl, k6a, k6b, s6⟩ := seg_own o6
  obtain ⟨m6, hm6⟩ : ∃ m6, Hid (C.length = m6) := ⟨_, rfl⟩
  have SC := hide s6
  rw [hm6.out] at SC lC ⊢
  have S6 := hide (S5.out.below b6 (Nat.le_refl _))
  have Q6 := hide (Q5.out.on b6)
  have B6 := hide (B5.out.trans (b6.mono B5.out.size))
  clear o6 b6 s6 k6a k6b
  clear c0 c1 c2 c4 c3 c5 c6 c7 c8 c9 c10 c11 c12 c13 Q5 S5 HB HCm
  have c0 : W6.cell? ⟨w.heap.size, 0, none⟩ = some (.int .i64 3) := by rw [← HKK.out]; exact Q6.out.cell 0 _ (rcs0 r)
  have c1 : W6.cell? ⟨w.heap.size, 1, none⟩ = some (.int .i64 (x1 : Int)) := by rw [← HX1.out]; exact Q6.out.cell 1 _ (rcs1 r)
  have c2 : W6.cell? ⟨w.heap.size, 2, none⟩ = some (.int .i64 (x2 : Int)) := by rw [← HX2.out]; exact Q6.out.cell 2 _ (rcs2 r)
  have c4 : W6.cell? ⟨w.heap.size, 4, none⟩ = some (.int .i64 (x3 : Int)) := by rw [← HX3.out]; exact Q6.out.cell 4 _ (rcs4 r)
  have c3 : W6.cell? ⟨w.heap.size, 3, none⟩ = some (.int .i64 (x4 : Int)) := by rw [← HX4.out]; exact Q6.out.cell 3 _ (rcs3 r)
  have c5 : W6.cell? ⟨w.heap.size, 5, none⟩ = some (.bool true) := by rw [← HSS.out]; exact Q6.out.cell 5 _ (rcs5 r)
  have c6 : W6.cell? ⟨w.heap.size, 6, none⟩ = some (.int .i64 0) := by rw [← HQ0.out]; exact Q6.out.cell 6 _ (rcs6 r)
  have c7 := Q6.out.cell 7 _ (rcs7 r)
  have c8 := Q6.out.cell 8 _ (rcs8 r)
  have c9 := Q6.out.cell 9 _ (rcs9 r)
  have c10 := Q6.out.cell 10 _ (rcs10 r)
  have c11 := Q6.out.cell 11 _ (rcs11 r)
  have c12 := Q6.out.cell 12 _ (rcs12 r)
  have c13 := Q6.out.cell 13 _ (rcs13 r)
  have HB : Hid (Calls Tryz.prog 29 #[.int .i64 3] W6 fun e w' => e = .returned (.bool true) ∧ W6 = w') := refHasBal_any 3 W6 (by decide) (by decide)
  have HCm : Hid (Calls Tryz.prog 30 #[.int .i64 3] W6 fun e w' => e = .returned (.bool true) ∧ W6 = w') := refHasCmd_any 3 W6 (by decide) (by decide)
  go_wp2_with (first | (go_at_call 29; refine HB.out.mono ?_; rintro e w' ⟨rfl, rfl⟩) | (go_at_call 30; refine HCm.out.mono ?_; rintro e w' ⟨rfl, rfl⟩))
  refine (add6_any _ _ _ _ _ _ L5 C _ S6.out SC.out (by omega)).mono ?_
  rintro e W7 ⟨v7, rfl, o7, b7⟩
  have Q7 := hide (Q6.out.on b7)
  have B7 := hide (B6.out.trans (b7.mono B6.out.size))
  obtain ⟨L7, hL7⟩ : ∃ L7, Hid (L5 ++ C = L7) := ⟨L5 ++ C, hide rfl⟩
  rw [hL7.out] at o7
  have lb7 : L7.length ≤ 131303 := by rw [← hL7.out, List.length_append]; have e8 := hn5.out; have e7 := hm6.out; omega
  obtain ⟨a7, cp7, rfl, k7a, k7b, s7⟩ := seg_own o7
  have S7 := hide s7
  have O7 := hide (own_more o7 B6.out.size)
  obtain ⟨n7, hn7⟩ : ∃ n7, Hid (L7.length = n7) := ⟨_, rfl⟩
  rw [hn7.out] at S7 lb7 O7 ⊢
  clear o7 b7 s7 k7a k7b
  clear c0 c1 c2 c4 c3 c5 c6 c7 c8 c9 c10 c11 c12 c13 Q6 S6 HB HCm
  have c0 : W7.cell? ⟨w.heap.size, 0, none⟩ = some (.int .i64 3) := by rw [← HKK.out]; exact Q7.out.cell 0 _ (rcs0 r)
  have c1 : W7.cell? ⟨w.heap.size, 1, none⟩ = some (.int .i64 (x1 : Int)) := by rw [← HX1.out]; exact Q7.out.cell 1 _ (rcs1 r)
  have c2 : W7.cell? ⟨w.heap.size, 2, none⟩ = some (.int .i64 (x2 : Int)) := by rw [← HX2.out]; exact Q7.out.cell 2 _ (rcs2 r)
  have c4 : W7.cell? ⟨w.heap.size, 4, none⟩ = some (.int .i64 (x3 : Int)) := by rw [← HX3.out]; exact Q7.out.cell 4 _ (rcs4 r)
  have c3 : W7.cell? ⟨w.heap.size, 3, none⟩ = some (.int .i64 (x4 : Int)) := by rw [← HX4.out]; exact Q7.out.cell 3 _ (rcs3 r)
  have c5 : W7.cell? ⟨w.heap.size, 5, none⟩ = some (.bool true) := by rw [← HSS.out]; exact Q7.out.cell 5 _ (rcs5 r)
  have c6 : W7.cell? ⟨w.heap.size, 6, none⟩ = some (.int .i64 0) := by rw [← HQ0.out]; exact Q7.out.cell 6 _ (rcs6 r)
  have c7 := Q7.out.cell 7 _ (rcs7 r)
  have c8 := Q7.out.cell 8 _ (rcs8 r)
  have c9 := Q7.out.cell 9 _ (rcs9 r)
  have c10 := Q7.out.cell 10 _ (rcs10 r)
  have c11 := Q7.out.cell 11 _ (rcs11 r)
  have c12 := Q7.out.cell 12 _ (rcs12 r)
  have c13 := Q7.out.cell 13 _ (rcs13 r)
  have HB : Hid (Calls Tryz.prog 29 #[.int .i64 3] W7 fun e w' => e = .returned (.bool true) ∧ W7 = w') := refHasBal_any 3 W7 (by decide) (by decide)
  have HCm : Hid (Calls Tryz.prog 30 #[.int .i64 3] W7 fun e w' => e = .returned (.bool true) ∧ W7 = w') := refHasCmd_any 3 W7 (by decide) (by decide)
  clear SC
  go_wp2_with (first | (go_at_call 29; refine HB.out.mono ?_; rintro e w' ⟨rfl, rfl⟩) | (go_at_call 30; refine HCm.out.mono ?_; rintro e w' ⟨rfl, rfl⟩))
  go_ret2
  have FIN : Hid (recB r = L7) := by
    show r.kind :: (rowR r.kind).flatMap (wrF r) = _
    rw [HKK.out, show rowR 3 = [105, 98, 115, 99, 113, 100] from rfl]
    simp only [List.flatMap_cons, List.flatMap_nil, E1.out, E2.out, E3.out, E4.out, E5.out, E6.out]
    rw [← hL7.out, ← hL5.out, ← hL4.out, ← hL3.out, ← hC.out]
    simp
  rw [FIN.out, hn7.out]
  exact ⟨_, rfl, O7.out, B7.out⟩

set_option maxHeartbeats 4000000 in
set_option maxRecDepth 100000 in
theorem r6_3ty (n : Int) (r : Rc) (w : World) (hr : Rok w r) (hn1 : -9223372036854775808 ≤ r.c.n) (hn2 : r.c.n ≤ 9223372036854775807) (hz : chkR n r = 0) (hk : r.kind = 3) (hs : r.same = true) (hq : r.c.kind ≠ 0) :
    Calls Tryz.prog 14 #[.int .i64 n, .agg (rcs r).toArray] w fun e w' => ∃ u, e = .returned (.tuple #[u, .int .i64 0]) ∧ w'.ownsRow w.heap.size 5 1 u (recB r).length ((recB r).map (Value.int .u8)) ∧ Below w.heap.size w w' := by
  obtain ⟨V, hV, Q⟩ := zX w 31 (rcs r)
  have BV : Hid (Below w.heap.size w V) := by rw [hV]; exact (Below.refl _ _).alloc (Nat.le_refl _) _
  have HR := hide hr
  have HFit := hide (fit_of_chk hz)
  have HZ := hide hz
  have HKK := hide hk
  have HSS := hide hs
  have HXR : Hid (rowR r.kind = [105, 98, 115, 99, 113, 100]) := by show _ = _; rw [hk]; rfl
  have FT : Hid (∀ x ∈ ([105, 98, 115, 99, 113, 100] : List Nat), fitF r x) := by intro x hx; exact HFit.out x (by rw [HXR.out]; exact hx)
  obtain ⟨i1, i2, i3, i4⟩ : 0 ≤ r.row ∧ r.row ≤ 7 ∧ 0 ≤ r.num ∧ r.num ≤ 1048576 := FT.out 105 (by simp)
  obtain ⟨x1, hx1⟩ := Int.eq_ofNat_of_zero_le i1
  obtain ⟨x2, hx2⟩ := Int.eq_ofNat_of_zero_le i3
  have E1 : Hid (wrF r 105 = enc (8 * x2 + x1)) := by show enc (8 * r.num + r.row).toNat = _; rw [hx1, hx2]; exact congrArg enc (by omega)
  obtain ⟨i5, i6, i7, i8⟩ : 0 ≤ r.who ∧ r.who ≤ 7 ∧ 0 ≤ r.round ∧ r.round ≤ 65535 := FT.out 98 (by simp)
  obtain ⟨x3, hx3⟩ := Int.eq_ofNat_of_zero_le i5
  obtain ⟨x4, hx4⟩ := Int.eq_ofNat_of_zero_le i7
  have E2 : Hid (wrF r 98 = enc (8 * x4 + x3)) := by show enc (8 * r.round + r.who).toNat = _; rw [hx3, hx4]; exact congrArg enc (by omega)
  have E3 : Hid (wrF r 115 = [1]) := by show [if r.same then (1 : Int) else 0] = _; rw [hs]; rfl
  have HC : Hid (chk 2 r.c = 0) := FT.out 99 (by simp)
  have E4 : Hid (wrF r 99 = encC r.c) := rfl
  have NO : Hid (noopR r = false) := by show _ = _; simp [noopR, hq]
  obtain ⟨i9, iA⟩ : 0 ≤ r.seq ∧ r.seq ≤ 1073741824 := FT.out 113 (by simp)
  obtain ⟨x5, hx5⟩ := Int.eq_ofNat_of_zero_le i9
  have E5 : Hid (wrF r 113 = enc x5) := by show (if noopR r then [] else enc r.seq.toNat) = _; rw [NO.out, hx5]; rfl
  have HVc : Hid (isVec r.deps = true) := FT.out 100 (by simp)
  have PE : Hid (packE 2 r.deps = 0) := pack6_zero HVc.out
  have PR : Hid (packR 2 r.deps = packL 2 r.deps) := by show (if packE 2 r.deps = 0 then packL 2 r.deps else []) = _; rw [PE.out]; rfl
  have E6 : Hid (wrF r 100 = packR 2 r.deps) := by show (if noopR r then [] else packL 2 r.deps) = _; rw [NO.out, PR.out]; rfl
  have PL : Hid ((packR 2 r.deps).length ≤ 131281) := by rw [← E6.out]; exact wrF_le (by simp [Ltr]) (FT.out 100 (by simp))
  have CL : Hid ((encC r.c).length ≤ 131281) := encC_le HC.out
  have y1 : x1 ≤ 7 := by omega
  have y1a : (0 : Int) ≤ (x1 : Int) := by omega
  have y1b : (x1 : Int) ≤ 7 := by omega
  have y2 : x2 ≤ 1048576 := by omega
  have y2a : (0 : Int) ≤ (x2 : Int) := by omega
  have y2b : (x2 : Int) ≤ 1048576 := by omega
  have y3 : x3 ≤ 7 := by omega
  have y3a : (0 : Int) ≤ (x3 : Int) := by omega
  have y3b : (x3 : Int) ≤ 7 := by omega
  have y4 : x4 ≤ 65535 := by omega
  have y4a : (0 : Int) ≤ (x4 : Int) := by omega
  have y4b : (x4 : Int) ≤ 65535 := by omega
  have y5 : x5 ≤ 1073741824 := by omega
  have y5a : (0 : Int) ≤ (x5 : Int) := by omega
  have y5b : (x5 : Int) ≤ 1073741824 := by omega
  clear i1 i2 i3 i4 i5 i6 i7 i8 i9 iA
  have HX1 := hide hx1
  have HX2 := hide hx2
  have HX3 := hide hx3
  have HX4 := hide hx4
  have HX5 := hide hx5
  clear hr hz hk HFit HXR FT hs hx1 hx2 hx3 hx4 hx5
  have q9 : (r.c.kind != 0) = true := by rw [bne_iff_ne]; exact hq
  go_enter Tryz.func14, Tryz.ntmps14
  go_upto_region 1 with fail
  rw [← hV]
  clear hV
  go_wp2_with (first | (refine wpList_load_mid rfl 31 _ rfl w.heap.size 0 rfl (rcs r) _ Q.out.range Tryz.underlying31 rfl (by kernel_rfl) ?_))
  refine (refCheck_any n r _ (HR.out.below BV.out (Nat.le_refl _))).mono ?_
  rintro e w1 ⟨rfl, hb1⟩
  rw [HZ.out]
  have B1 : Hid (Below w.heap.size w w1) := BV.out.trans (hb1.mono BV.out.size)
  have Q1 : Hid (Blk w1 w.heap.size (rcs r)) := Q.out.on hb1
  clear hb1 Q BV
  obtain ⟨W, hW⟩ : ∃ W, W = w1.alloc (.cells #[.int .u8 3] 5) := ⟨_, rfl⟩
  have BW : Hid (Below w1.heap.size w1 W) := by rw [hW]; exact (Below.refl _ _).alloc (Nat.le_refl _) _
  have SW : Hid (Seg W (some ⟨w1.heap.size, 0, none⟩) 1 [3]) := by rw [hW]; exact seg_one6 w1 3
  have Q2 : Hid (Blk W w.heap.size (rcs r)) := Q1.out.on BW.out
  have B2 : Hid (Below w.heap.size w W) := B1.out.trans (BW.out.mono B1.out.size)
  have d0 : w1.cell? ⟨w.heap.size, 0, none⟩ = some (.int .i64 3) := by rw [← HKK.out]; exact Q1.out.cell 0 _ (rcs0 r)
  have z1 : w.heap.size < w1.heap.size := Q1.out.lt
  clear B1 Q1 BW
  have HW := hide hW
  clear hW
  go_upto_region 5 with fail
  rw [show w1.alloc (.cells #[.int .u8 3] 5) = W from HW.out.symm]
  clear d0 HW
  obtain ⟨q0, hq0⟩ : ∃ q0, Hid (w1.heap.size = q0) := ⟨_, rfl⟩
  rw [hq0.out] at SW z1 ⊢
  clear hq0
  have c0 : W.cell? ⟨w.heap.size, 0, none⟩ = some (.int .i64 3) := by rw [← HKK.out]; exact Q2.out.cell 0 _ (rcs0 r)
  have c1 : W.cell? ⟨w.heap.size, 1, none⟩ = some (.int .i64 (x1 : Int)) := by rw [← HX1.out]; exact Q2.out.cell 1 _ (rcs1 r)
  have c2 : W.cell? ⟨w.heap.size, 2, none⟩ = some (.int .i64 (x2 : Int)) := by rw [← HX2.out]; exact Q2.out.cell 2 _ (rcs2 r)
  have c4 : W.cell? ⟨w.heap.size, 4, none⟩ = some (.int .i64 (x3 : Int)) := by rw [← HX3.out]; exact Q2.out.cell 4 _ (rcs4 r)
  have c3 : W.cell? ⟨w.heap.size, 3, none⟩ = some (.int .i64 (x4 : Int)) := by rw [← HX4.out]; exact Q2.out.cell 3 _ (rcs3 r)
  have c14 : W.cell? ⟨w.heap.size, 14, none⟩ = some (.int .i64 (x5 : Int)) := by rw [← HX5.out]; exact Q2.out.cell 14 _ (rcs14 r)
  have c5 : W.cell? ⟨w.heap.size, 5, none⟩ = some (.bool true) := by rw [← HSS.out]; exact Q2.out.cell 5 _ (rcs5 r)
  have c6 := Q2.out.cell 6 _ (rcs6 r)
  have c7 := Q2.out.cell 7 _ (rcs7 r)
  have c8 := Q2.out.cell 8 _ (rcs8 r)
  have c9 := Q2.out.cell 9 _ (rcs9 r)
  have c10 := Q2.out.cell 10 _ (rcs10 r)
  have c11 := Q2.out.cell 11 _ (rcs11 r)
  have c12 := Q2.out.cell 12 _ (rcs12 r)
  have c13 := Q2.out.cell 13 _ (rcs13 r)
  have c15 := Q2.out.cell 15 _ (rcs15 r)
  have HB : Hid (Calls Tryz.prog 29 #[.int .i64 3] W fun e w' => e = .returned (.bool true) ∧ W = w') := refHasBal_any 3 W (by decide) (by decide)
  have HCm : Hid (Calls Tryz.prog 30 #[.int .i64 3] W fun e w' => e = .returned (.bool true) ∧ W = w') := refHasCmd_any 3 W (by decide) (by decide)
  go_wp2_with (first | (go_at_call 29; refine HB.out.mono ?_; rintro e w' ⟨rfl, rfl⟩) | (go_at_call 30; refine HCm.out.mono ?_; rintro e w' ⟨rfl, rfl⟩))
  refine (number6_any _ _ _ [3] (8 * x2 + x1) _ SW.out (by omega) (by omega)).mono ?_
  rintro e W3 ⟨v3, rfl, o3, b3⟩
  have Q3 := hide (Q2.out.on b3)
  have B3 := hide (B2.out.trans (b3.mono B2.out.size))
  obtain ⟨L3, hL3⟩ : ∃ L3, Hid ([3] ++ enc (8 * x2 + x1) = L3) := ⟨[3] ++ enc (8 * x2 + x1), hide rfl⟩
  rw [hL3.out] at o3
  have lb3 : L3.length ≤ 11 := by rw [← hL3.out, List.length_append]; have e9 : (enc (8 * x2 + x1)).length ≤ 10 := (enc_le _ (by omega)).2; simp only [List.length_cons, List.length_nil]; omega
  obtain ⟨a3, cp3, rfl, k3a, k3b, s3⟩ := seg_own o3
  have S3 := hide s3
  have O3 := hide (own_more o3 B2.out.size)
  obtain ⟨n3, hn3⟩ : ∃ n3, Hid (L3.length = n3) := ⟨_, rfl⟩
  rw [hn3.out] at S3 lb3 O3 ⊢
  clear o3 b3 s3 k3a k3b
  clear c0 c1 c2 c4 c3 c14 c5 c6 c7 c8 c9 c10 c11 c12 c13 c15 Q2 SW HB HCm
  have c0 : W3.cell? ⟨w.heap.size, 0, none⟩ = some (.int .i64 3) := by rw [← HKK.out]; exact Q3.out.cell 0 _ (rcs0 r)
  have c1 : W3.cell? ⟨w.heap.size, 1, none⟩ = some (.int .i64 (x1 : Int)) := by rw [← HX1.out]; exact Q3.out.cell 1 _ (rcs1 r)
  have c2 : W3.cell? ⟨w.heap.size, 2, none⟩ = some (.int .i64 (x2 : Int)) := by rw [← HX2.out]; exact Q3.out.cell 2 _ (rcs2 r)
  have c4 : W3.cell? ⟨w.heap.size, 4, none⟩ = some (.int .i64 (x3 : Int)) := by rw [← HX3.out]; exact Q3.out.cell 4 _ (rcs4 r)
  have c3 : W3.cell? ⟨w.heap.size, 3, none⟩ = some (.int .i64 (x4 : Int)) := by rw [← HX4.out]; exact Q3.out.cell 3 _ (rcs3 r)
  have c14 : W3.cell? ⟨w.heap.size, 14, none⟩ = some (.int .i64 (x5 : Int)) := by rw [← HX5.out]; exact Q3.out.cell 14 _ (rcs14 r)
  have c5 : W3.cell? ⟨w.heap.size, 5, none⟩ = some (.bool true) := by rw [← HSS.out]; exact Q3.out.cell 5 _ (rcs5 r)
  have c6 := Q3.out.cell 6 _ (rcs6 r)
  have c7 := Q3.out.cell 7 _ (rcs7 r)
  have c8 := Q3.out.cell 8 _ (rcs8 r)
  have c9 := Q3.out.cell 9 _ (rcs9 r)
  have c10 := Q3.out.cell 10 _ (rcs10 r)
  have c11 := Q3.out.cell 11 _ (rcs11 r)
  have c12 := Q3.out.cell 12 _ (rcs12 r)
  have c13 := Q3.out.cell 13 _ (rcs13 r)
  have c15 := Q3.out.cell 15 _ (rcs15 r)
  have HB : Hid (Calls Tryz.prog 29 #[.int .i64 3] W3 fun e w' => e = .returned (.bool true) ∧ W3 = w') := refHasBal_any 3 W3 (by decide) (by decide)
  have HCm : Hid (Calls Tryz.prog 30 #[.int .i64 3] W3 fun e w' => e = .returned (.bool true) ∧ W3 = w') := refHasCmd_any 3 W3 (by decide) (by decide)
  go_wp2_with (first | (go_at_call 29; refine HB.out.mono ?_; rintro e w' ⟨rfl, rfl⟩) | (go_at_call 30; refine HCm.out.mono ?_; rintro e w' ⟨rfl, rfl⟩))
  refine (number6_any _ _ _ L3 (8 * x4 + x3) _ S3.out (by omega) (by omega)).mono ?_
  rintro e W4 ⟨v4, rfl, o4, b4⟩
  have Q4 := hide (Q3.out.on b4)
  have B4 := hide (B3.out.trans (b4.mono B3.out.size))
  obtain ⟨L4, hL4⟩ : ∃ L4, Hid (L3 ++ enc (8 * x4 + x3) = L4) := ⟨L3 ++ enc (8 * x4 + x3), hide rfl⟩
  rw [hL4.out] at o4
  have lb4 : L4.length ≤ 21 := by rw [← hL4.out, List.length_append]; have e9 : (enc (8 * x4 + x3)).length ≤ 10 := (enc_le _ (by omega)).2; have e8 := hn3.out; omega
  have N4 : Hid (∀ k, v4.ownBlock = some k → w.heap.size < k) := fun k hk => Nat.lt_of_lt_of_le Q3.out.lt (World.ownsRow.lt o4 k hk).1
  obtain ⟨a4, cp4, rfl, k4a, k4b, s4⟩ := seg_own o4
  have S4 := hide s4
  have O4 := hide (own_more o4 B3.out.size)
  obtain ⟨n4, hn4⟩ : ∃ n4, Hid (L4.length = n4) := ⟨_, rfl⟩
  rw [hn4.out] at S4 lb4 O4 N4 ⊢
  clear o4 b4 s4 k4a k4b
  clear c0 c1 c2 c4 c3 c14 c5 c6 c7 c8 c9 c10 c11 c12 c13 c15 Q3 S3 HB HCm
  have c0 : W4.cell? ⟨w.heap.size, 0, none⟩ = some (.int .i64 3) := by rw [← HKK.out]; exact Q4.out.cell 0 _ (rcs0 r)
  have c1 : W4.cell? ⟨w.heap.size, 1, none⟩ = some (.int .i64 (x1 : Int)) := by rw [← HX1.out]; exact Q4.out.cell 1 _ (rcs1 r)
  have c2 : W4.cell? ⟨w.heap.size, 2, none⟩ = some (.int .i64 (x2 : Int)) := by rw [← HX2.out]; exact Q4.out.cell 2 _ (rcs2 r)
  have c4 : W4.cell? ⟨w.heap.size, 4, none⟩ = some (.int .i64 (x3 : Int)) := by rw [← HX3.out]; exact Q4.out.cell 4 _ (rcs4 r)
  have c3 : W4.cell? ⟨w.heap.size, 3, none⟩ = some (.int .i64 (x4 : Int)) := by rw [← HX4.out]; exact Q4.out.cell 3 _ (rcs3 r)
  have c14 : W4.cell? ⟨w.heap.size, 14, none⟩ = some (.int .i64 (x5 : Int)) := by rw [← HX5.out]; exact Q4.out.cell 14 _ (rcs14 r)
  have c5 : W4.cell? ⟨w.heap.size, 5, none⟩ = some (.bool true) := by rw [← HSS.out]; exact Q4.out.cell 5 _ (rcs5 r)
  have c6 := Q4.out.cell 6 _ (rcs6 r)
  have c7 := Q4.out.cell 7 _ (rcs7 r)
  have c8 := Q4.out.cell 8 _ (rcs8 r)
  have c9 := Q4.out.cell 9 _ (rcs9 r)
  have c10 := Q4.out.cell 10 _ (rcs10 r)
  have c11 := Q4.out.cell 11 _ (rcs11 r)
  have c12 := Q4.out.cell 12 _ (rcs12 r)
  have c13 := Q4.out.cell 13 _ (rcs13 r)
  have c15 := Q4.out.cell 15 _ (rcs15 r)
  have HB : Hid (Calls Tryz.prog 29 #[.int .i64 3] W4 fun e w' => e = .returned (.bool true) ∧ W4 = w') := refHasBal_any 3 W4 (by decide) (by decide)
  have HCm : Hid (Calls Tryz.prog 30 #[.int .i64 3] W4 fun e w' => e = .returned (.bool true) ∧ W4 = w') := refHasCmd_any 3 W4 (by decide) (by decide)
  have HA4 := hide (World.ownsRow.alloc O4.out (.cells #[.int .u8 1] 5))
  obtain ⟨i0, hi, hz0, hz1, hz2⟩ := info_parts Tryz.info5
  have w9 : w.heap.size < W4.heap.size := Q4.out.lt
  go_wp2_with (first | (go_at_call 29; refine HB.out.mono ?_; rintro e w' ⟨rfl, rfl⟩) | (at_builtin; refine wpList_append_own2 rfl _ _ 22 rfl w.heap.size 5 i0 (.int .u8 0) 1 1 Tryz.underlying22 hi hz0 hz1 hz2 rfl (by decide) _ _ _ rfl HA4.out ⟨W4.heap.size, 0, none⟩ 1 1 [.int .u8 1] rfl rfl ?c1 ?c2 (by omega) ?c3 ?c4 ?c5 ?_))
  case c1 =>
    first
    | (intro j u hj
       match j, hj with
       | 0, hj => simp at hj; subst hj; simp [Addr.add])
  case c2 => first | rfl | (intro u hu; simp at hu; subst hu; rfl)
  case c3 => unfold maxLen; omega
  case c4 => omega
  case c5 => first | omega | (simp; omega)
  intro v5 W5 o5 g5 h5
  have B5 := hide ((B4.out.alloc (by have := B4.out.size; omega) (.cells #[.int .u8 1] 5)).grown g5 (by simp; omega) (fun j hj => (World.ownsRow.lt O4.out j hj).1))
  have Q5 : Hid (Blk W5 w.heap.size (rcs r)) := by
    refine (Q4.out.on ((Below.refl _ _).alloc (Nat.le_refl _) (.cells #[.int .u8 1] 5))).of_block (g5.block _ (by simp; omega) (fun e => ?_))
    have h := N4.out _ e.symm
    omega
  obtain ⟨L5, hL5⟩ : ∃ L5, Hid (L4 ++ [1] = L5) := ⟨L4 ++ [1], hide rfl⟩
  have lb5 : L5.length ≤ 22 := by rw [← hL5.out, List.length_append]; have e8 := hn4.out; simp only [List.length_cons, List.length_nil]; omega
  have O5 : Hid (W5.ownsRow w.heap.size 5 1 v5 L5.length (L5.map (Value.int .u8))) := by rw [← hL5.out, List.length_append, List.map_append, hn4.out]; exact o5
  obtain ⟨a5, cp5, rfl, k5a, k5b, s5⟩ := seg_own O5.out
  have S5 := hide s5
  obtain ⟨n5, hn5⟩ : ∃ n5, Hid (L5.length = n5) := ⟨_, rfl⟩
  rw [hn5.out] at S5 lb5 O5 ⊢
  clear o5 g5 h5 s5 k5a k5b HA4 w9 hi hz0 hz1 hz2
  clear c0 c1 c2 c4 c3 c14 c5 c6 c7 c8 c9 c10 c11 c12 c13 c15 Q4 S4 HB HCm
  have c0 : W5.cell? ⟨w.heap.size, 0, none⟩ = some (.int .i64 3) := by rw [← HKK.out]; exact Q5.out.cell 0 _ (rcs0 r)
  have c1 : W5.cell? ⟨w.heap.size, 1, none⟩ = some (.int .i64 (x1 : Int)) := by rw [← HX1.out]; exact Q5.out.cell 1 _ (rcs1 r)
  have c2 : W5.cell? ⟨w.heap.size, 2, none⟩ = some (.int .i64 (x2 : Int)) := by rw [← HX2.out]; exact Q5.out.cell 2 _ (rcs2 r)
  have c4 : W5.cell? ⟨w.heap.size, 4, none⟩ = some (.int .i64 (x3 : Int)) := by rw [← HX3.out]; exact Q5.out.cell 4 _ (rcs4 r)
  have c3 : W5.cell? ⟨w.heap.size, 3, none⟩ = some (.int .i64 (x4 : Int)) := by rw [← HX4.out]; exact Q5.out.cell 3 _ (rcs3 r)
  have c14 : W5.cell? ⟨w.heap.size, 14, none⟩ = some (.int .i64 (x5 : Int)) := by rw [← HX5.out]; exact Q5.out.cell 14 _ (rcs14 r)
  have c5 : W5.cell? ⟨w.heap.size, 5, none⟩ = some (.bool true) := by rw [← HSS.out]; exact Q5.out.cell 5 _ (rcs5 r)
  have c6 := Q5.out.cell 6 _ (rcs6 r)
  have c7 := Q5.out.cell 7 _ (rcs7 r)
  have c8 := Q5.out.cell 8 _ (rcs8 r)
  have c9 := Q5.out.cell 9 _ (rcs9 r)
  have c10 := Q5.out.cell 10 _ (rcs10 r)
  have c11 := Q5.out.cell 11 _ (rcs11 r)
  have c12 := Q5.out.cell 12 _ (rcs12 r)
  have c13 := Q5.out.cell 13 _ (rcs13 r)
  have c15 := Q5.out.cell 15 _ (rcs15 r)
  have HB : Hid (Calls Tryz.prog 29 #[.int .i64 3] W5 fun e w' => e = .returned (.bool true) ∧ W5 = w') := refHasBal_any 3 W5 (by decide) (by decide)
  have HCm : Hid (Calls Tryz.prog 30 #[.int .i64 3] W5 fun e w' => e = .returned (.bool true) ∧ W5 = w') := refHasCmd_any 3 W5 (by decide) (by decide)
  go_wp2_with (first | (go_at_call 29; refine HB.out.mono ?_; rintro e w' ⟨rfl, rfl⟩) | (go_at_call 30; refine HCm.out.mono ?_; rintro e w' ⟨rfl, rfl⟩))
  refine (rencode_any 2 r.c _ HR.out.k1 HR.out.k2 hn1 hn2 HC.out).mono ?_
  rintro e W6 ⟨u6, rfl, o6, b6⟩
  obtain ⟨C, hC⟩ : ∃ C, Hid (encC r.c = C) := ⟨_, rfl⟩
  rw [hC.out] at o6
  have lC : C.length ≤ 131281 := by rw [← hC.out]; exact CL.out
  obtain ⟨a6, cp6, rfl, k6a, k6b, s6⟩ := seg_own o6
  obtain ⟨m6, hm6⟩ : ∃ m6, Hid (C.length = m6) := ⟨_, rfl⟩
  have SC := hide s6
  rw [hm6.out] at SC lC ⊢
  have S6 := hide (S5.out.below b6 (Nat.le_refl _))
  have Q6 := hide (Q5.out.on b6)
  have B6 := hide (B5.out.trans (b6.mono B5.out.size))
  clear o6 b6 s6 k6a k6b
  clear c0 c1 c2 c4 c3 c14 c5 c6 c7 c8 c9 c10 c11 c12 c13 c15 Q5 S5 HB HCm
  have c0 : W6.cell? ⟨w.heap.size, 0, none⟩ = some (.int .i64 3) := by rw [← HKK.out]; exact Q6.out.cell 0 _ (rcs0 r)
  have c1 : W6.cell? ⟨w.heap.size, 1, none⟩ = some (.int .i64 (x1 : Int)) := by rw [← HX1.out]; exact Q6.out.cell 1 _ (rcs1 r)
  have c2 : W6.cell? ⟨w.heap.size, 2, none⟩ = some (.int .i64 (x2 : Int)) := by rw [← HX2.out]; exact Q6.out.cell 2 _ (rcs2 r)
  have c4 : W6.cell? ⟨w.heap.size, 4, none⟩ = some (.int .i64 (x3 : Int)) := by rw [← HX3.out]; exact Q6.out.cell 4 _ (rcs4 r)
  have c3 : W6.cell? ⟨w.heap.size, 3, none⟩ = some (.int .i64 (x4 : Int)) := by rw [← HX4.out]; exact Q6.out.cell 3 _ (rcs3 r)
  have c14 : W6.cell? ⟨w.heap.size, 14, none⟩ = some (.int .i64 (x5 : Int)) := by rw [← HX5.out]; exact Q6.out.cell 14 _ (rcs14 r)
  have c5 : W6.cell? ⟨w.heap.size, 5, none⟩ = some (.bool true) := by rw [← HSS.out]; exact Q6.out.cell 5 _ (rcs5 r)
  have c6 := Q6.out.cell 6 _ (rcs6 r)
  have c7 := Q6.out.cell 7 _ (rcs7 r)
  have c8 := Q6.out.cell 8 _ (rcs8 r)
  have c9 := Q6.out.cell 9 _ (rcs9 r)
  have c10 := Q6.out.cell 10 _ (rcs10 r)
  have c11 := Q6.out.cell 11 _ (rcs11 r)
  have c12 := Q6.out.cell 12 _ (rcs12 r)
  have c13 := Q6.out.cell 13 _ (rcs13 r)
  have c15 := Q6.out.cell 15 _ (rcs15 r)
  have HB : Hid (Calls Tryz.prog 29 #[.int .i64 3] W6 fun e w' => e = .returned (.bool true) ∧ W6 = w') := refHasBal_any 3 W6 (by decide) (by decide)
  have HCm : Hid (Calls Tryz.prog 30 #[.int .i64 3] W6 fun e w' => e = .returned (.bool true) ∧ W6 = w') := refHasCmd_any 3 W6 (by decide) (by decide)
  go_wp2_with (first | (go_at_call 29; refine HB.out.mono ?_; rintro e w' ⟨rfl, rfl⟩) | (go_at_call 30; refine HCm.out.mono ?_; rintro e w' ⟨rfl, rfl⟩))
  refine (add6_any _ _ _ _ _ _ L5 C _ S6.out SC.out (by omega)).mono ?_
  rintro e W7 ⟨v7, rfl, o7, b7⟩
  have Q7 := hide (Q6.out.on b7)
  have B7 := hide (B6.out.trans (b7.mono B6.out.size))
  obtain ⟨L7, hL7⟩ : ∃ L7, Hid (L5 ++ C = L7) := ⟨L5 ++ C, hide rfl⟩
  rw [hL7.out] at o7
  have lb7 : L7.length ≤ 131303 := by rw [← hL7.out, List.length_append]; have e8 := hn5.out; have e7 := hm6.out; omega
  obtain ⟨a7, cp7, rfl, k7a, k7b, s7⟩ := seg_own o7
  have S7 := hide s7
  have O7 := hide (own_more o7 B6.out.size)
  obtain ⟨n7, hn7⟩ : ∃ n7, Hid (L7.length = n7) := ⟨_, rfl⟩
  rw [hn7.out] at S7 lb7 O7 ⊢
  clear o7 b7 s7 k7a k7b
  clear c0 c1 c2 c4 c3 c14 c5 c6 c7 c8 c9 c10 c11 c12 c13 c15 Q6 S6 HB HCm
  have c0 : W7.cell? ⟨w.heap.size, 0, none⟩ = some (.int .i64 3) := by rw [← HKK.out]; exact Q7.out.cell 0 _ (rcs0 r)
  have c1 : W7.cell? ⟨w.heap.size, 1, none⟩ = some (.int .i64 (x1 : Int)) := by rw [← HX1.out]; exact Q7.out.cell 1 _ (rcs1 r)
  have c2 : W7.cell? ⟨w.heap.size, 2, none⟩ = some (.int .i64 (x2 : Int)) := by rw [← HX2.out]; exact Q7.out.cell 2 _ (rcs2 r)
  have c4 : W7.cell? ⟨w.heap.size, 4, none⟩ = some (.int .i64 (x3 : Int)) := by rw [← HX3.out]; exact Q7.out.cell 4 _ (rcs4 r)
  have c3 : W7.cell? ⟨w.heap.size, 3, none⟩ = some (.int .i64 (x4 : Int)) := by rw [← HX4.out]; exact Q7.out.cell 3 _ (rcs3 r)
  have c14 : W7.cell? ⟨w.heap.size, 14, none⟩ = some (.int .i64 (x5 : Int)) := by rw [← HX5.out]; exact Q7.out.cell 14 _ (rcs14 r)
  have c5 : W7.cell? ⟨w.heap.size, 5, none⟩ = some (.bool true) := by rw [← HSS.out]; exact Q7.out.cell 5 _ (rcs5 r)
  have c6 := Q7.out.cell 6 _ (rcs6 r)
  have c7 := Q7.out.cell 7 _ (rcs7 r)
  have c8 := Q7.out.cell 8 _ (rcs8 r)
  have c9 := Q7.out.cell 9 _ (rcs9 r)
  have c10 := Q7.out.cell 10 _ (rcs10 r)
  have c11 := Q7.out.cell 11 _ (rcs11 r)
  have c12 := Q7.out.cell 12 _ (rcs12 r)
  have c13 := Q7.out.cell 13 _ (rcs13 r)
  have c15 := Q7.out.cell 15 _ (rcs15 r)
  have HB : Hid (Calls Tryz.prog 29 #[.int .i64 3] W7 fun e w' => e = .returned (.bool true) ∧ W7 = w') := refHasBal_any 3 W7 (by decide) (by decide)
  have HCm : Hid (Calls Tryz.prog 30 #[.int .i64 3] W7 fun e w' => e = .returned (.bool true) ∧ W7 = w') := refHasCmd_any 3 W7 (by decide) (by decide)
  clear SC
  go_wp2_with (first | (go_at_call 29; refine HB.out.mono ?_; rintro e w' ⟨rfl, rfl⟩) | (go_at_call 30; refine HCm.out.mono ?_; rintro e w' ⟨rfl, rfl⟩))
  refine (number6_any _ _ _ L7 (x5) _ S7.out (by omega) (by omega)).mono ?_
  rintro e W8 ⟨v8, rfl, o8, b8⟩
  have Q8 := hide (Q7.out.on b8)
  have B8 := hide (B7.out.trans (b8.mono B7.out.size))
  obtain ⟨L8, hL8⟩ : ∃ L8, Hid (L7 ++ enc (x5) = L8) := ⟨L7 ++ enc (x5), hide rfl⟩
  rw [hL8.out] at o8
  have lb8 : L8.length ≤ 131313 := by rw [← hL8.out, List.length_append]; have e9 : (enc (x5)).length ≤ 10 := (enc_le _ (by omega)).2; have e8 := hn7.out; omega
  obtain ⟨a8, cp8, rfl, k8a, k8b, s8⟩ := seg_own o8
  have S8 := hide s8
  have O8 := hide (own_more o8 B7.out.size)
  obtain ⟨n8, hn8⟩ : ∃ n8, Hid (L8.length = n8) := ⟨_, rfl⟩
  rw [hn8.out] at S8 lb8 O8 ⊢
  clear o8 b8 s8 k8a k8b
  clear c0 c1 c2 c4 c3 c14 c5 c6 c7 c8 c9 c10 c11 c12 c13 c15 Q7 S7 HB HCm
  have c0 : W8.cell? ⟨w.heap.size, 0, none⟩ = some (.int .i64 3) := by rw [← HKK.out]; exact Q8.out.cell 0 _ (rcs0 r)
  have c1 : W8.cell? ⟨w.heap.size, 1, none⟩ = some (.int .i64 (x1 : Int)) := by rw [← HX1.out]; exact Q8.out.cell 1 _ (rcs1 r)
  have c2 : W8.cell? ⟨w.heap.size, 2, none⟩ = some (.int .i64 (x2 : Int)) := by rw [← HX2.out]; exact Q8.out.cell 2 _ (rcs2 r)
  have c4 : W8.cell? ⟨w.heap.size, 4, none⟩ = some (.int .i64 (x3 : Int)) := by rw [← HX3.out]; exact Q8.out.cell 4 _ (rcs4 r)
  have c3 : W8.cell? ⟨w.heap.size, 3, none⟩ = some (.int .i64 (x4 : Int)) := by rw [← HX4.out]; exact Q8.out.cell 3 _ (rcs3 r)
  have c14 : W8.cell? ⟨w.heap.size, 14, none⟩ = some (.int .i64 (x5 : Int)) := by rw [← HX5.out]; exact Q8.out.cell 14 _ (rcs14 r)
  have c5 : W8.cell? ⟨w.heap.size, 5, none⟩ = some (.bool true) := by rw [← HSS.out]; exact Q8.out.cell 5 _ (rcs5 r)
  have c6 := Q8.out.cell 6 _ (rcs6 r)
  have c7 := Q8.out.cell 7 _ (rcs7 r)
  have c8 := Q8.out.cell 8 _ (rcs8 r)
  have c9 := Q8.out.cell 9 _ (rcs9 r)
  have c10 := Q8.out.cell 10 _ (rcs10 r)
  have c11 := Q8.out.cell 11 _ (rcs11 r)
  have c12 := Q8.out.cell 12 _ (rcs12 r)
  have c13 := Q8.out.cell 13 _ (rcs13 r)
  have c15 := Q8.out.cell 15 _ (rcs15 r)
  have HB : Hid (Calls Tryz.prog 29 #[.int .i64 3] W8 fun e w' => e = .returned (.bool true) ∧ W8 = w') := refHasBal_any 3 W8 (by decide) (by decide)
  have HCm : Hid (Calls Tryz.prog 30 #[.int .i64 3] W8 fun e w' => e = .returned (.bool true) ∧ W8 = w') := refHasCmd_any 3 W8 (by decide) (by decide)
  go_wp2_with (first | (go_at_call 29; refine HB.out.mono ?_; rintro e w' ⟨rfl, rfl⟩) | (go_at_call 30; refine HCm.out.mono ?_; rintro e w' ⟨rfl, rfl⟩))
  refine (rpack_any 2 r.da r.dn r.dc r.deps _ (HR.out.seg.below B8.out (Nat.le_refl _))).mono ?_
  rintro e W9 ⟨u9, rfl, o9, b9⟩
  rw [PE.out]
  obtain ⟨D, hD⟩ : ∃ D, Hid (packR 2 r.deps = D) := ⟨_, rfl⟩
  rw [hD.out] at o9
  have lD : D.length ≤ 131281 := by rw [← hD.out]; exact PL.out
  obtain ⟨a9, cp9, rfl, k9a, k9b, s9⟩ := seg_own o9
  obtain ⟨m9, hm9⟩ : ∃ m9, Hid (D.length = m9) := ⟨_, rfl⟩
  have SD := hide s9
  rw [hm9.out] at SD lD ⊢
  have S9 := hide (S8.out.below b9 (Nat.le_refl _))
  have Q9 := hide (Q8.out.on b9)
  have B9 := hide (B8.out.trans (b9.mono B8.out.size))
  clear o9 b9 s9 k9a k9b
  clear c0 c1 c2 c4 c3 c14 c5 c6 c7 c8 c9 c10 c11 c12 c13 c15 Q8 S8 HB HCm
  have c0 : W9.cell? ⟨w.heap.size, 0, none⟩ = some (.int .i64 3) := by rw [← HKK.out]; exact Q9.out.cell 0 _ (rcs0 r)
  have c1 : W9.cell? ⟨w.heap.size, 1, none⟩ = some (.int .i64 (x1 : Int)) := by rw [← HX1.out]; exact Q9.out.cell 1 _ (rcs1 r)
  have c2 : W9.cell? ⟨w.heap.size, 2, none⟩ = some (.int .i64 (x2 : Int)) := by rw [← HX2.out]; exact Q9.out.cell 2 _ (rcs2 r)
  have c4 : W9.cell? ⟨w.heap.size, 4, none⟩ = some (.int .i64 (x3 : Int)) := by rw [← HX3.out]; exact Q9.out.cell 4 _ (rcs4 r)
  have c3 : W9.cell? ⟨w.heap.size, 3, none⟩ = some (.int .i64 (x4 : Int)) := by rw [← HX4.out]; exact Q9.out.cell 3 _ (rcs3 r)
  have c14 : W9.cell? ⟨w.heap.size, 14, none⟩ = some (.int .i64 (x5 : Int)) := by rw [← HX5.out]; exact Q9.out.cell 14 _ (rcs14 r)
  have c5 : W9.cell? ⟨w.heap.size, 5, none⟩ = some (.bool true) := by rw [← HSS.out]; exact Q9.out.cell 5 _ (rcs5 r)
  have c6 := Q9.out.cell 6 _ (rcs6 r)
  have c7 := Q9.out.cell 7 _ (rcs7 r)
  have c8 := Q9.out.cell 8 _ (rcs8 r)
  have c9 := Q9.out.cell 9 _ (rcs9 r)
  have c10 := Q9.out.cell 10 _ (rcs10 r)
  have c11 := Q9.out.cell 11 _ (rcs11 r)
  have c12 := Q9.out.cell 12 _ (rcs12 r)
  have c13 := Q9.out.cell 13 _ (rcs13 r)
  have c15 := Q9.out.cell 15 _ (rcs15 r)
  have HB : Hid (Calls Tryz.prog 29 #[.int .i64 3] W9 fun e w' => e = .returned (.bool true) ∧ W9 = w') := refHasBal_any 3 W9 (by decide) (by decide)
  have HCm : Hid (Calls Tryz.prog 30 #[.int .i64 3] W9 fun e w' => e = .returned (.bool true) ∧ W9 = w') := refHasCmd_any 3 W9 (by decide) (by decide)
  go_wp2_with (first | (go_at_call 29; refine HB.out.mono ?_; rintro e w' ⟨rfl, rfl⟩) | (go_at_call 30; refine HCm.out.mono ?_; rintro e w' ⟨rfl, rfl⟩))
  refine (add6_any _ _ _ _ _ _ L8 D _ S9.out SD.out (by omega)).mono ?_
  rintro e W10 ⟨v10, rfl, o10, b10⟩
  have Q10 := hide (Q9.out.on b10)
  have B10 := hide (B9.out.trans (b10.mono B9.out.size))
  obtain ⟨L10, hL10⟩ : ∃ L10, Hid (L8 ++ D = L10) := ⟨L8 ++ D, hide rfl⟩
  rw [hL10.out] at o10
  have lb10 : L10.length ≤ 262594 := by rw [← hL10.out, List.length_append]; have e8 := hn8.out; have e7 := hm9.out; omega
  obtain ⟨a10, cp10, rfl, k10a, k10b, s10⟩ := seg_own o10
  have S10 := hide s10
  have O10 := hide (own_more o10 B9.out.size)
  obtain ⟨n10, hn10⟩ : ∃ n10, Hid (L10.length = n10) := ⟨_, rfl⟩
  rw [hn10.out] at S10 lb10 O10 ⊢
  clear o10 b10 s10 k10a k10b
  clear c0 c1 c2 c4 c3 c14 c5 c6 c7 c8 c9 c10 c11 c12 c13 c15 Q9 S9 HB HCm
  have c0 : W10.cell? ⟨w.heap.size, 0, none⟩ = some (.int .i64 3) := by rw [← HKK.out]; exact Q10.out.cell 0 _ (rcs0 r)
  have c1 : W10.cell? ⟨w.heap.size, 1, none⟩ = some (.int .i64 (x1 : Int)) := by rw [← HX1.out]; exact Q10.out.cell 1 _ (rcs1 r)
  have c2 : W10.cell? ⟨w.heap.size, 2, none⟩ = some (.int .i64 (x2 : Int)) := by rw [← HX2.out]; exact Q10.out.cell 2 _ (rcs2 r)
  have c4 : W10.cell? ⟨w.heap.size, 4, none⟩ = some (.int .i64 (x3 : Int)) := by rw [← HX3.out]; exact Q10.out.cell 4 _ (rcs4 r)
  have c3 : W10.cell? ⟨w.heap.size, 3, none⟩ = some (.int .i64 (x4 : Int)) := by rw [← HX4.out]; exact Q10.out.cell 3 _ (rcs3 r)
  have c14 : W10.cell? ⟨w.heap.size, 14, none⟩ = some (.int .i64 (x5 : Int)) := by rw [← HX5.out]; exact Q10.out.cell 14 _ (rcs14 r)
  have c5 : W10.cell? ⟨w.heap.size, 5, none⟩ = some (.bool true) := by rw [← HSS.out]; exact Q10.out.cell 5 _ (rcs5 r)
  have c6 := Q10.out.cell 6 _ (rcs6 r)
  have c7 := Q10.out.cell 7 _ (rcs7 r)
  have c8 := Q10.out.cell 8 _ (rcs8 r)
  have c9 := Q10.out.cell 9 _ (rcs9 r)
  have c10 := Q10.out.cell 10 _ (rcs10 r)
  have c11 := Q10.out.cell 11 _ (rcs11 r)
  have c12 := Q10.out.cell 12 _ (rcs12 r)
  have c13 := Q10.out.cell 13 _ (rcs13 r)
  have c15 := Q10.out.cell 15 _ (rcs15 r)
  have HB : Hid (Calls Tryz.prog 29 #[.int .i64 3] W10 fun e w' => e = .returned (.bool true) ∧ W10 = w') := refHasBal_any 3 W10 (by decide) (by decide)
  have HCm : Hid (Calls Tryz.prog 30 #[.int .i64 3] W10 fun e w' => e = .returned (.bool true) ∧ W10 = w') := refHasCmd_any 3 W10 (by decide) (by decide)
  clear SD
  go_wp2_with (first | (go_at_call 29; refine HB.out.mono ?_; rintro e w' ⟨rfl, rfl⟩) | (go_at_call 30; refine HCm.out.mono ?_; rintro e w' ⟨rfl, rfl⟩))
  go_ret2
  have FIN : Hid (recB r = L10) := by
    show r.kind :: (rowR r.kind).flatMap (wrF r) = _
    rw [HKK.out, show rowR 3 = [105, 98, 115, 99, 113, 100] from rfl]
    simp only [List.flatMap_cons, List.flatMap_nil, E1.out, E2.out, E3.out, E4.out, E5.out, E6.out]
    rw [← hL10.out, ← hL8.out, ← hL7.out, ← hL5.out, ← hL4.out, ← hL3.out, ← hC.out, ← hD.out]
    simp
  rw [FIN.out, hn10.out]
  exact ⟨_, rfl, O10.out, B10.out⟩

set_option maxHeartbeats 4000000 in
set_option maxRecDepth 100000 in
theorem r6_3fn (n : Int) (r : Rc) (w : World) (hr : Rok w r) (hn1 : -9223372036854775808 ≤ r.c.n) (hn2 : r.c.n ≤ 9223372036854775807) (hz : chkR n r = 0) (hk : r.kind = 3) (hs : r.same = false) (hq : r.c.kind = 0) :
    Calls Tryz.prog 14 #[.int .i64 n, .agg (rcs r).toArray] w fun e w' => ∃ u, e = .returned (.tuple #[u, .int .i64 0]) ∧ w'.ownsRow w.heap.size 5 1 u (recB r).length ((recB r).map (Value.int .u8)) ∧ Below w.heap.size w w' := by
  obtain ⟨V, hV, Q⟩ := zX w 31 (rcs r)
  have BV : Hid (Below w.heap.size w V) := by rw [hV]; exact (Below.refl _ _).alloc (Nat.le_refl _) _
  have HR := hide hr
  have HFit := hide (fit_of_chk hz)
  have HZ := hide hz
  have HKK := hide hk
  have HSS := hide hs
  have HQ0 := hide hq
  have HXR : Hid (rowR r.kind = [105, 98, 115, 99, 113, 100]) := by show _ = _; rw [hk]; rfl
  have FT : Hid (∀ x ∈ ([105, 98, 115, 99, 113, 100] : List Nat), fitF r x) := by intro x hx; exact HFit.out x (by rw [HXR.out]; exact hx)
  obtain ⟨i1, i2, i3, i4⟩ : 0 ≤ r.row ∧ r.row ≤ 7 ∧ 0 ≤ r.num ∧ r.num ≤ 1048576 := FT.out 105 (by simp)
  obtain ⟨x1, hx1⟩ := Int.eq_ofNat_of_zero_le i1
  obtain ⟨x2, hx2⟩ := Int.eq_ofNat_of_zero_le i3
  have E1 : Hid (wrF r 105 = enc (8 * x2 + x1)) := by show enc (8 * r.num + r.row).toNat = _; rw [hx1, hx2]; exact congrArg enc (by omega)
  obtain ⟨i5, i6, i7, i8⟩ : 0 ≤ r.who ∧ r.who ≤ 7 ∧ 0 ≤ r.round ∧ r.round ≤ 65535 := FT.out 98 (by simp)
  obtain ⟨x3, hx3⟩ := Int.eq_ofNat_of_zero_le i5
  obtain ⟨x4, hx4⟩ := Int.eq_ofNat_of_zero_le i7
  have E2 : Hid (wrF r 98 = enc (8 * x4 + x3)) := by show enc (8 * r.round + r.who).toNat = _; rw [hx3, hx4]; exact congrArg enc (by omega)
  have E3 : Hid (wrF r 115 = [0]) := by show [if r.same then (1 : Int) else 0] = _; rw [hs]; rfl
  have HC : Hid (chk 2 r.c = 0) := FT.out 99 (by simp)
  have E4 : Hid (wrF r 99 = encC r.c) := rfl
  have NO : Hid (noopR r = true) := by show _ = _; simp [noopR, hq]
  have E5 : Hid (wrF r 113 = []) := by show (if noopR r then [] else enc r.seq.toNat) = _; rw [NO.out]; rfl
  have E6 : Hid (wrF r 100 = []) := by show (if noopR r then [] else packL 2 r.deps) = _; rw [NO.out]; rfl
  have CL : Hid ((encC r.c).length ≤ 131281) := encC_le HC.out
  have y1 : x1 ≤ 7 := by omega
  have y1a : (0 : Int) ≤ (x1 : Int) := by omega
  have y1b : (x1 : Int) ≤ 7 := by omega
  have y2 : x2 ≤ 1048576 := by omega
  have y2a : (0 : Int) ≤ (x2 : Int) := by omega
  have y2b : (x2 : Int) ≤ 1048576 := by omega
  have y3 : x3 ≤ 7 := by omega
  have y3a : (0 : Int) ≤ (x3 : Int) := by omega
  have y3b : (x3 : Int) ≤ 7 := by omega
  have y4 : x4 ≤ 65535 := by omega
  have y4a : (0 : Int) ≤ (x4 : Int) := by omega
  have y4b : (x4 : Int) ≤ 65535 := by omega
  clear i1 i2 i3 i4 i5 i6 i7 i8
  have HX1 := hide hx1
  have HX2 := hide hx2
  have HX3 := hide hx3
  have HX4 := hide hx4
  clear hr hz hk HFit HXR FT hq hs hx1 hx2 hx3 hx4
  go_enter Tryz.func14, Tryz.ntmps14
  go_upto_region 1 with fail
  rw [← hV]
  clear hV
  go_wp2_with (first | (refine wpList_load_mid rfl 31 _ rfl w.heap.size 0 rfl (rcs r) _ Q.out.range Tryz.underlying31 rfl (by kernel_rfl) ?_))
  refine (refCheck_any n r _ (HR.out.below BV.out (Nat.le_refl _))).mono ?_
  rintro e w1 ⟨rfl, hb1⟩
  rw [HZ.out]
  have B1 : Hid (Below w.heap.size w w1) := BV.out.trans (hb1.mono BV.out.size)
  have Q1 : Hid (Blk w1 w.heap.size (rcs r)) := Q.out.on hb1
  clear hb1 Q BV
  obtain ⟨W, hW⟩ : ∃ W, W = w1.alloc (.cells #[.int .u8 3] 5) := ⟨_, rfl⟩
  have BW : Hid (Below w1.heap.size w1 W) := by rw [hW]; exact (Below.refl _ _).alloc (Nat.le_refl _) _
  have SW : Hid (Seg W (some ⟨w1.heap.size, 0, none⟩) 1 [3]) := by rw [hW]; exact seg_one6 w1 3
  have Q2 : Hid (Blk W w.heap.size (rcs r)) := Q1.out.on BW.out
  have B2 : Hid (Below w.heap.size w W) := B1.out.trans (BW.out.mono B1.out.size)
  have d0 : w1.cell? ⟨w.heap.size, 0, none⟩ = some (.int .i64 3) := by rw [← HKK.out]; exact Q1.out.cell 0 _ (rcs0 r)
  have z1 : w.heap.size < w1.heap.size := Q1.out.lt
  clear B1 Q1 BW
  have HW := hide hW
  clear hW
  go_upto_region 5 with fail
  rw [show w1.alloc (.cells #[.int .u8 3] 5) = W from HW.out.symm]
  clear d0 HW
  obtain ⟨q0, hq0⟩ : ∃ q0, Hid (w1.heap.size = q0) := ⟨_, rfl⟩
  rw [hq0.out] at SW z1 ⊢
  clear hq0
  have c0 : W.cell? ⟨w.heap.size, 0, none⟩ = some (.int .i64 3) := by rw [← HKK.out]; exact Q2.out.cell 0 _ (rcs0 r)
  have c1 : W.cell? ⟨w.heap.size, 1, none⟩ = some (.int .i64 (x1 : Int)) := by rw [← HX1.out]; exact Q2.out.cell 1 _ (rcs1 r)
  have c2 : W.cell? ⟨w.heap.size, 2, none⟩ = some (.int .i64 (x2 : Int)) := by rw [← HX2.out]; exact Q2.out.cell 2 _ (rcs2 r)
  have c4 : W.cell? ⟨w.heap.size, 4, none⟩ = some (.int .i64 (x3 : Int)) := by rw [← HX3.out]; exact Q2.out.cell 4 _ (rcs4 r)
  have c3 : W.cell? ⟨w.heap.size, 3, none⟩ = some (.int .i64 (x4 : Int)) := by rw [← HX4.out]; exact Q2.out.cell 3 _ (rcs3 r)
  have c5 : W.cell? ⟨w.heap.size, 5, none⟩ = some (.bool false) := by rw [← HSS.out]; exact Q2.out.cell 5 _ (rcs5 r)
  have c6 : W.cell? ⟨w.heap.size, 6, none⟩ = some (.int .i64 0) := by rw [← HQ0.out]; exact Q2.out.cell 6 _ (rcs6 r)
  have c7 := Q2.out.cell 7 _ (rcs7 r)
  have c8 := Q2.out.cell 8 _ (rcs8 r)
  have c9 := Q2.out.cell 9 _ (rcs9 r)
  have c10 := Q2.out.cell 10 _ (rcs10 r)
  have c11 := Q2.out.cell 11 _ (rcs11 r)
  have c12 := Q2.out.cell 12 _ (rcs12 r)
  have c13 := Q2.out.cell 13 _ (rcs13 r)
  have HB : Hid (Calls Tryz.prog 29 #[.int .i64 3] W fun e w' => e = .returned (.bool true) ∧ W = w') := refHasBal_any 3 W (by decide) (by decide)
  have HCm : Hid (Calls Tryz.prog 30 #[.int .i64 3] W fun e w' => e = .returned (.bool true) ∧ W = w') := refHasCmd_any 3 W (by decide) (by decide)
  go_wp2_with (first | (go_at_call 29; refine HB.out.mono ?_; rintro e w' ⟨rfl, rfl⟩) | (go_at_call 30; refine HCm.out.mono ?_; rintro e w' ⟨rfl, rfl⟩))
  refine (number6_any _ _ _ [3] (8 * x2 + x1) _ SW.out (by omega) (by omega)).mono ?_
  rintro e W3 ⟨v3, rfl, o3, b3⟩
  have Q3 := hide (Q2.out.on b3)
  have B3 := hide (B2.out.trans (b3.mono B2.out.size))
  obtain ⟨L3, hL3⟩ : ∃ L3, Hid ([3] ++ enc (8 * x2 + x1) = L3) := ⟨[3] ++ enc (8 * x2 + x1), hide rfl⟩
  rw [hL3.out] at o3
  have lb3 : L3.length ≤ 11 := by rw [← hL3.out, List.length_append]; have e9 : (enc (8 * x2 + x1)).length ≤ 10 := (enc_le _ (by omega)).2; simp only [List.length_cons, List.length_nil]; omega
  obtain ⟨a3, cp3, rfl, k3a, k3b, s3⟩ := seg_own o3
  have S3 := hide s3
  have O3 := hide (own_more o3 B2.out.size)
  obtain ⟨n3, hn3⟩ : ∃ n3, Hid (L3.length = n3) := ⟨_, rfl⟩
  rw [hn3.out] at S3 lb3 O3 ⊢
  clear o3 b3 s3 k3a k3b
  clear c0 c1 c2 c4 c3 c5 c6 c7 c8 c9 c10 c11 c12 c13 Q2 SW HB HCm
  have c0 : W3.cell? ⟨w.heap.size, 0, none⟩ = some (.int .i64 3) := by rw [← HKK.out]; exact Q3.out.cell 0 _ (rcs0 r)
  have c1 : W3.cell? ⟨w.heap.size, 1, none⟩ = some (.int .i64 (x1 : Int)) := by rw [← HX1.out]; exact Q3.out.cell 1 _ (rcs1 r)
  have c2 : W3.cell? ⟨w.heap.size, 2, none⟩ = some (.int .i64 (x2 : Int)) := by rw [← HX2.out]; exact Q3.out.cell 2 _ (rcs2 r)
  have c4 : W3.cell? ⟨w.heap.size, 4, none⟩ = some (.int .i64 (x3 : Int)) := by rw [← HX3.out]; exact Q3.out.cell 4 _ (rcs4 r)
  have c3 : W3.cell? ⟨w.heap.size, 3, none⟩ = some (.int .i64 (x4 : Int)) := by rw [← HX4.out]; exact Q3.out.cell 3 _ (rcs3 r)
  have c5 : W3.cell? ⟨w.heap.size, 5, none⟩ = some (.bool false) := by rw [← HSS.out]; exact Q3.out.cell 5 _ (rcs5 r)
  have c6 : W3.cell? ⟨w.heap.size, 6, none⟩ = some (.int .i64 0) := by rw [← HQ0.out]; exact Q3.out.cell 6 _ (rcs6 r)
  have c7 := Q3.out.cell 7 _ (rcs7 r)
  have c8 := Q3.out.cell 8 _ (rcs8 r)
  have c9 := Q3.out.cell 9 _ (rcs9 r)
  have c10 := Q3.out.cell 10 _ (rcs10 r)
  have c11 := Q3.out.cell 11 _ (rcs11 r)
  have c12 := Q3.out.cell 12 _ (rcs12 r)
  have c13 := Q3.out.cell 13 _ (rcs13 r)
  have HB : Hid (Calls Tryz.prog 29 #[.int .i64 3] W3 fun e w' => e = .returned (.bool true) ∧ W3 = w') := refHasBal_any 3 W3 (by decide) (by decide)
  have HCm : Hid (Calls Tryz.prog 30 #[.int .i64 3] W3 fun e w' => e = .returned (.bool true) ∧ W3 = w') := refHasCmd_any 3 W3 (by decide) (by decide)
  go_wp2_with (first | (go_at_call 29; refine HB.out.mono ?_; rintro e w' ⟨rfl, rfl⟩) | (go_at_call 30; refine HCm.out.mono ?_; rintro e w' ⟨rfl, rfl⟩))
  refine (number6_any _ _ _ L3 (8 * x4 + x3) _ S3.out (by omega) (by omega)).mono ?_
  rintro e W4 ⟨v4, rfl, o4, b4⟩
  have Q4 := hide (Q3.out.on b4)
  have B4 := hide (B3.out.trans (b4.mono B3.out.size))
  obtain ⟨L4, hL4⟩ : ∃ L4, Hid (L3 ++ enc (8 * x4 + x3) = L4) := ⟨L3 ++ enc (8 * x4 + x3), hide rfl⟩
  rw [hL4.out] at o4
  have lb4 : L4.length ≤ 21 := by rw [← hL4.out, List.length_append]; have e9 : (enc (8 * x4 + x3)).length ≤ 10 := (enc_le _ (by omega)).2; have e8 := hn3.out; omega
  have N4 : Hid (∀ k, v4.ownBlock = some k → w.heap.size < k) := fun k hk => Nat.lt_of_lt_of_le Q3.out.lt (World.ownsRow.lt o4 k hk).1
  obtain ⟨a4, cp4, rfl, k4a, k4b, s4⟩ := seg_own o4
  have S4 := hide s4
  have O4 := hide (own_more o4 B3.out.size)
  obtain ⟨n4, hn4⟩ : ∃ n4, Hid (L4.length = n4) := ⟨_, rfl⟩
  rw [hn4.out] at S4 lb4 O4 N4 ⊢
  clear o4 b4 s4 k4a k4b
  clear c0 c1 c2 c4 c3 c5 c6 c7 c8 c9 c10 c11 c12 c13 Q3 S3 HB HCm
  have c0 : W4.cell? ⟨w.heap.size, 0, none⟩ = some (.int .i64 3) := by rw [← HKK.out]; exact Q4.out.cell 0 _ (rcs0 r)
  have c1 : W4.cell? ⟨w.heap.size, 1, none⟩ = some (.int .i64 (x1 : Int)) := by rw [← HX1.out]; exact Q4.out.cell 1 _ (rcs1 r)
  have c2 : W4.cell? ⟨w.heap.size, 2, none⟩ = some (.int .i64 (x2 : Int)) := by rw [← HX2.out]; exact Q4.out.cell 2 _ (rcs2 r)
  have c4 : W4.cell? ⟨w.heap.size, 4, none⟩ = some (.int .i64 (x3 : Int)) := by rw [← HX3.out]; exact Q4.out.cell 4 _ (rcs4 r)
  have c3 : W4.cell? ⟨w.heap.size, 3, none⟩ = some (.int .i64 (x4 : Int)) := by rw [← HX4.out]; exact Q4.out.cell 3 _ (rcs3 r)
  have c5 : W4.cell? ⟨w.heap.size, 5, none⟩ = some (.bool false) := by rw [← HSS.out]; exact Q4.out.cell 5 _ (rcs5 r)
  have c6 : W4.cell? ⟨w.heap.size, 6, none⟩ = some (.int .i64 0) := by rw [← HQ0.out]; exact Q4.out.cell 6 _ (rcs6 r)
  have c7 := Q4.out.cell 7 _ (rcs7 r)
  have c8 := Q4.out.cell 8 _ (rcs8 r)
  have c9 := Q4.out.cell 9 _ (rcs9 r)
  have c10 := Q4.out.cell 10 _ (rcs10 r)
  have c11 := Q4.out.cell 11 _ (rcs11 r)
  have c12 := Q4.out.cell 12 _ (rcs12 r)
  have c13 := Q4.out.cell 13 _ (rcs13 r)
  have HB : Hid (Calls Tryz.prog 29 #[.int .i64 3] W4 fun e w' => e = .returned (.bool true) ∧ W4 = w') := refHasBal_any 3 W4 (by decide) (by decide)
  have HCm : Hid (Calls Tryz.prog 30 #[.int .i64 3] W4 fun e w' => e = .returned (.bool true) ∧ W4 = w') := refHasCmd_any 3 W4 (by decide) (by decide)
  have HA4 := hide (World.ownsRow.alloc O4.out (.cells #[.int .u8 0] 5))
  obtain ⟨i0, hi, hz0, hz1, hz2⟩ := info_parts Tryz.info5
  have w9 : w.heap.size < W4.heap.size := Q4.out.lt
  go_wp2_with (first | (go_at_call 29; refine HB.out.mono ?_; rintro e w' ⟨rfl, rfl⟩) | (at_builtin; refine wpList_append_own2 rfl _ _ 22 rfl w.heap.size 5 i0 (.int .u8 0) 1 1 Tryz.underlying22 hi hz0 hz1 hz2 rfl (by decide) _ _ _ rfl HA4.out ⟨W4.heap.size, 0, none⟩ 1 1 [.int .u8 0] rfl rfl ?c1 ?c2 (by omega) ?c3 ?c4 ?c5 ?_))
  case c1 =>
    first
    | (intro j u hj
       match j, hj with
       | 0, hj => simp at hj; subst hj; simp [Addr.add])
  case c2 => first | rfl | (intro u hu; simp at hu; subst hu; rfl)
  case c3 => unfold maxLen; omega
  case c4 => omega
  case c5 => first | omega | (simp; omega)
  intro v5 W5 o5 g5 h5
  have B5 := hide ((B4.out.alloc (by have := B4.out.size; omega) (.cells #[.int .u8 0] 5)).grown g5 (by simp; omega) (fun j hj => (World.ownsRow.lt O4.out j hj).1))
  have Q5 : Hid (Blk W5 w.heap.size (rcs r)) := by
    refine (Q4.out.on ((Below.refl _ _).alloc (Nat.le_refl _) (.cells #[.int .u8 0] 5))).of_block (g5.block _ (by simp; omega) (fun e => ?_))
    have h := N4.out _ e.symm
    omega
  obtain ⟨L5, hL5⟩ : ∃ L5, Hid (L4 ++ [0] = L5) := ⟨L4 ++ [0], hide rfl⟩
  have lb5 : L5.length ≤ 22 := by rw [← hL5.out, List.length_append]; have e8 := hn4.out; simp only [List.length_cons, List.length_nil]; omega
  have O5 : Hid (W5.ownsRow w.heap.size 5 1 v5 L5.length (L5.map (Value.int .u8))) := by rw [← hL5.out, List.length_append, List.map_append, hn4.out]; exact o5
  obtain ⟨a5, cp5, rfl, k5a, k5b, s5⟩ := seg_own O5.out
  have S5 := hide s5
  obtain ⟨n5, hn5⟩ : ∃ n5, Hid (L5.length = n5) := ⟨_, rfl⟩
  rw [hn5.out] at S5 lb5 O5 ⊢
  clear o5 g5 h5 s5 k5a k5b HA4 w9 hi hz0 hz1 hz2
  clear c0 c1 c2 c4 c3 c5 c6 c7 c8 c9 c10 c11 c12 c13 Q4 S4 HB HCm
  have c0 : W5.cell? ⟨w.heap.size, 0, none⟩ = some (.int .i64 3) := by rw [← HKK.out]; exact Q5.out.cell 0 _ (rcs0 r)
  have c1 : W5.cell? ⟨w.heap.size, 1, none⟩ = some (.int .i64 (x1 : Int)) := by rw [← HX1.out]; exact Q5.out.cell 1 _ (rcs1 r)
  have c2 : W5.cell? ⟨w.heap.size, 2, none⟩ = some (.int .i64 (x2 : Int)) := by rw [← HX2.out]; exact Q5.out.cell 2 _ (rcs2 r)
  have c4 : W5.cell? ⟨w.heap.size, 4, none⟩ = some (.int .i64 (x3 : Int)) := by rw [← HX3.out]; exact Q5.out.cell 4 _ (rcs4 r)
  have c3 : W5.cell? ⟨w.heap.size, 3, none⟩ = some (.int .i64 (x4 : Int)) := by rw [← HX4.out]; exact Q5.out.cell 3 _ (rcs3 r)
  have c5 : W5.cell? ⟨w.heap.size, 5, none⟩ = some (.bool false) := by rw [← HSS.out]; exact Q5.out.cell 5 _ (rcs5 r)
  have c6 : W5.cell? ⟨w.heap.size, 6, none⟩ = some (.int .i64 0) := by rw [← HQ0.out]; exact Q5.out.cell 6 _ (rcs6 r)
  have c7 := Q5.out.cell 7 _ (rcs7 r)
  have c8 := Q5.out.cell 8 _ (rcs8 r)
  have c9 := Q5.out.cell 9 _ (rcs9 r)
  have c10 := Q5.out.cell 10 _ (rcs10 r)
  have c11 := Q5.out.cell 11 _ (rcs11 r)
  have c12 := Q5.out.cell 12 _ (rcs12 r)
  have c13 := Q5.out.cell 13 _ (rcs13 r)
  have HB : Hid (Calls Tryz.prog 29 #[.int .i64 3] W5 fun e w' => e = .returned (.bool true) ∧ W5 = w') := refHasBal_any 3 W5 (by decide) (by decide)
  have HCm : Hid (Calls Tryz.prog 30 #[.int .i64 3] W5 fun e w' => e = .returned (.bool true) ∧ W5 = w') := refHasCmd_any 3 W5 (by decide) (by decide)
  go_wp2_with (first | (go_at_call 29; refine HB.out.mono ?_; rintro e w' ⟨rfl, rfl⟩) | (go_at_call 30; refine HCm.out.mono ?_; rintro e w' ⟨rfl, rfl⟩))
  have HEn := hide (rencode_any 2 r.c W5 HR.out.k1 HR.out.k2 hn1 hn2 HC.out)
  rw [HQ0.out] at HEn
  refine HEn.out.mono ?_
  rintro e W6 ⟨u6, rfl, o6, b6⟩
  obtain ⟨C, hC⟩ : ∃ C, Hid (encC r.c = C) := ⟨_, rfl⟩
  rw [hC.out] at o6
  have lC : C.length ≤ 131281 := by rw [← hC.out]; exact CL.out
  obtain ⟨a6, cp6, rfl, k6a, k6b, s6⟩ := seg_own o6
  obtain ⟨m6, hm6⟩ : ∃ m6, Hid (C.length = m6) := ⟨_, rfl⟩
  have SC := hide s6
  rw [hm6.out] at SC lC ⊢
  have S6 := hide (S5.out.below b6 (Nat.le_refl _))
  have Q6 := hide (Q5.out.on b6)
  have B6 := hide (B5.out.trans (b6.mono B5.out.size))
  clear o6 b6 s6 k6a k6b
  clear c0 c1 c2 c4 c3 c5 c6 c7 c8 c9 c10 c11 c12 c13 Q5 S5 HB HCm
  have c0 : W6.cell? ⟨w.heap.size, 0, none⟩ = some (.int .i64 3) := by rw [← HKK.out]; exact Q6.out.cell 0 _ (rcs0 r)
  have c1 : W6.cell? ⟨w.heap.size, 1, none⟩ = some (.int .i64 (x1 : Int)) := by rw [← HX1.out]; exact Q6.out.cell 1 _ (rcs1 r)
  have c2 : W6.cell? ⟨w.heap.size, 2, none⟩ = some (.int .i64 (x2 : Int)) := by rw [← HX2.out]; exact Q6.out.cell 2 _ (rcs2 r)
  have c4 : W6.cell? ⟨w.heap.size, 4, none⟩ = some (.int .i64 (x3 : Int)) := by rw [← HX3.out]; exact Q6.out.cell 4 _ (rcs4 r)
  have c3 : W6.cell? ⟨w.heap.size, 3, none⟩ = some (.int .i64 (x4 : Int)) := by rw [← HX4.out]; exact Q6.out.cell 3 _ (rcs3 r)
  have c5 : W6.cell? ⟨w.heap.size, 5, none⟩ = some (.bool false) := by rw [← HSS.out]; exact Q6.out.cell 5 _ (rcs5 r)
  have c6 : W6.cell? ⟨w.heap.size, 6, none⟩ = some (.int .i64 0) := by rw [← HQ0.out]; exact Q6.out.cell 6 _ (rcs6 r)
  have c7 := Q6.out.cell 7 _ (rcs7 r)
  have c8 := Q6.out.cell 8 _ (rcs8 r)
  have c9 := Q6.out.cell 9 _ (rcs9 r)
  have c10 := Q6.out.cell 10 _ (rcs10 r)
  have c11 := Q6.out.cell 11 _ (rcs11 r)
  have c12 := Q6.out.cell 12 _ (rcs12 r)
  have c13 := Q6.out.cell 13 _ (rcs13 r)
  have HB : Hid (Calls Tryz.prog 29 #[.int .i64 3] W6 fun e w' => e = .returned (.bool true) ∧ W6 = w') := refHasBal_any 3 W6 (by decide) (by decide)
  have HCm : Hid (Calls Tryz.prog 30 #[.int .i64 3] W6 fun e w' => e = .returned (.bool true) ∧ W6 = w') := refHasCmd_any 3 W6 (by decide) (by decide)
  go_wp2_with (first | (go_at_call 29; refine HB.out.mono ?_; rintro e w' ⟨rfl, rfl⟩) | (go_at_call 30; refine HCm.out.mono ?_; rintro e w' ⟨rfl, rfl⟩))
  refine (add6_any _ _ _ _ _ _ L5 C _ S6.out SC.out (by omega)).mono ?_
  rintro e W7 ⟨v7, rfl, o7, b7⟩
  have Q7 := hide (Q6.out.on b7)
  have B7 := hide (B6.out.trans (b7.mono B6.out.size))
  obtain ⟨L7, hL7⟩ : ∃ L7, Hid (L5 ++ C = L7) := ⟨L5 ++ C, hide rfl⟩
  rw [hL7.out] at o7
  have lb7 : L7.length ≤ 131303 := by rw [← hL7.out, List.length_append]; have e8 := hn5.out; have e7 := hm6.out; omega
  obtain ⟨a7, cp7, rfl, k7a, k7b, s7⟩ := seg_own o7
  have S7 := hide s7
  have O7 := hide (own_more o7 B6.out.size)
  obtain ⟨n7, hn7⟩ : ∃ n7, Hid (L7.length = n7) := ⟨_, rfl⟩
  rw [hn7.out] at S7 lb7 O7 ⊢
  clear o7 b7 s7 k7a k7b
  clear c0 c1 c2 c4 c3 c5 c6 c7 c8 c9 c10 c11 c12 c13 Q6 S6 HB HCm
  have c0 : W7.cell? ⟨w.heap.size, 0, none⟩ = some (.int .i64 3) := by rw [← HKK.out]; exact Q7.out.cell 0 _ (rcs0 r)
  have c1 : W7.cell? ⟨w.heap.size, 1, none⟩ = some (.int .i64 (x1 : Int)) := by rw [← HX1.out]; exact Q7.out.cell 1 _ (rcs1 r)
  have c2 : W7.cell? ⟨w.heap.size, 2, none⟩ = some (.int .i64 (x2 : Int)) := by rw [← HX2.out]; exact Q7.out.cell 2 _ (rcs2 r)
  have c4 : W7.cell? ⟨w.heap.size, 4, none⟩ = some (.int .i64 (x3 : Int)) := by rw [← HX3.out]; exact Q7.out.cell 4 _ (rcs4 r)
  have c3 : W7.cell? ⟨w.heap.size, 3, none⟩ = some (.int .i64 (x4 : Int)) := by rw [← HX4.out]; exact Q7.out.cell 3 _ (rcs3 r)
  have c5 : W7.cell? ⟨w.heap.size, 5, none⟩ = some (.bool false) := by rw [← HSS.out]; exact Q7.out.cell 5 _ (rcs5 r)
  have c6 : W7.cell? ⟨w.heap.size, 6, none⟩ = some (.int .i64 0) := by rw [← HQ0.out]; exact Q7.out.cell 6 _ (rcs6 r)
  have c7 := Q7.out.cell 7 _ (rcs7 r)
  have c8 := Q7.out.cell 8 _ (rcs8 r)
  have c9 := Q7.out.cell 9 _ (rcs9 r)
  have c10 := Q7.out.cell 10 _ (rcs10 r)
  have c11 := Q7.out.cell 11 _ (rcs11 r)
  have c12 := Q7.out.cell 12 _ (rcs12 r)
  have c13 := Q7.out.cell 13 _ (rcs13 r)
  have HB : Hid (Calls Tryz.prog 29 #[.int .i64 3] W7 fun e w' => e = .returned (.bool true) ∧ W7 = w') := refHasBal_any 3 W7 (by decide) (by decide)
  have HCm : Hid (Calls Tryz.prog 30 #[.int .i64 3] W7 fun e w' => e = .returned (.bool true) ∧ W7 = w') := refHasCmd_any 3 W7 (by decide) (by decide)
  clear SC
  go_wp2_with (first | (go_at_call 29; refine HB.out.mono ?_; rintro e w' ⟨rfl, rfl⟩) | (go_at_call 30; refine HCm.out.mono ?_; rintro e w' ⟨rfl, rfl⟩))
  go_ret2
  have FIN : Hid (recB r = L7) := by
    show r.kind :: (rowR r.kind).flatMap (wrF r) = _
    rw [HKK.out, show rowR 3 = [105, 98, 115, 99, 113, 100] from rfl]
    simp only [List.flatMap_cons, List.flatMap_nil, E1.out, E2.out, E3.out, E4.out, E5.out, E6.out]
    rw [← hL7.out, ← hL5.out, ← hL4.out, ← hL3.out, ← hC.out]
    simp
  rw [FIN.out, hn7.out]
  exact ⟨_, rfl, O7.out, B7.out⟩

set_option maxHeartbeats 4000000 in
set_option maxRecDepth 100000 in
theorem r6_3fy (n : Int) (r : Rc) (w : World) (hr : Rok w r) (hn1 : -9223372036854775808 ≤ r.c.n) (hn2 : r.c.n ≤ 9223372036854775807) (hz : chkR n r = 0) (hk : r.kind = 3) (hs : r.same = false) (hq : r.c.kind ≠ 0) :
    Calls Tryz.prog 14 #[.int .i64 n, .agg (rcs r).toArray] w fun e w' => ∃ u, e = .returned (.tuple #[u, .int .i64 0]) ∧ w'.ownsRow w.heap.size 5 1 u (recB r).length ((recB r).map (Value.int .u8)) ∧ Below w.heap.size w w' := by
  obtain ⟨V, hV, Q⟩ := zX w 31 (rcs r)
  have BV : Hid (Below w.heap.size w V) := by rw [hV]; exact (Below.refl _ _).alloc (Nat.le_refl _) _
  have HR := hide hr
  have HFit := hide (fit_of_chk hz)
  have HZ := hide hz
  have HKK := hide hk
  have HSS := hide hs
  have HXR : Hid (rowR r.kind = [105, 98, 115, 99, 113, 100]) := by show _ = _; rw [hk]; rfl
  have FT : Hid (∀ x ∈ ([105, 98, 115, 99, 113, 100] : List Nat), fitF r x) := by intro x hx; exact HFit.out x (by rw [HXR.out]; exact hx)
  obtain ⟨i1, i2, i3, i4⟩ : 0 ≤ r.row ∧ r.row ≤ 7 ∧ 0 ≤ r.num ∧ r.num ≤ 1048576 := FT.out 105 (by simp)
  obtain ⟨x1, hx1⟩ := Int.eq_ofNat_of_zero_le i1
  obtain ⟨x2, hx2⟩ := Int.eq_ofNat_of_zero_le i3
  have E1 : Hid (wrF r 105 = enc (8 * x2 + x1)) := by show enc (8 * r.num + r.row).toNat = _; rw [hx1, hx2]; exact congrArg enc (by omega)
  obtain ⟨i5, i6, i7, i8⟩ : 0 ≤ r.who ∧ r.who ≤ 7 ∧ 0 ≤ r.round ∧ r.round ≤ 65535 := FT.out 98 (by simp)
  obtain ⟨x3, hx3⟩ := Int.eq_ofNat_of_zero_le i5
  obtain ⟨x4, hx4⟩ := Int.eq_ofNat_of_zero_le i7
  have E2 : Hid (wrF r 98 = enc (8 * x4 + x3)) := by show enc (8 * r.round + r.who).toNat = _; rw [hx3, hx4]; exact congrArg enc (by omega)
  have E3 : Hid (wrF r 115 = [0]) := by show [if r.same then (1 : Int) else 0] = _; rw [hs]; rfl
  have HC : Hid (chk 2 r.c = 0) := FT.out 99 (by simp)
  have E4 : Hid (wrF r 99 = encC r.c) := rfl
  have NO : Hid (noopR r = false) := by show _ = _; simp [noopR, hq]
  obtain ⟨i9, iA⟩ : 0 ≤ r.seq ∧ r.seq ≤ 1073741824 := FT.out 113 (by simp)
  obtain ⟨x5, hx5⟩ := Int.eq_ofNat_of_zero_le i9
  have E5 : Hid (wrF r 113 = enc x5) := by show (if noopR r then [] else enc r.seq.toNat) = _; rw [NO.out, hx5]; rfl
  have HVc : Hid (isVec r.deps = true) := FT.out 100 (by simp)
  have PE : Hid (packE 2 r.deps = 0) := pack6_zero HVc.out
  have PR : Hid (packR 2 r.deps = packL 2 r.deps) := by show (if packE 2 r.deps = 0 then packL 2 r.deps else []) = _; rw [PE.out]; rfl
  have E6 : Hid (wrF r 100 = packR 2 r.deps) := by show (if noopR r then [] else packL 2 r.deps) = _; rw [NO.out, PR.out]; rfl
  have PL : Hid ((packR 2 r.deps).length ≤ 131281) := by rw [← E6.out]; exact wrF_le (by simp [Ltr]) (FT.out 100 (by simp))
  have CL : Hid ((encC r.c).length ≤ 131281) := encC_le HC.out
  have y1 : x1 ≤ 7 := by omega
  have y1a : (0 : Int) ≤ (x1 : Int) := by omega
  have y1b : (x1 : Int) ≤ 7 := by omega
  have y2 : x2 ≤ 1048576 := by omega
  have y2a : (0 : Int) ≤ (x2 : Int) := by omega
  have y2b : (x2 : Int) ≤ 1048576 := by omega
  have y3 : x3 ≤ 7 := by omega
  have y3a : (0 : Int) ≤ (x3 : Int) := by omega
  have y3b : (x3 : Int) ≤ 7 := by omega
  have y4 : x4 ≤ 65535 := by omega
  have y4a : (0 : Int) ≤ (x4 : Int) := by omega
  have y4b : (x4 : Int) ≤ 65535 := by omega
  have y5 : x5 ≤ 1073741824 := by omega
  have y5a : (0 : Int) ≤ (x5 : Int) := by omega
  have y5b : (x5 : Int) ≤ 1073741824 := by omega
  clear i1 i2 i3 i4 i5 i6 i7 i8 i9 iA
  have HX1 := hide hx1
  have HX2 := hide hx2
  have HX3 := hide hx3
  have HX4 := hide hx4
  have HX5 := hide hx5
  clear hr hz hk HFit HXR FT hs hx1 hx2 hx3 hx4 hx5
  have q9 : (r.c.kind != 0) = true := by rw [bne_iff_ne]; exact hq
  go_enter Tryz.func14, Tryz.ntmps14
  go_upto_region 1 with fail
  rw [← hV]
  clear hV
  go_wp2_with (first | (refine wpList_load_mid rfl 31 _ rfl w.heap.size 0 rfl (rcs r) _ Q.out.range Tryz.underlying31 rfl (by kernel_rfl) ?_))
  refine (refCheck_any n r _ (HR.out.below BV.out (Nat.le_refl _))).mono ?_
  rintro e w1 ⟨rfl, hb1⟩
  rw [HZ.out]
  have B1 : Hid (Below w.heap.size w w1) := BV.out.trans (hb1.mono BV.out.size)
  have Q1 : Hid (Blk w1 w.heap.size (rcs r)) := Q.out.on hb1
  clear hb1 Q BV
  obtain ⟨W, hW⟩ : ∃ W, W = w1.alloc (.cells #[.int .u8 3] 5) := ⟨_, rfl⟩
  have BW : Hid (Below w1.heap.size w1 W) := by rw [hW]; exact (Below.refl _ _).alloc (Nat.le_refl _) _
  have SW : Hid (Seg W (some ⟨w1.heap.size, 0, none⟩) 1 [3]) := by rw [hW]; exact seg_one6 w1 3
  have Q2 : Hid (Blk W w.heap.size (rcs r)) := Q1.out.on BW.out
  have B2 : Hid (Below w.heap.size w W) := B1.out.trans (BW.out.mono B1.out.size)
  have d0 : w1.cell? ⟨w.heap.size, 0, none⟩ = some (.int .i64 3) := by rw [← HKK.out]; exact Q1.out.cell 0 _ (rcs0 r)
  have z1 : w.heap.size < w1.heap.size := Q1.out.lt
  clear B1 Q1 BW
  have HW := hide hW
  clear hW
  go_upto_region 5 with fail
  rw [show w1.alloc (.cells #[.int .u8 3] 5) = W from HW.out.symm]
  clear d0 HW
  obtain ⟨q0, hq0⟩ : ∃ q0, Hid (w1.heap.size = q0) := ⟨_, rfl⟩
  rw [hq0.out] at SW z1 ⊢
  clear hq0
  have c0 : W.cell? ⟨w.heap.size, 0, none⟩ = some (.int .i64 3) := by rw [← HKK.out]; exact Q2.out.cell 0 _ (rcs0 r)
  have c1 : W.cell? ⟨w.heap.size, 1, none⟩ = some (.int .i64 (x1 : Int)) := by rw [← HX1.out]; exact Q2.out.cell 1 _ (rcs1 r)
  have c2 : W.cell? ⟨w.heap.size, 2, none⟩ = some (.int .i64 (x2 : Int)) := by rw [← HX2.out]; exact Q2.out.cell 2 _ (rcs2 r)
  have c4 : W.cell? ⟨w.heap.size, 4, none⟩ = some (.int .i64 (x3 : Int)) := by rw [← HX3.out]; exact Q2.out.cell 4 _ (rcs4 r)
  have c3 : W.cell? ⟨w.heap.size, 3, none⟩ = some (.int .i64 (x4 : Int)) := by rw [← HX4.out]; exact Q2.out.cell 3 _ (rcs3 r)
  have c14 : W.cell? ⟨w.heap.size, 14, none⟩ = some (.int .i64 (x5 : Int)) := by rw [← HX5.out]; exact Q2.out.cell 14 _ (rcs14 r)
  have c5 : W.cell? ⟨w.heap.size, 5, none⟩ = some (.bool false) := by rw [← HSS.out]; exact Q2.out.cell 5 _ (rcs5 r)
  have c6 := Q2.out.cell 6 _ (rcs6 r)
  have c7 := Q2.out.cell 7 _ (rcs7 r)
  have c8 := Q2.out.cell 8 _ (rcs8 r)
  have c9 := Q2.out.cell 9 _ (rcs9 r)
  have c10 := Q2.out.cell 10 _ (rcs10 r)
  have c11 := Q2.out.cell 11 _ (rcs11 r)
  have c12 := Q2.out.cell 12 _ (rcs12 r)
  have c13 := Q2.out.cell 13 _ (rcs13 r)
  have c15 := Q2.out.cell 15 _ (rcs15 r)
  have HB : Hid (Calls Tryz.prog 29 #[.int .i64 3] W fun e w' => e = .returned (.bool true) ∧ W = w') := refHasBal_any 3 W (by decide) (by decide)
  have HCm : Hid (Calls Tryz.prog 30 #[.int .i64 3] W fun e w' => e = .returned (.bool true) ∧ W = w') := refHasCmd_any 3 W (by decide) (by decide)
  go_wp2_with (first | (go_at_call 29; refine HB.out.mono ?_; rintro e w' ⟨rfl, rfl⟩) | (go_at_call 30; refine HCm.out.mono ?_; rintro e w' ⟨rfl, rfl⟩))
  refine (number6_any _ _ _ [3] (8 * x2 + x1) _ SW.out (by omega) (by omega)).mono ?_
  rintro e W3 ⟨v3, rfl, o3, b3⟩
  have Q3 := hide (Q2.out.on b3)
  have B3 := hide (B2.out.trans (b3.mono B2.out.size))
  obtain ⟨L3, hL3⟩ : ∃ L3, Hid ([3] ++ enc (8 * x2 + x1) = L3) := ⟨[3] ++ enc (8 * x2 + x1), hide rfl⟩
  rw [hL3.out] at o3
  have lb3 : L3.length ≤ 11 := by rw [← hL3.out, List.length_append]; have e9 : (enc (8 * x2 + x1)).length ≤ 10 := (enc_le _ (by omega)).2; simp only [List.length_cons, List.length_nil]; omega
  obtain ⟨a3, cp3, rfl, k3a, k3b, s3⟩ := seg_own o3
  have S3 := hide s3
  have O3 := hide (own_more o3 B2.out.size)
  obtain ⟨n3, hn3⟩ : ∃ n3, Hid (L3.length = n3) := ⟨_, rfl⟩
  rw [hn3.out] at S3 lb3 O3 ⊢
  clear o3 b3 s3 k3a k3b
  clear c0 c1 c2 c4 c3 c14 c5 c6 c7 c8 c9 c10 c11 c12 c13 c15 Q2 SW HB HCm
  have c0 : W3.cell? ⟨w.heap.size, 0, none⟩ = some (.int .i64 3) := by rw [← HKK.out]; exact Q3.out.cell 0 _ (rcs0 r)
  have c1 : W3.cell? ⟨w.heap.size, 1, none⟩ = some (.int .i64 (x1 : Int)) := by rw [← HX1.out]; exact Q3.out.cell 1 _ (rcs1 r)
  have c2 : W3.cell? ⟨w.heap.size, 2, none⟩ = some (.int .i64 (x2 : Int)) := by rw [← HX2.out]; exact Q3.out.cell 2 _ (rcs2 r)
  have c4 : W3.cell? ⟨w.heap.size, 4, none⟩ = some (.int .i64 (x3 : Int)) := by rw [← HX3.out]; exact Q3.out.cell 4 _ (rcs4 r)
  have c3 : W3.cell? ⟨w.heap.size, 3, none⟩ = some (.int .i64 (x4 : Int)) := by rw [← HX4.out]; exact Q3.out.cell 3 _ (rcs3 r)
  have c14 : W3.cell? ⟨w.heap.size, 14, none⟩ = some (.int .i64 (x5 : Int)) := by rw [← HX5.out]; exact Q3.out.cell 14 _ (rcs14 r)
  have c5 : W3.cell? ⟨w.heap.size, 5, none⟩ = some (.bool false) := by rw [← HSS.out]; exact Q3.out.cell 5 _ (rcs5 r)
  have c6 := Q3.out.cell 6 _ (rcs6 r)
  have c7 := Q3.out.cell 7 _ (rcs7 r)
  have c8 := Q3.out.cell 8 _ (rcs8 r)
  have c9 := Q3.out.cell 9 _ (rcs9 r)
  have c10 := Q3.out.cell 10 _ (rcs10 r)
  have c11 := Q3.out.cell 11 _ (rcs11 r)
  have c12 := Q3.out.cell 12 _ (rcs12 r)
  have c13 := Q3.out.cell 13 _ (rcs13 r)
  have c15 := Q3.out.cell 15 _ (rcs15 r)
  have HB : Hid (Calls Tryz.prog 29 #[.int .i64 3] W3 fun e w' => e = .returned (.bool true) ∧ W3 = w') := refHasBal_any 3 W3 (by decide) (by decide)
  have HCm : Hid (Calls Tryz.prog 30 #[.int .i64 3] W3 fun e w' => e = .returned (.bool true) ∧ W3 = w') := refHasCmd_any 3 W3 (by decide) (by decide)
  go_wp2_with (first | (go_at_call 29; refine HB.out.mono ?_; rintro e w' ⟨rfl, rfl⟩) | (go_at_call 30; refine HCm.out.mono ?_; rintro e w' ⟨rfl, rfl⟩))
  refine (number6_any _ _ _ L3 (8 * x4 + x3) _ S3.out (by omega) (by omega)).mono ?_
  rintro e W4 ⟨v4, rfl, o4, b4⟩
  have Q4 := hide (Q3.out.on b4)
  have B4 := hide (B3.out.trans (b4.mono B3.out.size))
  obtain ⟨L4, hL4⟩ : ∃ L4, Hid (L3 ++ enc (8 * x4 + x3) = L4) := ⟨L3 ++ enc (8 * x4 + x3), hide rfl⟩
  rw [hL4.out] at o4
  have lb4 : L4.length ≤ 21 := by rw [← hL4.out, List.length_append]; have e9 : (enc (8 * x4 + x3)).length ≤ 10 := (enc_le _ (by omega)).2; have e8 := hn3.out; omega
  have N4 : Hid (∀ k, v4.ownBlock = some k → w.heap.size < k) := fun k hk => Nat.lt_of_lt_of_le Q3.out.lt (World.ownsRow.lt o4 k hk).1
  obtain ⟨a4, cp4, rfl, k4a, k4b, s4⟩ := seg_own o4
  have S4 := hide s4
  have O4 := hide (own_more o4 B3.out.size)
  obtain ⟨n4, hn4⟩ : ∃ n4, Hid (L4.length = n4) := ⟨_, rfl⟩
  rw [hn4.out] at S4 lb4 O4 N4 ⊢
  clear o4 b4 s4 k4a k4b
  clear c0 c1 c2 c4 c3 c14 c5 c6 c7 c8 c9 c10 c11 c12 c13 c15 Q3 S3 HB HCm
  have c0 : W4.cell? ⟨w.heap.size, 0, none⟩ = some (.int .i64 3) := by rw [← HKK.out]; exact Q4.out.cell 0 _ (rcs0 r)
  have c1 : W4.cell? ⟨w.heap.size, 1, none⟩ = some (.int .i64 (x1 : Int)) := by rw [← HX1.out]; exact Q4.out.cell 1 _ (rcs1 r)
  have c2 : W4.cell? ⟨w.heap.size, 2, none⟩ = some (.int .i64 (x2 : Int)) := by rw [← HX2.out]; exact Q4.out.cell 2 _ (rcs2 r)
  have c4 : W4.cell? ⟨w.heap.size, 4, none⟩ = some (.int .i64 (x3 : Int)) := by rw [← HX3.out]; exact Q4.out.cell 4 _ (rcs4 r)
  have c3 : W4.cell? ⟨w.heap.size, 3, none⟩ = some (.int .i64 (x4 : Int)) := by rw [← HX4.out]; exact Q4.out.cell 3 _ (rcs3 r)
  have c14 : W4.cell? ⟨w.heap.size, 14, none⟩ = some (.int .i64 (x5 : Int)) := by rw [← HX5.out]; exact Q4.out.cell 14 _ (rcs14 r)
  have c5 : W4.cell? ⟨w.heap.size, 5, none⟩ = some (.bool false) := by rw [← HSS.out]; exact Q4.out.cell 5 _ (rcs5 r)
  have c6 := Q4.out.cell 6 _ (rcs6 r)
  have c7 := Q4.out.cell 7 _ (rcs7 r)
  have c8 := Q4.out.cell 8 _ (rcs8 r)
  have c9 := Q4.out.cell 9 _ (rcs9 r)
  have c10 := Q4.out.cell 10 _ (rcs10 r)
  have c11 := Q4.out.cell 11 _ (rcs11 r)
  have c12 := Q4.out.cell 12 _ (rcs12 r)
  have c13 := Q4.out.cell 13 _ (rcs13 r)
  have c15 := Q4.out.cell 15 _ (rcs15 r)
  have HB : Hid (Calls Tryz.prog 29 #[.int .i64 3] W4 fun e w' => e = .returned (.bool true) ∧ W4 = w') := refHasBal_any 3 W4 (by decide) (by decide)
  have HCm : Hid (Calls Tryz.prog 30 #[.int .i64 3] W4 fun e w' => e = .returned (.bool true) ∧ W4 = w') := refHasCmd_any 3 W4 (by decide) (by decide)
  have HA4 := hide (World.ownsRow.alloc O4.out (.cells #[.int .u8 0] 5))
  obtain ⟨i0, hi, hz0, hz1, hz2⟩ := info_parts Tryz.info5
  have w9 : w.heap.size < W4.heap.size := Q4.out.lt
  go_wp2_with (first | (go_at_call 29; refine HB.out.mono ?_; rintro e w' ⟨rfl, rfl⟩) | (at_builtin; refine wpList_append_own2 rfl _ _ 22 rfl w.heap.size 5 i0 (.int .u8 0) 1 1 Tryz.underlying22 hi hz0 hz1 hz2 rfl (by decide) _ _ _ rfl HA4.out ⟨W4.heap.size, 0, none⟩ 1 1 [.int .u8 0] rfl rfl ?c1 ?c2 (by omega) ?c3 ?c4 ?c5 ?_))
  case c1 =>
    first
    | (intro j u hj
       match j, hj with
       | 0, hj => simp at hj; subst hj; simp [Addr.add])
  case c2 => first | rfl | (intro u hu; simp at hu; subst hu; rfl)
  case c3 => unfold maxLen; omega
  case c4 => omega
  case c5 => first | omega | (simp; omega)
  intro v5 W5 o5 g5 h5
  have B5 := hide ((B4.out.alloc (by have := B4.out.size; omega) (.cells #[.int .u8 0] 5)).grown g5 (by simp; omega) (fun j hj => (World.ownsRow.lt O4.out j hj).1))
  have Q5 : Hid (Blk W5 w.heap.size (rcs r)) := by
    refine (Q4.out.on ((Below.refl _ _).alloc (Nat.le_refl _) (.cells #[.int .u8 0] 5))).of_block (g5.block _ (by simp; omega) (fun e => ?_))
    have h := N4.out _ e.symm
    omega
  obtain ⟨L5, hL5⟩ : ∃ L5, Hid (L4 ++ [0] = L5) := ⟨L4 ++ [0], hide rfl⟩
  have lb5 : L5.length ≤ 22 := by rw [← hL5.out, List.length_append]; have e8 := hn4.out; simp only [List.length_cons, List.length_nil]; omega
  have O5 : Hid (W5.ownsRow w.heap.size 5 1 v5 L5.length (L5.map (Value.int .u8))) := by rw [← hL5.out, List.length_append, List.map_append, hn4.out]; exact o5
  obtain ⟨a5, cp5, rfl, k5a, k5b, s5⟩ := seg_own O5.out
  have S5 := hide s5
  obtain ⟨n5, hn5⟩ : ∃ n5, Hid (L5.length = n5) := ⟨_, rfl⟩
  rw [hn5.out] at S5 lb5 O5 ⊢
  clear o5 g5 h5 s5 k5a k5b HA4 w9 hi hz0 hz1 hz2
  clear c0 c1 c2 c4 c3 c14 c5 c6 c7 c8 c9 c10 c11 c12 c13 c15 Q4 S4 HB HCm
  have c0 : W5.cell? ⟨w.heap.size, 0, none⟩ = some (.int .i64 3) := by rw [← HKK.out]; exact Q5.out.cell 0 _ (rcs0 r)
  have c1 : W5.cell? ⟨w.heap.size, 1, none⟩ = some (.int .i64 (x1 : Int)) := by rw [← HX1.out]; exact Q5.out.cell 1 _ (rcs1 r)
  have c2 : W5.cell? ⟨w.heap.size, 2, none⟩ = some (.int .i64 (x2 : Int)) := by rw [← HX2.out]; exact Q5.out.cell 2 _ (rcs2 r)
  have c4 : W5.cell? ⟨w.heap.size, 4, none⟩ = some (.int .i64 (x3 : Int)) := by rw [← HX3.out]; exact Q5.out.cell 4 _ (rcs4 r)
  have c3 : W5.cell? ⟨w.heap.size, 3, none⟩ = some (.int .i64 (x4 : Int)) := by rw [← HX4.out]; exact Q5.out.cell 3 _ (rcs3 r)
  have c14 : W5.cell? ⟨w.heap.size, 14, none⟩ = some (.int .i64 (x5 : Int)) := by rw [← HX5.out]; exact Q5.out.cell 14 _ (rcs14 r)
  have c5 : W5.cell? ⟨w.heap.size, 5, none⟩ = some (.bool false) := by rw [← HSS.out]; exact Q5.out.cell 5 _ (rcs5 r)
  have c6 := Q5.out.cell 6 _ (rcs6 r)
  have c7 := Q5.out.cell 7 _ (rcs7 r)
  have c8 := Q5.out.cell 8 _ (rcs8 r)
  have c9 := Q5.out.cell 9 _ (rcs9 r)
  have c10 := Q5.out.cell 10 _ (rcs10 r)
  have c11 := Q5.out.cell 11 _ (rcs11 r)
  have c12 := Q5.out.cell 12 _ (rcs12 r)
  have c13 := Q5.out.cell 13 _ (rcs13 r)
  have c15 := Q5.out.cell 15 _ (rcs15 r)
  have HB : Hid (Calls Tryz.prog 29 #[.int .i64 3] W5 fun e w' => e = .returned (.bool true) ∧ W5 = w') := refHasBal_any 3 W5 (by decide) (by decide)
  have HCm : Hid (Calls Tryz.prog 30 #[.int .i64 3] W5 fun e w' => e = .returned (.bool true) ∧ W5 = w') := refHasCmd_any 3 W5 (by decide) (by decide)
  go_wp2_with (first | (go_at_call 29; refine HB.out.mono ?_; rintro e w' ⟨rfl, rfl⟩) | (go_at_call 30; refine HCm.out.mono ?_; rintro e w' ⟨rfl, rfl⟩))
  refine (rencode_any 2 r.c _ HR.out.k1 HR.out.k2 hn1 hn2 HC.out).mono ?_
  rintro e W6 ⟨u6, rfl, o6, b6⟩
  obtain ⟨C, hC⟩ : ∃ C, Hid (encC r.c = C) := ⟨_, rfl⟩
  rw [hC.out] at o6
  have lC : C.length ≤ 131281 := by rw [← hC.out]; exact CL.out
  obtain ⟨a6, cp6, rfl, k6a, k6b, s6⟩ := seg_own o6
  obtain ⟨m6, hm6⟩ : ∃ m6, Hid (C.length = m6) := ⟨_, rfl⟩
  have SC := hide s6
  rw [hm6.out] at SC lC ⊢
  have S6 := hide (S5.out.below b6 (Nat.le_refl _))
  have Q6 := hide (Q5.out.on b6)
  have B6 := hide (B5.out.trans (b6.mono B5.out.size))
  clear o6 b6 s6 k6a k6b
  clear c0 c1 c2 c4 c3 c14 c5 c6 c7 c8 c9 c10 c11 c12 c13 c15 Q5 S5 HB HCm
  have c0 : W6.cell? ⟨w.heap.size, 0, none⟩ = some (.int .i64 3) := by rw [← HKK.out]; exact Q6.out.cell 0 _ (rcs0 r)
  have c1 : W6.cell? ⟨w.heap.size, 1, none⟩ = some (.int .i64 (x1 : Int)) := by rw [← HX1.out]; exact Q6.out.cell 1 _ (rcs1 r)
  have c2 : W6.cell? ⟨w.heap.size, 2, none⟩ = some (.int .i64 (x2 : Int)) := by rw [← HX2.out]; exact Q6.out.cell 2 _ (rcs2 r)
  have c4 : W6.cell? ⟨w.heap.size, 4, none⟩ = some (.int .i64 (x3 : Int)) := by rw [← HX3.out]; exact Q6.out.cell 4 _ (rcs4 r)
  have c3 : W6.cell? ⟨w.heap.size, 3, none⟩ = some (.int .i64 (x4 : Int)) := by rw [← HX4.out]; exact Q6.out.cell 3 _ (rcs3 r)
  have c14 : W6.cell? ⟨w.heap.size, 14, none⟩ = some (.int .i64 (x5 : Int)) := by rw [← HX5.out]; exact Q6.out.cell 14 _ (rcs14 r)
  have c5 : W6.cell? ⟨w.heap.size, 5, none⟩ = some (.bool false) := by rw [← HSS.out]; exact Q6.out.cell 5 _ (rcs5 r)
  have c6 := Q6.out.cell 6 _ (rcs6 r)
  have c7 := Q6.out.cell 7 _ (rcs7 r)
  have c8 := Q6.out.cell 8 _ (rcs8 r)
  have c9 := Q6.out.cell 9 _ (rcs9 r)
  have c10 := Q6.out.cell 10 _ (rcs10 r)
  have c11 := Q6.out.cell 11 _ (rcs11 r)
  have c12 := Q6.out.cell 12 _ (rcs12 r)
  have c13 := Q6.out.cell 13 _ (rcs13 r)
  have c15 := Q6.out.cell 15 _ (rcs15 r)
  have HB : Hid (Calls Tryz.prog 29 #[.int .i64 3] W6 fun e w' => e = .returned (.bool true) ∧ W6 = w') := refHasBal_any 3 W6 (by decide) (by decide)
  have HCm : Hid (Calls Tryz.prog 30 #[.int .i64 3] W6 fun e w' => e = .returned (.bool true) ∧ W6 = w') := refHasCmd_any 3 W6 (by decide) (by decide)
  go_wp2_with (first | (go_at_call 29; refine HB.out.mono ?_; rintro e w' ⟨rfl, rfl⟩) | (go_at_call 30; refine HCm.out.mono ?_; rintro e w' ⟨rfl, rfl⟩))
  refine (add6_any _ _ _ _ _ _ L5 C _ S6.out SC.out (by omega)).mono ?_
  rintro e W7 ⟨v7, rfl, o7, b7⟩
  have Q7 := hide (Q6.out.on b7)
  have B7 := hide (B6.out.trans (b7.mono B6.out.size))
  obtain ⟨L7, hL7⟩ : ∃ L7, Hid (L5 ++ C = L7) := ⟨L5 ++ C, hide rfl⟩
  rw [hL7.out] at o7
  have lb7 : L7.length ≤ 131303 := by rw [← hL7.out, List.length_append]; have e8 := hn5.out; have e7 := hm6.out; omega
  obtain ⟨a7, cp7, rfl, k7a, k7b, s7⟩ := seg_own o7
  have S7 := hide s7
  have O7 := hide (own_more o7 B6.out.size)
  obtain ⟨n7, hn7⟩ : ∃ n7, Hid (L7.length = n7) := ⟨_, rfl⟩
  rw [hn7.out] at S7 lb7 O7 ⊢
  clear o7 b7 s7 k7a k7b
  clear c0 c1 c2 c4 c3 c14 c5 c6 c7 c8 c9 c10 c11 c12 c13 c15 Q6 S6 HB HCm
  have c0 : W7.cell? ⟨w.heap.size, 0, none⟩ = some (.int .i64 3) := by rw [← HKK.out]; exact Q7.out.cell 0 _ (rcs0 r)
  have c1 : W7.cell? ⟨w.heap.size, 1, none⟩ = some (.int .i64 (x1 : Int)) := by rw [← HX1.out]; exact Q7.out.cell 1 _ (rcs1 r)
  have c2 : W7.cell? ⟨w.heap.size, 2, none⟩ = some (.int .i64 (x2 : Int)) := by rw [← HX2.out]; exact Q7.out.cell 2 _ (rcs2 r)
  have c4 : W7.cell? ⟨w.heap.size, 4, none⟩ = some (.int .i64 (x3 : Int)) := by rw [← HX3.out]; exact Q7.out.cell 4 _ (rcs4 r)
  have c3 : W7.cell? ⟨w.heap.size, 3, none⟩ = some (.int .i64 (x4 : Int)) := by rw [← HX4.out]; exact Q7.out.cell 3 _ (rcs3 r)
  have c14 : W7.cell? ⟨w.heap.size, 14, none⟩ = some (.int .i64 (x5 : Int)) := by rw [← HX5.out]; exact Q7.out.cell 14 _ (rcs14 r)
  have c5 : W7.cell? ⟨w.heap.size, 5, none⟩ = some (.bool false) := by rw [← HSS.out]; exact Q7.out.cell 5 _ (rcs5 r)
  have c6 := Q7.out.cell 6 _ (rcs6 r)
  have c7 := Q7.out.cell 7 _ (rcs7 r)
  have c8 := Q7.out.cell 8 _ (rcs8 r)
  have c9 := Q7.out.cell 9 _ (rcs9 r)
  have c10 := Q7.out.cell 10 _ (rcs10 r)
  have c11 := Q7.out.cell 11 _ (rcs11 r)
  have c12 := Q7.out.cell 12 _ (rcs12 r)
  have c13 := Q7.out.cell 13 _ (rcs13 r)
  have c15 := Q7.out.cell 15 _ (rcs15 r)
  have HB : Hid (Calls Tryz.prog 29 #[.int .i64 3] W7 fun e w' => e = .returned (.bool true) ∧ W7 = w') := refHasBal_any 3 W7 (by decide) (by decide)
  have HCm : Hid (Calls Tryz.prog 30 #[.int .i64 3] W7 fun e w' => e = .returned (.bool true) ∧ W7 = w') := refHasCmd_any 3 W7 (by decide) (by decide)
  clear SC
  go_wp2_with (first | (go_at_call 29; refine HB.out.mono ?_; rintro e w' ⟨rfl, rfl⟩) | (go_at_call 30; refine HCm.out.mono ?_; rintro e w' ⟨rfl, rfl⟩))
  refine (number6_any _ _ _ L7 (x5) _ S7.out (by omega) (by omega)).mono ?_
  rintro e W8 ⟨v8, rfl, o8, b8⟩
  have Q8 := hide (Q7.out.on b8)
  have B8 := hide (B7.out.trans (b8.mono B7.out.size))
  obtain ⟨L8, hL8⟩ : ∃ L8, Hid (L7 ++ enc (x5) = L8) := ⟨L7 ++ enc (x5), hide rfl⟩
  rw [hL8.out] at o8
  have lb8 : L8.length ≤ 131313 := by rw [← hL8.out, List.length_append]; have e9 : (enc (x5)).length ≤ 10 := (enc_le _ (by omega)).2; have e8 := hn7.out; omega
  obtain ⟨a8, cp8, rfl, k8a, k8b, s8⟩ := seg_own o8
  have S8 := hide s8
  have O8 := hide (own_more o8 B7.out.size)
  obtain ⟨n8, hn8⟩ : ∃ n8, Hid (L8.length = n8) := ⟨_, rfl⟩
  rw [hn8.out] at S8 lb8 O8 ⊢
  clear o8 b8 s8 k8a k8b
  clear c0 c1 c2 c4 c3 c14 c5 c6 c7 c8 c9 c10 c11 c12 c13 c15 Q7 S7 HB HCm
  have c0 : W8.cell? ⟨w.heap.size, 0, none⟩ = some (.int .i64 3) := by rw [← HKK.out]; exact Q8.out.cell 0 _ (rcs0 r)
  have c1 : W8.cell? ⟨w.heap.size, 1, none⟩ = some (.int .i64 (x1 : Int)) := by rw [← HX1.out]; exact Q8.out.cell 1 _ (rcs1 r)
  have c2 : W8.cell? ⟨w.heap.size, 2, none⟩ = some (.int .i64 (x2 : Int)) := by rw [← HX2.out]; exact Q8.out.cell 2 _ (rcs2 r)
  have c4 : W8.cell? ⟨w.heap.size, 4, none⟩ = some (.int .i64 (x3 : Int)) := by rw [← HX3.out]; exact Q8.out.cell 4 _ (rcs4 r)
  have c3 : W8.cell? ⟨w.heap.size, 3, none⟩ = some (.int .i64 (x4 : Int)) := by rw [← HX4.out]; exact Q8.out.cell 3 _ (rcs3 r)
  have c14 : W8.cell? ⟨w.heap.size, 14, none⟩ = some (.int .i64 (x5 : Int)) := by rw [← HX5.out]; exact Q8.out.cell 14 _ (rcs14 r)
  have c5 : W8.cell? ⟨w.heap.size, 5, none⟩ = some (.bool false) := by rw [← HSS.out]; exact Q8.out.cell 5 _ (rcs5 r)
  have c6 := Q8.out.cell 6 _ (rcs6 r)
  have c7 := Q8.out.cell 7 _ (rcs7 r)
  have c8 := Q8.out.cell 8 _ (rcs8 r)
  have c9 := Q8.out.cell 9 _ (rcs9 r)
  have c10 := Q8.out.cell 10 _ (rcs10 r)
  have c11 := Q8.out.cell 11 _ (rcs11 r)
  have c12 := Q8.out.cell 12 _ (rcs12 r)
  have c13 := Q8.out.cell 13 _ (rcs13 r)
  have c15 := Q8.out.cell 15 _ (rcs15 r)
  have HB : Hid (Calls Tryz.prog 29 #[.int .i64 3] W8 fun e w' => e = .returned (.bool true) ∧ W8 = w') := refHasBal_any 3 W8 (by decide) (by decide)
  have HCm : Hid (Calls Tryz.prog 30 #[.int .i64 3] W8 fun e w' => e = .returned (.bool true) ∧ W8 = w') := refHasCmd_any 3 W8 (by decide) (by decide)
  go_wp2_with (first | (go_at_call 29; refine HB.out.mono ?_; rintro e w' ⟨rfl, rfl⟩) | (go_at_call 30; refine HCm.out.mono ?_; rintro e w' ⟨rfl, rfl⟩))
  refine (rpack_any 2 r.da r.dn r.dc r.deps _ (HR.out.seg.below B8.out (Nat.le_refl _))).mono ?_
  rintro e W9 ⟨u9, rfl, o9, b9⟩
  rw [PE.out]
  obtain ⟨D, hD⟩ : ∃ D, Hid (packR 2 r.deps = D) := ⟨_, rfl⟩
  rw [hD.out] at o9
  have lD : D.length ≤ 131281 := by rw [← hD.out]; exact PL.out
  obtain ⟨a9, cp9, rfl, k9a, k9b, s9⟩ := seg_own o9
  obtain ⟨m9, hm9⟩ : ∃ m9, Hid (D.length = m9) := ⟨_, rfl⟩
  have SD := hide s9
  rw [hm9.out] at SD lD ⊢
  have S9 := hide (S8.out.below b9 (Nat.le_refl _))
  have Q9 := hide (Q8.out.on b9)
  have B9 := hide (B8.out.trans (b9.mono B8.out.size))
  clear o9 b9 s9 k9a k9b
  clear c0 c1 c2 c4 c3 c14 c5 c6 c7 c8 c9 c10 c11 c12 c13 c15 Q8 S8 HB HCm
  have c0 : W9.cell? ⟨w.heap.size, 0, none⟩ = some (.int .i64 3) := by rw [← HKK.out]; exact Q9.out.cell 0 _ (rcs0 r)
  have c1 : W9.cell? ⟨w.heap.size, 1, none⟩ = some (.int .i64 (x1 : Int)) := by rw [← HX1.out]; exact Q9.out.cell 1 _ (rcs1 r)
  have c2 : W9.cell? ⟨w.heap.size, 2, none⟩ = some (.int .i64 (x2 : Int)) := by rw [← HX2.out]; exact Q9.out.cell 2 _ (rcs2 r)
  have c4 : W9.cell? ⟨w.heap.size, 4, none⟩ = some (.int .i64 (x3 : Int)) := by rw [← HX3.out]; exact Q9.out.cell 4 _ (rcs4 r)
  have c3 : W9.cell? ⟨w.heap.size, 3, none⟩ = some (.int .i64 (x4 : Int)) := by rw [← HX4.out]; exact Q9.out.cell 3 _ (rcs3 r)
  have c14 : W9.cell? ⟨w.heap.size, 14, none⟩ = some (.int .i64 (x5 : Int)) := by rw [← HX5.out]; exact Q9.out.cell 14 _ (rcs14 r)
  have c5 : W9.cell? ⟨w.heap.size, 5, none⟩ = some (.bool false) := by rw [← HSS.out]; exact Q9.out.cell 5 _ (rcs5 r)
  have c6 := Q9.out.cell 6 _ (rcs6 r)
  have c7 := Q9.out.cell 7 _ (rcs7 r)
  have c8 := Q9.out.cell 8 _ (rcs8 r)
  have c9 := Q9.out.cell 9 _ (rcs9 r)
  have c10 := Q9.out.cell 10 _ (rcs10 r)
  have c11 := Q9.out.cell 11 _ (rcs11 r)
  have c12 := Q9.out.cell 12 _ (rcs12 r)
  have c13 := Q9.out.cell 13 _ (rcs13 r)
  have c15 := Q9.out.cell 15 _ (rcs15 r)
  have HB : Hid (Calls Tryz.prog 29 #[.int .i64 3] W9 fun e w' => e = .returned (.bool true) ∧ W9 = w') := refHasBal_any 3 W9 (by decide) (by decide)
  have HCm : Hid (Calls Tryz.prog 30 #[.int .i64 3] W9 fun e w' => e = .returned (.bool true) ∧ W9 = w') := refHasCmd_any 3 W9 (by decide) (by decide)
  go_wp2_with (first | (go_at_call 29; refine HB.out.mono ?_; rintro e w' ⟨rfl, rfl⟩) | (go_at_call 30; refine HCm.out.mono ?_; rintro e w' ⟨rfl, rfl⟩))
  refine (add6_any _ _ _ _ _ _ L8 D _ S9.out SD.out (by omega)).mono ?_
  rintro e W10 ⟨v10, rfl, o10, b10⟩
  have Q10 := hide (Q9.out.on b10)
  have B10 := hide (B9.out.trans (b10.mono B9.out.size))
  obtain ⟨L10, hL10⟩ : ∃ L10, Hid (L8 ++ D = L10) := ⟨L8 ++ D, hide rfl⟩
  rw [hL10.out] at o10
  have lb10 : L10.length ≤ 262594 := by rw [← hL10.out, List.length_append]; have e8 := hn8.out; have e7 := hm9.out; omega
  obtain ⟨a10, cp10, rfl, k10a, k10b, s10⟩ := seg_own o10
  have S10 := hide s10
  have O10 := hide (own_more o10 B9.out.size)
  obtain ⟨n10, hn10⟩ : ∃ n10, Hid (L10.length = n10) := ⟨_, rfl⟩
  rw [hn10.out] at S10 lb10 O10 ⊢
  clear o10 b10 s10 k10a k10b
  clear c0 c1 c2 c4 c3 c14 c5 c6 c7 c8 c9 c10 c11 c12 c13 c15 Q9 S9 HB HCm
  have c0 : W10.cell? ⟨w.heap.size, 0, none⟩ = some (.int .i64 3) := by rw [← HKK.out]; exact Q10.out.cell 0 _ (rcs0 r)
  have c1 : W10.cell? ⟨w.heap.size, 1, none⟩ = some (.int .i64 (x1 : Int)) := by rw [← HX1.out]; exact Q10.out.cell 1 _ (rcs1 r)
  have c2 : W10.cell? ⟨w.heap.size, 2, none⟩ = some (.int .i64 (x2 : Int)) := by rw [← HX2.out]; exact Q10.out.cell 2 _ (rcs2 r)
  have c4 : W10.cell? ⟨w.heap.size, 4, none⟩ = some (.int .i64 (x3 : Int)) := by rw [← HX3.out]; exact Q10.out.cell 4 _ (rcs4 r)
  have c3 : W10.cell? ⟨w.heap.size, 3, none⟩ = some (.int .i64 (x4 : Int)) := by rw [← HX4.out]; exact Q10.out.cell 3 _ (rcs3 r)
  have c14 : W10.cell? ⟨w.heap.size, 14, none⟩ = some (.int .i64 (x5 : Int)) := by rw [← HX5.out]; exact Q10.out.cell 14 _ (rcs14 r)
  have c5 : W10.cell? ⟨w.heap.size, 5, none⟩ = some (.bool false) := by rw [← HSS.out]; exact Q10.out.cell 5 _ (rcs5 r)
  have c6 := Q10.out.cell 6 _ (rcs6 r)
  have c7 := Q10.out.cell 7 _ (rcs7 r)
  have c8 := Q10.out.cell 8 _ (rcs8 r)
  have c9 := Q10.out.cell 9 _ (rcs9 r)
  have c10 := Q10.out.cell 10 _ (rcs10 r)
  have c11 := Q10.out.cell 11 _ (rcs11 r)
  have c12 := Q10.out.cell 12 _ (rcs12 r)
  have c13 := Q10.out.cell 13 _ (rcs13 r)
  have c15 := Q10.out.cell 15 _ (rcs15 r)
  have HB : Hid (Calls Tryz.prog 29 #[.int .i64 3] W10 fun e w' => e = .returned (.bool true) ∧ W10 = w') := refHasBal_any 3 W10 (by decide) (by decide)
  have HCm : Hid (Calls Tryz.prog 30 #[.int .i64 3] W10 fun e w' => e = .returned (.bool true) ∧ W10 = w') := refHasCmd_any 3 W10 (by decide) (by decide)
  clear SD
  go_wp2_with (first | (go_at_call 29; refine HB.out.mono ?_; rintro e w' ⟨rfl, rfl⟩) | (go_at_call 30; refine HCm.out.mono ?_; rintro e w' ⟨rfl, rfl⟩))
  go_ret2
  have FIN : Hid (recB r = L10) := by
    show r.kind :: (rowR r.kind).flatMap (wrF r) = _
    rw [HKK.out, show rowR 3 = [105, 98, 115, 99, 113, 100] from rfl]
    simp only [List.flatMap_cons, List.flatMap_nil, E1.out, E2.out, E3.out, E4.out, E5.out, E6.out]
    rw [← hL10.out, ← hL8.out, ← hL7.out, ← hL5.out, ← hL4.out, ← hL3.out, ← hC.out, ← hD.out]
    simp
  rw [FIN.out, hn10.out]
  exact ⟨_, rfl, O10.out, B10.out⟩

set_option maxHeartbeats 4000000 in
set_option maxRecDepth 100000 in
theorem r6_4n (n : Int) (r : Rc) (w : World) (hr : Rok w r) (hn1 : -9223372036854775808 ≤ r.c.n) (hn2 : r.c.n ≤ 9223372036854775807) (hz : chkR n r = 0) (hk : r.kind = 4) (hq : r.c.kind = 0) :
    Calls Tryz.prog 14 #[.int .i64 n, .agg (rcs r).toArray] w fun e w' => ∃ u, e = .returned (.tuple #[u, .int .i64 0]) ∧ w'.ownsRow w.heap.size 5 1 u (recB r).length ((recB r).map (Value.int .u8)) ∧ Below w.heap.size w w' := by
  obtain ⟨V, hV, Q⟩ := zX w 31 (rcs r)
  have BV : Hid (Below w.heap.size w V) := by rw [hV]; exact (Below.refl _ _).alloc (Nat.le_refl _) _
  have HR := hide hr
  have HFit := hide (fit_of_chk hz)
  have HZ := hide hz
  have HKK := hide hk
  have HQ0 := hide hq
  have HXR : Hid (rowR r.kind = [105, 98, 99, 113, 100]) := by show _ = _; rw [hk]; rfl
  have FT : Hid (∀ x ∈ ([105, 98, 99, 113, 100] : List Nat), fitF r x) := by intro x hx; exact HFit.out x (by rw [HXR.out]; exact hx)
  obtain ⟨i1, i2, i3, i4⟩ : 0 ≤ r.row ∧ r.row ≤ 7 ∧ 0 ≤ r.num ∧ r.num ≤ 1048576 := FT.out 105 (by simp)
  obtain ⟨x1, hx1⟩ := Int.eq_ofNat_of_zero_le i1
  obtain ⟨x2, hx2⟩ := Int.eq_ofNat_of_zero_le i3
  have E1 : Hid (wrF r 105 = enc (8 * x2 + x1)) := by show enc (8 * r.num + r.row).toNat = _; rw [hx1, hx2]; exact congrArg enc (by omega)
  obtain ⟨i5, i6, i7, i8⟩ : 0 ≤ r.who ∧ r.who ≤ 7 ∧ 0 ≤ r.round ∧ r.round ≤ 65535 := FT.out 98 (by simp)
  obtain ⟨x3, hx3⟩ := Int.eq_ofNat_of_zero_le i5
  obtain ⟨x4, hx4⟩ := Int.eq_ofNat_of_zero_le i7
  have E2 : Hid (wrF r 98 = enc (8 * x4 + x3)) := by show enc (8 * r.round + r.who).toNat = _; rw [hx3, hx4]; exact congrArg enc (by omega)
  have HC : Hid (chk 2 r.c = 0) := FT.out 99 (by simp)
  have E4 : Hid (wrF r 99 = encC r.c) := rfl
  have NO : Hid (noopR r = true) := by show _ = _; simp [noopR, hq]
  have E5 : Hid (wrF r 113 = []) := by show (if noopR r then [] else enc r.seq.toNat) = _; rw [NO.out]; rfl
  have E6 : Hid (wrF r 100 = []) := by show (if noopR r then [] else packL 2 r.deps) = _; rw [NO.out]; rfl
  have CL : Hid ((encC r.c).length ≤ 131281) := encC_le HC.out
  have y1 : x1 ≤ 7 := by omega
  have y1a : (0 : Int) ≤ (x1 : Int) := by omega
  have y1b : (x1 : Int) ≤ 7 := by omega
  have y2 : x2 ≤ 1048576 := by omega
  have y2a : (0 : Int) ≤ (x2 : Int) := by omega
  have y2b : (x2 : Int) ≤ 1048576 := by omega
  have y3 : x3 ≤ 7 := by omega
  have y3a : (0 : Int) ≤ (x3 : Int) := by omega
  have y3b : (x3 : Int) ≤ 7 := by omega
  have y4 : x4 ≤ 65535 := by omega
  have y4a : (0 : Int) ≤ (x4 : Int) := by omega
  have y4b : (x4 : Int) ≤ 65535 := by omega
  clear i1 i2 i3 i4 i5 i6 i7 i8
  have HX1 := hide hx1
  have HX2 := hide hx2
  have HX3 := hide hx3
  have HX4 := hide hx4
  clear hr hz hk HFit HXR FT hq hx1 hx2 hx3 hx4
  go_enter Tryz.func14, Tryz.ntmps14
  go_upto_region 1 with fail
  rw [← hV]
  clear hV
  go_wp2_with (first | (refine wpList_load_mid rfl 31 _ rfl w.heap.size 0 rfl (rcs r) _ Q.out.range Tryz.underlying31 rfl (by kernel_rfl) ?_))
  refine (refCheck_any n r _ (HR.out.below BV.out (Nat.le_refl _))).mono ?_
  rintro e w1 ⟨rfl, hb1⟩
  rw [HZ.out]
  have B1 : Hid (Below w.heap.size w w1) := BV.out.trans (hb1.mono BV.out.size)
  have Q1 : Hid (Blk w1 w.heap.size (rcs r)) := Q.out.on hb1
  clear hb1 Q BV
  obtain ⟨W, hW⟩ : ∃ W, W = w1.alloc (.cells #[.int .u8 4] 5) := ⟨_, rfl⟩
  have BW : Hid (Below w1.heap.size w1 W) := by rw [hW]; exact (Below.refl _ _).alloc (Nat.le_refl _) _
  have SW : Hid (Seg W (some ⟨w1.heap.size, 0, none⟩) 1 [4]) := by rw [hW]; exact seg_one6 w1 4
  have Q2 : Hid (Blk W w.heap.size (rcs r)) := Q1.out.on BW.out
  have B2 : Hid (Below w.heap.size w W) := B1.out.trans (BW.out.mono B1.out.size)
  have d0 : w1.cell? ⟨w.heap.size, 0, none⟩ = some (.int .i64 4) := by rw [← HKK.out]; exact Q1.out.cell 0 _ (rcs0 r)
  have z1 : w.heap.size < w1.heap.size := Q1.out.lt
  clear B1 Q1 BW
  have HW := hide hW
  clear hW
  go_upto_region 5 with fail
  rw [show w1.alloc (.cells #[.int .u8 4] 5) = W from HW.out.symm]
  clear d0 HW
  obtain ⟨q0, hq0⟩ : ∃ q0, Hid (w1.heap.size = q0) := ⟨_, rfl⟩
  rw [hq0.out] at SW z1 ⊢
  clear hq0
  have c0 : W.cell? ⟨w.heap.size, 0, none⟩ = some (.int .i64 4) := by rw [← HKK.out]; exact Q2.out.cell 0 _ (rcs0 r)
  have c1 : W.cell? ⟨w.heap.size, 1, none⟩ = some (.int .i64 (x1 : Int)) := by rw [← HX1.out]; exact Q2.out.cell 1 _ (rcs1 r)
  have c2 : W.cell? ⟨w.heap.size, 2, none⟩ = some (.int .i64 (x2 : Int)) := by rw [← HX2.out]; exact Q2.out.cell 2 _ (rcs2 r)
  have c4 : W.cell? ⟨w.heap.size, 4, none⟩ = some (.int .i64 (x3 : Int)) := by rw [← HX3.out]; exact Q2.out.cell 4 _ (rcs4 r)
  have c3 : W.cell? ⟨w.heap.size, 3, none⟩ = some (.int .i64 (x4 : Int)) := by rw [← HX4.out]; exact Q2.out.cell 3 _ (rcs3 r)
  have c6 : W.cell? ⟨w.heap.size, 6, none⟩ = some (.int .i64 0) := by rw [← HQ0.out]; exact Q2.out.cell 6 _ (rcs6 r)
  have c7 := Q2.out.cell 7 _ (rcs7 r)
  have c8 := Q2.out.cell 8 _ (rcs8 r)
  have c9 := Q2.out.cell 9 _ (rcs9 r)
  have c10 := Q2.out.cell 10 _ (rcs10 r)
  have c11 := Q2.out.cell 11 _ (rcs11 r)
  have c12 := Q2.out.cell 12 _ (rcs12 r)
  have c13 := Q2.out.cell 13 _ (rcs13 r)
  have HB : Hid (Calls Tryz.prog 29 #[.int .i64 4] W fun e w' => e = .returned (.bool true) ∧ W = w') := refHasBal_any 4 W (by decide) (by decide)
  have HCm : Hid (Calls Tryz.prog 30 #[.int .i64 4] W fun e w' => e = .returned (.bool true) ∧ W = w') := refHasCmd_any 4 W (by decide) (by decide)
  go_wp2_with (first | (go_at_call 29; refine HB.out.mono ?_; rintro e w' ⟨rfl, rfl⟩) | (go_at_call 30; refine HCm.out.mono ?_; rintro e w' ⟨rfl, rfl⟩))
  refine (number6_any _ _ _ [4] (8 * x2 + x1) _ SW.out (by omega) (by omega)).mono ?_
  rintro e W3 ⟨v3, rfl, o3, b3⟩
  have Q3 := hide (Q2.out.on b3)
  have B3 := hide (B2.out.trans (b3.mono B2.out.size))
  obtain ⟨L3, hL3⟩ : ∃ L3, Hid ([4] ++ enc (8 * x2 + x1) = L3) := ⟨[4] ++ enc (8 * x2 + x1), hide rfl⟩
  rw [hL3.out] at o3
  have lb3 : L3.length ≤ 11 := by rw [← hL3.out, List.length_append]; have e9 : (enc (8 * x2 + x1)).length ≤ 10 := (enc_le _ (by omega)).2; simp only [List.length_cons, List.length_nil]; omega
  obtain ⟨a3, cp3, rfl, k3a, k3b, s3⟩ := seg_own o3
  have S3 := hide s3
  have O3 := hide (own_more o3 B2.out.size)
  obtain ⟨n3, hn3⟩ : ∃ n3, Hid (L3.length = n3) := ⟨_, rfl⟩
  rw [hn3.out] at S3 lb3 O3 ⊢
  clear o3 b3 s3 k3a k3b
  clear c0 c1 c2 c4 c3 c6 c7 c8 c9 c10 c11 c12 c13 Q2 SW HB HCm
  have c0 : W3.cell? ⟨w.heap.size, 0, none⟩ = some (.int .i64 4) := by rw [← HKK.out]; exact Q3.out.cell 0 _ (rcs0 r)
  have c1 : W3.cell? ⟨w.heap.size, 1, none⟩ = some (.int .i64 (x1 : Int)) := by rw [← HX1.out]; exact Q3.out.cell 1 _ (rcs1 r)
  have c2 : W3.cell? ⟨w.heap.size, 2, none⟩ = some (.int .i64 (x2 : Int)) := by rw [← HX2.out]; exact Q3.out.cell 2 _ (rcs2 r)
  have c4 : W3.cell? ⟨w.heap.size, 4, none⟩ = some (.int .i64 (x3 : Int)) := by rw [← HX3.out]; exact Q3.out.cell 4 _ (rcs4 r)
  have c3 : W3.cell? ⟨w.heap.size, 3, none⟩ = some (.int .i64 (x4 : Int)) := by rw [← HX4.out]; exact Q3.out.cell 3 _ (rcs3 r)
  have c6 : W3.cell? ⟨w.heap.size, 6, none⟩ = some (.int .i64 0) := by rw [← HQ0.out]; exact Q3.out.cell 6 _ (rcs6 r)
  have c7 := Q3.out.cell 7 _ (rcs7 r)
  have c8 := Q3.out.cell 8 _ (rcs8 r)
  have c9 := Q3.out.cell 9 _ (rcs9 r)
  have c10 := Q3.out.cell 10 _ (rcs10 r)
  have c11 := Q3.out.cell 11 _ (rcs11 r)
  have c12 := Q3.out.cell 12 _ (rcs12 r)
  have c13 := Q3.out.cell 13 _ (rcs13 r)
  have HB : Hid (Calls Tryz.prog 29 #[.int .i64 4] W3 fun e w' => e = .returned (.bool true) ∧ W3 = w') := refHasBal_any 4 W3 (by decide) (by decide)
  have HCm : Hid (Calls Tryz.prog 30 #[.int .i64 4] W3 fun e w' => e = .returned (.bool true) ∧ W3 = w') := refHasCmd_any 4 W3 (by decide) (by decide)
  go_wp2_with (first | (go_at_call 29; refine HB.out.mono ?_; rintro e w' ⟨rfl, rfl⟩) | (go_at_call 30; refine HCm.out.mono ?_; rintro e w' ⟨rfl, rfl⟩))
  refine (number6_any _ _ _ L3 (8 * x4 + x3) _ S3.out (by omega) (by omega)).mono ?_
  rintro e W4 ⟨v4, rfl, o4, b4⟩
  have Q4 := hide (Q3.out.on b4)
  have B4 := hide (B3.out.trans (b4.mono B3.out.size))
  obtain ⟨L4, hL4⟩ : ∃ L4, Hid (L3 ++ enc (8 * x4 + x3) = L4) := ⟨L3 ++ enc (8 * x4 + x3), hide rfl⟩
  rw [hL4.out] at o4
  have lb4 : L4.length ≤ 21 := by rw [← hL4.out, List.length_append]; have e9 : (enc (8 * x4 + x3)).length ≤ 10 := (enc_le _ (by omega)).2; have e8 := hn3.out; omega
  obtain ⟨a4, cp4, rfl, k4a, k4b, s4⟩ := seg_own o4
  have S4 := hide s4
  have O4 := hide (own_more o4 B3.out.size)
  obtain ⟨n4, hn4⟩ : ∃ n4, Hid (L4.length = n4) := ⟨_, rfl⟩
  rw [hn4.out] at S4 lb4 O4 ⊢
  clear o4 b4 s4 k4a k4b
  clear c0 c1 c2 c4 c3 c6 c7 c8 c9 c10 c11 c12 c13 Q3 S3 HB HCm
  have c0 : W4.cell? ⟨w.heap.size, 0, none⟩ = some (.int .i64 4) := by rw [← HKK.out]; exact Q4.out.cell 0 _ (rcs0 r)
  have c1 : W4.cell? ⟨w.heap.size, 1, none⟩ = some (.int .i64 (x1 : Int)) := by rw [← HX1.out]; exact Q4.out.cell 1 _ (rcs1 r)
  have c2 : W4.cell? ⟨w.heap.size, 2, none⟩ = some (.int .i64 (x2 : Int)) := by rw [← HX2.out]; exact Q4.out.cell 2 _ (rcs2 r)
  have c4 : W4.cell? ⟨w.heap.size, 4, none⟩ = some (.int .i64 (x3 : Int)) := by rw [← HX3.out]; exact Q4.out.cell 4 _ (rcs4 r)
  have c3 : W4.cell? ⟨w.heap.size, 3, none⟩ = some (.int .i64 (x4 : Int)) := by rw [← HX4.out]; exact Q4.out.cell 3 _ (rcs3 r)
  have c6 : W4.cell? ⟨w.heap.size, 6, none⟩ = some (.int .i64 0) := by rw [← HQ0.out]; exact Q4.out.cell 6 _ (rcs6 r)
  have c7 := Q4.out.cell 7 _ (rcs7 r)
  have c8 := Q4.out.cell 8 _ (rcs8 r)
  have c9 := Q4.out.cell 9 _ (rcs9 r)
  have c10 := Q4.out.cell 10 _ (rcs10 r)
  have c11 := Q4.out.cell 11 _ (rcs11 r)
  have c12 := Q4.out.cell 12 _ (rcs12 r)
  have c13 := Q4.out.cell 13 _ (rcs13 r)
  have HB : Hid (Calls Tryz.prog 29 #[.int .i64 4] W4 fun e w' => e = .returned (.bool true) ∧ W4 = w') := refHasBal_any 4 W4 (by decide) (by decide)
  have HCm : Hid (Calls Tryz.prog 30 #[.int .i64 4] W4 fun e w' => e = .returned (.bool true) ∧ W4 = w') := refHasCmd_any 4 W4 (by decide) (by decide)
  go_wp2_with (first | (go_at_call 29; refine HB.out.mono ?_; rintro e w' ⟨rfl, rfl⟩) | (go_at_call 30; refine HCm.out.mono ?_; rintro e w' ⟨rfl, rfl⟩))
  have HEn := hide (rencode_any 2 r.c W4 HR.out.k1 HR.out.k2 hn1 hn2 HC.out)
  rw [HQ0.out] at HEn
  refine HEn.out.mono ?_
  rintro e W5 ⟨u5, rfl, o5, b5⟩
  obtain ⟨C, hC⟩ : ∃ C, Hid (encC r.c = C) := ⟨_, rfl⟩
  rw [hC.out] at o5
  have lC : C.length ≤ 131281 := by rw [← hC.out]; exact CL.out
  obtain ⟨a5, cp5, rfl, k5a, k5b, s5⟩ := seg_own o5
  obtain ⟨m5, hm5⟩ : ∃ m5, Hid (C.length = m5) := ⟨_, rfl⟩
  have SC := hide s5
  rw [hm5.out] at SC lC ⊢
  have S5 := hide (S4.out.below b5 (Nat.le_refl _))
  have Q5 := hide (Q4.out.on b5)
  have B5 := hide (B4.out.trans (b5.mono B4.out.size))
  clear o5 b5 s5 k5a k5b
  clear c0 c1 c2 c4 c3 c6 c7 c8 c9 c10 c11 c12 c13 Q4 S4 HB HCm
  have c0 : W5.cell? ⟨w.heap.size, 0, none⟩ = some (.int .i64 4) := by rw [← HKK.out]; exact Q5.out.cell 0 _ (rcs0 r)
  have c1 : W5.cell? ⟨w.heap.size, 1, none⟩ = some (.int .i64 (x1 : Int)) := by rw [← HX1.out]; exact Q5.out.cell 1 _ (rcs1 r)
  have c2 : W5.cell? ⟨w.heap.size, 2, none⟩ = some (.int .i64 (x2 : Int)) := by rw [← HX2.out]; exact Q5.out.cell 2 _ (rcs2 r)
  have c4 : W5.cell? ⟨w.heap.size, 4, none⟩ = some (.int .i64 (x3 : Int)) := by rw [← HX3.out]; exact Q5.out.cell 4 _ (rcs4 r)
  have c3 : W5.cell? ⟨w.heap.size, 3, none⟩ = some (.int .i64 (x4 : Int)) := by rw [← HX4.out]; exact Q5.out.cell 3 _ (rcs3 r)
  have c6 : W5.cell? ⟨w.heap.size, 6, none⟩ = some (.int .i64 0) := by rw [← HQ0.out]; exact Q5.out.cell 6 _ (rcs6 r)
  have c7 := Q5.out.cell 7 _ (rcs7 r)
  have c8 := Q5.out.cell 8 _ (rcs8 r)
  have c9 := Q5.out.cell 9 _ (rcs9 r)
  have c10 := Q5.out.cell 10 _ (rcs10 r)
  have c11 := Q5.out.cell 11 _ (rcs11 r)
  have c12 := Q5.out.cell 12 _ (rcs12 r)
  have c13 := Q5.out.cell 13 _ (rcs13 r)
  have HB : Hid (Calls Tryz.prog 29 #[.int .i64 4] W5 fun e w' => e = .returned (.bool true) ∧ W5 = w') := refHasBal_any 4 W5 (by decide) (by decide)
  have HCm : Hid (Calls Tryz.prog 30 #[.int .i64 4] W5 fun e w' => e = .returned (.bool true) ∧ W5 = w') := refHasCmd_any 4 W5 (by decide) (by decide)
  go_wp2_with (first | (go_at_call 29; refine HB.out.mono ?_; rintro e w' ⟨rfl, rfl⟩) | (go_at_call 30; refine HCm.out.mono ?_; rintro e w' ⟨rfl, rfl⟩))
  refine (add6_any _ _ _ _ _ _ L4 C _ S5.out SC.out (by omega)).mono ?_
  rintro e W6 ⟨v6, rfl, o6, b6⟩
  have Q6 := hide (Q5.out.on b6)
  have B6 := hide (B5.out.trans (b6.mono B5.out.size))
  obtain ⟨L6, hL6⟩ : ∃ L6, Hid (L4 ++ C = L6) := ⟨L4 ++ C, hide rfl⟩
  rw [hL6.out] at o6
  have lb6 : L6.length ≤ 131302 := by rw [← hL6.out, List.length_append]; have e8 := hn4.out; have e7 := hm5.out; omega
  obtain ⟨a6, cp6, rfl, k6a, k6b, s6⟩ := seg_own o6
  have S6 := hide s6
  have O6 := hide (own_more o6 B5.out.size)
  obtain ⟨n6, hn6⟩ : ∃ n6, Hid (L6.length = n6) := ⟨_, rfl⟩
  rw [hn6.out] at S6 lb6 O6 ⊢
  clear o6 b6 s6 k6a k6b
  clear c0 c1 c2 c4 c3 c6 c7 c8 c9 c10 c11 c12 c13 Q5 S5 HB HCm
  have c0 : W6.cell? ⟨w.heap.size, 0, none⟩ = some (.int .i64 4) := by rw [← HKK.out]; exact Q6.out.cell 0 _ (rcs0 r)
  have c1 : W6.cell? ⟨w.heap.size, 1, none⟩ = some (.int .i64 (x1 : Int)) := by rw [← HX1.out]; exact Q6.out.cell 1 _ (rcs1 r)
  have c2 : W6.cell? ⟨w.heap.size, 2, none⟩ = some (.int .i64 (x2 : Int)) := by rw [← HX2.out]; exact Q6.out.cell 2 _ (rcs2 r)
  have c4 : W6.cell? ⟨w.heap.size, 4, none⟩ = some (.int .i64 (x3 : Int)) := by rw [← HX3.out]; exact Q6.out.cell 4 _ (rcs4 r)
  have c3 : W6.cell? ⟨w.heap.size, 3, none⟩ = some (.int .i64 (x4 : Int)) := by rw [← HX4.out]; exact Q6.out.cell 3 _ (rcs3 r)
  have c6 : W6.cell? ⟨w.heap.size, 6, none⟩ = some (.int .i64 0) := by rw [← HQ0.out]; exact Q6.out.cell 6 _ (rcs6 r)
  have c7 := Q6.out.cell 7 _ (rcs7 r)
  have c8 := Q6.out.cell 8 _ (rcs8 r)
  have c9 := Q6.out.cell 9 _ (rcs9 r)
  have c10 := Q6.out.cell 10 _ (rcs10 r)
  have c11 := Q6.out.cell 11 _ (rcs11 r)
  have c12 := Q6.out.cell 12 _ (rcs12 r)
  have c13 := Q6.out.cell 13 _ (rcs13 r)
  have HB : Hid (Calls Tryz.prog 29 #[.int .i64 4] W6 fun e w' => e = .returned (.bool true) ∧ W6 = w') := refHasBal_any 4 W6 (by decide) (by decide)
  have HCm : Hid (Calls Tryz.prog 30 #[.int .i64 4] W6 fun e w' => e = .returned (.bool true) ∧ W6 = w') := refHasCmd_any 4 W6 (by decide) (by decide)
  clear SC
  go_wp2_with (first | (go_at_call 29; refine HB.out.mono ?_; rintro e w' ⟨rfl, rfl⟩) | (go_at_call 30; refine HCm.out.mono ?_; rintro e w' ⟨rfl, rfl⟩))
  go_ret2
  have FIN : Hid (recB r = L6) := by
    show r.kind :: (rowR r.kind).flatMap (wrF r) = _
    rw [HKK.out, show rowR 4 = [105, 98, 99, 113, 100] from rfl]
    simp only [List.flatMap_cons, List.flatMap_nil, E1.out, E2.out, E4.out, E5.out, E6.out]
    rw [← hL6.out, ← hL4.out, ← hL3.out, ← hC.out]
    simp
  rw [FIN.out, hn6.out]
  exact ⟨_, rfl, O6.out, B6.out⟩

set_option maxHeartbeats 4000000 in
set_option maxRecDepth 100000 in
theorem r6_4y (n : Int) (r : Rc) (w : World) (hr : Rok w r) (hn1 : -9223372036854775808 ≤ r.c.n) (hn2 : r.c.n ≤ 9223372036854775807) (hz : chkR n r = 0) (hk : r.kind = 4) (hq : r.c.kind ≠ 0) :
    Calls Tryz.prog 14 #[.int .i64 n, .agg (rcs r).toArray] w fun e w' => ∃ u, e = .returned (.tuple #[u, .int .i64 0]) ∧ w'.ownsRow w.heap.size 5 1 u (recB r).length ((recB r).map (Value.int .u8)) ∧ Below w.heap.size w w' := by
  obtain ⟨V, hV, Q⟩ := zX w 31 (rcs r)
  have BV : Hid (Below w.heap.size w V) := by rw [hV]; exact (Below.refl _ _).alloc (Nat.le_refl _) _
  have HR := hide hr
  have HFit := hide (fit_of_chk hz)
  have HZ := hide hz
  have HKK := hide hk
  have HXR : Hid (rowR r.kind = [105, 98, 99, 113, 100]) := by show _ = _; rw [hk]; rfl
  have FT : Hid (∀ x ∈ ([105, 98, 99, 113, 100] : List Nat), fitF r x) := by intro x hx; exact HFit.out x (by rw [HXR.out]; exact hx)
  obtain ⟨i1, i2, i3, i4⟩ : 0 ≤ r.row ∧ r.row ≤ 7 ∧ 0 ≤ r.num ∧ r.num ≤ 1048576 := FT.out 105 (by simp)
  obtain ⟨x1, hx1⟩ := Int.eq_ofNat_of_zero_le i1
  obtain ⟨x2, hx2⟩ := Int.eq_ofNat_of_zero_le i3
  have E1 : Hid (wrF r 105 = enc (8 * x2 + x1)) := by show enc (8 * r.num + r.row).toNat = _; rw [hx1, hx2]; exact congrArg enc (by omega)
  obtain ⟨i5, i6, i7, i8⟩ : 0 ≤ r.who ∧ r.who ≤ 7 ∧ 0 ≤ r.round ∧ r.round ≤ 65535 := FT.out 98 (by simp)
  obtain ⟨x3, hx3⟩ := Int.eq_ofNat_of_zero_le i5
  obtain ⟨x4, hx4⟩ := Int.eq_ofNat_of_zero_le i7
  have E2 : Hid (wrF r 98 = enc (8 * x4 + x3)) := by show enc (8 * r.round + r.who).toNat = _; rw [hx3, hx4]; exact congrArg enc (by omega)
  have HC : Hid (chk 2 r.c = 0) := FT.out 99 (by simp)
  have E4 : Hid (wrF r 99 = encC r.c) := rfl
  have NO : Hid (noopR r = false) := by show _ = _; simp [noopR, hq]
  obtain ⟨i9, iA⟩ : 0 ≤ r.seq ∧ r.seq ≤ 1073741824 := FT.out 113 (by simp)
  obtain ⟨x5, hx5⟩ := Int.eq_ofNat_of_zero_le i9
  have E5 : Hid (wrF r 113 = enc x5) := by show (if noopR r then [] else enc r.seq.toNat) = _; rw [NO.out, hx5]; rfl
  have HVc : Hid (isVec r.deps = true) := FT.out 100 (by simp)
  have PE : Hid (packE 2 r.deps = 0) := pack6_zero HVc.out
  have PR : Hid (packR 2 r.deps = packL 2 r.deps) := by show (if packE 2 r.deps = 0 then packL 2 r.deps else []) = _; rw [PE.out]; rfl
  have E6 : Hid (wrF r 100 = packR 2 r.deps) := by show (if noopR r then [] else packL 2 r.deps) = _; rw [NO.out, PR.out]; rfl
  have PL : Hid ((packR 2 r.deps).length ≤ 131281) := by rw [← E6.out]; exact wrF_le (by simp [Ltr]) (FT.out 100 (by simp))
  have CL : Hid ((encC r.c).length ≤ 131281) := encC_le HC.out
  have y1 : x1 ≤ 7 := by omega
  have y1a : (0 : Int) ≤ (x1 : Int) := by omega
  have y1b : (x1 : Int) ≤ 7 := by omega
  have y2 : x2 ≤ 1048576 := by omega
  have y2a : (0 : Int) ≤ (x2 : Int) := by omega
  have y2b : (x2 : Int) ≤ 1048576 := by omega
  have y3 : x3 ≤ 7 := by omega
  have y3a : (0 : Int) ≤ (x3 : Int) := by omega
  have y3b : (x3 : Int) ≤ 7 := by omega
  have y4 : x4 ≤ 65535 := by omega
  have y4a : (0 : Int) ≤ (x4 : Int) := by omega
  have y4b : (x4 : Int) ≤ 65535 := by omega
  have y5 : x5 ≤ 1073741824 := by omega
  have y5a : (0 : Int) ≤ (x5 : Int) := by omega
  have y5b : (x5 : Int) ≤ 1073741824 := by omega
  clear i1 i2 i3 i4 i5 i6 i7 i8 i9 iA
  have HX1 := hide hx1
  have HX2 := hide hx2
  have HX3 := hide hx3
  have HX4 := hide hx4
  have HX5 := hide hx5
  clear hr hz hk HFit HXR FT hx1 hx2 hx3 hx4 hx5
  have q9 : (r.c.kind != 0) = true := by rw [bne_iff_ne]; exact hq
  go_enter Tryz.func14, Tryz.ntmps14
  go_upto_region 1 with fail
  rw [← hV]
  clear hV
  go_wp2_with (first | (refine wpList_load_mid rfl 31 _ rfl w.heap.size 0 rfl (rcs r) _ Q.out.range Tryz.underlying31 rfl (by kernel_rfl) ?_))
  refine (refCheck_any n r _ (HR.out.below BV.out (Nat.le_refl _))).mono ?_
  rintro e w1 ⟨rfl, hb1⟩
  rw [HZ.out]
  have B1 : Hid (Below w.heap.size w w1) := BV.out.trans (hb1.mono BV.out.size)
  have Q1 : Hid (Blk w1 w.heap.size (rcs r)) := Q.out.on hb1
  clear hb1 Q BV
  obtain ⟨W, hW⟩ : ∃ W, W = w1.alloc (.cells #[.int .u8 4] 5) := ⟨_, rfl⟩
  have BW : Hid (Below w1.heap.size w1 W) := by rw [hW]; exact (Below.refl _ _).alloc (Nat.le_refl _) _
  have SW : Hid (Seg W (some ⟨w1.heap.size, 0, none⟩) 1 [4]) := by rw [hW]; exact seg_one6 w1 4
  have Q2 : Hid (Blk W w.heap.size (rcs r)) := Q1.out.on BW.out
  have B2 : Hid (Below w.heap.size w W) := B1.out.trans (BW.out.mono B1.out.size)
  have d0 : w1.cell? ⟨w.heap.size, 0, none⟩ = some (.int .i64 4) := by rw [← HKK.out]; exact Q1.out.cell 0 _ (rcs0 r)
  have z1 : w.heap.size < w1.heap.size := Q1.out.lt
  clear B1 Q1 BW
  have HW := hide hW
  clear hW
  go_upto_region 5 with fail
  rw [show w1.alloc (.cells #[.int .u8 4] 5) = W from HW.out.symm]
  clear d0 HW
  obtain ⟨q0, hq0⟩ : ∃ q0, Hid (w1.heap.size = q0) := ⟨_, rfl⟩
  rw [hq0.out] at SW z1 ⊢
  clear hq0
  have c0 : W.cell? ⟨w.heap.size, 0, none⟩ = some (.int .i64 4) := by rw [← HKK.out]; exact Q2.out.cell 0 _ (rcs0 r)
  have c1 : W.cell? ⟨w.heap.size, 1, none⟩ = some (.int .i64 (x1 : Int)) := by rw [← HX1.out]; exact Q2.out.cell 1 _ (rcs1 r)
  have c2 : W.cell? ⟨w.heap.size, 2, none⟩ = some (.int .i64 (x2 : Int)) := by rw [← HX2.out]; exact Q2.out.cell 2 _ (rcs2 r)
  have c4 : W.cell? ⟨w.heap.size, 4, none⟩ = some (.int .i64 (x3 : Int)) := by rw [← HX3.out]; exact Q2.out.cell 4 _ (rcs4 r)
  have c3 : W.cell? ⟨w.heap.size, 3, none⟩ = some (.int .i64 (x4 : Int)) := by rw [← HX4.out]; exact Q2.out.cell 3 _ (rcs3 r)
  have c14 : W.cell? ⟨w.heap.size, 14, none⟩ = some (.int .i64 (x5 : Int)) := by rw [← HX5.out]; exact Q2.out.cell 14 _ (rcs14 r)
  have c6 := Q2.out.cell 6 _ (rcs6 r)
  have c7 := Q2.out.cell 7 _ (rcs7 r)
  have c8 := Q2.out.cell 8 _ (rcs8 r)
  have c9 := Q2.out.cell 9 _ (rcs9 r)
  have c10 := Q2.out.cell 10 _ (rcs10 r)
  have c11 := Q2.out.cell 11 _ (rcs11 r)
  have c12 := Q2.out.cell 12 _ (rcs12 r)
  have c13 := Q2.out.cell 13 _ (rcs13 r)
  have c15 := Q2.out.cell 15 _ (rcs15 r)
  have HB : Hid (Calls Tryz.prog 29 #[.int .i64 4] W fun e w' => e = .returned (.bool true) ∧ W = w') := refHasBal_any 4 W (by decide) (by decide)
  have HCm : Hid (Calls Tryz.prog 30 #[.int .i64 4] W fun e w' => e = .returned (.bool true) ∧ W = w') := refHasCmd_any 4 W (by decide) (by decide)
  go_wp2_with (first | (go_at_call 29; refine HB.out.mono ?_; rintro e w' ⟨rfl, rfl⟩) | (go_at_call 30; refine HCm.out.mono ?_; rintro e w' ⟨rfl, rfl⟩))
  refine (number6_any _ _ _ [4] (8 * x2 + x1) _ SW.out (by omega) (by omega)).mono ?_
  rintro e W3 ⟨v3, rfl, o3, b3⟩
  have Q3 := hide (Q2.out.on b3)
  have B3 := hide (B2.out.trans (b3.mono B2.out.size))
  obtain ⟨L3, hL3⟩ : ∃ L3, Hid ([4] ++ enc (8 * x2 + x1) = L3) := ⟨[4] ++ enc (8 * x2 + x1), hide rfl⟩
  rw [hL3.out] at o3
  have lb3 : L3.length ≤ 11 := by rw [← hL3.out, List.length_append]; have e9 : (enc (8 * x2 + x1)).length ≤ 10 := (enc_le _ (by omega)).2; simp only [List.length_cons, List.length_nil]; omega
  obtain ⟨a3, cp3, rfl, k3a, k3b, s3⟩ := seg_own o3
  have S3 := hide s3
  have O3 := hide (own_more o3 B2.out.size)
  obtain ⟨n3, hn3⟩ : ∃ n3, Hid (L3.length = n3) := ⟨_, rfl⟩
  rw [hn3.out] at S3 lb3 O3 ⊢
  clear o3 b3 s3 k3a k3b
  clear c0 c1 c2 c4 c3 c14 c6 c7 c8 c9 c10 c11 c12 c13 c15 Q2 SW HB HCm
  have c0 : W3.cell? ⟨w.heap.size, 0, none⟩ = some (.int .i64 4) := by rw [← HKK.out]; exact Q3.out.cell 0 _ (rcs0 r)
  have c1 : W3.cell? ⟨w.heap.size, 1, none⟩ = some (.int .i64 (x1 : Int)) := by rw [← HX1.out]; exact Q3.out.cell 1 _ (rcs1 r)
  have c2 : W3.cell? ⟨w.heap.size, 2, none⟩ = some (.int .i64 (x2 : Int)) := by rw [← HX2.out]; exact Q3.out.cell 2 _ (rcs2 r)
  have c4 : W3.cell? ⟨w.heap.size, 4, none⟩ = some (.int .i64 (x3 : Int)) := by rw [← HX3.out]; exact Q3.out.cell 4 _ (rcs4 r)
  have c3 : W3.cell? ⟨w.heap.size, 3, none⟩ = some (.int .i64 (x4 : Int)) := by rw [← HX4.out]; exact Q3.out.cell 3 _ (rcs3 r)
  have c14 : W3.cell? ⟨w.heap.size, 14, none⟩ = some (.int .i64 (x5 : Int)) := by rw [← HX5.out]; exact Q3.out.cell 14 _ (rcs14 r)
  have c6 := Q3.out.cell 6 _ (rcs6 r)
  have c7 := Q3.out.cell 7 _ (rcs7 r)
  have c8 := Q3.out.cell 8 _ (rcs8 r)
  have c9 := Q3.out.cell 9 _ (rcs9 r)
  have c10 := Q3.out.cell 10 _ (rcs10 r)
  have c11 := Q3.out.cell 11 _ (rcs11 r)
  have c12 := Q3.out.cell 12 _ (rcs12 r)
  have c13 := Q3.out.cell 13 _ (rcs13 r)
  have c15 := Q3.out.cell 15 _ (rcs15 r)
  have HB : Hid (Calls Tryz.prog 29 #[.int .i64 4] W3 fun e w' => e = .returned (.bool true) ∧ W3 = w') := refHasBal_any 4 W3 (by decide) (by decide)
  have HCm : Hid (Calls Tryz.prog 30 #[.int .i64 4] W3 fun e w' => e = .returned (.bool true) ∧ W3 = w') := refHasCmd_any 4 W3 (by decide) (by decide)
  go_wp2_with (first | (go_at_call 29; refine HB.out.mono ?_; rintro e w' ⟨rfl, rfl⟩) | (go_at_call 30; refine HCm.out.mono ?_; rintro e w' ⟨rfl, rfl⟩))
  refine (number6_any _ _ _ L3 (8 * x4 + x3) _ S3.out (by omega) (by omega)).mono ?_
  rintro e W4 ⟨v4, rfl, o4, b4⟩
  have Q4 := hide (Q3.out.on b4)
  have B4 := hide (B3.out.trans (b4.mono B3.out.size))
  obtain ⟨L4, hL4⟩ : ∃ L4, Hid (L3 ++ enc (8 * x4 + x3) = L4) := ⟨L3 ++ enc (8 * x4 + x3), hide rfl⟩
  rw [hL4.out] at o4
  have lb4 : L4.length ≤ 21 := by rw [← hL4.out, List.length_append]; have e9 : (enc (8 * x4 + x3)).length ≤ 10 := (enc_le _ (by omega)).2; have e8 := hn3.out; omega
  obtain ⟨a4, cp4, rfl, k4a, k4b, s4⟩ := seg_own o4
  have S4 := hide s4
  have O4 := hide (own_more o4 B3.out.size)
  obtain ⟨n4, hn4⟩ : ∃ n4, Hid (L4.length = n4) := ⟨_, rfl⟩
  rw [hn4.out] at S4 lb4 O4 ⊢
  clear o4 b4 s4 k4a k4b
  clear c0 c1 c2 c4 c3 c14 c6 c7 c8 c9 c10 c11 c12 c13 c15 Q3 S3 HB HCm
  have c0 : W4.cell? ⟨w.heap.size, 0, none⟩ = some (.int .i64 4) := by rw [← HKK.out]; exact Q4.out.cell 0 _ (rcs0 r)
  have c1 : W4.cell? ⟨w.heap.size, 1, none⟩ = some (.int .i64 (x1 : Int)) := by rw [← HX1.out]; exact Q4.out.cell 1 _ (rcs1 r)
  have c2 : W4.cell? ⟨w.heap.size, 2, none⟩ = some (.int .i64 (x2 : Int)) := by rw [← HX2.out]; exact Q4.out.cell 2 _ (rcs2 r)
  have c4 : W4.cell? ⟨w.heap.size, 4, none⟩ = some (.int .i64 (x3 : Int)) := by rw [← HX3.out]; exact Q4.out.cell 4 _ (rcs4 r)
  have c3 : W4.cell? ⟨w.heap.size, 3, none⟩ = some (.int .i64 (x4 : Int)) := by rw [← HX4.out]; exact Q4.out.cell 3 _ (rcs3 r)
  have c14 : W4.cell? ⟨w.heap.size, 14, none⟩ = some (.int .i64 (x5 : Int)) := by rw [← HX5.out]; exact Q4.out.cell 14 _ (rcs14 r)
  have c6 := Q4.out.cell 6 _ (rcs6 r)
  have c7 := Q4.out.cell 7 _ (rcs7 r)
  have c8 := Q4.out.cell 8 _ (rcs8 r)
  have c9 := Q4.out.cell 9 _ (rcs9 r)
  have c10 := Q4.out.cell 10 _ (rcs10 r)
  have c11 := Q4.out.cell 11 _ (rcs11 r)
  have c12 := Q4.out.cell 12 _ (rcs12 r)
  have c13 := Q4.out.cell 13 _ (rcs13 r)
  have c15 := Q4.out.cell 15 _ (rcs15 r)
  have HB : Hid (Calls Tryz.prog 29 #[.int .i64 4] W4 fun e w' => e = .returned (.bool true) ∧ W4 = w') := refHasBal_any 4 W4 (by decide) (by decide)
  have HCm : Hid (Calls Tryz.prog 30 #[.int .i64 4] W4 fun e w' => e = .returned (.bool true) ∧ W4 = w') := refHasCmd_any 4 W4 (by decide) (by decide)
  go_wp2_with (first | (go_at_call 29; refine HB.out.mono ?_; rintro e w' ⟨rfl, rfl⟩) | (go_at_call 30; refine HCm.out.mono ?_; rintro e w' ⟨rfl, rfl⟩))
  refine (rencode_any 2 r.c _ HR.out.k1 HR.out.k2 hn1 hn2 HC.out).mono ?_
  rintro e W5 ⟨u5, rfl, o5, b5⟩
  obtain ⟨C, hC⟩ : ∃ C, Hid (encC r.c = C) := ⟨_, rfl⟩
  rw [hC.out] at o5
  have lC : C.length ≤ 131281 := by rw [← hC.out]; exact CL.out
  obtain ⟨a5, cp5, rfl, k5a, k5b, s5⟩ := seg_own o5
  obtain ⟨m5, hm5⟩ : ∃ m5, Hid (C.length = m5) := ⟨_, rfl⟩
  have SC := hide s5
  rw [hm5.out] at SC lC ⊢
  have S5 := hide (S4.out.below b5 (Nat.le_refl _))
  have Q5 := hide (Q4.out.on b5)
  have B5 := hide (B4.out.trans (b5.mono B4.out.size))
  clear o5 b5 s5 k5a k5b
  clear c0 c1 c2 c4 c3 c14 c6 c7 c8 c9 c10 c11 c12 c13 c15 Q4 S4 HB HCm
  have c0 : W5.cell? ⟨w.heap.size, 0, none⟩ = some (.int .i64 4) := by rw [← HKK.out]; exact Q5.out.cell 0 _ (rcs0 r)
  have c1 : W5.cell? ⟨w.heap.size, 1, none⟩ = some (.int .i64 (x1 : Int)) := by rw [← HX1.out]; exact Q5.out.cell 1 _ (rcs1 r)
  have c2 : W5.cell? ⟨w.heap.size, 2, none⟩ = some (.int .i64 (x2 : Int)) := by rw [← HX2.out]; exact Q5.out.cell 2 _ (rcs2 r)
  have c4 : W5.cell? ⟨w.heap.size, 4, none⟩ = some (.int .i64 (x3 : Int)) := by rw [← HX3.out]; exact Q5.out.cell 4 _ (rcs4 r)
  have c3 : W5.cell? ⟨w.heap.size, 3, none⟩ = some (.int .i64 (x4 : Int)) := by rw [← HX4.out]; exact Q5.out.cell 3 _ (rcs3 r)
  have c14 : W5.cell? ⟨w.heap.size, 14, none⟩ = some (.int .i64 (x5 : Int)) := by rw [← HX5.out]; exact Q5.out.cell 14 _ (rcs14 r)
  have c6 := Q5.out.cell 6 _ (rcs6 r)
  have c7 := Q5.out.cell 7 _ (rcs7 r)
  have c8 := Q5.out.cell 8 _ (rcs8 r)
  have c9 := Q5.out.cell 9 _ (rcs9 r)
  have c10 := Q5.out.cell 10 _ (rcs10 r)
  have c11 := Q5.out.cell 11 _ (rcs11 r)
  have c12 := Q5.out.cell 12 _ (rcs12 r)
  have c13 := Q5.out.cell 13 _ (rcs13 r)
  have c15 := Q5.out.cell 15 _ (rcs15 r)
  have HB : Hid (Calls Tryz.prog 29 #[.int .i64 4] W5 fun e w' => e = .returned (.bool true) ∧ W5 = w') := refHasBal_any 4 W5 (by decide) (by decide)
  have HCm : Hid (Calls Tryz.prog 30 #[.int .i64 4] W5 fun e w' => e = .returned (.bool true) ∧ W5 = w') := refHasCmd_any 4 W5 (by decide) (by decide)
  go_wp2_with (first | (go_at_call 29; refine HB.out.mono ?_; rintro e w' ⟨rfl, rfl⟩) | (go_at_call 30; refine HCm.out.mono ?_; rintro e w' ⟨rfl, rfl⟩))
  refine (add6_any _ _ _ _ _ _ L4 C _ S5.out SC.out (by omega)).mono ?_
  rintro e W6 ⟨v6, rfl, o6, b6⟩
  have Q6 := hide (Q5.out.on b6)
  have B6 := hide (B5.out.trans (b6.mono B5.out.size))
  obtain ⟨L6, hL6⟩ : ∃ L6, Hid (L4 ++ C = L6) := ⟨L4 ++ C, hide rfl⟩
  rw [hL6.out] at o6
  have lb6 : L6.length ≤ 131302 := by rw [← hL6.out, List.length_append]; have e8 := hn4.out; have e7 := hm5.out; omega
  obtain ⟨a6, cp6, rfl, k6a, k6b, s6⟩ := seg_own o6
  have S6 := hide s6
  have O6 := hide (own_more o6 B5.out.size)
  obtain ⟨n6, hn6⟩ : ∃ n6, Hid (L6.length = n6) := ⟨_, rfl⟩
  rw [hn6.out] at S6 lb6 O6 ⊢
  clear o6 b6 s6 k6a k6b
  clear c0 c1 c2 c4 c3 c14 c6 c7 c8 c9 c10 c11 c12 c13 c15 Q5 S5 HB HCm
  have c0 : W6.cell? ⟨w.heap.size, 0, none⟩ = some (.int .i64 4) := by rw [← HKK.out]; exact Q6.out.cell 0 _ (rcs0 r)
  have c1 : W6.cell? ⟨w.heap.size, 1, none⟩ = some (.int .i64 (x1 : Int)) := by rw [← HX1.out]; exact Q6.out.cell 1 _ (rcs1 r)
  have c2 : W6.cell? ⟨w.heap.size, 2, none⟩ = some (.int .i64 (x2 : Int)) := by rw [← HX2.out]; exact Q6.out.cell 2 _ (rcs2 r)
  have c4 : W6.cell? ⟨w.heap.size, 4, none⟩ = some (.int .i64 (x3 : Int)) := by rw [← HX3.out]; exact Q6.out.cell 4 _ (rcs4 r)
  have c3 : W6.cell? ⟨w.heap.size, 3, none⟩ = some (.int .i64 (x4 : Int)) := by rw [← HX4.out]; exact Q6.out.cell 3 _ (rcs3 r)
  have c14 : W6.cell? ⟨w.heap.size, 14, none⟩ = some (.int .i64 (x5 : Int)) := by rw [← HX5.out]; exact Q6.out.cell 14 _ (rcs14 r)
  have c6 := Q6.out.cell 6 _ (rcs6 r)
  have c7 := Q6.out.cell 7 _ (rcs7 r)
  have c8 := Q6.out.cell 8 _ (rcs8 r)
  have c9 := Q6.out.cell 9 _ (rcs9 r)
  have c10 := Q6.out.cell 10 _ (rcs10 r)
  have c11 := Q6.out.cell 11 _ (rcs11 r)
  have c12 := Q6.out.cell 12 _ (rcs12 r)
  have c13 := Q6.out.cell 13 _ (rcs13 r)
  have c15 := Q6.out.cell 15 _ (rcs15 r)
  have HB : Hid (Calls Tryz.prog 29 #[.int .i64 4] W6 fun e w' => e = .returned (.bool true) ∧ W6 = w') := refHasBal_any 4 W6 (by decide) (by decide)
  have HCm : Hid (Calls Tryz.prog 30 #[.int .i64 4] W6 fun e w' => e = .returned (.bool true) ∧ W6 = w') := refHasCmd_any 4 W6 (by decide) (by decide)
  clear SC
  go_wp2_with (first | (go_at_call 29; refine HB.out.mono ?_; rintro e w' ⟨rfl, rfl⟩) | (go_at_call 30; refine HCm.out.mono ?_; rintro e w' ⟨rfl, rfl⟩))
  refine (number6_any _ _ _ L6 (x5) _ S6.out (by omega) (by omega)).mono ?_
  rintro e W7 ⟨v7, rfl, o7, b7⟩
  have Q7 := hide (Q6.out.on b7)
  have B7 := hide (B6.out.trans (b7.mono B6.out.size))
  obtain ⟨L7, hL7⟩ : ∃ L7, Hid (L6 ++ enc (x5) = L7) := ⟨L6 ++ enc (x5), hide rfl⟩
  rw [hL7.out] at o7
  have lb7 : L7.length ≤ 131312 := by rw [← hL7.out, List.length_append]; have e9 : (enc (x5)).length ≤ 10 := (enc_le _ (by omega)).2; have e8 := hn6.out; omega
  obtain ⟨a7, cp7, rfl, k7a, k7b, s7⟩ := seg_own o7
  have S7 := hide s7
  have O7 := hide (own_more o7 B6.out.size)
  obtain ⟨n7, hn7⟩ : ∃ n7, Hid (L7.length = n7) := ⟨_, rfl⟩
  rw [hn7.out] at S7 lb7 O7 ⊢
  clear o7 b7 s7 k7a k7b
  clear c0 c1 c2 c4 c3 c14 c6 c7 c8 c9 c10 c11 c12 c13 c15 Q6 S6 HB HCm
  have c0 : W7.cell? ⟨w.heap.size, 0, none⟩ = some (.int .i64 4) := by rw [← HKK.out]; exact Q7.out.cell 0 _ (rcs0 r)
  have c1 : W7.cell? ⟨w.heap.size, 1, none⟩ = some (.int .i64 (x1 : Int)) := by rw [← HX1.out]; exact Q7.out.cell 1 _ (rcs1 r)
  have c2 : W7.cell? ⟨w.heap.size, 2, none⟩ = some (.int .i64 (x2 : Int)) := by rw [← HX2.out]; exact Q7.out.cell 2 _ (rcs2 r)
  have c4 : W7.cell? ⟨w.heap.size, 4, none⟩ = some (.int .i64 (x3 : Int)) := by rw [← HX3.out]; exact Q7.out.cell 4 _ (rcs4 r)
  have c3 : W7.cell? ⟨w.heap.size, 3, none⟩ = some (.int .i64 (x4 : Int)) := by rw [← HX4.out]; exact Q7.out.cell 3 _ (rcs3 r)
  have c14 : W7.cell? ⟨w.heap.size, 14, none⟩ = some (.int .i64 (x5 : Int)) := by rw [← HX5.out]; exact Q7.out.cell 14 _ (rcs14 r)
  have c6 := Q7.out.cell 6 _ (rcs6 r)
  have c7 := Q7.out.cell 7 _ (rcs7 r)
  have c8 := Q7.out.cell 8 _ (rcs8 r)
  have c9 := Q7.out.cell 9 _ (rcs9 r)
  have c10 := Q7.out.cell 10 _ (rcs10 r)
  have c11 := Q7.out.cell 11 _ (rcs11 r)
  have c12 := Q7.out.cell 12 _ (rcs12 r)
  have c13 := Q7.out.cell 13 _ (rcs13 r)
  have c15 := Q7.out.cell 15 _ (rcs15 r)
  have HB : Hid (Calls Tryz.prog 29 #[.int .i64 4] W7 fun e w' => e = .returned (.bool true) ∧ W7 = w') := refHasBal_any 4 W7 (by decide) (by decide)
  have HCm : Hid (Calls Tryz.prog 30 #[.int .i64 4] W7 fun e w' => e = .returned (.bool true) ∧ W7 = w') := refHasCmd_any 4 W7 (by decide) (by decide)
  go_wp2_with (first | (go_at_call 29; refine HB.out.mono ?_; rintro e w' ⟨rfl, rfl⟩) | (go_at_call 30; refine HCm.out.mono ?_; rintro e w' ⟨rfl, rfl⟩))
  refine (rpack_any 2 r.da r.dn r.dc r.deps _ (HR.out.seg.below B7.out (Nat.le_refl _))).mono ?_
  rintro e W8 ⟨u8, rfl, o8, b8⟩
  rw [PE.out]
  obtain ⟨D, hD⟩ : ∃ D, Hid (packR 2 r.deps = D) := ⟨_, rfl⟩
  rw [hD.out] at o8
  have lD : D.length ≤ 131281 := by rw [← hD.out]; exact PL.out
  obtain ⟨a8, cp8, rfl, k8a, k8b, s8⟩ := seg_own o8
  obtain ⟨m8, hm8⟩ : ∃ m8, Hid (D.length = m8) := ⟨_, rfl⟩
  have SD := hide s8
  rw [hm8.out] at SD lD ⊢
  have S8 := hide (S7.out.below b8 (Nat.le_refl _))
  have Q8 := hide (Q7.out.on b8)
  have B8 := hide (B7.out.trans (b8.mono B7.out.size))
  clear o8 b8 s8 k8a k8b
  clear c0 c1 c2 c4 c3 c14 c6 c7 c8 c9 c10 c11 c12 c13 c15 Q7 S7 HB HCm
  have c0 : W8.cell? ⟨w.heap.size, 0, none⟩ = some (.int .i64 4) := by rw [← HKK.out]; exact Q8.out.cell 0 _ (rcs0 r)
  have c1 : W8.cell? ⟨w.heap.size, 1, none⟩ = some (.int .i64 (x1 : Int)) := by rw [← HX1.out]; exact Q8.out.cell 1 _ (rcs1 r)
  have c2 : W8.cell? ⟨w.heap.size, 2, none⟩ = some (.int .i64 (x2 : Int)) := by rw [← HX2.out]; exact Q8.out.cell 2 _ (rcs2 r)
  have c4 : W8.cell? ⟨w.heap.size, 4, none⟩ = some (.int .i64 (x3 : Int)) := by rw [← HX3.out]; exact Q8.out.cell 4 _ (rcs4 r)
  have c3 : W8.cell? ⟨w.heap.size, 3, none⟩ = some (.int .i64 (x4 : Int)) := by rw [← HX4.out]; exact Q8.out.cell 3 _ (rcs3 r)
  have c14 : W8.cell? ⟨w.heap.size, 14, none⟩ = some (.int .i64 (x5 : Int)) := by rw [← HX5.out]; exact Q8.out.cell 14 _ (rcs14 r)
  have c6 := Q8.out.cell 6 _ (rcs6 r)
  have c7 := Q8.out.cell 7 _ (rcs7 r)
  have c8 := Q8.out.cell 8 _ (rcs8 r)
  have c9 := Q8.out.cell 9 _ (rcs9 r)
  have c10 := Q8.out.cell 10 _ (rcs10 r)
  have c11 := Q8.out.cell 11 _ (rcs11 r)
  have c12 := Q8.out.cell 12 _ (rcs12 r)
  have c13 := Q8.out.cell 13 _ (rcs13 r)
  have c15 := Q8.out.cell 15 _ (rcs15 r)
  have HB : Hid (Calls Tryz.prog 29 #[.int .i64 4] W8 fun e w' => e = .returned (.bool true) ∧ W8 = w') := refHasBal_any 4 W8 (by decide) (by decide)
  have HCm : Hid (Calls Tryz.prog 30 #[.int .i64 4] W8 fun e w' => e = .returned (.bool true) ∧ W8 = w') := refHasCmd_any 4 W8 (by decide) (by decide)
  go_wp2_with (first | (go_at_call 29; refine HB.out.mono ?_; rintro e w' ⟨rfl, rfl⟩) | (go_at_call 30; refine HCm.out.mono ?_; rintro e w' ⟨rfl, rfl⟩))
  refine (add6_any _ _ _ _ _ _ L7 D _ S8.out SD.out (by omega)).mono ?_
  rintro e W9 ⟨v9, rfl, o9, b9⟩
  have Q9 := hide (Q8.out.on b9)
  have B9 := hide (B8.out.trans (b9.mono B8.out.size))
  obtain ⟨L9, hL9⟩ : ∃ L9, Hid (L7 ++ D = L9) := ⟨L7 ++ D, hide rfl⟩
  rw [hL9.out] at o9
  have lb9 : L9.length ≤ 262593 := by rw [← hL9.out, List.length_append]; have e8 := hn7.out; have e7 := hm8.out; omega
  obtain ⟨a9, cp9, rfl, k9a, k9b, s9⟩ := seg_own o9
  have S9 := hide s9
  have O9 := hide (own_more o9 B8.out.size)
  obtain ⟨n9, hn9⟩ : ∃ n9, Hid (L9.length = n9) := ⟨_, rfl⟩
  rw [hn9.out] at S9 lb9 O9 ⊢
  clear o9 b9 s9 k9a k9b
  clear c0 c1 c2 c4 c3 c14 c6 c7 c8 c9 c10 c11 c12 c13 c15 Q8 S8 HB HCm
  have c0 : W9.cell? ⟨w.heap.size, 0, none⟩ = some (.int .i64 4) := by rw [← HKK.out]; exact Q9.out.cell 0 _ (rcs0 r)
  have c1 : W9.cell? ⟨w.heap.size, 1, none⟩ = some (.int .i64 (x1 : Int)) := by rw [← HX1.out]; exact Q9.out.cell 1 _ (rcs1 r)
  have c2 : W9.cell? ⟨w.heap.size, 2, none⟩ = some (.int .i64 (x2 : Int)) := by rw [← HX2.out]; exact Q9.out.cell 2 _ (rcs2 r)
  have c4 : W9.cell? ⟨w.heap.size, 4, none⟩ = some (.int .i64 (x3 : Int)) := by rw [← HX3.out]; exact Q9.out.cell 4 _ (rcs4 r)
  have c3 : W9.cell? ⟨w.heap.size, 3, none⟩ = some (.int .i64 (x4 : Int)) := by rw [← HX4.out]; exact Q9.out.cell 3 _ (rcs3 r)
  have c14 : W9.cell? ⟨w.heap.size, 14, none⟩ = some (.int .i64 (x5 : Int)) := by rw [← HX5.out]; exact Q9.out.cell 14 _ (rcs14 r)
  have c6 := Q9.out.cell 6 _ (rcs6 r)
  have c7 := Q9.out.cell 7 _ (rcs7 r)
  have c8 := Q9.out.cell 8 _ (rcs8 r)
  have c9 := Q9.out.cell 9 _ (rcs9 r)
  have c10 := Q9.out.cell 10 _ (rcs10 r)
  have c11 := Q9.out.cell 11 _ (rcs11 r)
  have c12 := Q9.out.cell 12 _ (rcs12 r)
  have c13 := Q9.out.cell 13 _ (rcs13 r)
  have c15 := Q9.out.cell 15 _ (rcs15 r)
  have HB : Hid (Calls Tryz.prog 29 #[.int .i64 4] W9 fun e w' => e = .returned (.bool true) ∧ W9 = w') := refHasBal_any 4 W9 (by decide) (by decide)
  have HCm : Hid (Calls Tryz.prog 30 #[.int .i64 4] W9 fun e w' => e = .returned (.bool true) ∧ W9 = w') := refHasCmd_any 4 W9 (by decide) (by decide)
  clear SD
  go_wp2_with (first | (go_at_call 29; refine HB.out.mono ?_; rintro e w' ⟨rfl, rfl⟩) | (go_at_call 30; refine HCm.out.mono ?_; rintro e w' ⟨rfl, rfl⟩))
  go_ret2
  have FIN : Hid (recB r = L9) := by
    show r.kind :: (rowR r.kind).flatMap (wrF r) = _
    rw [HKK.out, show rowR 4 = [105, 98, 99, 113, 100] from rfl]
    simp only [List.flatMap_cons, List.flatMap_nil, E1.out, E2.out, E4.out, E5.out, E6.out]
    rw [← hL9.out, ← hL7.out, ← hL6.out, ← hL4.out, ← hL3.out, ← hC.out, ← hD.out]
    simp
  rw [FIN.out, hn9.out]
  exact ⟨_, rfl, O9.out, B9.out⟩

set_option maxHeartbeats 4000000 in
set_option maxRecDepth 100000 in
theorem r6_5n (n : Int) (r : Rc) (w : World) (hr : Rok w r) (hn1 : -9223372036854775808 ≤ r.c.n) (hn2 : r.c.n ≤ 9223372036854775807) (hz : chkR n r = 0) (hk : r.kind = 5) (hq : r.c.kind = 0) :
    Calls Tryz.prog 14 #[.int .i64 n, .agg (rcs r).toArray] w fun e w' => ∃ u, e = .returned (.tuple #[u, .int .i64 0]) ∧ w'.ownsRow w.heap.size 5 1 u (recB r).length ((recB r).map (Value.int .u8)) ∧ Below w.heap.size w w' := by
  obtain ⟨V, hV, Q⟩ := zX w 31 (rcs r)
  have BV : Hid (Below w.heap.size w V) := by rw [hV]; exact (Below.refl _ _).alloc (Nat.le_refl _) _
  have HR := hide hr
  have HFit := hide (fit_of_chk hz)
  have HZ := hide hz
  have HKK := hide hk
  have HQ0 := hide hq
  have HXR : Hid (rowR r.kind = [105, 99, 113, 100]) := by show _ = _; rw [hk]; rfl
  have FT : Hid (∀ x ∈ ([105, 99, 113, 100] : List Nat), fitF r x) := by intro x hx; exact HFit.out x (by rw [HXR.out]; exact hx)
  obtain ⟨i1, i2, i3, i4⟩ : 0 ≤ r.row ∧ r.row ≤ 7 ∧ 0 ≤ r.num ∧ r.num ≤ 1048576 := FT.out 105 (by simp)
  obtain ⟨x1, hx1⟩ := Int.eq_ofNat_of_zero_le i1
  obtain ⟨x2, hx2⟩ := Int.eq_ofNat_of_zero_le i3
  have E1 : Hid (wrF r 105 = enc (8 * x2 + x1)) := by show enc (8 * r.num + r.row).toNat = _; rw [hx1, hx2]; exact congrArg enc (by omega)
  have HC : Hid (chk 2 r.c = 0) := FT.out 99 (by simp)
  have E4 : Hid (wrF r 99 = encC r.c) := rfl
  have NO : Hid (noopR r = true) := by show _ = _; simp [noopR, hq]
  have E5 : Hid (wrF r 113 = []) := by show (if noopR r then [] else enc r.seq.toNat) = _; rw [NO.out]; rfl
  have E6 : Hid (wrF r 100 = []) := by show (if noopR r then [] else packL 2 r.deps) = _; rw [NO.out]; rfl
  have CL : Hid ((encC r.c).length ≤ 131281) := encC_le HC.out
  have y1 : x1 ≤ 7 := by omega
  have y1a : (0 : Int) ≤ (x1 : Int) := by omega
  have y1b : (x1 : Int) ≤ 7 := by omega
  have y2 : x2 ≤ 1048576 := by omega
  have y2a : (0 : Int) ≤ (x2 : Int) := by omega
  have y2b : (x2 : Int) ≤ 1048576 := by omega
  clear i1 i2 i3 i4
  have HX1 := hide hx1
  have HX2 := hide hx2
  clear hr hz hk HFit HXR FT hq hx1 hx2
  go_enter Tryz.func14, Tryz.ntmps14
  go_upto_region 1 with fail
  rw [← hV]
  clear hV
  go_wp2_with (first | (refine wpList_load_mid rfl 31 _ rfl w.heap.size 0 rfl (rcs r) _ Q.out.range Tryz.underlying31 rfl (by kernel_rfl) ?_))
  refine (refCheck_any n r _ (HR.out.below BV.out (Nat.le_refl _))).mono ?_
  rintro e w1 ⟨rfl, hb1⟩
  rw [HZ.out]
  have B1 : Hid (Below w.heap.size w w1) := BV.out.trans (hb1.mono BV.out.size)
  have Q1 : Hid (Blk w1 w.heap.size (rcs r)) := Q.out.on hb1
  clear hb1 Q BV
  obtain ⟨W, hW⟩ : ∃ W, W = w1.alloc (.cells #[.int .u8 5] 5) := ⟨_, rfl⟩
  have BW : Hid (Below w1.heap.size w1 W) := by rw [hW]; exact (Below.refl _ _).alloc (Nat.le_refl _) _
  have SW : Hid (Seg W (some ⟨w1.heap.size, 0, none⟩) 1 [5]) := by rw [hW]; exact seg_one6 w1 5
  have Q2 : Hid (Blk W w.heap.size (rcs r)) := Q1.out.on BW.out
  have B2 : Hid (Below w.heap.size w W) := B1.out.trans (BW.out.mono B1.out.size)
  have d0 : w1.cell? ⟨w.heap.size, 0, none⟩ = some (.int .i64 5) := by rw [← HKK.out]; exact Q1.out.cell 0 _ (rcs0 r)
  have z1 : w.heap.size < w1.heap.size := Q1.out.lt
  clear B1 Q1 BW
  have HW := hide hW
  clear hW
  go_upto_region 5 with fail
  rw [show w1.alloc (.cells #[.int .u8 5] 5) = W from HW.out.symm]
  clear d0 HW
  obtain ⟨q0, hq0⟩ : ∃ q0, Hid (w1.heap.size = q0) := ⟨_, rfl⟩
  rw [hq0.out] at SW z1 ⊢
  clear hq0
  have c0 : W.cell? ⟨w.heap.size, 0, none⟩ = some (.int .i64 5) := by rw [← HKK.out]; exact Q2.out.cell 0 _ (rcs0 r)
  have c1 : W.cell? ⟨w.heap.size, 1, none⟩ = some (.int .i64 (x1 : Int)) := by rw [← HX1.out]; exact Q2.out.cell 1 _ (rcs1 r)
  have c2 : W.cell? ⟨w.heap.size, 2, none⟩ = some (.int .i64 (x2 : Int)) := by rw [← HX2.out]; exact Q2.out.cell 2 _ (rcs2 r)
  have c6 : W.cell? ⟨w.heap.size, 6, none⟩ = some (.int .i64 0) := by rw [← HQ0.out]; exact Q2.out.cell 6 _ (rcs6 r)
  have c7 := Q2.out.cell 7 _ (rcs7 r)
  have c8 := Q2.out.cell 8 _ (rcs8 r)
  have c9 := Q2.out.cell 9 _ (rcs9 r)
  have c10 := Q2.out.cell 10 _ (rcs10 r)
  have c11 := Q2.out.cell 11 _ (rcs11 r)
  have c12 := Q2.out.cell 12 _ (rcs12 r)
  have c13 := Q2.out.cell 13 _ (rcs13 r)
  have HB : Hid (Calls Tryz.prog 29 #[.int .i64 5] W fun e w' => e = .returned (.bool false) ∧ W = w') := refHasBal_any 5 W (by decide) (by decide)
  have HCm : Hid (Calls Tryz.prog 30 #[.int .i64 5] W fun e w' => e = .returned (.bool true) ∧ W = w') := refHasCmd_any 5 W (by decide) (by decide)
  go_wp2_with (first | (go_at_call 29; refine HB.out.mono ?_; rintro e w' ⟨rfl, rfl⟩) | (go_at_call 30; refine HCm.out.mono ?_; rintro e w' ⟨rfl, rfl⟩))
  refine (number6_any _ _ _ [5] (8 * x2 + x1) _ SW.out (by omega) (by omega)).mono ?_
  rintro e W3 ⟨v3, rfl, o3, b3⟩
  have Q3 := hide (Q2.out.on b3)
  have B3 := hide (B2.out.trans (b3.mono B2.out.size))
  obtain ⟨L3, hL3⟩ : ∃ L3, Hid ([5] ++ enc (8 * x2 + x1) = L3) := ⟨[5] ++ enc (8 * x2 + x1), hide rfl⟩
  rw [hL3.out] at o3
  have lb3 : L3.length ≤ 11 := by rw [← hL3.out, List.length_append]; have e9 : (enc (8 * x2 + x1)).length ≤ 10 := (enc_le _ (by omega)).2; simp only [List.length_cons, List.length_nil]; omega
  obtain ⟨a3, cp3, rfl, k3a, k3b, s3⟩ := seg_own o3
  have S3 := hide s3
  have O3 := hide (own_more o3 B2.out.size)
  obtain ⟨n3, hn3⟩ : ∃ n3, Hid (L3.length = n3) := ⟨_, rfl⟩
  rw [hn3.out] at S3 lb3 O3 ⊢
  clear o3 b3 s3 k3a k3b
  clear c0 c1 c2 c6 c7 c8 c9 c10 c11 c12 c13 Q2 SW HB HCm
  have c0 : W3.cell? ⟨w.heap.size, 0, none⟩ = some (.int .i64 5) := by rw [← HKK.out]; exact Q3.out.cell 0 _ (rcs0 r)
  have c1 : W3.cell? ⟨w.heap.size, 1, none⟩ = some (.int .i64 (x1 : Int)) := by rw [← HX1.out]; exact Q3.out.cell 1 _ (rcs1 r)
  have c2 : W3.cell? ⟨w.heap.size, 2, none⟩ = some (.int .i64 (x2 : Int)) := by rw [← HX2.out]; exact Q3.out.cell 2 _ (rcs2 r)
  have c6 : W3.cell? ⟨w.heap.size, 6, none⟩ = some (.int .i64 0) := by rw [← HQ0.out]; exact Q3.out.cell 6 _ (rcs6 r)
  have c7 := Q3.out.cell 7 _ (rcs7 r)
  have c8 := Q3.out.cell 8 _ (rcs8 r)
  have c9 := Q3.out.cell 9 _ (rcs9 r)
  have c10 := Q3.out.cell 10 _ (rcs10 r)
  have c11 := Q3.out.cell 11 _ (rcs11 r)
  have c12 := Q3.out.cell 12 _ (rcs12 r)
  have c13 := Q3.out.cell 13 _ (rcs13 r)
  have HB : Hid (Calls Tryz.prog 29 #[.int .i64 5] W3 fun e w' => e = .returned (.bool false) ∧ W3 = w') := refHasBal_any 5 W3 (by decide) (by decide)
  have HCm : Hid (Calls Tryz.prog 30 #[.int .i64 5] W3 fun e w' => e = .returned (.bool true) ∧ W3 = w') := refHasCmd_any 5 W3 (by decide) (by decide)
  go_wp2_with (first | (go_at_call 29; refine HB.out.mono ?_; rintro e w' ⟨rfl, rfl⟩) | (go_at_call 30; refine HCm.out.mono ?_; rintro e w' ⟨rfl, rfl⟩))
  have HEn := hide (rencode_any 2 r.c W3 HR.out.k1 HR.out.k2 hn1 hn2 HC.out)
  rw [HQ0.out] at HEn
  refine HEn.out.mono ?_
  rintro e W4 ⟨u4, rfl, o4, b4⟩
  obtain ⟨C, hC⟩ : ∃ C, Hid (encC r.c = C) := ⟨_, rfl⟩
  rw [hC.out] at o4
  have lC : C.length ≤ 131281 := by rw [← hC.out]; exact CL.out
  obtain ⟨a4, cp4, rfl, k4a, k4b, s4⟩ := seg_own o4
  obtain ⟨m4, hm4⟩ : ∃ m4, Hid (C.length = m4) := ⟨_, rfl⟩
  have SC := hide s4
  rw [hm4.out] at SC lC ⊢
  have S4 := hide (S3.out.below b4 (Nat.le_refl _))
  have Q4 := hide (Q3.out.on b4)
  have B4 := hide (B3.out.trans (b4.mono B3.out.size))
  clear o4 b4 s4 k4a k4b
  clear c0 c1 c2 c6 c7 c8 c9 c10 c11 c12 c13 Q3 S3 HB HCm
  have c0 : W4.cell? ⟨w.heap.size, 0, none⟩ = some (.int .i64 5) := by rw [← HKK.out]; exact Q4.out.cell 0 _ (rcs0 r)
  have c1 : W4.cell? ⟨w.heap.size, 1, none⟩ = some (.int .i64 (x1 : Int)) := by rw [← HX1.out]; exact Q4.out.cell 1 _ (rcs1 r)
  have c2 : W4.cell? ⟨w.heap.size, 2, none⟩ = some (.int .i64 (x2 : Int)) := by rw [← HX2.out]; exact Q4.out.cell 2 _ (rcs2 r)
  have c6 : W4.cell? ⟨w.heap.size, 6, none⟩ = some (.int .i64 0) := by rw [← HQ0.out]; exact Q4.out.cell 6 _ (rcs6 r)
  have c7 := Q4.out.cell 7 _ (rcs7 r)
  have c8 := Q4.out.cell 8 _ (rcs8 r)
  have c9 := Q4.out.cell 9 _ (rcs9 r)
  have c10 := Q4.out.cell 10 _ (rcs10 r)
  have c11 := Q4.out.cell 11 _ (rcs11 r)
  have c12 := Q4.out.cell 12 _ (rcs12 r)
  have c13 := Q4.out.cell 13 _ (rcs13 r)
  have HB : Hid (Calls Tryz.prog 29 #[.int .i64 5] W4 fun e w' => e = .returned (.bool false) ∧ W4 = w') := refHasBal_any 5 W4 (by decide) (by decide)
  have HCm : Hid (Calls Tryz.prog 30 #[.int .i64 5] W4 fun e w' => e = .returned (.bool true) ∧ W4 = w') := refHasCmd_any 5 W4 (by decide) (by decide)
  go_wp2_with (first | (go_at_call 29; refine HB.out.mono ?_; rintro e w' ⟨rfl, rfl⟩) | (go_at_call 30; refine HCm.out.mono ?_; rintro e w' ⟨rfl, rfl⟩))
  refine (add6_any _ _ _ _ _ _ L3 C _ S4.out SC.out (by omega)).mono ?_
  rintro e W5 ⟨v5, rfl, o5, b5⟩
  have Q5 := hide (Q4.out.on b5)
  have B5 := hide (B4.out.trans (b5.mono B4.out.size))
  obtain ⟨L5, hL5⟩ : ∃ L5, Hid (L3 ++ C = L5) := ⟨L3 ++ C, hide rfl⟩
  rw [hL5.out] at o5
  have lb5 : L5.length ≤ 131292 := by rw [← hL5.out, List.length_append]; have e8 := hn3.out; have e7 := hm4.out; omega
  obtain ⟨a5, cp5, rfl, k5a, k5b, s5⟩ := seg_own o5
  have S5 := hide s5
  have O5 := hide (own_more o5 B4.out.size)
  obtain ⟨n5, hn5⟩ : ∃ n5, Hid (L5.length = n5) := ⟨_, rfl⟩
  rw [hn5.out] at S5 lb5 O5 ⊢
  clear o5 b5 s5 k5a k5b
  clear c0 c1 c2 c6 c7 c8 c9 c10 c11 c12 c13 Q4 S4 HB HCm
  have c0 : W5.cell? ⟨w.heap.size, 0, none⟩ = some (.int .i64 5) := by rw [← HKK.out]; exact Q5.out.cell 0 _ (rcs0 r)
  have c1 : W5.cell? ⟨w.heap.size, 1, none⟩ = some (.int .i64 (x1 : Int)) := by rw [← HX1.out]; exact Q5.out.cell 1 _ (rcs1 r)
  have c2 : W5.cell? ⟨w.heap.size, 2, none⟩ = some (.int .i64 (x2 : Int)) := by rw [← HX2.out]; exact Q5.out.cell 2 _ (rcs2 r)
  have c6 : W5.cell? ⟨w.heap.size, 6, none⟩ = some (.int .i64 0) := by rw [← HQ0.out]; exact Q5.out.cell 6 _ (rcs6 r)
  have c7 := Q5.out.cell 7 _ (rcs7 r)
  have c8 := Q5.out.cell 8 _ (rcs8 r)
  have c9 := Q5.out.cell 9 _ (rcs9 r)
  have c10 := Q5.out.cell 10 _ (rcs10 r)
  have c11 := Q5.out.cell 11 _ (rcs11 r)
  have c12 := Q5.out.cell 12 _ (rcs12 r)
  have c13 := Q5.out.cell 13 _ (rcs13 r)
  have HB : Hid (Calls Tryz.prog 29 #[.int .i64 5] W5 fun e w' => e = .returned (.bool false) ∧ W5 = w') := refHasBal_any 5 W5 (by decide) (by decide)
  have HCm : Hid (Calls Tryz.prog 30 #[.int .i64 5] W5 fun e w' => e = .returned (.bool true) ∧ W5 = w') := refHasCmd_any 5 W5 (by decide) (by decide)
  clear SC
  go_wp2_with (first | (go_at_call 29; refine HB.out.mono ?_; rintro e w' ⟨rfl, rfl⟩) | (go_at_call 30; refine HCm.out.mono ?_; rintro e w' ⟨rfl, rfl⟩))
  go_ret2
  have FIN : Hid (recB r = L5) := by
    show r.kind :: (rowR r.kind).flatMap (wrF r) = _
    rw [HKK.out, show rowR 5 = [105, 99, 113, 100] from rfl]
    simp only [List.flatMap_cons, List.flatMap_nil, E1.out, E4.out, E5.out, E6.out]
    rw [← hL5.out, ← hL3.out, ← hC.out]
    simp
  rw [FIN.out, hn5.out]
  exact ⟨_, rfl, O5.out, B5.out⟩

set_option maxHeartbeats 4000000 in
set_option maxRecDepth 100000 in
theorem r6_5y (n : Int) (r : Rc) (w : World) (hr : Rok w r) (hn1 : -9223372036854775808 ≤ r.c.n) (hn2 : r.c.n ≤ 9223372036854775807) (hz : chkR n r = 0) (hk : r.kind = 5) (hq : r.c.kind ≠ 0) :
    Calls Tryz.prog 14 #[.int .i64 n, .agg (rcs r).toArray] w fun e w' => ∃ u, e = .returned (.tuple #[u, .int .i64 0]) ∧ w'.ownsRow w.heap.size 5 1 u (recB r).length ((recB r).map (Value.int .u8)) ∧ Below w.heap.size w w' := by
  obtain ⟨V, hV, Q⟩ := zX w 31 (rcs r)
  have BV : Hid (Below w.heap.size w V) := by rw [hV]; exact (Below.refl _ _).alloc (Nat.le_refl _) _
  have HR := hide hr
  have HFit := hide (fit_of_chk hz)
  have HZ := hide hz
  have HKK := hide hk
  have HXR : Hid (rowR r.kind = [105, 99, 113, 100]) := by show _ = _; rw [hk]; rfl
  have FT : Hid (∀ x ∈ ([105, 99, 113, 100] : List Nat), fitF r x) := by intro x hx; exact HFit.out x (by rw [HXR.out]; exact hx)
  obtain ⟨i1, i2, i3, i4⟩ : 0 ≤ r.row ∧ r.row ≤ 7 ∧ 0 ≤ r.num ∧ r.num ≤ 1048576 := FT.out 105 (by simp)
  obtain ⟨x1, hx1⟩ := Int.eq_ofNat_of_zero_le i1
  obtain ⟨x2, hx2⟩ := Int.eq_ofNat_of_zero_le i3
  have E1 : Hid (wrF r 105 = enc (8 * x2 + x1)) := by show enc (8 * r.num + r.row).toNat = _; rw [hx1, hx2]; exact congrArg enc (by omega)
  have HC : Hid (chk 2 r.c = 0) := FT.out 99 (by simp)
  have E4 : Hid (wrF r 99 = encC r.c) := rfl
  have NO : Hid (noopR r = false) := by show _ = _; simp [noopR, hq]
  obtain ⟨i9, iA⟩ : 0 ≤ r.seq ∧ r.seq ≤ 1073741824 := FT.out 113 (by simp)
  obtain ⟨x5, hx5⟩ := Int.eq_ofNat_of_zero_le i9
  have E5 : Hid (wrF r 113 = enc x5) := by show (if noopR r then [] else enc r.seq.toNat) = _; rw [NO.out, hx5]; rfl
  have HVc : Hid (isVec r.deps = true) := FT.out 100 (by simp)
  have PE : Hid (packE 2 r.deps = 0) := pack6_zero HVc.out
  have PR : Hid (packR 2 r.deps = packL 2 r.deps) := by show (if packE 2 r.deps = 0 then packL 2 r.deps else []) = _; rw [PE.out]; rfl
  have E6 : Hid (wrF r 100 = packR 2 r.deps) := by show (if noopR r then [] else packL 2 r.deps) = _; rw [NO.out, PR.out]; rfl
  have PL : Hid ((packR 2 r.deps).length ≤ 131281) := by rw [← E6.out]; exact wrF_le (by simp [Ltr]) (FT.out 100 (by simp))
  have CL : Hid ((encC r.c).length ≤ 131281) := encC_le HC.out
  have y1 : x1 ≤ 7 := by omega
  have y1a : (0 : Int) ≤ (x1 : Int) := by omega
  have y1b : (x1 : Int) ≤ 7 := by omega
  have y2 : x2 ≤ 1048576 := by omega
  have y2a : (0 : Int) ≤ (x2 : Int) := by omega
  have y2b : (x2 : Int) ≤ 1048576 := by omega
  have y5 : x5 ≤ 1073741824 := by omega
  have y5a : (0 : Int) ≤ (x5 : Int) := by omega
  have y5b : (x5 : Int) ≤ 1073741824 := by omega
  clear i1 i2 i3 i4 i9 iA
  have HX1 := hide hx1
  have HX2 := hide hx2
  have HX5 := hide hx5
  clear hr hz hk HFit HXR FT hx1 hx2 hx5
  have q9 : (r.c.kind != 0) = true := by rw [bne_iff_ne]; exact hq
  go_enter Tryz.func14, Tryz.ntmps14
  go_upto_region 1 with fail
  rw [← hV]
  clear hV
  go_wp2_with (first | (refine wpList_load_mid rfl 31 _ rfl w.heap.size 0 rfl (rcs r) _ Q.out.range Tryz.underlying31 rfl (by kernel_rfl) ?_))
  refine (refCheck_any n r _ (HR.out.below BV.out (Nat.le_refl _))).mono ?_
  rintro e w1 ⟨rfl, hb1⟩
  rw [HZ.out]
  have B1 : Hid (Below w.heap.size w w1) := BV.out.trans (hb1.mono BV.out.size)
  have Q1 : Hid (Blk w1 w.heap.size (rcs r)) := Q.out.on hb1
  clear hb1 Q BV
  obtain ⟨W, hW⟩ : ∃ W, W = w1.alloc (.cells #[.int .u8 5] 5) := ⟨_, rfl⟩
  have BW : Hid (Below w1.heap.size w1 W) := by rw [hW]; exact (Below.refl _ _).alloc (Nat.le_refl _) _
  have SW : Hid (Seg W (some ⟨w1.heap.size, 0, none⟩) 1 [5]) := by rw [hW]; exact seg_one6 w1 5
  have Q2 : Hid (Blk W w.heap.size (rcs r)) := Q1.out.on BW.out
  have B2 : Hid (Below w.heap.size w W) := B1.out.trans (BW.out.mono B1.out.size)
  have d0 : w1.cell? ⟨w.heap.size, 0, none⟩ = some (.int .i64 5) := by rw [← HKK.out]; exact Q1.out.cell 0 _ (rcs0 r)
  have z1 : w.heap.size < w1.heap.size := Q1.out.lt
  clear B1 Q1 BW
  have HW := hide hW
  clear hW
  go_upto_region 5 with fail
  rw [show w1.alloc (.cells #[.int .u8 5] 5) = W from HW.out.symm]
  clear d0 HW
  obtain ⟨q0, hq0⟩ : ∃ q0, Hid (w1.heap.size = q0) := ⟨_, rfl⟩
  rw [hq0.out] at SW z1 ⊢
  clear hq0
  have c0 : W.cell? ⟨w.heap.size, 0, none⟩ = some (.int .i64 5) := by rw [← HKK.out]; exact Q2.out.cell 0 _ (rcs0 r)
  have c1 : W.cell? ⟨w.heap.size, 1, none⟩ = some (.int .i64 (x1 : Int)) := by rw [← HX1.out]; exact Q2.out.cell 1 _ (rcs1 r)
  have c2 : W.cell? ⟨w.heap.size, 2, none⟩ = some (.int .i64 (x2 : Int)) := by rw [← HX2.out]; exact Q2.out.cell 2 _ (rcs2 r)
  have c14 : W.cell? ⟨w.heap.size, 14, none⟩ = some (.int .i64 (x5 : Int)) := by rw [← HX5.out]; exact Q2.out.cell 14 _ (rcs14 r)
  have c6 := Q2.out.cell 6 _ (rcs6 r)
  have c7 := Q2.out.cell 7 _ (rcs7 r)
  have c8 := Q2.out.cell 8 _ (rcs8 r)
  have c9 := Q2.out.cell 9 _ (rcs9 r)
  have c10 := Q2.out.cell 10 _ (rcs10 r)
  have c11 := Q2.out.cell 11 _ (rcs11 r)
  have c12 := Q2.out.cell 12 _ (rcs12 r)
  have c13 := Q2.out.cell 13 _ (rcs13 r)
  have c15 := Q2.out.cell 15 _ (rcs15 r)
  have HB : Hid (Calls Tryz.prog 29 #[.int .i64 5] W fun e w' => e = .returned (.bool false) ∧ W = w') := refHasBal_any 5 W (by decide) (by decide)
  have HCm : Hid (Calls Tryz.prog 30 #[.int .i64 5] W fun e w' => e = .returned (.bool true) ∧ W = w') := refHasCmd_any 5 W (by decide) (by decide)
  go_wp2_with (first | (go_at_call 29; refine HB.out.mono ?_; rintro e w' ⟨rfl, rfl⟩) | (go_at_call 30; refine HCm.out.mono ?_; rintro e w' ⟨rfl, rfl⟩))
  refine (number6_any _ _ _ [5] (8 * x2 + x1) _ SW.out (by omega) (by omega)).mono ?_
  rintro e W3 ⟨v3, rfl, o3, b3⟩
  have Q3 := hide (Q2.out.on b3)
  have B3 := hide (B2.out.trans (b3.mono B2.out.size))
  obtain ⟨L3, hL3⟩ : ∃ L3, Hid ([5] ++ enc (8 * x2 + x1) = L3) := ⟨[5] ++ enc (8 * x2 + x1), hide rfl⟩
  rw [hL3.out] at o3
  have lb3 : L3.length ≤ 11 := by rw [← hL3.out, List.length_append]; have e9 : (enc (8 * x2 + x1)).length ≤ 10 := (enc_le _ (by omega)).2; simp only [List.length_cons, List.length_nil]; omega
  obtain ⟨a3, cp3, rfl, k3a, k3b, s3⟩ := seg_own o3
  have S3 := hide s3
  have O3 := hide (own_more o3 B2.out.size)
  obtain ⟨n3, hn3⟩ : ∃ n3, Hid (L3.length = n3) := ⟨_, rfl⟩
  rw [hn3.out] at S3 lb3 O3 ⊢
  clear o3 b3 s3 k3a k3b
  clear c0 c1 c2 c14 c6 c7 c8 c9 c10 c11 c12 c13 c15 Q2 SW HB HCm
  have c0 : W3.cell? ⟨w.heap.size, 0, none⟩ = some (.int .i64 5) := by rw [← HKK.out]; exact Q3.out.cell 0 _ (rcs0 r)
  have c1 : W3.cell? ⟨w.heap.size, 1, none⟩ = some (.int .i64 (x1 : Int)) := by rw [← HX1.out]; exact Q3.out.cell 1 _ (rcs1 r)
  have c2 : W3.cell? ⟨w.heap.size, 2, none⟩ = some (.int .i64 (x2 : Int)) := by rw [← HX2.out]; exact Q3.out.cell 2 _ (rcs2 r)
  have c14 : W3.cell? ⟨w.heap.size, 14, none⟩ = some (.int .i64 (x5 : Int)) := by rw [← HX5.out]; exact Q3.out.cell 14 _ (rcs14 r)
  have c6 := Q3.out.cell 6 _ (rcs6 r)
  have c7 := Q3.out.cell 7 _ (rcs7 r)
  have c8 := Q3.out.cell 8 _ (rcs8 r)
  have c9 := Q3.out.cell 9 _ (rcs9 r)
  have c10 := Q3.out.cell 10 _ (rcs10 r)
  have c11 := Q3.out.cell 11 _ (rcs11 r)
  have c12 := Q3.out.cell 12 _ (rcs12 r)
  have c13 := Q3.out.cell 13 _ (rcs13 r)
  have c15 := Q3.out.cell 15 _ (rcs15 r)
  have HB : Hid (Calls Tryz.prog 29 #[.int .i64 5] W3 fun e w' => e = .returned (.bool false) ∧ W3 = w') := refHasBal_any 5 W3 (by decide) (by decide)
  have HCm : Hid (Calls Tryz.prog 30 #[.int .i64 5] W3 fun e w' => e = .returned (.bool true) ∧ W3 = w') := refHasCmd_any 5 W3 (by decide) (by decide)
  go_wp2_with (first | (go_at_call 29; refine HB.out.mono ?_; rintro e w' ⟨rfl, rfl⟩) | (go_at_call 30; refine HCm.out.mono ?_; rintro e w' ⟨rfl, rfl⟩))
  refine (rencode_any 2 r.c _ HR.out.k1 HR.out.k2 hn1 hn2 HC.out).mono ?_
  rintro e W4 ⟨u4, rfl, o4, b4⟩
  obtain ⟨C, hC⟩ : ∃ C, Hid (encC r.c = C) := ⟨_, rfl⟩
  rw [hC.out] at o4
  have lC : C.length ≤ 131281 := by rw [← hC.out]; exact CL.out
  obtain ⟨a4, cp4, rfl, k4a, k4b, s4⟩ := seg_own o4
  obtain ⟨m4, hm4⟩ : ∃ m4, Hid (C.length = m4) := ⟨_, rfl⟩
  have SC := hide s4
  rw [hm4.out] at SC lC ⊢
  have S4 := hide (S3.out.below b4 (Nat.le_refl _))
  have Q4 := hide (Q3.out.on b4)
  have B4 := hide (B3.out.trans (b4.mono B3.out.size))
  clear o4 b4 s4 k4a k4b
  clear c0 c1 c2 c14 c6 c7 c8 c9 c10 c11 c12 c13 c15 Q3 S3 HB HCm
  have c0 : W4.cell? ⟨w.heap.size, 0, none⟩ = some (.int .i64 5) := by rw [← HKK.out]; exact Q4.out.cell 0 _ (rcs0 r)
  have c1 : W4.cell? ⟨w.heap.size, 1, none⟩ = some (.int .i64 (x1 : Int)) := by rw [← HX1.out]; exact Q4.out.cell 1 _ (rcs1 r)
  have c2 : W4.cell? ⟨w.heap.size, 2, none⟩ = some (.int .i64 (x2 : Int)) := by rw [← HX2.out]; exact Q4.out.cell 2 _ (rcs2 r)
  have c14 : W4.cell? ⟨w.heap.size, 14, none⟩ = some (.int .i64 (x5 : Int)) := by rw [← HX5.out]; exact Q4.out.cell 14 _ (rcs14 r)
  have c6 := Q4.out.cell 6 _ (rcs6 r)
  have c7 := Q4.out.cell 7 _ (rcs7 r)
  have c8 := Q4.out.cell 8 _ (rcs8 r)
  have c9 := Q4.out.cell 9 _ (rcs9 r)
  have c10 := Q4.out.cell 10 _ (rcs10 r)
  have c11 := Q4.out.cell 11 _ (rcs11 r)
  have c12 := Q4.out.cell 12 _ (rcs12 r)
  have c13 := Q4.out.cell 13 _ (rcs13 r)
  have c15 := Q4.out.cell 15 _ (rcs15 r)
  have HB : Hid (Calls Tryz.prog 29 #[.int .i64 5] W4 fun e w' => e = .returned (.bool false) ∧ W4 = w') := refHasBal_any 5 W4 (by decide) (by decide)
  have HCm : Hid (Calls Tryz.prog 30 #[.int .i64 5] W4 fun e w' => e = .returned (.bool true) ∧ W4 = w') := refHasCmd_any 5 W4 (by decide) (by decide)
  go_wp2_with (first | (go_at_call 29; refine HB.out.mono ?_; rintro e w' ⟨rfl, rfl⟩) | (go_at_call 30; refine HCm.out.mono ?_; rintro e w' ⟨rfl, rfl⟩))
  refine (add6_any _ _ _ _ _ _ L3 C _ S4.out SC.out (by omega)).mono ?_
  rintro e W5 ⟨v5, rfl, o5, b5⟩
  have Q5 := hide (Q4.out.on b5)
  have B5 := hide (B4.out.trans (b5.mono B4.out.size))
  obtain ⟨L5, hL5⟩ : ∃ L5, Hid (L3 ++ C = L5) := ⟨L3 ++ C, hide rfl⟩
  rw [hL5.out] at o5
  have lb5 : L5.length ≤ 131292 := by rw [← hL5.out, List.length_append]; have e8 := hn3.out; have e7 := hm4.out; omega
  obtain ⟨a5, cp5, rfl, k5a, k5b, s5⟩ := seg_own o5
  have S5 := hide s5
  have O5 := hide (own_more o5 B4.out.size)
  obtain ⟨n5, hn5⟩ : ∃ n5, Hid (L5.length = n5) := ⟨_, rfl⟩
  rw [hn5.out] at S5 lb5 O5 ⊢
  clear o5 b5 s5 k5a k5b
  clear c0 c1 c2 c14 c6 c7 c8 c9 c10 c11 c12 c13 c15 Q4 S4 HB HCm
  have c0 : W5.cell? ⟨w.heap.size, 0, none⟩ = some (.int .i64 5) := by rw [← HKK.out]; exact Q5.out.cell 0 _ (rcs0 r)
  have c1 : W5.cell? ⟨w.heap.size, 1, none⟩ = some (.int .i64 (x1 : Int)) := by rw [← HX1.out]; exact Q5.out.cell 1 _ (rcs1 r)
  have c2 : W5.cell? ⟨w.heap.size, 2, none⟩ = some (.int .i64 (x2 : Int)) := by rw [← HX2.out]; exact Q5.out.cell 2 _ (rcs2 r)
  have c14 : W5.cell? ⟨w.heap.size, 14, none⟩ = some (.int .i64 (x5 : Int)) := by rw [← HX5.out]; exact Q5.out.cell 14 _ (rcs14 r)
  have c6 := Q5.out.cell 6 _ (rcs6 r)
  have c7 := Q5.out.cell 7 _ (rcs7 r)
  have c8 := Q5.out.cell 8 _ (rcs8 r)
  have c9 := Q5.out.cell 9 _ (rcs9 r)
  have c10 := Q5.out.cell 10 _ (rcs10 r)
  have c11 := Q5.out.cell 11 _ (rcs11 r)
  have c12 := Q5.out.cell 12 _ (rcs12 r)
  have c13 := Q5.out.cell 13 _ (rcs13 r)
  have c15 := Q5.out.cell 15 _ (rcs15 r)
  have HB : Hid (Calls Tryz.prog 29 #[.int .i64 5] W5 fun e w' => e = .returned (.bool false) ∧ W5 = w') := refHasBal_any 5 W5 (by decide) (by decide)
  have HCm : Hid (Calls Tryz.prog 30 #[.int .i64 5] W5 fun e w' => e = .returned (.bool true) ∧ W5 = w') := refHasCmd_any 5 W5 (by decide) (by decide)
  clear SC
  go_wp2_with (first | (go_at_call 29; refine HB.out.mono ?_; rintro e w' ⟨rfl, rfl⟩) | (go_at_call 30; refine HCm.out.mono ?_; rintro e w' ⟨rfl, rfl⟩))
  refine (number6_any _ _ _ L5 (x5) _ S5.out (by omega) (by omega)).mono ?_
  rintro e W6 ⟨v6, rfl, o6, b6⟩
  have Q6 := hide (Q5.out.on b6)
  have B6 := hide (B5.out.trans (b6.mono B5.out.size))
  obtain ⟨L6, hL6⟩ : ∃ L6, Hid (L5 ++ enc (x5) = L6) := ⟨L5 ++ enc (x5), hide rfl⟩
  rw [hL6.out] at o6
  have lb6 : L6.length ≤ 131302 := by rw [← hL6.out, List.length_append]; have e9 : (enc (x5)).length ≤ 10 := (enc_le _ (by omega)).2; have e8 := hn5.out; omega
  obtain ⟨a6, cp6, rfl, k6a, k6b, s6⟩ := seg_own o6
  have S6 := hide s6
  have O6 := hide (own_more o6 B5.out.size)
  obtain ⟨n6, hn6⟩ : ∃ n6, Hid (L6.length = n6) := ⟨_, rfl⟩
  rw [hn6.out] at S6 lb6 O6 ⊢
  clear o6 b6 s6 k6a k6b
  clear c0 c1 c2 c14 c6 c7 c8 c9 c10 c11 c12 c13 c15 Q5 S5 HB HCm
  have c0 : W6.cell? ⟨w.heap.size, 0, none⟩ = some (.int .i64 5) := by rw [← HKK.out]; exact Q6.out.cell 0 _ (rcs0 r)
  have c1 : W6.cell? ⟨w.heap.size, 1, none⟩ = some (.int .i64 (x1 : Int)) := by rw [← HX1.out]; exact Q6.out.cell 1 _ (rcs1 r)
  have c2 : W6.cell? ⟨w.heap.size, 2, none⟩ = some (.int .i64 (x2 : Int)) := by rw [← HX2.out]; exact Q6.out.cell 2 _ (rcs2 r)
  have c14 : W6.cell? ⟨w.heap.size, 14, none⟩ = some (.int .i64 (x5 : Int)) := by rw [← HX5.out]; exact Q6.out.cell 14 _ (rcs14 r)
  have c6 := Q6.out.cell 6 _ (rcs6 r)
  have c7 := Q6.out.cell 7 _ (rcs7 r)
  have c8 := Q6.out.cell 8 _ (rcs8 r)
  have c9 := Q6.out.cell 9 _ (rcs9 r)
  have c10 := Q6.out.cell 10 _ (rcs10 r)
  have c11 := Q6.out.cell 11 _ (rcs11 r)
  have c12 := Q6.out.cell 12 _ (rcs12 r)
  have c13 := Q6.out.cell 13 _ (rcs13 r)
  have c15 := Q6.out.cell 15 _ (rcs15 r)
  have HB : Hid (Calls Tryz.prog 29 #[.int .i64 5] W6 fun e w' => e = .returned (.bool false) ∧ W6 = w') := refHasBal_any 5 W6 (by decide) (by decide)
  have HCm : Hid (Calls Tryz.prog 30 #[.int .i64 5] W6 fun e w' => e = .returned (.bool true) ∧ W6 = w') := refHasCmd_any 5 W6 (by decide) (by decide)
  go_wp2_with (first | (go_at_call 29; refine HB.out.mono ?_; rintro e w' ⟨rfl, rfl⟩) | (go_at_call 30; refine HCm.out.mono ?_; rintro e w' ⟨rfl, rfl⟩))
  refine (rpack_any 2 r.da r.dn r.dc r.deps _ (HR.out.seg.below B6.out (Nat.le_refl _))).mono ?_
  rintro e W7 ⟨u7, rfl, o7, b7⟩
  rw [PE.out]
  obtain ⟨D, hD⟩ : ∃ D, Hid (packR 2 r.deps = D) := ⟨_, rfl⟩
  rw [hD.out] at o7
  have lD : D.length ≤ 131281 := by rw [← hD.out]; exact PL.out
  obtain ⟨a7, cp7, rfl, k7a, k7b, s7⟩ := seg_own o7
  obtain ⟨m7, hm7⟩ : ∃ m7, Hid (D.length = m7) := ⟨_, rfl⟩
  have SD := hide s7
  rw [hm7.out] at SD lD ⊢
  have S7 := hide (S6.out.below b7 (Nat.le_refl _))
  have Q7 := hide (Q6.out.on b7)
  have B7 := hide (B6.out.trans (b7.mono B6.out.size))
  clear o7 b7 s7 k7a k7b
  clear c0 c1 c2 c14 c6 c7 c8 c9 c10 c11 c12 c13 c15 Q6 S6 HB HCm
  have c0 : W7.cell? ⟨w.heap.size, 0, none⟩ = some (.int .i64 5) := by rw [← HKK.out]; exact Q7.out.cell 0 _ (rcs0 r)
  have c1 : W7.cell? ⟨w.heap.size, 1, none⟩ = some (.int .i64 (x1 : Int)) := by rw [← HX1.out]; exact Q7.out.cell 1 _ (rcs1 r)
  have c2 : W7.cell? ⟨w.heap.size, 2, none⟩ = some (.int .i64 (x2 : Int)) := by rw [← HX2.out]; exact Q7.out.cell 2 _ (rcs2 r)
  have c14 : W7.cell? ⟨w.heap.size, 14, none⟩ = some (.int .i64 (x5 : Int)) := by rw [← HX5.out]; exact Q7.out.cell 14 _ (rcs14 r)
  have c6 := Q7.out.cell 6 _ (rcs6 r)
  have c7 := Q7.out.cell 7 _ (rcs7 r)
  have c8 := Q7.out.cell 8 _ (rcs8 r)
  have c9 := Q7.out.cell 9 _ (rcs9 r)
  have c10 := Q7.out.cell 10 _ (rcs10 r)
  have c11 := Q7.out.cell 11 _ (rcs11 r)
  have c12 := Q7.out.cell 12 _ (rcs12 r)
  have c13 := Q7.out.cell 13 _ (rcs13 r)
  have c15 := Q7.out.cell 15 _ (rcs15 r)
  have HB : Hid (Calls Tryz.prog 29 #[.int .i64 5] W7 fun e w' => e = .returned (.bool false) ∧ W7 = w') := refHasBal_any 5 W7 (by decide) (by decide)
  have HCm : Hid (Calls Tryz.prog 30 #[.int .i64 5] W7 fun e w' => e = .returned (.bool true) ∧ W7 = w') := refHasCmd_any 5 W7 (by decide) (by decide)
  go_wp2_with (first | (go_at_call 29; refine HB.out.mono ?_; rintro e w' ⟨rfl, rfl⟩) | (go_at_call 30; refine HCm.out.mono ?_; rintro e w' ⟨rfl, rfl⟩))
  refine (add6_any _ _ _ _ _ _ L6 D _ S7.out SD.out (by omega)).mono ?_
  rintro e W8 ⟨v8, rfl, o8, b8⟩
  have Q8 := hide (Q7.out.on b8)
  have B8 := hide (B7.out.trans (b8.mono B7.out.size))
  obtain ⟨L8, hL8⟩ : ∃ L8, Hid (L6 ++ D = L8) := ⟨L6 ++ D, hide rfl⟩
  rw [hL8.out] at o8
  have lb8 : L8.length ≤ 262583 := by rw [← hL8.out, List.length_append]; have e8 := hn6.out; have e7 := hm7.out; omega
  obtain ⟨a8, cp8, rfl, k8a, k8b, s8⟩ := seg_own o8
  have S8 := hide s8
  have O8 := hide (own_more o8 B7.out.size)
  obtain ⟨n8, hn8⟩ : ∃ n8, Hid (L8.length = n8) := ⟨_, rfl⟩
  rw [hn8.out] at S8 lb8 O8 ⊢
  clear o8 b8 s8 k8a k8b
  clear c0 c1 c2 c14 c6 c7 c8 c9 c10 c11 c12 c13 c15 Q7 S7 HB HCm
  have c0 : W8.cell? ⟨w.heap.size, 0, none⟩ = some (.int .i64 5) := by rw [← HKK.out]; exact Q8.out.cell 0 _ (rcs0 r)
  have c1 : W8.cell? ⟨w.heap.size, 1, none⟩ = some (.int .i64 (x1 : Int)) := by rw [← HX1.out]; exact Q8.out.cell 1 _ (rcs1 r)
  have c2 : W8.cell? ⟨w.heap.size, 2, none⟩ = some (.int .i64 (x2 : Int)) := by rw [← HX2.out]; exact Q8.out.cell 2 _ (rcs2 r)
  have c14 : W8.cell? ⟨w.heap.size, 14, none⟩ = some (.int .i64 (x5 : Int)) := by rw [← HX5.out]; exact Q8.out.cell 14 _ (rcs14 r)
  have c6 := Q8.out.cell 6 _ (rcs6 r)
  have c7 := Q8.out.cell 7 _ (rcs7 r)
  have c8 := Q8.out.cell 8 _ (rcs8 r)
  have c9 := Q8.out.cell 9 _ (rcs9 r)
  have c10 := Q8.out.cell 10 _ (rcs10 r)
  have c11 := Q8.out.cell 11 _ (rcs11 r)
  have c12 := Q8.out.cell 12 _ (rcs12 r)
  have c13 := Q8.out.cell 13 _ (rcs13 r)
  have c15 := Q8.out.cell 15 _ (rcs15 r)
  have HB : Hid (Calls Tryz.prog 29 #[.int .i64 5] W8 fun e w' => e = .returned (.bool false) ∧ W8 = w') := refHasBal_any 5 W8 (by decide) (by decide)
  have HCm : Hid (Calls Tryz.prog 30 #[.int .i64 5] W8 fun e w' => e = .returned (.bool true) ∧ W8 = w') := refHasCmd_any 5 W8 (by decide) (by decide)
  clear SD
  go_wp2_with (first | (go_at_call 29; refine HB.out.mono ?_; rintro e w' ⟨rfl, rfl⟩) | (go_at_call 30; refine HCm.out.mono ?_; rintro e w' ⟨rfl, rfl⟩))
  go_ret2
  have FIN : Hid (recB r = L8) := by
    show r.kind :: (rowR r.kind).flatMap (wrF r) = _
    rw [HKK.out, show rowR 5 = [105, 99, 113, 100] from rfl]
    simp only [List.flatMap_cons, List.flatMap_nil, E1.out, E4.out, E5.out, E6.out]
    rw [← hL8.out, ← hL6.out, ← hL5.out, ← hL3.out, ← hC.out, ← hD.out]
    simp
  rw [FIN.out, hn8.out]
  exact ⟨_, rfl, O8.out, B8.out⟩

end Go.Proofs.YtnogdjpbnhnmaaaGreatDoor
