/- The contract of the document's own Conflict. -/
import Derived.Test.YtahaecnopeffhaaTRef
namespace Go.Proofs.Ytahaecnopeffhaa
open Go.RowKit Go.Wire1

def rhitB (x y : Tch) : Bool := (inB x.k y || inB y.k x) && (x.w || y.w)
theorem rhit_eq {x y : Tch} (hx : tlt x.k x.e = true) (hy : tlt y.k y.e = true) : rhitB x y = hitB x y := by
  unfold rhitB hitB
  rw [meet_ref hx hy, Bool.and_comm]

set_option maxHeartbeats 4000000 in
set_option maxRecDepth 100000 in
theorem rconflict_any (kind client req : Int) (key key2 val old : ByteArray) (n : Int) (kind' client' req' : Int) (key' key2' val' old' : ByteArray) (n' : Int) (w : World) (hk : key.size ≤ 140737488351232) (hk2 : key2.size ≤ 140737488351232) (hk' : key'.size ≤ 140737488351232) (hk2' : key2'.size ≤ 140737488351232) :
    Calls Try.prog 14 #[.agg #[.int .i64 kind, .int .i64 client, .int .i64 req, .string key, .string key2, .string val, .string old, .int .i64 n], .agg #[.int .i64 kind', .int .i64 client', .int .i64 req', .string key', .string key2', .string val', .string old', .int .i64 n']] w fun e w' => e = .returned (.bool (clashB (touchL kind key key2) (touchL kind' key' key2'))) ∧ Below w.heap.size w w' := by
  obtain ⟨A, hA⟩ : ∃ A, Hid (touchL kind key key2 = A) := ⟨_, rfl⟩
  obtain ⟨C, hC⟩ : ∃ C, Hid (touchL kind' key' key2' = C) := ⟨_, rfl⟩
  have okA : Hid (∀ t ∈ A, tlt t.k t.e = true) := by rw [← hA.out]; exact touchL_ok
  have okC : Hid (∀ t ∈ C, tlt t.k t.e = true) := by rw [← hC.out]; exact touchL_ok
  rw [hA.out, hC.out]
  obtain ⟨V, hV⟩ : ∃ V, V = (w.alloc (.cells #[.int .i64 kind, .int .i64 client, .int .i64 req, .string key, .string key2, .string val, .string old, .int .i64 n] 23)).alloc (.cells #[.int .i64 kind', .int .i64 client', .int .i64 req', .string key', .string key2', .string val', .string old', .int .i64 n'] 23) := ⟨_, rfl⟩
  have Y1 : Hid (CBox V (w.heap.size + 1) kind' client' req' key' key2' val' old' n') := by
    have := cbox_new (w.alloc (.cells #[.int .i64 kind, .int .i64 client, .int .i64 req, .string key, .string key2, .string val, .string old, .int .i64 n] 23)) 23 kind' client' req' key' key2' val' old' n'
    rw [World.size_alloc] at this
    rw [hV]; exact this
  have hVs : V.heap.size = w.heap.size + 2 := by rw [hV]; simp
  have BV : Hid (Below w.heap.size w V) := by rw [hV]; exact ((Below.refl _ _).alloc (Nat.le_refl _) _).alloc (by simp) _
  go_enter Try.func14, Try.ntmps14
  go_wp2_with fail
  rw [← hV]
  clear hV
  refine (rtouches_any kind client req key key2 val old n _ hk hk2).mono ?_
  rintro e w1 ⟨v1, rfl, T1, hb1⟩
  rw [hA.out] at T1
  obtain ⟨a1, c1, rfl⟩ := T1.shape
  have hs1 := hb1.size
  have HT1 : Hid (Tchs w1 V.heap.size (.slice a1 A.length c1) A) := T1
  have B1 : Hid (Below w.heap.size w w1) := BV.out.trans (hb1.mono (by omega))
  obtain ⟨x0, x1, x2, x3, x4, x5, x6, x7⟩ := Y1.out.below hb1 (Nat.le_refl _)
  clear T1 hb1 Y1 BV
  go_wp2_with fail
  refine (rtouches_any kind' client' req' key' key2' val' old' n' _ hk' hk2').mono ?_
  rintro e w2 ⟨v2, rfl, T2, hb2⟩
  rw [hC.out] at T2
  obtain ⟨a2, c2, rfl⟩ := T2.shape
  have hs2 := hb2.size
  have HT2 : Hid (Tchs w2 w1.heap.size (.slice a2 C.length c2) C) := T2
  have HT1' : Hid (Tchs w2 V.heap.size (.slice a1 A.length c1) A) := HT1.out.below hb2 (Nat.le_refl _)
  have B2 : Hid (Below w.heap.size w w2) := B1.out.trans (hb2.mono (by omega))
  have hle : w.heap.size ≤ w2.heap.size := by omega
  have hla : A.length ≤ 2 := by rw [← hA.out]; exact touchL_len _ _ _
  have hlc : C.length ≤ 2 := by rw [← hC.out]; exact touchL_len _ _ _
  clear T2 hb2 HT1 B1 x0 x1 x2 x3 x4 x5 x6 x7 hs1 hs2 hVs hA hC
  obtain ⟨na, hna⟩ : ∃ na, Hid (A.length = na) := ⟨_, rfl⟩
  obtain ⟨nc, hnc⟩ : ∃ nc, Hid (C.length = nc) := ⟨_, rfl⟩
  rw [hna.out] at HT1' hla
  rw [hnc.out] at HT2 hlc
  rw [hna.out, hnc.out]
  go_wp2_with fail
  go_loopw [7] (fun x wr => ∃ i : Nat, x = .int .i64 (i : Int) ∧ i ≤ na ∧ Hid (clashB (A.take i) C = false) ∧ Hid (Below w2.heap.size w2 wr)) (fun x _ => na - (intOf x).toNat)
  case atStart => exact ⟨0, rfl, by omega, by simp [Hid, clashB], Below.refl _ _⟩
  case round =>
    obtain ⟨i, rfl, hi, HF, HB⟩ := hrel
    by_cases hlt : i < na
    · go_wp2_with fail
      go_loopw [8] (fun x wr => ∃ j : Nat, x = .int .i64 (j : Int) ∧ j ≤ nc ∧ Hid ((C.take j).any (hitB (A.getD i tZ)) = false) ∧ Hid (Below w2.heap.size w2 wr)) (fun x _ => nc - (intOf x).toNat)
      case atStart => exact ⟨0, rfl, by omega, by simp [Hid], HB⟩
      case round =>
        obtain ⟨j, rfl, hj, HG, HW⟩ := hrel
        by_cases hlt2 : j < nc
        · obtain ⟨b1, rfl, c0, c1, c2⟩ := (HT1'.out.below HW.out (Nat.le_refl _)).at (i := i) (by rw [hna.out]; exact hlt)
          obtain ⟨b2, rfl, d0, d1, d2⟩ := (HT2.out.below HW.out (Nat.le_refl _)).at (i := j) (by rw [hnc.out]; exact hlt2)
          obtain ⟨X, hX⟩ : ∃ X, Hid (A.getD i tZ = X) := ⟨_, rfl⟩
          obtain ⟨Y, hY⟩ : ∃ Y, Hid (C.getD j tZ = Y) := ⟨_, rfl⟩
          rw [hX.out] at c0 c1 c2
          rw [hY.out] at d0 d1 d2
          have tX : Hid (tlt X.k X.e = true) := by rw [← hX.out, List.getD, List.getElem?_eq_getElem (by rw [hna.out]; exact hlt)]; exact okA.out _ (List.getElem_mem _)
          have tY : Hid (tlt Y.k Y.e = true) := by rw [← hY.out, List.getD, List.getElem?_eq_getElem (by rw [hnc.out]; exact hlt2)]; exact okC.out _ (List.getElem_mem _)
          have hXY : Hid (hitB (A.getD i tZ) (C.getD j tZ) = rhitB X Y) := by
            rw [hX.out, hY.out, rhit_eq tX.out tY.out]; rfl
          have HWs := HW.out.size
          have g1 : b1 < wr.heap.size := cell_lt c0
          have g2 : b2 < wr.heap.size := cell_lt d0
          obtain ⟨xk, xe, xw⟩ := X
          obtain ⟨yk, ye, yw⟩ := Y
          simp only at c0 c1 c2 d0 d1 d2
          have i1 : (0 : Int) ≤ (i : Int) := by omega
          have i2 : (i : Int) < (na : Int) := by omega
          have j1 : (0 : Int) ≤ (j : Int) := by omega
          have j2 : (j : Int) < (nc : Int) := by omega
          cases h1 : inB xk ⟨yk, ye, yw⟩ with
          | true =>
            go_wp2
            refine wp_region_noPanic ?_
            refine wp_region_held_drew (S := (fun w' => w'.cell? ⟨b1, i * 3, none⟩ = some (.string xk) ∧ w'.cell? ⟨b1, i * 3 + 1, none⟩ = some (.string xe) ∧ w'.cell? ⟨b1, i * 3 + 2, none⟩ = some (.bool xw) ∧ w'.cell? ⟨b2, j * 3, none⟩ = some (.string yk) ∧ w'.cell? ⟨b2, j * 3 + 1, none⟩ = some (.string ye) ∧ w'.cell? ⟨b2, j * 3 + 2, none⟩ = some (.bool yw))) (by kernel_rfl) ⟨c0, c1, c2, d0, d1, d2⟩ (fun hHeld => ?_)
            refine wpAnyH_take (i := 0) (v := ?_) rfl (by kernel_rfl) (by kernel_rfl) (by kernel_rfl) (fun _ _ _ h => h) (Or.inl ⟨by rfl, ?_⟩) (by assumption) ?_
            rotate_left
            · intro w hSw
              try dsimp only at hSw
              go_simp
              try with_reducible rfl
            try simp only [Act.put, List.getElem_toArray, List.getElem_cons_zero, List.setIfInBounds_toArray, List.set_cons_zero, List.set_cons_succ]
            refine wpAnyH_take (i := 1) (v := ?_) rfl (by kernel_rfl) (by kernel_rfl) (by kernel_rfl) (fun _ _ _ h => h) (Or.inl ⟨by rfl, ?_⟩) (by assumption) ?_
            rotate_left
            · intro w hSw
              try dsimp only at hSw
              go_simp
              try with_reducible rfl
            try simp only [Act.put, List.getElem_toArray, List.getElem_cons_succ, List.getElem_cons_zero, List.setIfInBounds_toArray, List.set_cons_zero, List.set_cons_succ]
            refine wpAnyH_take (i := 2) (v := ?_) rfl (by kernel_rfl) (by kernel_rfl) (by kernel_rfl) (fun _ _ _ h => h) (Or.inl ⟨by rfl, ?_⟩) (by assumption) ?_
            rotate_left
            · intro w hSw
              try dsimp only at hSw
              go_simp
              try with_reducible rfl
            try simp only [Act.put, List.getElem_toArray, List.getElem_cons_succ, List.getElem_cons_zero, List.setIfInBounds_toArray, List.set_cons_zero, List.set_cons_succ]
            refine wpAnyH_take (i := 3) (v := ?_) rfl (by kernel_rfl) (by kernel_rfl) (by kernel_rfl) (fun _ _ _ h => h) (Or.inl ⟨by rfl, ?_⟩) (by assumption) ?_
            rotate_left
            · intro w hSw
              try dsimp only at hSw
              go_simp
              try with_reducible rfl
            try simp only [Act.put, List.getElem_toArray, List.getElem_cons_succ, List.getElem_cons_zero, List.setIfInBounds_toArray, List.set_cons_zero, List.set_cons_succ]
            refine wpAnyH_take (i := 4) (v := ?_) rfl (by kernel_rfl) (by kernel_rfl) (by kernel_rfl) (fun _ _ _ h => h) (Or.inl ⟨by rfl, ?_⟩) (by assumption) ?_
            rotate_left
            · intro w hSw
              try dsimp only at hSw
              go_simp
              try with_reducible rfl
            try simp only [Act.put, List.getElem_toArray, List.getElem_cons_succ, List.getElem_cons_zero, List.setIfInBounds_toArray, List.set_cons_zero, List.set_cons_succ]
            refine wpAnyH_take (i := 5) (v := ?_) rfl (by kernel_rfl) (by kernel_rfl) (by kernel_rfl) (fun _ _ _ h => h) (Or.inl ⟨by rfl, ?_⟩) (by assumption) ?_
            rotate_left
            · intro w hSw
              try dsimp only at hSw
              go_simp
              try with_reducible rfl
            try simp only [Act.put, List.getElem_toArray, List.getElem_cons_succ, List.getElem_cons_zero, List.setIfInBounds_toArray, List.set_cons_zero, List.set_cons_succ]
            refine wpAnyH_take (i := 6) (v := ?_) rfl (by kernel_rfl) (by kernel_rfl) (by kernel_rfl) (fun _ _ _ h => h) (Or.inl ⟨by rfl, ?_⟩) (by assumption) ?_
            rotate_left
            · intro w hSw
              try dsimp only at hSw
              go_simp
              try with_reducible rfl
            try simp only [Act.put, List.getElem_toArray, List.getElem_cons_succ, List.getElem_cons_zero, List.setIfInBounds_toArray, List.set_cons_zero, List.set_cons_succ]
            refine wpAnyH_take (i := 7) (v := ?_) rfl (by kernel_rfl) (by kernel_rfl) (by kernel_rfl) (fun _ _ _ h => h) (Or.inl ⟨by rfl, ?_⟩) (by assumption) ?_
            rotate_left
            · intro w hSw
              try dsimp only at hSw
              go_simp
              try with_reducible rfl
            try simp only [Act.put, List.getElem_toArray, List.getElem_cons_succ, List.getElem_cons_zero, List.setIfInBounds_toArray, List.set_cons_zero, List.set_cons_succ]
            refine wpAnyH_take (i := 8) (v := ?_) rfl (by kernel_rfl) (by kernel_rfl) (by kernel_rfl) (fun _ _ _ h => h) (Or.inl ⟨by rfl, ?_⟩) (by assumption) ?_
            rotate_left
            · intro w hSw
              try dsimp only at hSw
              go_simp
              try with_reducible rfl
            try simp only [Act.put, List.getElem_toArray, List.getElem_cons_succ, List.getElem_cons_zero, List.setIfInBounds_toArray, List.set_cons_zero, List.set_cons_succ]
            refine wpAnyH_ready (rs := [9]) (by kernel_rfl) (by simp) ?_
            refine AllReadyH.cons rfl (fun K hK => ?_) AllReadyH.nil
            rw [if_pos (by rfl)]
            go_wp2_with fail
            refine (rin_any xk ⟨yk, ye, yw⟩ _).mono ?_
            rintro e wA ⟨rfl, hbA⟩
            rw [h1]
            refine hK.out _ _ ⟨by rw [hbA.cell (p := ⟨b1, i * 3, none⟩) g1]; exact c0, by rw [hbA.cell (p := ⟨b1, i * 3 + 1, none⟩) g1]; exact c1, by rw [hbA.cell (p := ⟨b1, i * 3 + 2, none⟩) g1]; exact c2, by rw [hbA.cell (p := ⟨b2, j * 3, none⟩) g2]; exact d0, by rw [hbA.cell (p := ⟨b2, j * 3 + 1, none⟩) g2]; exact d1, by rw [hbA.cell (p := ⟨b2, j * 3 + 2, none⟩) g2]; exact d2⟩ (fun hHeld => ?_)
            clear hK K
            try simp only [Act.put, List.getElem_toArray, List.getElem_cons_succ, List.getElem_cons_zero, List.setIfInBounds_toArray, List.set_cons_zero, List.set_cons_succ]
            refine wpAnyH_take (i := 10) (v := ?_) rfl (by kernel_rfl) (by kernel_rfl) (by kernel_rfl) (fun _ _ _ h => h) (Or.inl ⟨by rfl, ?_⟩) (by assumption) ?_
            rotate_left
            · intro w hSw
              try dsimp only at hSw
              go_simp
              try with_reducible rfl
            try simp only [Act.put, List.getElem_toArray, List.getElem_cons_succ, List.getElem_cons_zero, List.setIfInBounds_toArray, List.set_cons_zero, List.set_cons_succ]
            refine wpAnyH_take (i := 11) (v := undef) rfl (by kernel_rfl) (by kernel_rfl) (by kernel_rfl) (fun _ _ _ h => h) (Or.inr ⟨by rfl, rfl⟩) (by assumption) ?_
            try simp only [Act.put, List.getElem_toArray, List.getElem_cons_succ, List.getElem_cons_zero, List.setIfInBounds_toArray, List.set_cons_zero, List.set_cons_succ]
            refine wpAnyH_take (i := 12) (v := undef) rfl (by kernel_rfl) (by kernel_rfl) (by kernel_rfl) (fun _ _ _ h => h) (Or.inr ⟨by rfl, rfl⟩) (by assumption) ?_
            try simp only [Act.put, List.getElem_toArray, List.getElem_cons_succ, List.getElem_cons_zero, List.setIfInBounds_toArray, List.set_cons_zero, List.set_cons_succ]
            refine wpAnyH_take (i := 13) (v := undef) rfl (by kernel_rfl) (by kernel_rfl) (by kernel_rfl) (fun _ _ _ h => h) (Or.inr ⟨by rfl, rfl⟩) (by assumption) ?_
            try simp only [Act.put, List.getElem_toArray, List.getElem_cons_succ, List.getElem_cons_zero, List.setIfInBounds_toArray, List.set_cons_zero, List.set_cons_succ]
            refine wpAnyH_take (i := 14) (v := undef) rfl (by kernel_rfl) (by kernel_rfl) (by kernel_rfl) (fun _ _ _ h => h) (Or.inr ⟨by rfl, rfl⟩) (by assumption) ?_
            try simp only [Act.put, List.getElem_toArray, List.getElem_cons_succ, List.getElem_cons_zero, List.setIfInBounds_toArray, List.set_cons_zero, List.set_cons_succ]
            refine wpAnyH_take (i := 15) (v := undef) rfl (by kernel_rfl) (by kernel_rfl) (by kernel_rfl) (fun _ _ _ h => h) (Or.inr ⟨by rfl, rfl⟩) (by assumption) ?_
            try simp only [Act.put, List.getElem_toArray, List.getElem_cons_succ, List.getElem_cons_zero, List.setIfInBounds_toArray, List.set_cons_zero, List.set_cons_succ]
            refine wpAnyH_take (i := 16) (v := undef) rfl (by kernel_rfl) (by kernel_rfl) (by kernel_rfl) (fun _ _ _ h => h) (Or.inr ⟨by rfl, rfl⟩) (by assumption) ?_
            try simp only [Act.put, List.getElem_toArray, List.getElem_cons_succ, List.getElem_cons_zero, List.setIfInBounds_toArray, List.set_cons_zero, List.set_cons_succ]
            refine wpAnyH_take (i := 17) (v := undef) rfl (by kernel_rfl) (by kernel_rfl) (by kernel_rfl) (fun _ _ _ h => h) (Or.inr ⟨by rfl, rfl⟩) (by assumption) ?_
            try simp only [Act.put, List.getElem_toArray, List.getElem_cons_succ, List.getElem_cons_zero, List.setIfInBounds_toArray, List.set_cons_zero, List.set_cons_succ]
            refine wpAnyH_take (i := 18) (v := undef) rfl (by kernel_rfl) (by kernel_rfl) (by kernel_rfl) (fun _ _ _ h => h) (Or.inr ⟨by rfl, rfl⟩) (by assumption) ?_
            try simp only [Act.put, List.getElem_toArray, List.getElem_cons_succ, List.getElem_cons_zero, List.setIfInBounds_toArray, List.set_cons_zero, List.set_cons_succ]
            refine wpAnyH_take (i := 19) (v := undef) rfl (by kernel_rfl) (by kernel_rfl) (by kernel_rfl) (fun _ _ _ h => h) (Or.inr ⟨by rfl, rfl⟩) (by assumption) ?_
            try simp only [Act.put, List.getElem_toArray, List.getElem_cons_succ, List.getElem_cons_zero, List.setIfInBounds_toArray, List.set_cons_zero, List.set_cons_succ]
            refine wpAnyH_take (i := 20) (v := undef) rfl (by kernel_rfl) (by kernel_rfl) (by kernel_rfl) (fun _ _ _ h => h) (Or.inr ⟨by rfl, rfl⟩) (by assumption) ?_
            try simp only [Act.put, List.getElem_toArray, List.getElem_cons_succ, List.getElem_cons_zero, List.setIfInBounds_toArray, List.set_cons_zero, List.set_cons_succ]
            refine wpAnyH_take (i := 21) (v := ?_) rfl (by kernel_rfl) (by kernel_rfl) (by kernel_rfl) (fun _ _ _ h => h) (Or.inl ⟨by rfl, ?_⟩) (by assumption) ?_
            rotate_left
            · intro w hSw
              try dsimp only at hSw
              go_simp
              try with_reducible rfl
            try simp only [Act.put, List.getElem_toArray, List.getElem_cons_succ, List.getElem_cons_zero, List.setIfInBounds_toArray, List.set_cons_zero, List.set_cons_succ]
            refine wpAnyH_take (i := 22) (v := ?_) rfl (by kernel_rfl) (by kernel_rfl) (by kernel_rfl) (fun _ _ _ h => h) (Or.inl ⟨by rfl, ?_⟩) (by assumption) ?_
            rotate_left
            · intro w hSw
              try dsimp only at hSw
              go_simp
              try with_reducible rfl
            try simp only [Act.put, List.getElem_toArray, List.getElem_cons_succ, List.getElem_cons_zero, List.setIfInBounds_toArray, List.set_cons_zero, List.set_cons_succ]
            refine wpAnyH_done (by kernel_rfl) ?_ _
            refine NoPanic.normal ?_
            have C9 : Hid (Below wr.heap.size wr wA) := (Below.refl wr.heap.size wr).drew.trans hbA
            have B9 : Hid (Below w2.heap.size w2 wA) := HW.out.trans (C9.out.mono HWs)
            have k2 : wA.cell? ⟨b1, i * 3 + 2, none⟩ = some (.bool xw) := by rw [C9.out.cell (p := ⟨b1, i * 3 + 2, none⟩) g1]; exact c2
            have l2 : wA.cell? ⟨b2, j * 3 + 2, none⟩ = some (.bool yw) := by rw [C9.out.cell (p := ⟨b2, j * 3 + 2, none⟩) g2]; exact d2
            cases hw : (xw || yw) with
            | true =>
              have HH : Hid (clashB A C = true) := hit_clash (by rw [hna.out]; exact hlt) (by rw [hnc.out]; exact hlt2) (by rw [hXY.out]; simp [rhitB, h1, hw])
              have hor : xw = true ∨ (xw = false ∧ yw = true) := by cases xw <;> simp_all
              clear hw h1 c0 c1 c2 d0 d1 d2
              rcases hor with rfl | ⟨rfl, rfl⟩
              all_goals
                go_wp2
                go_ret
                exact ⟨by rw [HH.out]; rfl, B2.out.trans (B9.out.mono hle)⟩
            | false =>
              have HN : Hid ((C.take (j + 1)).any (hitB (A.getD i tZ)) = false) := take_any (by rw [hnc.out]; exact hlt2) HG.out (by rw [hXY.out]; simp [rhitB, hw])
              obtain ⟨rfl, rfl⟩ : xw = false ∧ yw = false := by simpa using hw
              clear hw h1 c0 c1 c2 d0 d1 d2
              go_wp2
              go_roundw
              case rel => exact ⟨j + 1, by go_num, by omega, HN, B9⟩
              case measure => simp [intOf]; omega
          | false =>
            cases h2 : inB yk ⟨xk, xe, xw⟩ with
            | true =>
              go_wp2
              refine wp_region_noPanic ?_
              refine wp_region_held_drew (S := (fun w' => w'.cell? ⟨b1, i * 3, none⟩ = some (.string xk) ∧ w'.cell? ⟨b1, i * 3 + 1, none⟩ = some (.string xe) ∧ w'.cell? ⟨b1, i * 3 + 2, none⟩ = some (.bool xw) ∧ w'.cell? ⟨b2, j * 3, none⟩ = some (.string yk) ∧ w'.cell? ⟨b2, j * 3 + 1, none⟩ = some (.string ye) ∧ w'.cell? ⟨b2, j * 3 + 2, none⟩ = some (.bool yw))) (by kernel_rfl) ⟨c0, c1, c2, d0, d1, d2⟩ (fun hHeld => ?_)
              refine wpAnyH_take (i := 0) (v := ?_) rfl (by kernel_rfl) (by kernel_rfl) (by kernel_rfl) (fun _ _ _ h => h) (Or.inl ⟨by rfl, ?_⟩) (by assumption) ?_
              rotate_left
              · intro w hSw
                try dsimp only at hSw
                go_simp
                try with_reducible rfl
              try simp only [Act.put, List.getElem_toArray, List.getElem_cons_zero, List.setIfInBounds_toArray, List.set_cons_zero, List.set_cons_succ]
              refine wpAnyH_take (i := 1) (v := ?_) rfl (by kernel_rfl) (by kernel_rfl) (by kernel_rfl) (fun _ _ _ h => h) (Or.inl ⟨by rfl, ?_⟩) (by assumption) ?_
              rotate_left
              · intro w hSw
                try dsimp only at hSw
                go_simp
                try with_reducible rfl
              try simp only [Act.put, List.getElem_toArray, List.getElem_cons_succ, List.getElem_cons_zero, List.setIfInBounds_toArray, List.set_cons_zero, List.set_cons_succ]
              refine wpAnyH_take (i := 2) (v := ?_) rfl (by kernel_rfl) (by kernel_rfl) (by kernel_rfl) (fun _ _ _ h => h) (Or.inl ⟨by rfl, ?_⟩) (by assumption) ?_
              rotate_left
              · intro w hSw
                try dsimp only at hSw
                go_simp
                try with_reducible rfl
              try simp only [Act.put, List.getElem_toArray, List.getElem_cons_succ, List.getElem_cons_zero, List.setIfInBounds_toArray, List.set_cons_zero, List.set_cons_succ]
              refine wpAnyH_take (i := 3) (v := ?_) rfl (by kernel_rfl) (by kernel_rfl) (by kernel_rfl) (fun _ _ _ h => h) (Or.inl ⟨by rfl, ?_⟩) (by assumption) ?_
              rotate_left
              · intro w hSw
                try dsimp only at hSw
                go_simp
                try with_reducible rfl
              try simp only [Act.put, List.getElem_toArray, List.getElem_cons_succ, List.getElem_cons_zero, List.setIfInBounds_toArray, List.set_cons_zero, List.set_cons_succ]
              refine wpAnyH_take (i := 4) (v := ?_) rfl (by kernel_rfl) (by kernel_rfl) (by kernel_rfl) (fun _ _ _ h => h) (Or.inl ⟨by rfl, ?_⟩) (by assumption) ?_
              rotate_left
              · intro w hSw
                try dsimp only at hSw
                go_simp
                try with_reducible rfl
              try simp only [Act.put, List.getElem_toArray, List.getElem_cons_succ, List.getElem_cons_zero, List.setIfInBounds_toArray, List.set_cons_zero, List.set_cons_succ]
              refine wpAnyH_take (i := 5) (v := ?_) rfl (by kernel_rfl) (by kernel_rfl) (by kernel_rfl) (fun _ _ _ h => h) (Or.inl ⟨by rfl, ?_⟩) (by assumption) ?_
              rotate_left
              · intro w hSw
                try dsimp only at hSw
                go_simp
                try with_reducible rfl
              try simp only [Act.put, List.getElem_toArray, List.getElem_cons_succ, List.getElem_cons_zero, List.setIfInBounds_toArray, List.set_cons_zero, List.set_cons_succ]
              refine wpAnyH_take (i := 6) (v := ?_) rfl (by kernel_rfl) (by kernel_rfl) (by kernel_rfl) (fun _ _ _ h => h) (Or.inl ⟨by rfl, ?_⟩) (by assumption) ?_
              rotate_left
              · intro w hSw
                try dsimp only at hSw
                go_simp
                try with_reducible rfl
              try simp only [Act.put, List.getElem_toArray, List.getElem_cons_succ, List.getElem_cons_zero, List.setIfInBounds_toArray, List.set_cons_zero, List.set_cons_succ]
              refine wpAnyH_take (i := 7) (v := ?_) rfl (by kernel_rfl) (by kernel_rfl) (by kernel_rfl) (fun _ _ _ h => h) (Or.inl ⟨by rfl, ?_⟩) (by assumption) ?_
              rotate_left
              · intro w hSw
                try dsimp only at hSw
                go_simp
                try with_reducible rfl
              try simp only [Act.put, List.getElem_toArray, List.getElem_cons_succ, List.getElem_cons_zero, List.setIfInBounds_toArray, List.set_cons_zero, List.set_cons_succ]
              refine wpAnyH_take (i := 8) (v := ?_) rfl (by kernel_rfl) (by kernel_rfl) (by kernel_rfl) (fun _ _ _ h => h) (Or.inl ⟨by rfl, ?_⟩) (by assumption) ?_
              rotate_left
              · intro w hSw
                try dsimp only at hSw
                go_simp
                try with_reducible rfl
              try simp only [Act.put, List.getElem_toArray, List.getElem_cons_succ, List.getElem_cons_zero, List.setIfInBounds_toArray, List.set_cons_zero, List.set_cons_succ]
              refine wpAnyH_ready (rs := [9]) (by kernel_rfl) (by simp) ?_
              refine AllReadyH.cons rfl (fun K hK => ?_) AllReadyH.nil
              rw [if_pos (by rfl)]
              go_wp2_with fail
              refine (rin_any xk ⟨yk, ye, yw⟩ _).mono ?_
              rintro e wA ⟨rfl, hbA⟩
              rw [h1]
              have kc0 : wA.cell? ⟨b1, i * 3, none⟩ = some (.string xk) := (by rw [hbA.cell (p := ⟨b1, i * 3, none⟩) g1]; exact c0)
              have kc1 : wA.cell? ⟨b1, i * 3 + 1, none⟩ = some (.string xe) := (by rw [hbA.cell (p := ⟨b1, i * 3 + 1, none⟩) g1]; exact c1)
              have kc2 : wA.cell? ⟨b1, i * 3 + 2, none⟩ = some (.bool xw) := (by rw [hbA.cell (p := ⟨b1, i * 3 + 2, none⟩) g1]; exact c2)
              have kd0 : wA.cell? ⟨b2, j * 3, none⟩ = some (.string yk) := (by rw [hbA.cell (p := ⟨b2, j * 3, none⟩) g2]; exact d0)
              have kd1 : wA.cell? ⟨b2, j * 3 + 1, none⟩ = some (.string ye) := (by rw [hbA.cell (p := ⟨b2, j * 3 + 1, none⟩) g2]; exact d1)
              have kd2 : wA.cell? ⟨b2, j * 3 + 2, none⟩ = some (.bool yw) := (by rw [hbA.cell (p := ⟨b2, j * 3 + 2, none⟩) g2]; exact d2)
              have q1 : b1 < wA.heap.size := cell_lt kc0
              have q2 : b2 < wA.heap.size := cell_lt kd0
              refine hK.out _ _ ⟨kc0, kc1, kc2, kd0, kd1, kd2⟩ (fun hHeld => ?_)
              clear hK K
              try simp only [Act.put, List.getElem_toArray, List.getElem_cons_succ, List.getElem_cons_zero, List.setIfInBounds_toArray, List.set_cons_zero, List.set_cons_succ]
              refine wpAnyH_take (i := 10) (v := ?_) rfl (by kernel_rfl) (by kernel_rfl) (by kernel_rfl) (fun _ _ _ h => h) (Or.inl ⟨by rfl, ?_⟩) (by assumption) ?_
              rotate_left
              · intro w hSw
                try dsimp only at hSw
                go_simp
                try with_reducible rfl
              try simp only [Act.put, List.getElem_toArray, List.getElem_cons_succ, List.getElem_cons_zero, List.setIfInBounds_toArray, List.set_cons_zero, List.set_cons_succ]
              refine wpAnyH_take (i := 11) (v := ?_) rfl (by kernel_rfl) (by kernel_rfl) (by kernel_rfl) (fun _ _ _ h => h) (Or.inl ⟨by rfl, ?_⟩) (by assumption) ?_
              rotate_left
              · intro w hSw
                try dsimp only at hSw
                go_simp
                try with_reducible rfl
              try simp only [Act.put, List.getElem_toArray, List.getElem_cons_succ, List.getElem_cons_zero, List.setIfInBounds_toArray, List.set_cons_zero, List.set_cons_succ]
              refine wpAnyH_take (i := 12) (v := ?_) rfl (by kernel_rfl) (by kernel_rfl) (by kernel_rfl) (fun _ _ _ h => h) (Or.inl ⟨by rfl, ?_⟩) (by assumption) ?_
              rotate_left
              · intro w hSw
                try dsimp only at hSw
                go_simp
                try with_reducible rfl
              try simp only [Act.put, List.getElem_toArray, List.getElem_cons_succ, List.getElem_cons_zero, List.setIfInBounds_toArray, List.set_cons_zero, List.set_cons_succ]
              refine wpAnyH_take (i := 13) (v := ?_) rfl (by kernel_rfl) (by kernel_rfl) (by kernel_rfl) (fun _ _ _ h => h) (Or.inl ⟨by rfl, ?_⟩) (by assumption) ?_
              rotate_left
              · intro w hSw
                try dsimp only at hSw
                go_simp
                try with_reducible rfl
              try simp only [Act.put, List.getElem_toArray, List.getElem_cons_succ, List.getElem_cons_zero, List.setIfInBounds_toArray, List.set_cons_zero, List.set_cons_succ]
              refine wpAnyH_take (i := 14) (v := ?_) rfl (by kernel_rfl) (by kernel_rfl) (by kernel_rfl) (fun _ _ _ h => h) (Or.inl ⟨by rfl, ?_⟩) (by assumption) ?_
              rotate_left
              · intro w hSw
                try dsimp only at hSw
                go_simp
                try with_reducible rfl
              try simp only [Act.put, List.getElem_toArray, List.getElem_cons_succ, List.getElem_cons_zero, List.setIfInBounds_toArray, List.set_cons_zero, List.set_cons_succ]
              refine wpAnyH_take (i := 15) (v := ?_) rfl (by kernel_rfl) (by kernel_rfl) (by kernel_rfl) (fun _ _ _ h => h) (Or.inl ⟨by rfl, ?_⟩) (by assumption) ?_
              rotate_left
              · intro w hSw
                try dsimp only at hSw
                go_simp
                try with_reducible rfl
              try simp only [Act.put, List.getElem_toArray, List.getElem_cons_succ, List.getElem_cons_zero, List.setIfInBounds_toArray, List.set_cons_zero, List.set_cons_succ]
              refine wpAnyH_take (i := 16) (v := ?_) rfl (by kernel_rfl) (by kernel_rfl) (by kernel_rfl) (fun _ _ _ h => h) (Or.inl ⟨by rfl, ?_⟩) (by assumption) ?_
              rotate_left
              · intro w hSw
                try dsimp only at hSw
                go_simp
                try with_reducible rfl
              try simp only [Act.put, List.getElem_toArray, List.getElem_cons_succ, List.getElem_cons_zero, List.setIfInBounds_toArray, List.set_cons_zero, List.set_cons_succ]
              refine wpAnyH_take (i := 17) (v := ?_) rfl (by kernel_rfl) (by kernel_rfl) (by kernel_rfl) (fun _ _ _ h => h) (Or.inl ⟨by rfl, ?_⟩) (by assumption) ?_
              rotate_left
              · intro w hSw
                try dsimp only at hSw
                go_simp
                try with_reducible rfl
              try simp only [Act.put, List.getElem_toArray, List.getElem_cons_succ, List.getElem_cons_zero, List.setIfInBounds_toArray, List.set_cons_zero, List.set_cons_succ]
              refine wpAnyH_take (i := 18) (v := ?_) rfl (by kernel_rfl) (by kernel_rfl) (by kernel_rfl) (fun _ _ _ h => h) (Or.inl ⟨by rfl, ?_⟩) (by assumption) ?_
              rotate_left
              · intro w hSw
                try dsimp only at hSw
                go_simp
                try with_reducible rfl
              try simp only [Act.put, List.getElem_toArray, List.getElem_cons_succ, List.getElem_cons_zero, List.setIfInBounds_toArray, List.set_cons_zero, List.set_cons_succ]
              refine wpAnyH_take (i := 19) (v := ?_) rfl (by kernel_rfl) (by kernel_rfl) (by kernel_rfl) (fun _ _ _ h => h) (Or.inl ⟨by rfl, ?_⟩) (by assumption) ?_
              rotate_left
              · intro w hSw
                try dsimp only at hSw
                go_simp
                try with_reducible rfl
              try simp only [Act.put, List.getElem_toArray, List.getElem_cons_succ, List.getElem_cons_zero, List.setIfInBounds_toArray, List.set_cons_zero, List.set_cons_succ]
              refine wpAnyH_ready (rs := [20]) (by kernel_rfl) (by simp) ?_
              refine AllReadyH.cons rfl (fun K hK => ?_) AllReadyH.nil
              rw [if_pos (by rfl)]
              go_wp2_with fail
              refine (rin_any yk ⟨xk, xe, xw⟩ _).mono ?_
              rintro e wB ⟨rfl, hbB⟩
              rw [h2]
              refine hK.out _ _ ⟨by rw [hbB.cell (p := ⟨b1, i * 3, none⟩) q1]; exact kc0, by rw [hbB.cell (p := ⟨b1, i * 3 + 1, none⟩) q1]; exact kc1, by rw [hbB.cell (p := ⟨b1, i * 3 + 2, none⟩) q1]; exact kc2, by rw [hbB.cell (p := ⟨b2, j * 3, none⟩) q2]; exact kd0, by rw [hbB.cell (p := ⟨b2, j * 3 + 1, none⟩) q2]; exact kd1, by rw [hbB.cell (p := ⟨b2, j * 3 + 2, none⟩) q2]; exact kd2⟩ (fun hHeld => ?_)
              clear hK K
              try simp only [Act.put, List.getElem_toArray, List.getElem_cons_succ, List.getElem_cons_zero, List.setIfInBounds_toArray, List.set_cons_zero, List.set_cons_succ]
              refine wpAnyH_take (i := 21) (v := ?_) rfl (by kernel_rfl) (by kernel_rfl) (by kernel_rfl) (fun _ _ _ h => h) (Or.inl ⟨by rfl, ?_⟩) (by assumption) ?_
              rotate_left
              · intro w hSw
                try dsimp only at hSw
                go_simp
                try with_reducible rfl
              try simp only [Act.put, List.getElem_toArray, List.getElem_cons_succ, List.getElem_cons_zero, List.setIfInBounds_toArray, List.set_cons_zero, List.set_cons_succ]
              refine wpAnyH_take (i := 22) (v := ?_) rfl (by kernel_rfl) (by kernel_rfl) (by kernel_rfl) (fun _ _ _ h => h) (Or.inl ⟨by rfl, ?_⟩) (by assumption) ?_
              rotate_left
              · intro w hSw
                try dsimp only at hSw
                go_simp
                try with_reducible rfl
              try simp only [Act.put, List.getElem_toArray, List.getElem_cons_succ, List.getElem_cons_zero, List.setIfInBounds_toArray, List.set_cons_zero, List.set_cons_succ]
              refine wpAnyH_done (by kernel_rfl) ?_ _
              refine NoPanic.normal ?_
              have hbC : Below wr.heap.size wr wB := ((Below.refl wr.heap.size wr).drew.trans hbA).trans (hbB.mono hbA.size)
              have C9 : Hid (Below wr.heap.size wr wB) := hbC
              have B9 : Hid (Below w2.heap.size w2 wB) := HW.out.trans (C9.out.mono HWs)
              have k2 : wB.cell? ⟨b1, i * 3 + 2, none⟩ = some (.bool xw) := by rw [C9.out.cell (p := ⟨b1, i * 3 + 2, none⟩) g1]; exact c2
              have l2 : wB.cell? ⟨b2, j * 3 + 2, none⟩ = some (.bool yw) := by rw [C9.out.cell (p := ⟨b2, j * 3 + 2, none⟩) g2]; exact d2
              cases hw : (xw || yw) with
              | true =>
                have HH : Hid (clashB A C = true) := hit_clash (by rw [hna.out]; exact hlt) (by rw [hnc.out]; exact hlt2) (by rw [hXY.out]; simp [rhitB, h1, h2, hw])
                have hor : xw = true ∨ (xw = false ∧ yw = true) := by cases xw <;> simp_all
                clear hw h1 h2 c0 c1 c2 d0 d1 d2
                rcases hor with rfl | ⟨rfl, rfl⟩
                all_goals
                  go_wp2
                  go_ret
                  exact ⟨by rw [HH.out]; rfl, B2.out.trans (B9.out.mono hle)⟩
              | false =>
                have HN : Hid ((C.take (j + 1)).any (hitB (A.getD i tZ)) = false) := take_any (by rw [hnc.out]; exact hlt2) HG.out (by rw [hXY.out]; simp [rhitB, hw])
                obtain ⟨rfl, rfl⟩ : xw = false ∧ yw = false := by simpa using hw
                clear hw h1 h2 c0 c1 c2 d0 d1 d2
                go_wp2
                go_roundw
                case rel => exact ⟨j + 1, by go_num, by omega, HN, B9⟩
                case measure => simp [intOf]; omega
            | false =>
              go_wp2
              refine wp_region_noPanic ?_
              refine wp_region_held_drew (S := (fun w' => w'.cell? ⟨b1, i * 3, none⟩ = some (.string xk) ∧ w'.cell? ⟨b1, i * 3 + 1, none⟩ = some (.string xe) ∧ w'.cell? ⟨b1, i * 3 + 2, none⟩ = some (.bool xw) ∧ w'.cell? ⟨b2, j * 3, none⟩ = some (.string yk) ∧ w'.cell? ⟨b2, j * 3 + 1, none⟩ = some (.string ye) ∧ w'.cell? ⟨b2, j * 3 + 2, none⟩ = some (.bool yw))) (by kernel_rfl) ⟨c0, c1, c2, d0, d1, d2⟩ (fun hHeld => ?_)
              refine wpAnyH_take (i := 0) (v := ?_) rfl (by kernel_rfl) (by kernel_rfl) (by kernel_rfl) (fun _ _ _ h => h) (Or.inl ⟨by rfl, ?_⟩) (by assumption) ?_
              rotate_left
              · intro w hSw
                try dsimp only at hSw
                go_simp
                try with_reducible rfl
              try simp only [Act.put, List.getElem_toArray, List.getElem_cons_zero, List.setIfInBounds_toArray, List.set_cons_zero, List.set_cons_succ]
              refine wpAnyH_take (i := 1) (v := ?_) rfl (by kernel_rfl) (by kernel_rfl) (by kernel_rfl) (fun _ _ _ h => h) (Or.inl ⟨by rfl, ?_⟩) (by assumption) ?_
              rotate_left
              · intro w hSw
                try dsimp only at hSw
                go_simp
                try with_reducible rfl
              try simp only [Act.put, List.getElem_toArray, List.getElem_cons_succ, List.getElem_cons_zero, List.setIfInBounds_toArray, List.set_cons_zero, List.set_cons_succ]
              refine wpAnyH_take (i := 2) (v := ?_) rfl (by kernel_rfl) (by kernel_rfl) (by kernel_rfl) (fun _ _ _ h => h) (Or.inl ⟨by rfl, ?_⟩) (by assumption) ?_
              rotate_left
              · intro w hSw
                try dsimp only at hSw
                go_simp
                try with_reducible rfl
              try simp only [Act.put, List.getElem_toArray, List.getElem_cons_succ, List.getElem_cons_zero, List.setIfInBounds_toArray, List.set_cons_zero, List.set_cons_succ]
              refine wpAnyH_take (i := 3) (v := ?_) rfl (by kernel_rfl) (by kernel_rfl) (by kernel_rfl) (fun _ _ _ h => h) (Or.inl ⟨by rfl, ?_⟩) (by assumption) ?_
              rotate_left
              · intro w hSw
                try dsimp only at hSw
                go_simp
                try with_reducible rfl
              try simp only [Act.put, List.getElem_toArray, List.getElem_cons_succ, List.getElem_cons_zero, List.setIfInBounds_toArray, List.set_cons_zero, List.set_cons_succ]
              refine wpAnyH_take (i := 4) (v := ?_) rfl (by kernel_rfl) (by kernel_rfl) (by kernel_rfl) (fun _ _ _ h => h) (Or.inl ⟨by rfl, ?_⟩) (by assumption) ?_
              rotate_left
              · intro w hSw
                try dsimp only at hSw
                go_simp
                try with_reducible rfl
              try simp only [Act.put, List.getElem_toArray, List.getElem_cons_succ, List.getElem_cons_zero, List.setIfInBounds_toArray, List.set_cons_zero, List.set_cons_succ]
              refine wpAnyH_take (i := 5) (v := ?_) rfl (by kernel_rfl) (by kernel_rfl) (by kernel_rfl) (fun _ _ _ h => h) (Or.inl ⟨by rfl, ?_⟩) (by assumption) ?_
              rotate_left
              · intro w hSw
                try dsimp only at hSw
                go_simp
                try with_reducible rfl
              try simp only [Act.put, List.getElem_toArray, List.getElem_cons_succ, List.getElem_cons_zero, List.setIfInBounds_toArray, List.set_cons_zero, List.set_cons_succ]
              refine wpAnyH_take (i := 6) (v := ?_) rfl (by kernel_rfl) (by kernel_rfl) (by kernel_rfl) (fun _ _ _ h => h) (Or.inl ⟨by rfl, ?_⟩) (by assumption) ?_
              rotate_left
              · intro w hSw
                try dsimp only at hSw
                go_simp
                try with_reducible rfl
              try simp only [Act.put, List.getElem_toArray, List.getElem_cons_succ, List.getElem_cons_zero, List.setIfInBounds_toArray, List.set_cons_zero, List.set_cons_succ]
              refine wpAnyH_take (i := 7) (v := ?_) rfl (by kernel_rfl) (by kernel_rfl) (by kernel_rfl) (fun _ _ _ h => h) (Or.inl ⟨by rfl, ?_⟩) (by assumption) ?_
              rotate_left
              · intro w hSw
                try dsimp only at hSw
                go_simp
                try with_reducible rfl
              try simp only [Act.put, List.getElem_toArray, List.getElem_cons_succ, List.getElem_cons_zero, List.setIfInBounds_toArray, List.set_cons_zero, List.set_cons_succ]
              refine wpAnyH_take (i := 8) (v := ?_) rfl (by kernel_rfl) (by kernel_rfl) (by kernel_rfl) (fun _ _ _ h => h) (Or.inl ⟨by rfl, ?_⟩) (by assumption) ?_
              rotate_left
              · intro w hSw
                try dsimp only at hSw
                go_simp
                try with_reducible rfl
              try simp only [Act.put, List.getElem_toArray, List.getElem_cons_succ, List.getElem_cons_zero, List.setIfInBounds_toArray, List.set_cons_zero, List.set_cons_succ]
              refine wpAnyH_ready (rs := [9]) (by kernel_rfl) (by simp) ?_
              refine AllReadyH.cons rfl (fun K hK => ?_) AllReadyH.nil
              rw [if_pos (by rfl)]
              go_wp2_with fail
              refine (rin_any xk ⟨yk, ye, yw⟩ _).mono ?_
              rintro e wA ⟨rfl, hbA⟩
              rw [h1]
              have kc0 : wA.cell? ⟨b1, i * 3, none⟩ = some (.string xk) := (by rw [hbA.cell (p := ⟨b1, i * 3, none⟩) g1]; exact c0)
              have kc1 : wA.cell? ⟨b1, i * 3 + 1, none⟩ = some (.string xe) := (by rw [hbA.cell (p := ⟨b1, i * 3 + 1, none⟩) g1]; exact c1)
              have kc2 : wA.cell? ⟨b1, i * 3 + 2, none⟩ = some (.bool xw) := (by rw [hbA.cell (p := ⟨b1, i * 3 + 2, none⟩) g1]; exact c2)
              have kd0 : wA.cell? ⟨b2, j * 3, none⟩ = some (.string yk) := (by rw [hbA.cell (p := ⟨b2, j * 3, none⟩) g2]; exact d0)
              have kd1 : wA.cell? ⟨b2, j * 3 + 1, none⟩ = some (.string ye) := (by rw [hbA.cell (p := ⟨b2, j * 3 + 1, none⟩) g2]; exact d1)
              have kd2 : wA.cell? ⟨b2, j * 3 + 2, none⟩ = some (.bool yw) := (by rw [hbA.cell (p := ⟨b2, j * 3 + 2, none⟩) g2]; exact d2)
              have q1 : b1 < wA.heap.size := cell_lt kc0
              have q2 : b2 < wA.heap.size := cell_lt kd0
              refine hK.out _ _ ⟨kc0, kc1, kc2, kd0, kd1, kd2⟩ (fun hHeld => ?_)
              clear hK K
              try simp only [Act.put, List.getElem_toArray, List.getElem_cons_succ, List.getElem_cons_zero, List.setIfInBounds_toArray, List.set_cons_zero, List.set_cons_succ]
              refine wpAnyH_take (i := 10) (v := ?_) rfl (by kernel_rfl) (by kernel_rfl) (by kernel_rfl) (fun _ _ _ h => h) (Or.inl ⟨by rfl, ?_⟩) (by assumption) ?_
              rotate_left
              · intro w hSw
                try dsimp only at hSw
                go_simp
                try with_reducible rfl
              try simp only [Act.put, List.getElem_toArray, List.getElem_cons_succ, List.getElem_cons_zero, List.setIfInBounds_toArray, List.set_cons_zero, List.set_cons_succ]
              refine wpAnyH_take (i := 11) (v := ?_) rfl (by kernel_rfl) (by kernel_rfl) (by kernel_rfl) (fun _ _ _ h => h) (Or.inl ⟨by rfl, ?_⟩) (by assumption) ?_
              rotate_left
              · intro w hSw
                try dsimp only at hSw
                go_simp
                try with_reducible rfl
              try simp only [Act.put, List.getElem_toArray, List.getElem_cons_succ, List.getElem_cons_zero, List.setIfInBounds_toArray, List.set_cons_zero, List.set_cons_succ]
              refine wpAnyH_take (i := 12) (v := ?_) rfl (by kernel_rfl) (by kernel_rfl) (by kernel_rfl) (fun _ _ _ h => h) (Or.inl ⟨by rfl, ?_⟩) (by assumption) ?_
              rotate_left
              · intro w hSw
                try dsimp only at hSw
                go_simp
                try with_reducible rfl
              try simp only [Act.put, List.getElem_toArray, List.getElem_cons_succ, List.getElem_cons_zero, List.setIfInBounds_toArray, List.set_cons_zero, List.set_cons_succ]
              refine wpAnyH_take (i := 13) (v := ?_) rfl (by kernel_rfl) (by kernel_rfl) (by kernel_rfl) (fun _ _ _ h => h) (Or.inl ⟨by rfl, ?_⟩) (by assumption) ?_
              rotate_left
              · intro w hSw
                try dsimp only at hSw
                go_simp
                try with_reducible rfl
              try simp only [Act.put, List.getElem_toArray, List.getElem_cons_succ, List.getElem_cons_zero, List.setIfInBounds_toArray, List.set_cons_zero, List.set_cons_succ]
              refine wpAnyH_take (i := 14) (v := ?_) rfl (by kernel_rfl) (by kernel_rfl) (by kernel_rfl) (fun _ _ _ h => h) (Or.inl ⟨by rfl, ?_⟩) (by assumption) ?_
              rotate_left
              · intro w hSw
                try dsimp only at hSw
                go_simp
                try with_reducible rfl
              try simp only [Act.put, List.getElem_toArray, List.getElem_cons_succ, List.getElem_cons_zero, List.setIfInBounds_toArray, List.set_cons_zero, List.set_cons_succ]
              refine wpAnyH_take (i := 15) (v := ?_) rfl (by kernel_rfl) (by kernel_rfl) (by kernel_rfl) (fun _ _ _ h => h) (Or.inl ⟨by rfl, ?_⟩) (by assumption) ?_
              rotate_left
              · intro w hSw
                try dsimp only at hSw
                go_simp
                try with_reducible rfl
              try simp only [Act.put, List.getElem_toArray, List.getElem_cons_succ, List.getElem_cons_zero, List.setIfInBounds_toArray, List.set_cons_zero, List.set_cons_succ]
              refine wpAnyH_take (i := 16) (v := ?_) rfl (by kernel_rfl) (by kernel_rfl) (by kernel_rfl) (fun _ _ _ h => h) (Or.inl ⟨by rfl, ?_⟩) (by assumption) ?_
              rotate_left
              · intro w hSw
                try dsimp only at hSw
                go_simp
                try with_reducible rfl
              try simp only [Act.put, List.getElem_toArray, List.getElem_cons_succ, List.getElem_cons_zero, List.setIfInBounds_toArray, List.set_cons_zero, List.set_cons_succ]
              refine wpAnyH_take (i := 17) (v := ?_) rfl (by kernel_rfl) (by kernel_rfl) (by kernel_rfl) (fun _ _ _ h => h) (Or.inl ⟨by rfl, ?_⟩) (by assumption) ?_
              rotate_left
              · intro w hSw
                try dsimp only at hSw
                go_simp
                try with_reducible rfl
              try simp only [Act.put, List.getElem_toArray, List.getElem_cons_succ, List.getElem_cons_zero, List.setIfInBounds_toArray, List.set_cons_zero, List.set_cons_succ]
              refine wpAnyH_take (i := 18) (v := ?_) rfl (by kernel_rfl) (by kernel_rfl) (by kernel_rfl) (fun _ _ _ h => h) (Or.inl ⟨by rfl, ?_⟩) (by assumption) ?_
              rotate_left
              · intro w hSw
                try dsimp only at hSw
                go_simp
                try with_reducible rfl
              try simp only [Act.put, List.getElem_toArray, List.getElem_cons_succ, List.getElem_cons_zero, List.setIfInBounds_toArray, List.set_cons_zero, List.set_cons_succ]
              refine wpAnyH_take (i := 19) (v := ?_) rfl (by kernel_rfl) (by kernel_rfl) (by kernel_rfl) (fun _ _ _ h => h) (Or.inl ⟨by rfl, ?_⟩) (by assumption) ?_
              rotate_left
              · intro w hSw
                try dsimp only at hSw
                go_simp
                try with_reducible rfl
              try simp only [Act.put, List.getElem_toArray, List.getElem_cons_succ, List.getElem_cons_zero, List.setIfInBounds_toArray, List.set_cons_zero, List.set_cons_succ]
              refine wpAnyH_ready (rs := [20]) (by kernel_rfl) (by simp) ?_
              refine AllReadyH.cons rfl (fun K hK => ?_) AllReadyH.nil
              rw [if_pos (by rfl)]
              go_wp2_with fail
              refine (rin_any yk ⟨xk, xe, xw⟩ _).mono ?_
              rintro e wB ⟨rfl, hbB⟩
              rw [h2]
              refine hK.out _ _ ⟨by rw [hbB.cell (p := ⟨b1, i * 3, none⟩) q1]; exact kc0, by rw [hbB.cell (p := ⟨b1, i * 3 + 1, none⟩) q1]; exact kc1, by rw [hbB.cell (p := ⟨b1, i * 3 + 2, none⟩) q1]; exact kc2, by rw [hbB.cell (p := ⟨b2, j * 3, none⟩) q2]; exact kd0, by rw [hbB.cell (p := ⟨b2, j * 3 + 1, none⟩) q2]; exact kd1, by rw [hbB.cell (p := ⟨b2, j * 3 + 2, none⟩) q2]; exact kd2⟩ (fun hHeld => ?_)
              clear hK K
              try simp only [Act.put, List.getElem_toArray, List.getElem_cons_succ, List.getElem_cons_zero, List.setIfInBounds_toArray, List.set_cons_zero, List.set_cons_succ]
              refine wpAnyH_take (i := 21) (v := ?_) rfl (by kernel_rfl) (by kernel_rfl) (by kernel_rfl) (fun _ _ _ h => h) (Or.inl ⟨by rfl, ?_⟩) (by assumption) ?_
              rotate_left
              · intro w hSw
                try dsimp only at hSw
                go_simp
                try with_reducible rfl
              try simp only [Act.put, List.getElem_toArray, List.getElem_cons_succ, List.getElem_cons_zero, List.setIfInBounds_toArray, List.set_cons_zero, List.set_cons_succ]
              refine wpAnyH_take (i := 22) (v := ?_) rfl (by kernel_rfl) (by kernel_rfl) (by kernel_rfl) (fun _ _ _ h => h) (Or.inl ⟨by rfl, ?_⟩) (by assumption) ?_
              rotate_left
              · intro w hSw
                try dsimp only at hSw
                go_simp
                try with_reducible rfl
              try simp only [Act.put, List.getElem_toArray, List.getElem_cons_succ, List.getElem_cons_zero, List.setIfInBounds_toArray, List.set_cons_zero, List.set_cons_succ]
              refine wpAnyH_done (by kernel_rfl) ?_ _
              refine NoPanic.normal ?_
              have hbC : Below wr.heap.size wr wB := ((Below.refl wr.heap.size wr).drew.trans hbA).trans (hbB.mono hbA.size)
              have HN : Hid ((C.take (j + 1)).any (hitB (A.getD i tZ)) = false) := take_any (by rw [hnc.out]; exact hlt2) HG.out (by rw [hXY.out]; simp [rhitB, h1, h2])
              have B9 : Hid (Below w2.heap.size w2 wB) := HW.out.trans (hbC.mono HWs)
              clear h1 h2 c0 c1 c2 d0 d1 d2
              go_wp2
              go_roundw
              case rel => exact ⟨j + 1, by go_num, by omega, HN, B9⟩
              case measure => simp [intOf]; omega
        · have HN : Hid (clashB (A.take (i + 1)) C = false) := take_clash (by rw [hna.out]; exact hlt) HF.out (by have := HG.out; rwa [List.take_of_length_le (by rw [hnc.out]; omega)] at this)
          go_wp2
          go_roundw
          case rel => exact ⟨i + 1, by go_num, by omega, HN, HW⟩
          case measure => simp [intOf]; omega
    · go_wp2
      go_ret
      exact ⟨by have := HF.out; rw [List.take_of_length_le (by rw [hna.out]; omega)] at this; rw [this]; rfl, B2.out.trans (HB.out.mono hle)⟩
end Go.Proofs.Ytahaecnopeffhaa
