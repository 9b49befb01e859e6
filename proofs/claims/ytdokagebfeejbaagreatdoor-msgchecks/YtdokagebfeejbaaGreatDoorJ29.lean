/- Texts of the proof, joined. -/
import Derived.Test.YtdokagebfeejbaaGreatDoorJ28
import Derived.Test.YtdokagebfeejbaaGreatDoorJ13
/- The contract of the document's own Check. -/
namespace Go.Proofs.YtdokagebfeejbaaGreatDoor
open Go.RowKit Go.Wire1

theorem chk_ref {v : Int} {c : Cm} (hv : isVer v = true) (hk : isKd v c.kind = true) : chk v c = first0 [numR (hasF c.kind 0) c.client 65535 42, numR (hasF c.kind 1) c.req 1073741824 43, txtR (hasF c.kind 2) c.key 1 64 44, key2R c, txtR (hasF c.kind 4) c.val 0 (mostV v) 46, txtR (hasF c.kind 5) c.old 0 (mostV v) 47, nR c] := by
  rw [first0_eq v c]; simp [chk, hv, hk]

set_option maxHeartbeats 4000000 in
set_option maxRecDepth 100000 in
theorem rcheck_any (v : Int) (c : Cm) (w : World) :
    Calls Tryz.prog 33 #[.int .i64 v, .agg #[.int .i64 c.kind, .int .i64 c.client, .int .i64 c.req, .string c.key, .string c.key2, .string c.val, .string c.old, .int .i64 c.n]] w fun e w' => e = .returned (.int .i64 (chk v c : Nat)) ∧ Below w.heap.size w w' := by
  obtain ⟨V, hV⟩ : ∃ V, V = w.alloc (.cells #[.int .i64 c.kind, .int .i64 c.client, .int .i64 c.req, .string c.key, .string c.key2, .string c.val, .string c.old, .int .i64 c.n] 27) := ⟨_, rfl⟩
  obtain ⟨x0, x1, x2, x3, x4, x5, x6, x7⟩ := cbox_new w 27 c.kind c.client c.req c.key c.key2 c.val c.old c.n
  rw [← hV] at x0 x1 x2 x3 x4 x5 x6 x7
  have BV : Hid (Below w.heap.size w V) := by rw [hV]; exact (Below.refl _ _).alloc (Nat.le_refl _) _
  have hVs : w.heap.size ≤ V.heap.size := BV.out.size
  by_cases hv : v = 1 ∨ v = 2
  · have hver : isVer v = true := by rcases hv with rfl | rfl <;> rfl
    cases h2 : isKd v c.kind with
    | false =>
      have HR : Hid (chk v c = 41) := by simp [Hid, chk, hver, h2]
      have hkn : knownR v c.kind = false := by rw [known_eq hv, h2]
      have hvv : (v != 1) = false ∨ ((v != 1) = true ∧ (v != 2) = false) := by rcases hv with rfl | rfl <;> simp
      clear h2 hver hv
      rcases hvv with hvv | ⟨hvv, hvw⟩
      all_goals
        go_enter Tryz.func33, Tryz.ntmps33
        go_wp2_with fail
        rw [← hV]
        clear hV
        refine (rknown_any v c.kind _).mono ?_
        rintro e w1 ⟨rfl, rfl⟩
        rw [hkn]
        go_wp2
        go_ret
        exact ⟨by rw [HR.out]; rfl, BV.out⟩
    | true =>
      have HR := hide (chk_ref hver h2)
      have hkn : knownR v c.kind = true := by rw [known_eq hv, h2]
      have hvv : (v != 1) = false ∨ ((v != 1) = true ∧ (v != 2) = false) := by rcases hv with rfl | rfl <;> simp
      have hk9 : 0 ≤ c.kind ∧ c.kind < 9 := by simp only [isKd, Bool.and_eq_true, decide_eq_true_eq] at h2; exact ⟨h2.1, h2.2.1⟩
      have HH : Hid (∀ f, f < 7 → hasC (fldS c.kind) (letF.getD f 0) = hasF c.kind f) := fun f hf => has_letter hk9.1 hk9.2 hf
      clear h2 hver hv hk9
      rcases hvv with hvv | ⟨hvv, hvw⟩
      all_goals
        go_enter Tryz.func33, Tryz.ntmps33
        go_wp2_with fail
        rw [← hV]
        clear hV
        refine (rknown_any v c.kind _).mono ?_
        rintro e w1 ⟨rfl, rfl⟩
        rw [hkn]
        go_wp2
        go_region_held3 (fun w' => w'.cell? ⟨w.heap.size, 1, none⟩ = some (.int .i64 c.client)) (first | go_keep) (first | (go_at_call 47; refine (rhas_any c.kind _ _).mono ?_; rintro e w1 ⟨rfl, rfl⟩; rw [show hasC (fldS c.kind) 99 = hasF c.kind 0 from HH.out 0 (by omega)]) | (go_at_call 46; refine (rnumber_any (hasF c.kind 0) c.client 65535 42 _).mono ?_; rintro e w1 ⟨rfl, rfl⟩))
        obtain ⟨a0, e0⟩ : ∃ a, Hid (numR (hasF c.kind 0) c.client 65535 42 = a) := ⟨_, rfl⟩
        rw [e0.out]
        go_wp2
        go_region_held3 (fun w' => w'.cell? ⟨w.heap.size, 2, none⟩ = some (.int .i64 c.req)) (first | go_keep) (first | (go_at_call 47; refine (rhas_any c.kind _ _).mono ?_; rintro e w1 ⟨rfl, rfl⟩; rw [show hasC (fldS c.kind) 114 = hasF c.kind 1 from HH.out 1 (by omega)]) | (go_at_call 46; refine (rnumber_any (hasF c.kind 1) c.req 1073741824 43 _).mono ?_; rintro e w1 ⟨rfl, rfl⟩))
        obtain ⟨a1, e1⟩ : ∃ a, Hid (numR (hasF c.kind 1) c.req 1073741824 43 = a) := ⟨_, rfl⟩
        rw [e1.out]
        go_wp2
        go_region_held3 (fun w' => w'.cell? ⟨w.heap.size, 3, none⟩ = some (.string c.key)) (first | go_keep) (first | (go_at_call 47; refine (rhas_any c.kind _ _).mono ?_; rintro e w1 ⟨rfl, rfl⟩; rw [show hasC (fldS c.kind) 107 = hasF c.kind 2 from HH.out 2 (by omega)]) | (go_at_call 48; refine (rtext_any (hasF c.kind 2) c.key 1 64 44 _).mono ?_; rintro e w1 ⟨rfl, rfl⟩))
        obtain ⟨a2, e2⟩ : ∃ a, Hid (txtR (hasF c.kind 2) c.key 1 64 44 = a) := ⟨_, rfl⟩
        rw [e2.out]
        go_wp2
        go_region_held3 (fun w' => w'.cell? ⟨w.heap.size, 4, none⟩ = some (.string c.key2)) (first | go_keep) (first | (go_at_call 47; refine (rhas_any c.kind _ _).mono ?_; rintro e w1 ⟨rfl, rfl⟩; rw [show hasC (fldS c.kind) 106 = hasF c.kind 3 from HH.out 3 (by omega)]) | (go_at_call 48; refine (rtext_any (hasF c.kind 3) c.key2 1 64 45 _).mono ?_; rintro e w1 ⟨rfl, rfl⟩))
        obtain ⟨a3, e3⟩ : ∃ a, Hid (txtR (hasF c.kind 3) c.key2 1 64 45 = a) := ⟨_, rfl⟩
        rw [e3.out]
        obtain ⟨a7, e7⟩ : ∃ a, Hid (key2R c = a) := ⟨_, rfl⟩
        by_cases z3 : a3 = 0
        · cases h3 : hasF c.kind 3 with
          | false =>
            have k7 : Hid (a7 = 0) := by rw [← e7.out]; unfold key2R; rw [e3.out, h3, z3]; simp [Hid]
            rw [z3]
            go_wp2_with fail
            refine (rhas_any c.kind _ _).mono ?_
            rintro e w1 ⟨rfl, rfl⟩
            rw [show hasC (fldS c.kind) 106 = hasF c.kind 3 from HH.out 3 (by omega), h3]
            clear h3 z3
            rw [k7.out] at e7
            go_wp2
            go_region_held3 (fun w' => w'.cell? ⟨w.heap.size, 5, none⟩ = some (.string c.val)) (first | go_keep) (first | (go_at_call 47; refine (rhas_any c.kind _ _).mono ?_; rintro e w1 ⟨rfl, rfl⟩; rw [show hasC (fldS c.kind) 118 = hasF c.kind 4 from HH.out 4 (by omega)]) | (go_at_call 50; refine (rmost_any v _).mono ?_; rintro e w1 ⟨rfl, rfl⟩) | (go_at_call 48; refine (rtext_any (hasF c.kind 4) c.val 0 (mostV v) 46 _).mono ?_; rintro e w1 ⟨rfl, rfl⟩))
            obtain ⟨a4, e4⟩ : ∃ a, Hid (txtR (hasF c.kind 4) c.val 0 (mostV v) 46 = a) := ⟨_, rfl⟩
            rw [e4.out]
            go_wp2
            go_region_held3 (fun w' => w'.cell? ⟨w.heap.size, 6, none⟩ = some (.string c.old)) (first | go_keep) (first | (go_at_call 47; refine (rhas_any c.kind _ _).mono ?_; rintro e w1 ⟨rfl, rfl⟩; rw [show hasC (fldS c.kind) 111 = hasF c.kind 5 from HH.out 5 (by omega)]) | (go_at_call 50; refine (rmost_any v _).mono ?_; rintro e w1 ⟨rfl, rfl⟩) | (go_at_call 48; refine (rtext_any (hasF c.kind 5) c.old 0 (mostV v) 47 _).mono ?_; rintro e w1 ⟨rfl, rfl⟩))
            obtain ⟨a5, e5⟩ : ∃ a, Hid (txtR (hasF c.kind 5) c.old 0 (mostV v) 47 = a) := ⟨_, rfl⟩
            rw [e5.out]
            obtain ⟨a6, e6⟩ : ∃ a, Hid (nR c = a) := ⟨_, rfl⟩
            rw [e0.out, e1.out, e2.out, e7.out, e4.out, e5.out, e6.out] at HR
            by_cases hn : c.n = 0
            · have e8 : Hid (a6 = 0) := by rw [← e6.out]; simp [Hid, nR, hn]
              rw [hn] at x7
              go_wp2_with fail
              refine (rfirst_any _ _ [a0, a1, a2, 0, a4, a5, 0] 7 _ rfl (by omega) ?_).mono ?_
              · intro i hi
                rcases (by omega : i = 0 ∨ i = 1 ∨ i = 2 ∨ i = 3 ∨ i = 4 ∨ i = 5 ∨ i = 6) with rfl | rfl | rfl | rfl | rfl | rfl | rfl <;> simp [go_sem]
              rintro e w1 ⟨rfl, rfl⟩
              go_wp2
              go_ret
              exact ⟨by rw [HR.out, e8.out]; rfl, (BV.out.drew.drew.drew.drew.drew.drew).alloc (by exact hVs) _⟩
            · have gn : (c.n != 0) = true := by simpa using hn
              cases h6 : hasF c.kind 6 with
              | true =>
                have e8 : Hid (a6 = 0) := by rw [← e6.out]; simp [Hid, nR, h6]
                go_wp2_with fail
                refine (rhas_any c.kind _ _).mono ?_
                rintro e w1 ⟨rfl, rfl⟩
                rw [show hasC (fldS c.kind) 110 = hasF c.kind 6 from HH.out 6 (by omega), h6]
                go_wp2_with fail
                refine (rfirst_any _ _ [a0, a1, a2, 0, a4, a5, 0] 7 _ rfl (by omega) ?_).mono ?_
                · intro i hi
                  rcases (by omega : i = 0 ∨ i = 1 ∨ i = 2 ∨ i = 3 ∨ i = 4 ∨ i = 5 ∨ i = 6) with rfl | rfl | rfl | rfl | rfl | rfl | rfl <;> simp [go_sem]
                rintro e w1 ⟨rfl, rfl⟩
                go_wp2
                go_ret
                exact ⟨by rw [HR.out, e8.out]; rfl, (BV.out.drew.drew.drew.drew.drew.drew).alloc (by exact hVs) _⟩
              | false =>
                have e8 : Hid (a6 = 48) := by rw [← e6.out]; simp [Hid, nR, hn, h6]
                go_wp2_with fail
                refine (rhas_any c.kind _ _).mono ?_
                rintro e w1 ⟨rfl, rfl⟩
                rw [show hasC (fldS c.kind) 110 = hasF c.kind 6 from HH.out 6 (by omega), h6]
                go_wp2_with fail
                refine (rfirst_any _ _ [a0, a1, a2, 0, a4, a5, 48] 7 _ rfl (by omega) ?_).mono ?_
                · intro i hi
                  rcases (by omega : i = 0 ∨ i = 1 ∨ i = 2 ∨ i = 3 ∨ i = 4 ∨ i = 5 ∨ i = 6) with rfl | rfl | rfl | rfl | rfl | rfl | rfl <;> simp [go_sem]
                rintro e w1 ⟨rfl, rfl⟩
                go_wp2
                go_ret
                exact ⟨by rw [HR.out, e8.out]; rfl, (BV.out.drew.drew.drew.drew.drew.drew).alloc (by exact hVs) _⟩
          | true =>
            cases hp : isPairB c.kind c.key c.key2 with
            | true =>
              have k7 : Hid (a7 = 0) := by rw [← e7.out]; unfold key2R; rw [e3.out, hp, z3]; simp [Hid]
              rw [z3]
              go_wp2_with fail
              refine (rhas_any c.kind _ _).mono ?_
              rintro e w1 ⟨rfl, rfl⟩
              rw [show hasC (fldS c.kind) 106 = hasF c.kind 3 from HH.out 3 (by omega), h3]
              go_wp2_with fail
              refine (rsecond_any c.kind c.key c.key2 _).mono ?_
              rintro e w1 ⟨rfl, rfl⟩
              rw [hp]
              clear h3 z3 hp
              rw [k7.out] at e7
              go_wp2
              go_region_held3 (fun w' => w'.cell? ⟨w.heap.size, 5, none⟩ = some (.string c.val)) (first | go_keep) (first | (go_at_call 47; refine (rhas_any c.kind _ _).mono ?_; rintro e w1 ⟨rfl, rfl⟩; rw [show hasC (fldS c.kind) 118 = hasF c.kind 4 from HH.out 4 (by omega)]) | (go_at_call 50; refine (rmost_any v _).mono ?_; rintro e w1 ⟨rfl, rfl⟩) | (go_at_call 48; refine (rtext_any (hasF c.kind 4) c.val 0 (mostV v) 46 _).mono ?_; rintro e w1 ⟨rfl, rfl⟩))
              obtain ⟨a4, e4⟩ : ∃ a, Hid (txtR (hasF c.kind 4) c.val 0 (mostV v) 46 = a) := ⟨_, rfl⟩
              rw [e4.out]
              go_wp2
              go_region_held3 (fun w' => w'.cell? ⟨w.heap.size, 6, none⟩ = some (.string c.old)) (first | go_keep) (first | (go_at_call 47; refine (rhas_any c.kind _ _).mono ?_; rintro e w1 ⟨rfl, rfl⟩; rw [show hasC (fldS c.kind) 111 = hasF c.kind 5 from HH.out 5 (by omega)]) | (go_at_call 50; refine (rmost_any v _).mono ?_; rintro e w1 ⟨rfl, rfl⟩) | (go_at_call 48; refine (rtext_any (hasF c.kind 5) c.old 0 (mostV v) 47 _).mono ?_; rintro e w1 ⟨rfl, rfl⟩))
              obtain ⟨a5, e5⟩ : ∃ a, Hid (txtR (hasF c.kind 5) c.old 0 (mostV v) 47 = a) := ⟨_, rfl⟩
              rw [e5.out]
              obtain ⟨a6, e6⟩ : ∃ a, Hid (nR c = a) := ⟨_, rfl⟩
              rw [e0.out, e1.out, e2.out, e7.out, e4.out, e5.out, e6.out] at HR
              by_cases hn : c.n = 0
              · have e8 : Hid (a6 = 0) := by rw [← e6.out]; simp [Hid, nR, hn]
                rw [hn] at x7
                go_wp2_with fail
                refine (rfirst_any _ _ [a0, a1, a2, 0, a4, a5, 0] 7 _ rfl (by omega) ?_).mono ?_
                · intro i hi
                  rcases (by omega : i = 0 ∨ i = 1 ∨ i = 2 ∨ i = 3 ∨ i = 4 ∨ i = 5 ∨ i = 6) with rfl | rfl | rfl | rfl | rfl | rfl | rfl <;> simp [go_sem]
                rintro e w1 ⟨rfl, rfl⟩
                go_wp2
                go_ret
                exact ⟨by rw [HR.out, e8.out]; rfl, (BV.out.drew.drew.drew.drew.drew.drew).alloc (by exact hVs) _⟩
              · have gn : (c.n != 0) = true := by simpa using hn
                cases h6 : hasF c.kind 6 with
                | true =>
                  have e8 : Hid (a6 = 0) := by rw [← e6.out]; simp [Hid, nR, h6]
                  go_wp2_with fail
                  refine (rhas_any c.kind _ _).mono ?_
                  rintro e w1 ⟨rfl, rfl⟩
                  rw [show hasC (fldS c.kind) 110 = hasF c.kind 6 from HH.out 6 (by omega), h6]
                  go_wp2_with fail
                  refine (rfirst_any _ _ [a0, a1, a2, 0, a4, a5, 0] 7 _ rfl (by omega) ?_).mono ?_
                  · intro i hi
                    rcases (by omega : i = 0 ∨ i = 1 ∨ i = 2 ∨ i = 3 ∨ i = 4 ∨ i = 5 ∨ i = 6) with rfl | rfl | rfl | rfl | rfl | rfl | rfl <;> simp [go_sem]
                  rintro e w1 ⟨rfl, rfl⟩
                  go_wp2
                  go_ret
                  exact ⟨by rw [HR.out, e8.out]; rfl, (BV.out.drew.drew.drew.drew.drew.drew).alloc (by exact hVs) _⟩
                | false =>
                  have e8 : Hid (a6 = 48) := by rw [← e6.out]; simp [Hid, nR, hn, h6]
                  go_wp2_with fail
                  refine (rhas_any c.kind _ _).mono ?_
                  rintro e w1 ⟨rfl, rfl⟩
                  rw [show hasC (fldS c.kind) 110 = hasF c.kind 6 from HH.out 6 (by omega), h6]
                  go_wp2_with fail
                  refine (rfirst_any _ _ [a0, a1, a2, 0, a4, a5, 48] 7 _ rfl (by omega) ?_).mono ?_
                  · intro i hi
                    rcases (by omega : i = 0 ∨ i = 1 ∨ i = 2 ∨ i = 3 ∨ i = 4 ∨ i = 5 ∨ i = 6) with rfl | rfl | rfl | rfl | rfl | rfl | rfl <;> simp [go_sem]
                  rintro e w1 ⟨rfl, rfl⟩
                  go_wp2
                  go_ret
                  exact ⟨by rw [HR.out, e8.out]; rfl, (BV.out.drew.drew.drew.drew.drew.drew).alloc (by exact hVs) _⟩
            | false =>
              have k7 : Hid (a7 = 45) := by rw [← e7.out]; unfold key2R; rw [e3.out, hp, z3, h3]; simp [Hid]
              rw [z3]
              go_wp2_with fail
              refine (rhas_any c.kind _ _).mono ?_
              rintro e w1 ⟨rfl, rfl⟩
              rw [show hasC (fldS c.kind) 106 = hasF c.kind 3 from HH.out 3 (by omega), h3]
              go_wp2_with fail
              refine (rsecond_any c.kind c.key c.key2 _).mono ?_
              rintro e w1 ⟨rfl, rfl⟩
              rw [hp]
              clear h3 z3 hp
              rw [k7.out] at e7
              go_wp2
              go_region_held3 (fun w' => w'.cell? ⟨w.heap.size, 5, none⟩ = some (.string c.val)) (first | go_keep) (first | (go_at_call 47; refine (rhas_any c.kind _ _).mono ?_; rintro e w1 ⟨rfl, rfl⟩; rw [show hasC (fldS c.kind) 118 = hasF c.kind 4 from HH.out 4 (by omega)]) | (go_at_call 50; refine (rmost_any v _).mono ?_; rintro e w1 ⟨rfl, rfl⟩) | (go_at_call 48; refine (rtext_any (hasF c.kind 4) c.val 0 (mostV v) 46 _).mono ?_; rintro e w1 ⟨rfl, rfl⟩))
              obtain ⟨a4, e4⟩ : ∃ a, Hid (txtR (hasF c.kind 4) c.val 0 (mostV v) 46 = a) := ⟨_, rfl⟩
              rw [e4.out]
              go_wp2
              go_region_held3 (fun w' => w'.cell? ⟨w.heap.size, 6, none⟩ = some (.string c.old)) (first | go_keep) (first | (go_at_call 47; refine (rhas_any c.kind _ _).mono ?_; rintro e w1 ⟨rfl, rfl⟩; rw [show hasC (fldS c.kind) 111 = hasF c.kind 5 from HH.out 5 (by omega)]) | (go_at_call 50; refine (rmost_any v _).mono ?_; rintro e w1 ⟨rfl, rfl⟩) | (go_at_call 48; refine (rtext_any (hasF c.kind 5) c.old 0 (mostV v) 47 _).mono ?_; rintro e w1 ⟨rfl, rfl⟩))
              obtain ⟨a5, e5⟩ : ∃ a, Hid (txtR (hasF c.kind 5) c.old 0 (mostV v) 47 = a) := ⟨_, rfl⟩
              rw [e5.out]
              obtain ⟨a6, e6⟩ : ∃ a, Hid (nR c = a) := ⟨_, rfl⟩
              rw [e0.out, e1.out, e2.out, e7.out, e4.out, e5.out, e6.out] at HR
              by_cases hn : c.n = 0
              · have e8 : Hid (a6 = 0) := by rw [← e6.out]; simp [Hid, nR, hn]
                rw [hn] at x7
                go_wp2_with fail
                refine (rfirst_any _ _ [a0, a1, a2, 45, a4, a5, 0] 7 _ rfl (by omega) ?_).mono ?_
                · intro i hi
                  rcases (by omega : i = 0 ∨ i = 1 ∨ i = 2 ∨ i = 3 ∨ i = 4 ∨ i = 5 ∨ i = 6) with rfl | rfl | rfl | rfl | rfl | rfl | rfl <;> simp [go_sem]
                rintro e w1 ⟨rfl, rfl⟩
                go_wp2
                go_ret
                exact ⟨by rw [HR.out, e8.out]; rfl, (BV.out.drew.drew.drew.drew.drew.drew).alloc (by exact hVs) _⟩
              · have gn : (c.n != 0) = true := by simpa using hn
                cases h6 : hasF c.kind 6 with
                | true =>
                  have e8 : Hid (a6 = 0) := by rw [← e6.out]; simp [Hid, nR, h6]
                  go_wp2_with fail
                  refine (rhas_any c.kind _ _).mono ?_
                  rintro e w1 ⟨rfl, rfl⟩
                  rw [show hasC (fldS c.kind) 110 = hasF c.kind 6 from HH.out 6 (by omega), h6]
                  go_wp2_with fail
                  refine (rfirst_any _ _ [a0, a1, a2, 45, a4, a5, 0] 7 _ rfl (by omega) ?_).mono ?_
                  · intro i hi
                    rcases (by omega : i = 0 ∨ i = 1 ∨ i = 2 ∨ i = 3 ∨ i = 4 ∨ i = 5 ∨ i = 6) with rfl | rfl | rfl | rfl | rfl | rfl | rfl <;> simp [go_sem]
                  rintro e w1 ⟨rfl, rfl⟩
                  go_wp2
                  go_ret
                  exact ⟨by rw [HR.out, e8.out]; rfl, (BV.out.drew.drew.drew.drew.drew.drew).alloc (by exact hVs) _⟩
                | false =>
                  have e8 : Hid (a6 = 48) := by rw [← e6.out]; simp [Hid, nR, hn, h6]
                  go_wp2_with fail
                  refine (rhas_any c.kind _ _).mono ?_
                  rintro e w1 ⟨rfl, rfl⟩
                  rw [show hasC (fldS c.kind) 110 = hasF c.kind 6 from HH.out 6 (by omega), h6]
                  go_wp2_with fail
                  refine (rfirst_any _ _ [a0, a1, a2, 45, a4, a5, 48] 7 _ rfl (by omega) ?_).mono ?_
                  · intro i hi
                    rcases (by omega : i = 0 ∨ i = 1 ∨ i = 2 ∨ i = 3 ∨ i = 4 ∨ i = 5 ∨ i = 6) with rfl | rfl | rfl | rfl | rfl | rfl | rfl <;> simp [go_sem]
                  rintro e w1 ⟨rfl, rfl⟩
                  go_wp2
                  go_ret
                  exact ⟨by rw [HR.out, e8.out]; rfl, (BV.out.drew.drew.drew.drew.drew.drew).alloc (by exact hVs) _⟩
        · have k7 : Hid (a7 = a3) := by rw [← e7.out]; unfold key2R; rw [e3.out]; simp [Hid, z3]
          have g3 : ((a3 : Int) == 0) = false := by rw [beq_eq_false_iff_ne]; omega
          clear z3
          rw [k7.out] at e7
          go_wp2
          go_region_held3 (fun w' => w'.cell? ⟨w.heap.size, 5, none⟩ = some (.string c.val)) (first | go_keep) (first | (go_at_call 47; refine (rhas_any c.kind _ _).mono ?_; rintro e w1 ⟨rfl, rfl⟩; rw [show hasC (fldS c.kind) 118 = hasF c.kind 4 from HH.out 4 (by omega)]) | (go_at_call 50; refine (rmost_any v _).mono ?_; rintro e w1 ⟨rfl, rfl⟩) | (go_at_call 48; refine (rtext_any (hasF c.kind 4) c.val 0 (mostV v) 46 _).mono ?_; rintro e w1 ⟨rfl, rfl⟩))
          obtain ⟨a4, e4⟩ : ∃ a, Hid (txtR (hasF c.kind 4) c.val 0 (mostV v) 46 = a) := ⟨_, rfl⟩
          rw [e4.out]
          go_wp2
          go_region_held3 (fun w' => w'.cell? ⟨w.heap.size, 6, none⟩ = some (.string c.old)) (first | go_keep) (first | (go_at_call 47; refine (rhas_any c.kind _ _).mono ?_; rintro e w1 ⟨rfl, rfl⟩; rw [show hasC (fldS c.kind) 111 = hasF c.kind 5 from HH.out 5 (by omega)]) | (go_at_call 50; refine (rmost_any v _).mono ?_; rintro e w1 ⟨rfl, rfl⟩) | (go_at_call 48; refine (rtext_any (hasF c.kind 5) c.old 0 (mostV v) 47 _).mono ?_; rintro e w1 ⟨rfl, rfl⟩))
          obtain ⟨a5, e5⟩ : ∃ a, Hid (txtR (hasF c.kind 5) c.old 0 (mostV v) 47 = a) := ⟨_, rfl⟩
          rw [e5.out]
          obtain ⟨a6, e6⟩ : ∃ a, Hid (nR c = a) := ⟨_, rfl⟩
          rw [e0.out, e1.out, e2.out, e7.out, e4.out, e5.out, e6.out] at HR
          by_cases hn : c.n = 0
          · have e8 : Hid (a6 = 0) := by rw [← e6.out]; simp [Hid, nR, hn]
            rw [hn] at x7
            go_wp2_with fail
            refine (rfirst_any _ _ [a0, a1, a2, a3, a4, a5, 0] 7 _ rfl (by omega) ?_).mono ?_
            · intro i hi
              rcases (by omega : i = 0 ∨ i = 1 ∨ i = 2 ∨ i = 3 ∨ i = 4 ∨ i = 5 ∨ i = 6) with rfl | rfl | rfl | rfl | rfl | rfl | rfl <;> simp [go_sem]
            rintro e w1 ⟨rfl, rfl⟩
            go_wp2
            go_ret
            exact ⟨by rw [HR.out, e8.out]; rfl, (BV.out.drew.drew.drew.drew.drew.drew).alloc (by exact hVs) _⟩
          · have gn : (c.n != 0) = true := by simpa using hn
            cases h6 : hasF c.kind 6 with
            | true =>
              have e8 : Hid (a6 = 0) := by rw [← e6.out]; simp [Hid, nR, h6]
              go_wp2_with fail
              refine (rhas_any c.kind _ _).mono ?_
              rintro e w1 ⟨rfl, rfl⟩
              rw [show hasC (fldS c.kind) 110 = hasF c.kind 6 from HH.out 6 (by omega), h6]
              go_wp2_with fail
              refine (rfirst_any _ _ [a0, a1, a2, a3, a4, a5, 0] 7 _ rfl (by omega) ?_).mono ?_
              · intro i hi
                rcases (by omega : i = 0 ∨ i = 1 ∨ i = 2 ∨ i = 3 ∨ i = 4 ∨ i = 5 ∨ i = 6) with rfl | rfl | rfl | rfl | rfl | rfl | rfl <;> simp [go_sem]
              rintro e w1 ⟨rfl, rfl⟩
              go_wp2
              go_ret
              exact ⟨by rw [HR.out, e8.out]; rfl, (BV.out.drew.drew.drew.drew.drew.drew).alloc (by exact hVs) _⟩
            | false =>
              have e8 : Hid (a6 = 48) := by rw [← e6.out]; simp [Hid, nR, hn, h6]
              go_wp2_with fail
              refine (rhas_any c.kind _ _).mono ?_
              rintro e w1 ⟨rfl, rfl⟩
              rw [show hasC (fldS c.kind) 110 = hasF c.kind 6 from HH.out 6 (by omega), h6]
              go_wp2_with fail
              refine (rfirst_any _ _ [a0, a1, a2, a3, a4, a5, 48] 7 _ rfl (by omega) ?_).mono ?_
              · intro i hi
                rcases (by omega : i = 0 ∨ i = 1 ∨ i = 2 ∨ i = 3 ∨ i = 4 ∨ i = 5 ∨ i = 6) with rfl | rfl | rfl | rfl | rfl | rfl | rfl <;> simp [go_sem]
              rintro e w1 ⟨rfl, rfl⟩
              go_wp2
              go_ret
              exact ⟨by rw [HR.out, e8.out]; rfl, (BV.out.drew.drew.drew.drew.drew.drew).alloc (by exact hVs) _⟩
  · have HR : Hid (chk v c = 2) := by simp [Hid, chk, isVer]; omega
    have g1 : (v != 1) = true := by rw [bne_iff_ne]; omega
    have g2 : (v != 2) = true := by rw [bne_iff_ne]; omega
    clear hv
    go_enter Tryz.func33, Tryz.ntmps33
    go_wp2
    rw [← hV]
    go_ret
    exact ⟨by rw [HR.out]; rfl, BV.out⟩
end Go.Proofs.YtdokagebfeejbaaGreatDoor
