/- Texts of the proof, joined. -/
import Derived.Test.YtnogdjpbnhnmaaaGreatDoorJ08
/- The contract of package command's Check. -/
namespace Go.Proofs.YtnogdjpbnhnmaaaGreatDoor
open Go.RowKit Go.Wire1

theorem ver_cases {v : Int} (h : isVer v = true) : v = 1 ∨ v = 2 := by simpa [isVer] using h
theorem kd_lt {v kind : Int} (h : isKd v kind = true) : 0 ≤ kind ∧ kind < 9 := by
  simp only [isKd, Bool.and_eq_true, decide_eq_true_eq] at h
  exact ⟨h.1, h.2.1⟩

set_option maxHeartbeats 4000000 in
set_option maxRecDepth 100000 in
theorem check_any (v : Int) (c : Cm) (w : World) (hK : Knd w) (hk : c.key.size ≤ 140737488351232) (hk2 : c.key2.size ≤ 140737488351232) :
    Calls Tryz.prog 77 #[.int .i64 v, .agg #[.int .i64 c.kind, .int .i64 c.client, .int .i64 c.req, .string c.key, .string c.key2, .string c.val, .string c.old, .int .i64 c.n]] w fun e w' => e = .returned (.int .i64 (chk v c : Nat)) ∧ Below w.heap.size w w' := by
  obtain ⟨V, hV⟩ : ∃ V, V = w.alloc (.cells #[.int .i64 c.kind, .int .i64 c.client, .int .i64 c.req, .string c.key, .string c.key2, .string c.val, .string c.old, .int .i64 c.n] 28) := ⟨_, rfl⟩
  have X : Hid (CBox V w.heap.size c.kind c.client c.req c.key c.key2 c.val c.old c.n) := by rw [hV]; exact cbox_new w 28 _ _ _ _ _ _ _ _
  have BV : Hid (Below w.heap.size w V) := by rw [hV]; exact (Below.refl _ _).alloc (Nat.le_refl _) _
  have hVs : w.heap.size ≤ V.heap.size := BV.out.size
  have HK : Hid (Knd V) := hK.below BV.out (Nat.le_refl _)
  have x0 := X.out.1
  cases h1 : isVer v with
  | false =>
    have HR : Hid (chk v c = 2) := by simp [Hid, chk, h1]
    go_enter Tryz.func77, Tryz.ntmps77
    go_wp2_with fail
    rw [← hV]
    refine (isVersion_any v _).mono ?_
    rintro e w1 ⟨rfl, rfl⟩
    rw [h1]
    clear h1 hV x0
    go_wp2
    go_ret
    exact ⟨by rw [HR.out]; rfl, BV.out⟩
  | true =>
    have HV2 := hide (ver_cases h1)
    cases h2 : isKd v c.kind with
    | false =>
      have HR : Hid (chk v c = 41) := by simp [Hid, chk, h1, h2]
      go_enter Tryz.func77, Tryz.ntmps77
      go_wp2_with fail
      rw [← hV]
      refine (isVersion_any v _).mono ?_
      rintro e w1 ⟨rfl, rfl⟩
      rw [h1]
      clear h1 hV
      go_wp2_with fail
      refine (isKind_any v c.kind _ HK.out).mono ?_
      rintro e w1 ⟨rfl, rfl⟩
      rw [h2]
      clear h2 x0
      go_wp2
      go_ret
      exact ⟨by rw [HR.out]; rfl, BV.out⟩
    | true =>
      have HR : Hid (chk v c = firstF v c 7 0) := by simp [Hid, chk, h1, h2]
      obtain ⟨k0, k9⟩ := kd_lt h2
      obtain ⟨k, hkk⟩ := Int.eq_ofNat_of_zero_le k0
      have hk9 : k < 9 := by omega
      obtain ⟨hF, _⟩ := HK.out k hk9
      have hFl := fields_lt k
      have HH : Hid (∀ f, hasF c.kind f = (fieldsL.getD k 0).testBit f) := fun f => by unfold hasF; rw [hkk]; rfl
      generalize fieldsL.getD k 0 = F at *
      have hkk' : Hid (c.kind = (k : Int)) := hkk
      clear hkk k0 k9
      go_enter Tryz.func77, Tryz.ntmps77
      go_wp2_with fail
      rw [← hV]
      refine (isVersion_any v _).mono ?_
      rintro e w1 ⟨rfl, rfl⟩
      rw [h1]
      clear h1 hV
      go_wp2_with fail
      refine (isKind_any v c.kind _ HK.out).mono ?_
      rintro e w1 ⟨rfl, rfl⟩
      rw [h2]
      clear h2
      rw [hkk'.out] at x0
      go_wp2_with fail
      go_loopw [6] (fun x wr => ∃ f : Nat, x = .int .i64 (bitF f) ∧ f ≤ 7 ∧ Hid (firstF v c 7 0 = firstF v c (7 - f) f) ∧ Hid (Below V.heap.size V wr)) (fun x _ => 200 - (intOf x).toNat)
      case atStart => exact ⟨0, rfl, by omega, rfl, Below.refl _ _⟩
      case round =>
        obtain ⟨f, rfl, hf, HF, HB⟩ := hrel
        have hws := HB.out.size
        by_cases hf7 : f < 7
        · have hy : bitF f ≤ 64 ∧ 1 ≤ bitF f ∧ bitF (f + 1) = bitF f * 2 := by
            rcases (by omega : f = 0 ∨ f = 1 ∨ f = 2 ∨ f = 3 ∨ f = 4 ∨ f = 5 ∨ f = 6) with rfl | rfl | rfl | rfl | rfl | rfl | rfl <;> decide
          have hbt := bits_has F f hFl hf7
          rw [← HH.out f] at hbt
          obtain ⟨x0', x1, x2, x3, x4, x5, x6, x7⟩ := X.out.below HB.out (Nat.le_refl _)
          obtain ⟨y, hyy⟩ : ∃ y, Hid (bitF f = y) := ⟨_, rfl⟩
          have hy2 := hide hy.2.2
          obtain ⟨hy64, hy1, _⟩ := hy
          rw [hyy.out] at hbt hy64 hy1 ⊢
          have hne : (y == 0) = false := by rw [beq_eq_false_iff_ne]; omega
          cases hh : hasF c.kind f with
          | true =>
            rw [hh, if_pos rfl] at hbt
            go_wp2_with fail
            rw [← hyy.out]
            refine (isAllowed_any v c f _ hf7 hk hk2).mono ?_
            rintro e w5 ⟨rfl, hb5⟩
            rw [hyy.out]
            have B5 : Hid (Below V.heap.size V w5) := HB.out.trans (hb5.mono hws)
            cases ha : allowF v c f with
            | true =>
              have HN := hide (firstF_next hf7 HF.out (by simp [faultF, hh, ha]))
              clear hb5 hh ha
              go_wp2
              go_roundw
              case rel => exact ⟨f + 1, by rw [hy2.out, hyy.out], by omega, HN, B5⟩
              case measure => simp [intOf]; omega
            | false =>
              by_cases hf6 : f = 6
              · subst hf6; simp [allowF] at ha
              · have HN : Hid (chk v c = errF f) := by
                  rw [HR.out, firstF_hit hf7 HF.out (by simp [faultF, hh, ha, errF, hf6])]
                  simp [Hid, faultF, hh, ha]
                clear hb5 hh ha
                go_wp2_with fail
                rw [← hyy.out]
                refine (faultOf_any f _ hf7).mono ?_
                rintro e w6 ⟨rfl, rfl⟩
                go_wp2
                go_ret
                exact ⟨by rw [HN.out]; rfl, BV.out.trans (B5.out.mono hVs)⟩
          | false =>
            rw [hh] at hbt
            simp only [Bool.false_eq_true, if_false] at hbt
            go_wp2_with fail
            rw [← hyy.out]
            refine (isZero_any c f _ hf7).mono ?_
            rintro e w5 ⟨rfl, hb5⟩
            rw [hyy.out]
            have B5 : Hid (Below V.heap.size V w5) := HB.out.trans (hb5.mono hws)
            cases ha : zeroF c f with
            | true =>
              have HN := hide (firstF_next hf7 HF.out (by simp [faultF, hh, ha]))
              clear hb5 hh ha
              go_wp2
              go_roundw
              case rel => exact ⟨f + 1, by rw [hy2.out, hyy.out], by omega, HN, B5⟩
              case measure => simp [intOf]; omega
            | false =>
              have HN : Hid (chk v c = 48) := by
                rw [HR.out, firstF_hit hf7 HF.out (by simp [faultF, hh, ha])]
                simp [Hid, faultF, hh, ha]
              clear hb5 hh ha
              go_wp2
              go_ret
              exact ⟨by rw [HN.out]; rfl, BV.out.trans (B5.out.mono hVs)⟩
        · obtain rfl : f = 7 := by omega
          rw [show bitF 7 = 128 from rfl]
          have HN : Hid (chk v c = 0) := by rw [HR.out, HF.out]; rfl
          go_wp2
          go_ret
          exact ⟨by rw [HN.out]; rfl, BV.out.trans (HB.out.mono hVs)⟩
end Go.Proofs.YtnogdjpbnhnmaaaGreatDoor
