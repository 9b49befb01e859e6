/- The contract of Lowest; what version 1 takes version 2 takes. -/
import Derived.Test.YtooejihnifphkaaGreatDoorMKnown
import Derived.Test.YtooejihnifphkaaGreatDoorNwMath
namespace Go.Proofs.YtooejihnifphkaaGreatDoor
open Go.RowKit Go.Wire1

theorem load_rise {n : Int} {may : Bool} {c : Cm} {sq : Int} {dl : List Int} (h : loadF 1 n may c sq dl = 0) : loadF 2 n may c sq dl = 0 := by
  obtain ⟨h1, h2, h3, h4⟩ := val_load h
  unfold loadF
  simp only [orL_cons, orL_nil, and_true, unl_zero (show (57 : Int) ≠ 0 by decide), unl_zero (show (55 : Int) ≠ 0 by decide), unl_zero (show (56 : Int) ≠ 0 by decide)]
  exact ⟨by rw [((newer c).1 h1).1]; rfl, h2, h3, h4⟩
theorem shF_rise {n : Int} {m : Ms} {k : Nat} (h : shF 1 n m k = 0) : shF 2 n m k = 0 := by
  match k with
  | 0 => exact h
  | 1 =>
    have h1 := orL_cons.1 h
    have h2 := orL_cons.1 h1.2
    have h3 := orL_cons.1 h2.2
    exact orL_cons.2 ⟨h1.1, orL_cons.2 ⟨h2.1, orL_cons.2 ⟨load_rise h3.1, rfl⟩⟩⟩
  | 2 => exact h
  | 3 => exact h
  | 4 =>
    have h1 := orL_cons.1 h
    have h2 := orL_cons.1 h1.2
    exact orL_cons.2 ⟨h1.1, orL_cons.2 ⟨load_rise h2.1, rfl⟩⟩
  | 5 => exact h
  | 6 =>
    have h1 := orL_cons.1 h
    have h2 := orL_cons.1 h1.2
    have h3 := orL_cons.1 h2.2
    have h4 := orL_cons.1 h3.2
    exact orL_cons.2 ⟨h1.1, orL_cons.2 ⟨h2.1, orL_cons.2 ⟨h3.1, orL_cons.2 ⟨load_rise h4.1, rfl⟩⟩⟩⟩
  | 7 => exact h
  | k + 8 => exact h
/-- What version 1 takes version 2 takes. -/
theorem chkM_rise {n : Int} {m : Ms} (h : chkM 1 n m = 0) : chkM 2 n m = 0 := by
  obtain ⟨h1, h2, h3, h4⟩ := val_msg h
  have c2 : callF 2 n = 0 := by
    have := (val_call h1).2
    unfold callF; rw [if_pos (.inr rfl), if_pos this]
  have k2 : isMK 2 m.kind = true := by
    unfold isMK at h2 ⊢
    simp only [Bool.and_eq_true, decide_eq_true_eq] at h2 ⊢
    exact ⟨h2.1, h2.2.1, by omega⟩
  unfold chkM
  rw [if_pos c2, if_pos k2, if_neg (by rw [h3]; decide)]
  exact shF_rise h4
def lowM (n : Int) (m : Ms) : Int := if chkM 1 n m = 0 then 1 else if chkM 2 n m = 0 then 2 else 0
set_option maxHeartbeats 4000000 in
set_option maxRecDepth 100000 in
theorem lowest_any (n : Int) (m : Ms) (ua : Option Addr) (uk uc : Nat) (w : World) (hKc : Knd w) (hK : Kmd w) (hk1 : m.c.key.size ≤ 140737488351232) (hk2 : m.c.key2.size ≤ 140737488351232) (hI : SegI w ua uk m.dl) :
    Calls Tryz.prog 17 #[.int .i64 n, .agg (mgc m (.slice ua uk uc)).toArray] w fun e w' => e = .returned (.int .i64 (lowM n m)) ∧ Below w.heap.size w w' := by
  obtain ⟨w0, hV⟩ : ∃ V, V = w.alloc (.cells (mgc m (.slice ua uk uc)).toArray 30) := ⟨_, rfl⟩
  have Q0 : Hid (Blk w0 w.heap.size (mgc m (.slice ua uk uc))) := by rw [hV]; exact blk_new w 30 (mgc m (.slice ua uk uc))
  have B0 : Hid (Below w.heap.size w w0) := by rw [hV]; exact (Below.refl _ _).alloc (Nat.le_refl _) _
  have CK : Hid (∀ v W, Below w.heap.size w W → Calls Tryz.prog 10 #[.int .i64 v, .int .i64 n, .agg (mgc m (.slice ua uk uc)).toArray] W fun r w' => r = .returned (.int .i64 (chkM v n m)) ∧ Below W.heap.size W w') := fun v W hW =>
    mcheck_any v n m ua uk uc W (hKc.below hW (Nat.le_refl _)) (hK.below hW (Nat.le_refl _)) hk1 hk2 (hI.below hW (Nat.le_refl _))
  clear hKc hK hk1 hk2 hI
  unfold lowM
  obtain ⟨c1, e1⟩ : ∃ c, Hid (chkM 1 n m = c) := ⟨_, rfl⟩
  obtain ⟨c2, e2⟩ : ∃ c, Hid (chkM 2 n m = c) := ⟨_, rfl⟩
  rw [e1.out, e2.out]
  obtain ⟨z, hz⟩ : ∃ z, Hid ((if c1 = 0 then (1 : Int) else if c2 = 0 then 2 else 0) = z) := ⟨_, rfl⟩
  rw [hz.out]
  go_enter Tryz.func17, Tryz.ntmps17
  go_upto_region 1 with fail
  rw [← hV]
  clear hV
  go_wp2_with fail
  go_loopw [5] (fun i wr => ∃ k : Nat, i = .int .i64 (k : Int) ∧ 1 ≤ k ∧ k ≤ 3 ∧ Hid ((2 ≤ k → c1 ≠ 0) ∧ (3 ≤ k → c2 ≠ 0)) ∧ Hid (Below w.heap.size w wr) ∧ Hid (Blk wr w.heap.size (mgc m (.slice ua uk uc)))) (fun i _ => 3 - (intOf i).toNat)
  case atStart => exact ⟨1, rfl, by omega, by omega, ⟨fun h => by omega, fun h => by omega⟩, B0, Q0⟩
  case round =>
    obtain ⟨k, rfl, h1, h3, HN, HB, HQ⟩ := hrel
    clear B0 Q0
    rcases (by omega : k = 1 ∨ k = 2 ∨ k = 3) with rfl | rfl | rfl
    · go_wp2_with (first | (refine wpList_load_mid rfl 30 _ rfl w.heap.size 0 rfl (mgc m (.slice ua uk uc)) _ (HQ.out.range) Tryz.underlying30 rfl (by kernel_rfl) ?_))
      refine (CK.out 1 _ HB.out).mono ?_
      rintro e w1 ⟨rfl, hb⟩
      rw [e1.out]
      have B1 : Hid (Below w.heap.size w w1) := HB.out.trans (hb.mono HB.out.size)
      have Q1 : Hid (Blk w1 w.heap.size (mgc m (.slice ua uk uc))) := HQ.out.on hb
      clear hb
      by_cases hc : c1 = 0
      · have HC := hide hc
        subst hc
        go_wp2
        go_ret
        exact ⟨by rw [← hz.out, if_pos (by trivial)]; rfl, B1.out⟩
      · have g1 : (c1 == 0) = false := by rw [beq_eq_false_iff_ne]; exact hc
        have HC := hide hc
        clear hc
        go_wp2
        go_roundw
        case rel => exact ⟨2, by go_num, by omega, by omega, ⟨fun _ => HC.out, fun h => by omega⟩, B1, Q1⟩
        case measure => simp [intOf]
    · go_wp2_with (first | (refine wpList_load_mid rfl 30 _ rfl w.heap.size 0 rfl (mgc m (.slice ua uk uc)) _ (HQ.out.range) Tryz.underlying30 rfl (by kernel_rfl) ?_))
      refine (CK.out 2 _ HB.out).mono ?_
      rintro e w1 ⟨rfl, hb⟩
      rw [e2.out]
      have B1 : Hid (Below w.heap.size w w1) := HB.out.trans (hb.mono HB.out.size)
      have Q1 : Hid (Blk w1 w.heap.size (mgc m (.slice ua uk uc))) := HQ.out.on hb
      clear hb
      by_cases hc : c2 = 0
      · subst hc
        go_wp2
        go_ret
        exact ⟨by rw [← hz.out, if_neg (HN.out.1 (by omega)), if_pos (by trivial)]; rfl, B1.out⟩
      · have g1 : (c2 == 0) = false := by rw [beq_eq_false_iff_ne]; exact hc
        have HC := hide hc
        clear hc
        go_wp2
        go_roundw
        case rel => exact ⟨3, by go_num, by omega, by omega, ⟨fun _ => HN.out.1 (by omega), fun _ => HC.out⟩, B1, Q1⟩
        case measure => simp [intOf]
    · go_wp2
      go_ret
      exact ⟨by rw [← hz.out, if_neg (HN.out.1 (by omega)), if_neg (HN.out.2 (by omega))]; rfl, HB.out⟩
end Go.Proofs.YtooejihnifphkaaGreatDoor
