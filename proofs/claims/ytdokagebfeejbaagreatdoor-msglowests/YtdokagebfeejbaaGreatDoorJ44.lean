/- Texts of the proof, joined. -/
import Derived.Test.YtdokagebfeejbaaGreatDoorJ07
import Derived.Test.YtdokagebfeejbaaGreatDoorJ42
import Derived.Test.YtdokagebfeejbaaGreatDoorJ35
/- The plain mathematics of CommandNewer: what is valid at version 1; nothing of the program is named here. -/
namespace Go.Wire1
open Go.RowKit

def isOld (c : Cm) : Bool := decide (c.kind ≤ 5) && (decide (c.val.size ≤ 1024) && decide (c.old.size ≤ 1024))
theorem fault_12 (c : Cm) (f : Nat) (hf : f < 7) (h45 : f ≠ 4 ∧ f ≠ 5) : faultF 1 c f = faultF 2 c f := by
  have : allowF 1 c f = allowF 2 c f := by
    rcases (by omega : f = 0 ∨ f = 1 ∨ f = 2 ∨ f = 3 ∨ f = 6) with rfl | rfl | rfl | rfl | rfl <;> rfl
  unfold faultF; rw [this]
theorem firstF_zero (v : Int) (c : Cm) : (firstF v c 7 0 = 0) ↔ ∀ f, f < 7 → faultF v c f = 0 := by
  constructor
  · intro h
    have go : ∀ k f, firstF v c k f = 0 → ∀ j, f ≤ j → j < f + k → faultF v c j = 0 := by
      intro k
      induction k with
      | zero => intro f _ j h1 h2; omega
      | succ k ih =>
        intro f hf j h1 h2
        simp only [firstF] at hf
        by_cases h0 : faultF v c f = 0
        · rw [if_pos h0] at hf
          by_cases e : j = f
          · rw [e]; exact h0
          · exact ih (f + 1) hf j (by omega) (by omega)
        · rw [if_neg h0] at hf; exact absurd hf h0
    exact fun f hf => go 7 0 h f (by omega) (by omega)
  · intro h
    have go : ∀ k f, (∀ j, f ≤ j → j < f + k → faultF v c j = 0) → firstF v c k f = 0 := by
      intro k
      induction k with
      | zero => intro f _; rfl
      | succ k ih =>
        intro f hf
        simp only [firstF]
        rw [if_pos (hf f (by omega) (by omega))]
        exact ih (f + 1) (fun j h1 h2 => hf j (by omega) (by omega))
    exact go 7 0 (fun j _ h2 => h j (by omega))
theorem fault_val (v : Int) (c : Cm) : faultF v c 4 = 0 ↔ if hasF c.kind 4 then c.val.size ≤ mostV v else c.val.size = 0 := by
  unfold faultF
  cases hasF c.kind 4
  · simp only [Bool.false_eq_true, if_false, zeroF]
    have : c.val.toList.isEmpty = decide (c.val.size = 0) := by
      rw [Lib.size_eq, Lib.toList_data]; cases c.val.data.toList <;> simp
    rw [this]
    by_cases h : c.val.size = 0 <;> simp [h]
  · simp only [if_true, allowF]
    by_cases h : c.val.size ≤ mostV v <;> simp [h, errF]
theorem fault_old (v : Int) (c : Cm) : faultF v c 5 = 0 ↔ if hasF c.kind 5 then c.old.size ≤ mostV v else c.old.size = 0 := by
  unfold faultF
  cases hasF c.kind 5
  · simp only [Bool.false_eq_true, if_false, zeroF]
    have : c.old.toList.isEmpty = decide (c.old.size = 0) := by
      rw [Lib.size_eq, Lib.toList_data]; cases c.old.data.toList <;> simp
    rw [this]
    by_cases h : c.old.size = 0 <;> simp [h]
  · simp only [if_true, allowF]
    by_cases h : c.old.size ≤ mostV v <;> simp [h, errF]
theorem kd_12 (kind : Int) : isKd 1 kind = true ↔ isKd 2 kind = true ∧ kind ≤ 5 := by
  by_cases h0 : 0 ≤ kind
  · by_cases h9 : kind < 9
    · obtain ⟨k, rfl⟩ := Int.eq_ofNat_of_zero_le h0
      have h : ∀ k : Fin 9, isKd 1 (k.val : Int) = true ↔ isKd 2 (k.val : Int) = true ∧ (k.val : Int) ≤ 5 := by decide
      exact h ⟨k, by omega⟩
    · simp [isKd, h9]
  · simp [isKd, h0]
/-- What is valid at version 1. -/
theorem newer (c : Cm) : (chk 1 c = 0) ↔ (chk 2 c = 0 ∧ isOld c = true) := by
  have e : ∀ v, isVer v = true → (chk v c = 0 ↔ isKd v c.kind = true ∧ ∀ f, f < 7 → faultF v c f = 0) := by
    intro v hv
    unfold chk
    rw [hv, if_pos rfl]
    cases h : isKd v c.kind with
    | false => simp
    | true => simp only [if_true, true_and]; exact firstF_zero v c
  rw [e 1 rfl, e 2 rfl, kd_12]
  simp only [isOld, Bool.and_eq_true, decide_eq_true_eq]
  have m1 : mostV 1 = 1024 := rfl
  have m2 : mostV 2 = 65536 := rfl
  constructor
  · rintro ⟨⟨h1, h2⟩, h3⟩
    have v4 := (fault_val 1 c).1 (h3 4 (by omega))
    have v5 := (fault_old 1 c).1 (h3 5 (by omega))
    rw [m1] at v4 v5
    refine ⟨⟨h1, fun f hf => ?_⟩, h2, ?_, ?_⟩
    · by_cases h4 : f = 4
      · subst h4; rw [fault_val 2 c, m2]; split at v4 <;> rename_i hh <;> simp only [hh, if_true, Bool.false_eq_true, if_false] <;> omega
      · by_cases h5 : f = 5
        · subst h5; rw [fault_old 2 c, m2]; split at v5 <;> rename_i hh <;> simp only [hh, if_true, Bool.false_eq_true, if_false] <;> omega
        · rw [← fault_12 c f hf ⟨h4, h5⟩]; exact h3 f hf
    · split at v4 <;> omega
    · split at v5 <;> omega
  · rintro ⟨⟨h1, h3⟩, h2, h4v, h5v⟩
    have v4 := (fault_val 2 c).1 (h3 4 (by omega))
    have v5 := (fault_old 2 c).1 (h3 5 (by omega))
    refine ⟨⟨h1, h2⟩, fun f hf => ?_⟩
    by_cases h4 : f = 4
    · subst h4; rw [fault_val 1 c, m1]; split at v4 <;> rename_i hh <;> simp only [hh, if_true, Bool.false_eq_true, if_false] <;> omega
    · by_cases h5 : f = 5
      · subst h5; rw [fault_old 1 c, m1]; split at v5 <;> rename_i hh <;> simp only [hh, if_true, Bool.false_eq_true, if_false] <;> omega
      · rw [fault_12 c f hf ⟨h4, h5⟩]; exact h3 f hf
end Go.Wire1
/- The contract of Lowest; what version 1 takes version 2 takes. -/
namespace Go.Proofs.YtdokagebfeejbaaGreatDoor
open Go.RowKit Go.Wire1

def lowM (n : Int) (m : Ms) : Int := if chkM 1 n m = 0 then 1 else if chkM 2 n m = 0 then 2 else 0
set_option maxHeartbeats 4000000 in
set_option maxRecDepth 100000 in
theorem lowest_any (n : Int) (m : Ms) (ua : Option Addr) (uk uc : Nat) (w : World) (hKc : Knd w) (hK : Kmd w) (hk1 : m.c.key.size ≤ 140737488351232) (hk2 : m.c.key2.size ≤ 140737488351232) (hI : SegI w ua uk m.dl) :
    Calls Tryz.prog 12 #[.int .i64 n, .agg (mgc m (.slice ua uk uc)).toArray] w fun e w' => e = .returned (.int .i64 (lowM n m)) ∧ Below w.heap.size w w' := by
  obtain ⟨w0, hV⟩ : ∃ V, V = w.alloc (.cells (mgc m (.slice ua uk uc)).toArray 30) := ⟨_, rfl⟩
  have Q0 : Hid (Blk w0 w.heap.size (mgc m (.slice ua uk uc))) := by rw [hV]; exact blk_new w 30 (mgc m (.slice ua uk uc))
  have B0 : Hid (Below w.heap.size w w0) := by rw [hV]; exact (Below.refl _ _).alloc (Nat.le_refl _) _
  have CK : Hid (∀ v W, Below w.heap.size w W → Calls Tryz.prog 7 #[.int .i64 v, .int .i64 n, .agg (mgc m (.slice ua uk uc)).toArray] W fun r w' => r = .returned (.int .i64 (chkM v n m)) ∧ Below W.heap.size W w') := fun v W hW =>
    mcheck_any v n m ua uk uc W (hKc.below hW (Nat.le_refl _)) (hK.below hW (Nat.le_refl _)) hk1 hk2 (hI.below hW (Nat.le_refl _))
  clear hKc hK hk1 hk2 hI
  unfold lowM
  obtain ⟨c1, e1⟩ : ∃ c, Hid (chkM 1 n m = c) := ⟨_, rfl⟩
  obtain ⟨c2, e2⟩ : ∃ c, Hid (chkM 2 n m = c) := ⟨_, rfl⟩
  rw [e1.out, e2.out]
  obtain ⟨z, hz⟩ : ∃ z, Hid ((if c1 = 0 then (1 : Int) else if c2 = 0 then 2 else 0) = z) := ⟨_, rfl⟩
  rw [hz.out]
  go_enter Tryz.func12, Tryz.ntmps12
  go_upto_region 1 with fail
  rw [← hV]
  clear hV
  go_wp2_with fail
  go_loopw [5] (fun i wr => ∃ k : Nat, i = .int .i64 (k : Int) ∧ 1 ≤ k ∧ k ≤ 3 ∧ Hid ((2 ≤ k → c1 ≠ 0) ∧ (3 ≤ k → c2 ≠ 0)) ∧ Hid (Below w.heap.size w wr) ∧ Hid (Blk wr w.heap.size (mgc m (.slice ua uk uc)))) (fun i _ => 3 - (intOf i).toNat)
  case atStart => exact ⟨1, rfl, by omega, by omega, ⟨fun h => by omega, fun h => by omega⟩, B0, Q0⟩
  case round =>
    obtain ⟨k, rfl, h1, h3, HN, HB, HQ⟩ := hrel
    clear B0 Q0
    rcases (by omega : k = 1 ∨ k = 2 ∨ k = 3) with rfl | rfl | rfl
    · go_wp2_with (first | (refine wpList_load_mid rfl 30 _ rfl w.heap.size 0 rfl (mgc m (.slice ua uk uc)) _ (HQ.out.range) Tryz.underlying30 rfl (by kernel_rfl) ?_))
      refine (CK.out 1 _ HB.out).mono ?_
      rintro e w1 ⟨rfl, hb⟩
      rw [e1.out]
      have B1 : Hid (Below w.heap.size w w1) := HB.out.trans (hb.mono HB.out.size)
      have Q1 : Hid (Blk w1 w.heap.size (mgc m (.slice ua uk uc))) := HQ.out.on hb
      clear hb
      by_cases hc : c1 = 0
      · have HC := hide hc
        subst hc
        go_wp2
        go_ret
        exact ⟨by rw [← hz.out, if_pos (by trivial)]; rfl, B1.out⟩
      · have g1 : (c1 == 0) = false := by rw [beq_eq_false_iff_ne]; exact hc
        have HC := hide hc
        clear hc
        go_wp2
        go_roundw
        case rel => exact ⟨2, by go_num, by omega, by omega, ⟨fun _ => HC.out, fun h => by omega⟩, B1, Q1⟩
        case measure => simp [intOf]
    · go_wp2_with (first | (refine wpList_load_mid rfl 30 _ rfl w.heap.size 0 rfl (mgc m (.slice ua uk uc)) _ (HQ.out.range) Tryz.underlying30 rfl (by kernel_rfl) ?_))
      refine (CK.out 2 _ HB.out).mono ?_
      rintro e w1 ⟨rfl, hb⟩
      rw [e2.out]
      have B1 : Hid (Below w.heap.size w w1) := HB.out.trans (hb.mono HB.out.size)
      have Q1 : Hid (Blk w1 w.heap.size (mgc m (.slice ua uk uc))) := HQ.out.on hb
      clear hb
      by_cases hc : c2 = 0
      · subst hc
        go_wp2
        go_ret
        exact ⟨by rw [← hz.out, if_neg (HN.out.1 (by omega)), if_pos (by trivial)]; rfl, B1.out⟩
      · have g1 : (c2 == 0) = false := by rw [beq_eq_false_iff_ne]; exact hc
        have HC := hide hc
        clear hc
        go_wp2
        go_roundw
        case rel => exact ⟨3, by go_num, by omega, by omega, ⟨fun _ => HN.out.1 (by omega), fun _ => HC.out⟩, B1, Q1⟩
        case measure => simp [intOf]
    · go_wp2
      go_ret
      exact ⟨by rw [← hz.out, if_neg (HN.out.1 (by omega)), if_neg (HN.out.2 (by omega))]; rfl, HB.out⟩
end Go.Proofs.YtdokagebfeejbaaGreatDoor
/- The document's own Lowest of messages, at every message. -/
namespace Go.Proofs.YtdokagebfeejbaaGreatDoor
open Go.RowKit Go.Wire1

set_option maxHeartbeats 4000000 in
set_option maxRecDepth 100000 in
theorem refLow5_any (n : Int) (m : Ms) (ua : Option Addr) (uk uc : Nat) (w : World) (hI : SegI w ua uk m.dl) : Calls Tryz.prog 13 #[.int .i64 n, .agg (mgc m (.slice ua uk uc)).toArray] w fun e w' => e = .returned (.int .i64 (lowM n m)) ∧ Below w.heap.size w w' := by
  obtain ⟨X, hX⟩ : ∃ X, X = w.alloc (.cells (mgc m (.slice ua uk uc)).toArray 30) := ⟨_, rfl⟩
  have M0 : Hid (Blk X w.heap.size (mgc m (.slice ua uk uc))) := by rw [hX]; exact blk_new w 30 (mgc m (.slice ua uk uc))
  have B0 : Hid (Below w.heap.size w X) := by rw [hX]; exact (Below.refl _ w).alloc (Nat.le_refl _) _
  have HI := hide hI
  obtain ⟨z, hz⟩ : ∃ z, Hid (lowM n m = z) := ⟨_, rfl⟩
  rw [hz.out]
  clear hI
  go_enter Tryz.func13, Tryz.ntmps13
  go_upto_region 1 with fail
  rw [← hX]
  clear hX
  go_wp2
  go_loopw [5, 6] (fun i _ wr => ∃ k : Nat, i = .int .i64 (k : Int) ∧ 1 ≤ k ∧ k ≤ 3 ∧ Hid (∀ j : Nat, 1 ≤ j → j < k → chkM (j : Int) n m ≠ 0) ∧ Hid (Below w.heap.size w wr) ∧ Hid (Blk wr w.heap.size (mgc m (.slice ua uk uc)))) (fun i _ _ => 3 - (intOf i).toNat)
  case atStart => exact ⟨1, rfl, by omega, by omega, fun j h1 h2 => by omega, B0, M0⟩
  case round =>
    obtain ⟨k, rfl, hk1, hk3, HJ, HB, HM⟩ := hrel
    by_cases hlt : k ≤ 2
    · have d1 : decide ((k : Int) ≤ 2) = true := decide_eq_true (by omega)
      obtain ⟨f, hf⟩ : ∃ f, Hid (chkM (k : Int) n m = f) := ⟨_, rfl⟩
      go_wp2_with (first | (refine wpList_load_mid rfl 30 _ rfl w.heap.size 0 rfl (mgc m (.slice ua uk uc)) _ HM.out.range Tryz.underlying30 rfl (by kernel_rfl) ?_) | (refine wpList_load_want (by rfl) 30 _ rfl w.heap.size 0 rfl (mgc m (.slice ua uk uc)) _ HM.out.range Tryz.underlying30 rfl (by kernel_rfl) ?_))
      refine (refCheck5_any (k : Int) n m ua uk uc _ (HI.out.below HB.out (Nat.le_refl _))).mono ?_
      rintro e w1 ⟨rfl, hb⟩
      rw [hf.out]
      have B1 : Hid (Below w.heap.size w w1) := HB.out.trans (hb.mono HB.out.size)
      have M1 : Hid (Blk w1 w.heap.size (mgc m (.slice ua uk uc))) := HM.out.on hb
      clear hb HB HM
      by_cases h0 : f = 0
      · have d0 : (f == 0) = true := by simp [h0]
        have HF : Hid (z = (k : Int)) := by
          show _ = _
          rw [← hz.out]
          have hc : chkM (k : Int) n m = 0 := by rw [hf.out]; exact h0
          unfold lowM
          rcases (by omega : k = 1 ∨ k = 2) with rfl | rfl
          · rw [if_pos (show chkM 1 n m = 0 from hc)]; rfl
          · rw [if_neg (show ¬ chkM 1 n m = 0 from HJ.out 1 (by omega) (by omega)), if_pos (show chkM 2 n m = 0 from hc)]; rfl
        clear h0 hf HJ hz
        go_wp2
        go_ret
        exact ⟨by rw [HF.out]; rfl, B1.out⟩
      · have d0 : (f == 0) = false := beq_eq_false_iff_ne.2 h0
        have HJ' : Hid (∀ j : Nat, 1 ≤ j → j < k + 1 → chkM (j : Int) n m ≠ 0) := fun j h1 h2 => by
          by_cases hj : j < k
          · exact HJ.out j h1 hj
          · obtain rfl : j = k := by omega
            rw [hf.out]; exact h0
        clear h0 hf HJ
        go_wp2
        go_roundw
        case rel => exact ⟨k + 1, by go_num, by omega, by omega, HJ', B1, M1⟩
        case measure => simp [intOf]; omega
    · have d1 : decide ((k : Int) ≤ 2) = false := decide_eq_false (by omega)
      have HF : Hid (z = 0) := by
        show _ = _
        rw [← hz.out]
        unfold lowM
        rw [if_neg (show ¬ chkM 1 n m = 0 from HJ.out 1 (by omega) (by omega)), if_neg (show ¬ chkM 2 n m = 0 from HJ.out 2 (by omega) (by omega))]
      go_wp2
      go_ret
      exact ⟨by rw [HF.out]; rfl, HB.out⟩
end Go.Proofs.YtdokagebfeejbaaGreatDoor
