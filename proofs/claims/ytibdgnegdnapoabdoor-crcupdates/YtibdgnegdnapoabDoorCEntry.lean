/- The contracts of Entry, and of the document's own step, steps and Entry. -/
import Derived.Test.YtibdgnegdnapoabDoorCrc
namespace Go.Proofs.YtibdgnegdnapoabDoor
open Go.RowKit Go.Wire1 Go.Crc2

/-- Entry. -/
def entry (i : Int) : R := if 0 ≤ i ∧ i < 256 then take 0#32 i else 0#32

set_option maxHeartbeats 400000 in
set_option maxRecDepth 100000 in
theorem entry_any (i : Int) (w : World) (h1 : -9223372036854775808 ≤ i) (h2 : i ≤ 9223372036854775807) (hH : Hal w) :
    Calls Tryd.prog 10 #[.int .i64 i] w fun e w' => e = .returned (nr (entry i)) ∧ w' = w := by
  by_cases h : 0 ≤ i ∧ i < 256
  · obtain ⟨fin, hfin⟩ : ∃ fin, Hid (take 0#32 i = fin) := ⟨_, rfl⟩
    have e : entry i = fin := by rw [entry, if_pos h]; exact hfin.out
    rw [e]
    clear e
    obtain ⟨g1, g2⟩ := h
    go_enter Tryd.func10, Tryd.ntmps10
    go_wp2_with fail
    refine (takeByte_any 0#32 i _ g1 g2 hH).mono ?_
    rintro e w' ⟨rfl, rfl⟩
    rw [hfin.out]
    go_wp2
    go_ret
    exact ⟨rfl, rfl⟩
  · have e : entry i = 0#32 := by rw [entry, if_neg h]
    rw [e]
    clear e
    by_cases g : i < 0
    · clear h
      go_enter Tryd.func10, Tryd.ntmps10
      go_wp2
      go_ret
      exact ⟨rfl, rfl⟩
    · have g1 : 255 < i := by omega
      have g2 : 0 ≤ i := by omega
      clear h g
      go_enter Tryd.func10, Tryd.ntmps10
      go_wp2
      go_ret
      exact ⟨rfl, rfl⟩

theorem x_and1 (a : R) : bits .and .u32 (a.toNat : Int) 1 = if a.getLsbD 0 then 1 else 0 := by
  have := u32_and_nat a.toNat 1 a.isLt (by decide)
  rw [Nat.and_one_is_mod] at this
  rw [show (1 : Int) = ((1 : Nat) : Int) by rfl, this, BitVec.getLsbD, Nat.testBit_zero]
  rcases (by omega : a.toNat % 2 = 0 ∨ a.toNat % 2 = 1) with h | h <;> simp [h]
theorem x_shr1 (a : R) : Int.ofNat a.toNat / (2 : Int) = Int.ofNat (a >>> 1).toNat := by
  rw [BitVec.toNat_ushiftRight, Nat.shiftRight_eq_div_pow]; simp only [Int.ofNat_eq_natCast]; omega
theorem x_poly (a : R) : bits .xor .u32 (a.toNat : Int) 2197175160 = ((a ^^^ poly).toNat : Int) := x_xorN a 2197175160 (by decide)

set_option maxHeartbeats 400000 in
set_option maxRecDepth 100000 in
theorem rstep_any (r : R) (w : World) :
    Calls Tryd.prog 27 #[nr r] w fun e w' => e = .returned (nr (stp r)) ∧ w' = w := by
  have e1 := x_and1 r
  have e2 := x_shr1 r
  have e3 := x_poly (r >>> 1)
  have b := r_lt r
  obtain ⟨fin, hfin⟩ : ∃ fin, Hid (stp r = fin) := ⟨_, rfl⟩
  rw [hfin.out]
  cases h : r.getLsbD 0
  · have h2 : fin = r >>> 1 := by rw [← hfin.out, stp, h]; rfl
    rw [h] at e1
    subst h2
    simp only [nr, Int.ofNat_eq_natCast, if_false, Bool.false_eq_true] at *
    clear e3 hfin h
    generalize (r >>> 1).toNat = k at *
    generalize r.toNat = k1 at *
    go_enter Tryd.func27, Tryd.ntmps27
    go_wp2
    go_ret
    exact ⟨by rw [← e2]; rfl, rfl⟩
  · have h2 : fin = (r >>> 1) ^^^ poly := by rw [← hfin.out, stp, h]; rfl
    rw [h] at e1
    rw [← h2] at e3
    clear h2 hfin h
    simp only [nr, Int.ofNat_eq_natCast, if_true] at *
    generalize (r >>> 1).toNat = k at *
    generalize r.toNat = k1 at *
    go_enter Tryd.func27, Tryd.ntmps27
    go_wp2
    go_ret
    exact ⟨rfl, rfl⟩

theorem steps_succ (n : Nat) (r : R) : steps (n + 1) r = stp (steps n r) := by rw [steps, steps_step]

set_option maxHeartbeats 400000 in
set_option maxRecDepth 100000 in
theorem rsteps_any (r : R) (n : Nat) (w : World) (hn : n < 9223372036854775808) :
    Calls Tryd.prog 24 #[nr r, .int .i64 (n : Int)] w fun e w' => e = .returned (nr (steps n r)) ∧ w' = w := by
  obtain ⟨fin, hfin⟩ : ∃ fin, Hid (steps n r = fin) := ⟨_, rfl⟩
  rw [hfin.out]
  go_enter Tryd.func24, Tryd.ntmps24
  go_wp2
  go_loop [0, 5] (fun v i => ∃ k : Nat, i = .int .i64 (k : Int) ∧ k ≤ n ∧ v = nr (steps k r)) (fun _ i => n - (intOf i).toNat)
  case atStart => exact ⟨0, rfl, Nat.zero_le _, rfl⟩
  case round =>
    obtain ⟨k, rfl, hk, rfl⟩ := hrel
    by_cases hlt : k < n
    · have HT := hide (steps_succ k r)
      generalize steps k r = r1 at *
      go_wp2_with fail
      refine (rstep_any r1 _).mono ?_
      rintro e w' ⟨rfl, rfl⟩
      go_wp2
      go_round
      case rel => exact ⟨k + 1, by go_num, by omega, by rw [HT.out]⟩
      case measure => simp [intOf]; omega
    · obtain rfl : k = n := by omega
      rw [hfin.out]
      go_wp2
      go_ret
      exact ⟨rfl, rfl⟩

set_option maxHeartbeats 400000 in
set_option maxRecDepth 100000 in
theorem rentry_any (i : Int) (w : World) (h1 : -9223372036854775808 ≤ i) (h2 : i ≤ 9223372036854775807) :
    Calls Tryd.prog 11 #[.int .i64 i] w fun e w' => e = .returned (nr (entry i)) ∧ w' = w := by
  by_cases h : 0 ≤ i ∧ i < 256
  · obtain ⟨g1, g2⟩ := h
    obtain ⟨n, rfl⟩ := Int.eq_ofNat_of_zero_le g1
    obtain ⟨fin, hfin⟩ : ∃ fin, Hid (steps 8 (BitVec.ofNat 32 n) = fin) := ⟨_, rfl⟩
    have e : entry n = fin := by rw [entry, if_pos ⟨g1, g2⟩, ← hfin.out, take, BitVec.zero_xor]; rfl
    rw [e]
    clear e
    have e0 : (BitVec.ofNat 32 n).toNat = n := by rw [BitVec.toNat_ofNat]; omega
    have k := rsteps_any (BitVec.ofNat 32 n) 8 w (by decide)
    rw [hfin.out] at k
    simp only [nr, e0] at k
    have K := hide k
    clear hfin e0 k
    simp only [nr]
    go_enter Tryd.func11, Tryd.ntmps11
    go_wp2_with fail
    refine K.out.mono ?_
    rintro e w' ⟨rfl, rfl⟩
    go_wp2
    go_ret
    exact ⟨rfl, rfl⟩
  · have e : entry i = 0#32 := by rw [entry, if_neg h]
    rw [e]
    clear e
    by_cases g : i < 0
    · clear h
      go_enter Tryd.func11, Tryd.ntmps11
      go_wp2
      go_ret
      exact ⟨rfl, rfl⟩
    · have g1 : 255 < i := by omega
      have g2 : 0 ≤ i := by omega
      clear h g
      go_enter Tryd.func11, Tryd.ntmps11
      go_wp2
      go_ret
      exact ⟨rfl, rfl⟩
end Go.Proofs.YtibdgnegdnapoabDoor
