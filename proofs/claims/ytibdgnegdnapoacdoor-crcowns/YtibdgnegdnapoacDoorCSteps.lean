/- The contracts of the document's own step, steps, Update and Sum. -/
import Derived.Test.YtibdgnegdnapoacDoorCrc
namespace Go.Proofs.YtibdgnegdnapoacDoor
open Go.RowKit Go.Wire1 Go.Crc2

theorem x_and1 (a : R) : bits .and .u32 (a.toNat : Int) 1 = if a.getLsbD 0 then 1 else 0 := by
  have := u32_and_nat a.toNat 1 a.isLt (by decide)
  rw [Nat.and_one_is_mod] at this
  rw [show (1 : Int) = ((1 : Nat) : Int) by rfl, this, BitVec.getLsbD, Nat.testBit_zero]
  rcases (by omega : a.toNat % 2 = 0 ∨ a.toNat % 2 = 1) with h | h <;> simp [h]
theorem x_shr1 (a : R) : Int.ofNat a.toNat / (2 : Int) = Int.ofNat (a >>> 1).toNat := by
  rw [BitVec.toNat_ushiftRight, Nat.shiftRight_eq_div_pow]; simp only [Int.ofNat_eq_natCast]; omega
theorem x_poly (a : R) : bits .xor .u32 (a.toNat : Int) 2197175160 = ((a ^^^ poly).toNat : Int) := x_xorN a 2197175160 (by decide)

set_option maxHeartbeats 400000 in
set_option maxRecDepth 100000 in
theorem rstep_any (r : R) (w : World) :
    Calls Tryd.prog 34 #[nr r] w fun e w' => e = .returned (nr (stp r)) ∧ w' = w := by
  have e1 := x_and1 r
  have e2 := x_shr1 r
  have e3 := x_poly (r >>> 1)
  have b := r_lt r
  obtain ⟨fin, hfin⟩ : ∃ fin, Hid (stp r = fin) := ⟨_, rfl⟩
  rw [hfin.out]
  cases h : r.getLsbD 0
  · have h2 : fin = r >>> 1 := by rw [← hfin.out, stp, h]; rfl
    rw [h] at e1
    subst h2
    simp only [nr, Int.ofNat_eq_natCast, if_false, Bool.false_eq_true] at *
    clear e3 hfin h
    generalize (r >>> 1).toNat = k at *
    generalize r.toNat = k1 at *
    go_enter Tryd.func34, Tryd.ntmps34
    go_wp2
    go_ret
    exact ⟨by rw [← e2]; rfl, rfl⟩
  · have h2 : fin = (r >>> 1) ^^^ poly := by rw [← hfin.out, stp, h]; rfl
    rw [h] at e1
    rw [← h2] at e3
    clear h2 hfin h
    simp only [nr, Int.ofNat_eq_natCast, if_true] at *
    generalize (r >>> 1).toNat = k at *
    generalize r.toNat = k1 at *
    go_enter Tryd.func34, Tryd.ntmps34
    go_wp2
    go_ret
    exact ⟨rfl, rfl⟩

theorem steps_succ (n : Nat) (r : R) : steps (n + 1) r = stp (steps n r) := by rw [steps, steps_step]

set_option maxHeartbeats 400000 in
set_option maxRecDepth 100000 in
theorem rsteps_any (r : R) (n : Nat) (w : World) (hn : n < 9223372036854775808) :
    Calls Tryd.prog 19 #[nr r, .int .i64 (n : Int)] w fun e w' => e = .returned (nr (steps n r)) ∧ w' = w := by
  obtain ⟨fin, hfin⟩ : ∃ fin, Hid (steps n r = fin) := ⟨_, rfl⟩
  rw [hfin.out]
  go_enter Tryd.func19, Tryd.ntmps19
  go_wp2
  go_loop [0, 5] (fun v i => ∃ k : Nat, i = .int .i64 (k : Int) ∧ k ≤ n ∧ v = nr (steps k r)) (fun _ i => n - (intOf i).toNat)
  case atStart => exact ⟨0, rfl, Nat.zero_le _, rfl⟩
  case round =>
    obtain ⟨k, rfl, hk, rfl⟩ := hrel
    by_cases hlt : k < n
    · have HT := hide (steps_succ k r)
      generalize steps k r = r1 at *
      go_wp2_with fail
      refine (rstep_any r1 _).mono ?_
      rintro e w' ⟨rfl, rfl⟩
      go_wp2
      go_round
      case rel => exact ⟨k + 1, by go_num, by omega, by rw [HT.out]⟩
      case measure => simp [intOf]; omega
    · obtain rfl : k = n := by omega
      rw [hfin.out]
      go_wp2
      go_ret
      exact ⟨rfl, rfl⟩

end Go.Proofs.YtibdgnegdnapoacDoor
