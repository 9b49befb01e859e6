/- The contracts of back and Mend: the four bytes are new memory. -/
import Derived.Test.YtibdgnegdnapoacDoorCrc
import Derived.Test.YtibdgnegdnapoacDoorCMath2
namespace Go.Proofs.YtibdgnegdnapoacDoor
open Go.RowKit Go.Wire1 Go.Crc2

theorem x_top (a : R) : bits .and .u32 (a.toNat : Int) 2147483648 = if a.getLsbD 31 then 2147483648 else 0 := by
  have := u32_and_nat a.toNat 2147483648 a.isLt (by decide)
  have e : (a &&& BitVec.twoPow 32 31).toNat = a.toNat &&& 2147483648 := by rw [BitVec.toNat_and]; rfl
  rw [show (2147483648 : Int) = ((2147483648 : Nat) : Int) by rfl, this, ← e, BitVec.and_twoPow]
  cases a.getLsbD 31 <;> rfl
theorem shl_val (a : R) : Int.ofNat a.toNat * (2 : Int) % (4294967296 : Int) = ((a <<< 1).toNat : Int) := by
  rw [BitVec.toNat_shiftLeft, Nat.shiftLeft_eq]; simp only [Int.ofNat_eq_natCast]; omega
theorem x_pol (a : R) : bits .xor .u32 (a.toNat : Int) 2197175160 = ((a ^^^ poly).toNat : Int) := x_xorN a 2197175160 (by decide)
theorem or_val (a : R) : bits .or .u32 (a.toNat : Int) 1 = ((a ||| 1#32).toNat : Int) := by
  have := u32_or_nat a.toNat 1 a.isLt (by decide)
  rw [BitVec.toNat_or]; exact this
theorem bt_vals (m : R) : Int.ofNat m.toNat % 256 = bt m 0 ∧ Int.ofNat m.toNat / 256 % 256 = bt m 1 ∧ Int.ofNat m.toNat / 65536 % 256 = bt m 2 ∧ Int.ofNat m.toNat / 16777216 = bt m 3 := by
  have := m.isLt
  simp only [Int.ofNat_eq_natCast, bt]; omega
theorem backs_succ (n : Nat) (r : R) : backs (n + 1) r = back (backs n r) := by rw [backs, backs_back]

set_option maxHeartbeats 400000 in
set_option maxRecDepth 100000 in
theorem back_any (r : R) (w : World) :
    Calls Tryd.prog 21 #[nr r, .int .i64 32] w fun e w' => e = .returned (nr (backs 32 r)) ∧ w' = w := by
  obtain ⟨fin, hfin⟩ : ∃ fin, Hid (backs 32 r = fin) := ⟨_, rfl⟩
  rw [hfin.out]
  go_enter Tryd.func21, Tryd.ntmps21
  go_wp2
  go_loop [0, 6] (fun v i => ∃ k : Nat, i = .int .i64 (k : Int) ∧ k ≤ 32 ∧ v = nr (backs k r)) (fun _ i => 32 - (intOf i).toNat)
  case atStart => exact ⟨0, rfl, Nat.zero_le _, rfl⟩
  case round =>
    obtain ⟨k, rfl, hk, rfl⟩ := hrel
    by_cases hlt : k < 32
    · have HT := hide (backs_succ k r)
      generalize backs k r = r1 at *
      have e1 := x_top r1
      have b := r_lt r1
      simp only [nr]
      cases h : r1.getLsbD 31
      · rw [h] at e1
        simp only [Bool.false_eq_true, if_false] at e1
        have HV := hide (shl_val r1)
        have HK : Hid (back r1 = r1 <<< 1) := by show _ = _; rw [back, h]; rfl
        go_wp2
        go_round
        case rel => exact ⟨k + 1, by go_num, by omega, by rw [HT.out, HK.out, ← HV.out]; rfl⟩
        case measure => simp [intOf]; omega
      · rw [h] at e1
        simp only [if_true] at e1
        have e2 := x_pol r1
        have HV := hide (shl_val (r1 ^^^ poly))
        have HO := hide (or_val ((r1 ^^^ poly) <<< 1))
        have HK : Hid (back r1 = ((r1 ^^^ poly) <<< 1) ||| 1#32) := by show _ = _; rw [back, h]; rfl
        go_wp2
        go_round
        case rel => exact ⟨k + 1, by go_num, by omega, by rw [HT.out, HK.out, ← HO.out, ← HV.out, ← BitVec.toNat_xor]; rfl⟩
        case measure => simp [intOf]; omega
    · obtain rfl : k = 32 := by omega
      rw [hfin.out]
      go_wp2
      go_ret
      exact ⟨rfl, rfl⟩

set_option maxHeartbeats 400000 in
set_option maxRecDepth 100000 in
theorem mend_any (c want : R) (w : World) :
    Calls Tryd.prog 9 #[nr c, nr want] w fun e w' => e = .returned (.slice (some ⟨w.heap.size, 0, none⟩) 4 4) ∧ w' = w.alloc (.cells #[.int .u8 (bt (mend c want) 0), .int .u8 (bt (mend c want) 1), .int .u8 (bt (mend c want) 2), .int .u8 (bt (mend c want) 3)] 5) := by
  have e1 := x_not c
  have e2 := x_not want
  have e3 := x_xor (~~~ c) (backs 32 (~~~ want))
  have HM : Hid (mend c want = ~~~ c ^^^ backs 32 (~~~ want)) := rfl
  rw [← HM.out] at e3
  clear HM
  generalize ~~~ c = c1 at *
  generalize ~~~ want = t1 at *
  obtain ⟨b1, hb1⟩ : ∃ b, Hid (backs 32 t1 = b) := ⟨_, rfl⟩
  rw [hb1.out] at e3
  generalize mend c want = m at *
  obtain ⟨q0, q1, q2, q3⟩ := bt_vals m
  have b := r_lt m
  simp only [nr]
  generalize bt m 0 = z0 at *
  generalize bt m 1 = z1 at *
  generalize bt m 2 = z2 at *
  generalize bt m 3 = z3 at *
  go_enter Tryd.func9, Tryd.ntmps9
  go_wp2_with fail
  refine (back_any t1 _).mono ?_
  rintro e w1 ⟨rfl, rfl⟩
  rw [hb1.out]
  go_wp2
  go_ret
  refine ⟨rfl, ?_⟩
  simp only [Int.ofNat_eq_natCast] at q0 q1 q2 q3
  rw [q0, q1, q2, q3]
end Go.Proofs.YtibdgnegdnapoacDoor
