/- The contracts of bytesOn and Join: whatever the length is. -/
import Derived.Test.YtibdgnegdnapoacDoorCJoin
namespace Go.Proofs.YtibdgnegdnapoacDoor
open Go.RowKit Go.Wire1 Go.Crc2
namespace J

theorem i64_and_nat (m : Nat) (h : m < 9223372036854775808) : bits .and .i64 (m : Int) 1 = ((m % 2 : Nat) : Int) := by
  show IntKind.i64.wrap ((BitVec.ofInt 64 (m : Int) &&& BitVec.ofInt 64 1).toNat : Int) = _
  rw [BitVec.toNat_and, ofInt_u64 _ (by omega), show (BitVec.ofInt 64 1).toNat = 1 by decide, Nat.and_one_is_mod, IntKind.wrap_i64]
  omega
theorem bitN (n t : Nat) (h : n < 9223372036854775808) : bits .and .i64 (Int.ofNat n / (2 : Int) ^ t) 1 = ((n / 2 ^ t % 2 : Nat) : Int) := by
  have e : Int.ofNat n / (2 : Int) ^ t = ((n / 2 ^ t : Nat) : Int) := by simp
  rw [e, i64_and_nat _ (Nat.lt_of_le_of_lt (Nat.div_le_self _ _) h)]
theorem half (n t : Nat) : n / 2 ^ t = 2 * (n / 2 ^ (t + 1)) + n / 2 ^ t % 2 := by
  rw [Nat.pow_succ, ← Nat.div_div_eq_div_mul]; omega
theorem square (m : Nat) : T (steps m one) (steps m one) = steps (2 * m) one := by rw [T_pow, ← steps_add, ← Nat.two_mul]
theorem take0 (r : R) : take r 0 = steps 8 r := by
  unfold take
  have : BitVec.ofNat 32 (0 : Int).toNat = (0#32 : R) := rfl
  rw [this, BitVec.xor_zero]

set_option maxHeartbeats 1000000 in
set_option maxRecDepth 100000 in
theorem bytesOn_any (n : Nat) (hn : n < 2147483647) (w : World) (hH : Hal w) :
    Calls Tryd.prog 18 #[.int .i64 (n : Int)] w fun e w' => e = .returned (nr (steps (8 * n) one)) ∧ w' = w := by
  have HH : Hid (Hal w) := hH
  clear hH
  obtain ⟨fin, hfin⟩ : ∃ fin, Hid (steps (8 * n) one = fin) := ⟨_, hide rfl⟩
  rw [hfin.out]
  go_enter Tryd.func18, Tryd.ntmps18
  go_wp2_with fail
  refine (len_any n (by omega) _).mono ?_
  rintro e w ⟨⟨L, rfl, h64, hL⟩, rfl⟩
  have HL := hide hL
  clear hL
  go_wp2_with fail
  go_loop [3, 4] (fun v i => ∃ j : Nat, i = .int .i64 (j : Int) ∧ j ≤ 64 ∧ v = nr (steps (8 * (n / 2 ^ j)) one)) (fun _ i => (intOf i).toNat)
  case atStart => exact ⟨L, rfl, h64, by rw [Nat.div_eq_of_lt HL.out]; rfl⟩
  case round =>
    obtain ⟨j, rfl, hj, rfl⟩ := hrel
    by_cases hlt : 0 < j
    · obtain ⟨t, rfl⟩ : ∃ t, j = t + 1 := ⟨j - 1, by omega⟩
      have e1 := bitN n t (by omega)
      simp only [Int.ofNat_eq_natCast] at e1
      have et : (((t + 1 : Nat) : Int) - 1) = (t : Int) := by omega
      have HS := hide (square (8 * (n / 2 ^ (t + 1))))
      obtain ⟨q, hq⟩ : ∃ q, Hid (T (steps (8 * (n / 2 ^ (t + 1))) one) (steps (8 * (n / 2 ^ (t + 1))) one) = q) := ⟨_, hide rfl⟩
      have HQ : Hid (q = steps (2 * (8 * (n / 2 ^ (t + 1)))) one) := by show _ = _; rw [← hq.out]; exact HS.out
      have HD := hide (half n t)
      generalize steps (8 * (n / 2 ^ (t + 1))) one = r at *
      go_wp2_with fail
      refine (times_any r r _).mono ?_
      rintro e w ⟨rfl, rfl⟩
      rw [hq.out]
      rcases (by omega : n / 2 ^ t % 2 = 0 ∨ n / 2 ^ t % 2 = 1) with h | h
      · rw [h] at e1
        have HR : Hid (q = steps (8 * (n / 2 ^ t)) one) := by
          show _ = _
          rw [HQ.out]; congr 1; have := HD.out; omega
        clear h
        go_wp2
        go_round
        case rel => exact ⟨t, by go_num, by omega, by rw [HR.out]⟩
        case measure => simp [intOf]
      · rw [h] at e1
        have HR : Hid (take q 0 = steps (8 * (n / 2 ^ t)) one) := by
          show _ = _
          rw [take0, HQ.out, ← steps_add]; congr 1; have := HD.out; omega
        clear h
        go_wp2_with fail
        refine (takeByte_any q 0 _ (by decide) (by decide) HH.out).mono ?_
        rintro e w ⟨rfl, rfl⟩
        rw [HR.out]
        go_wp2
        go_round
        case rel => exact ⟨t, by go_num, by omega, rfl⟩
        case measure => simp [intOf]
    · obtain rfl : j = 0 := by omega
      have HR : Hid (steps (8 * (n / 2 ^ 0)) one = fin) := by show _ = _; rw [Nat.pow_zero, Nat.div_one]; exact hfin.out
      rw [HR.out]
      go_wp2
      go_ret
      exact ⟨rfl, rfl⟩

/-- Join. -/
def join (a b : R) (n : Int) : R := if 0 ≤ n then steps (8 * n.toNat) a ^^^ b else 0#32

set_option maxHeartbeats 1000000 in
set_option maxRecDepth 100000 in
theorem join_any (a b : R) (n : Int) (w : World) (h1 : -9223372036854775808 ≤ n) (h2 : n ≤ 9223372036854775807) (hH : Hal w) :
    Calls Tryd.prog 7 #[nr a, nr b, .int .i64 n] w fun e w' => e = .returned (nr (join a b n)) ∧ w' = w := by
  by_cases h : 0 ≤ n
  · obtain ⟨m, rfl⟩ := Int.eq_ofNat_of_zero_le h
    have HH : Hid (Hal w) := hH
    clear hH
    have HJ : Hid (join a b m = steps (8 * m) a ^^^ b) := by show _ = _; rw [join, if_pos h]; rfl
    have HM := hide (steps_mod m a)
    have hlt : m % 2147483647 < 2147483647 := Nat.mod_lt _ (by decide)
    have HP := hide (T_pow a (8 * (m % 2147483647)))
    have em : (m : Int) % 2147483647 = ((m % 2147483647 : Nat) : Int) := by omega
    obtain ⟨x, hx⟩ : ∃ x, Hid (steps (8 * m) a = x) := ⟨_, hide rfl⟩
    rw [HM.out, hx.out] at HP
    rw [hx.out] at HJ
    have e1 := x_xor x b
    rw [← HJ.out] at e1
    obtain ⟨fin, hfin⟩ : ∃ fin, Hid (join a b m = fin) := ⟨_, hide rfl⟩
    rw [hfin.out] at e1 ⊢
    clear HJ HM
    generalize m % 2147483647 = k at *
    obtain ⟨p, hp⟩ : ∃ p, Hid (steps (8 * k) one = p) := ⟨_, hide rfl⟩
    rw [hp.out] at HP
    go_enter Tryd.func7, Tryd.ntmps7
    go_wp2_with fail
    refine (bytesOn_any k hlt _ HH.out).mono ?_
    rintro e w ⟨rfl, rfl⟩
    rw [hp.out]
    go_wp2_with fail
    refine (times_any a p _).mono ?_
    rintro e w ⟨rfl, rfl⟩
    rw [HP.out]
    go_wp2
    go_ret
    exact ⟨rfl, rfl⟩
  · have e : join a b n = 0#32 := by rw [join, if_neg h]
    rw [e]
    have h' : n < 0 := by omega
    clear e h hH
    go_enter Tryd.func7, Tryd.ntmps7
    go_wp2
    go_ret
    exact ⟨rfl, rfl⟩
end J
end Go.Proofs.YtibdgnegdnapoacDoor
