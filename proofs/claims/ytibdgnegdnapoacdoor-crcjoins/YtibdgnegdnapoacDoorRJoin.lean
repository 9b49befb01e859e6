/- The contracts of the document's own times and Join. -/
import Derived.Test.YtibdgnegdnapoacDoorCSteps
import Derived.Test.YtibdgnegdnapoacDoorCMath3
import Derived.Test.YtibdgnegdnapoacDoorCJoin2
namespace Go.Proofs.YtibdgnegdnapoacDoor
open Go.RowKit Go.Wire1 Go.Crc2

set_option maxHeartbeats 400000 in
set_option maxRecDepth 100000 in
theorem rtimes_any (a b : R) (w : World) :
    Calls Tryd.prog 20 #[nr a, nr b] w fun e w' => e = .returned (nr (T b a)) ∧ w' = w := by
  obtain ⟨fin, hfin⟩ : ∃ fin, Hid (T b a = fin) := ⟨_, rfl⟩
  rw [hfin.out]
  go_enter Tryd.func20, Tryd.ntmps20
  go_wp2
  go_loop [0, 1, 5, 6] (fun x y p i => ∃ (k f : Nat) (c d q : R), i = .int .i64 (k : Int) ∧ k + f = 32 ∧ x = nr d ∧ y = nr c ∧ p = nr q ∧ Hid (tm f q c d = fin)) (fun _ _ _ i => 32 - (intOf i).toNat)
  case atStart => exact ⟨0, 32, b, a, 0#32, rfl, rfl, rfl, rfl, rfl, hfin⟩
  case round =>
    obtain ⟨k, f, c, d, q, rfl, hk, rfl, rfl, rfl, HF⟩ := hrel
    have hk1 : k ≤ 32 := by omega
    by_cases hlt : k < 32
    · obtain ⟨f, rfl⟩ : ∃ g, f = g + 1 := ⟨f - 1, by omega⟩
      have e1 := J.x_top d
      have e2 := x_xor q c
      have HV := hide (J.shl_val d)
      have HT : Hid (tm f (if d.getLsbD 31 then q ^^^ c else q) (stp c) (d <<< 1) = fin) := HF.out
      have HK : Hid (k + (f + 1) = 32) := hk
      have bd := r_lt d
      clear hk HF
      cases h : d.getLsbD 31
      · rw [h] at e1 HT
        simp only [nr, Bool.false_eq_true, if_false] at *
        go_wp2_with fail
        refine (rstep_any c _).mono ?_
        rintro e w ⟨rfl, rfl⟩
        go_wp2
        go_round
        case rel => exact ⟨k + 1, f, stp c, d <<< 1, q, by go_num, by have := HK.out; omega, by rw [← HV.out]; rfl, rfl, rfl, HT⟩
        case measure => simp [intOf]; omega
      · rw [h] at e1 HT
        simp only [nr, if_true] at *
        go_wp2_with fail
        refine (rstep_any c _).mono ?_
        rintro e w ⟨rfl, rfl⟩
        go_wp2
        go_round
        case rel => exact ⟨k + 1, f, stp c, d <<< 1, q ^^^ c, by go_num, by have := HK.out; omega, by rw [← HV.out]; rfl, rfl, rfl, HT⟩
        case measure => simp [intOf]; omega
    · obtain rfl : k = 32 := by omega
      obtain rfl : f = 0 := by omega
      have HT : Hid (q = fin) := HF.out
      rw [HT.out]
      go_wp2
      go_ret
      exact ⟨rfl, rfl⟩

theorem even_round (s e m n : Nat) (h : s + e * m = n) (hm : m % 2 = 0) : s + 2 * e * (m / 2) = n := by
  have h1 : m = 2 * (m / 2) := by omega
  rw [Nat.mul_comm 2 e, Nat.mul_assoc, ← h1]; exact h
theorem odd_round (s e m n : Nat) (h : s + e * m = n) (hm : m % 2 = 1) : (s + e) + 2 * e * (m / 2) = n := by
  have h1 : m = 2 * (m / 2) + 1 := by omega
  rw [Nat.mul_comm 2 e, Nat.mul_assoc]
  rw [h1, Nat.mul_add, Nat.mul_one] at h
  omega
theorem pow_mul (e s : Nat) : T (steps e one) (steps s one) = steps (s + e) one := by rw [T_pow_l, ← steps_add]
theorem pow_sq (e : Nat) : T (steps e one) (steps e one) = steps (2 * e) one := by rw [pow_mul, Nat.two_mul]

set_option maxHeartbeats 1000000 in
set_option maxRecDepth 100000 in
theorem rjoin_any (a b : R) (n : Int) (w : World) (h1 : -9223372036854775808 ≤ n) (h2 : n ≤ 9223372036854775807) :
    Calls Tryd.prog 8 #[nr a, nr b, .int .i64 n] w fun e w' => e = .returned (nr (J.join a b n)) ∧ w' = w := by
  by_cases h : 0 ≤ n
  · obtain ⟨m, rfl⟩ := Int.eq_ofNat_of_zero_le h
    have HJ : Hid (J.join a b m = steps (8 * m) a ^^^ b) := by show _ = _; rw [J.join, if_pos h]; rfl
    obtain ⟨fin, hfin⟩ : ∃ fin, Hid (J.join a b m = fin) := ⟨_, hide rfl⟩
    rw [hfin.out] at HJ ⊢
    clear hfin
    go_enter Tryd.func8, Tryd.ntmps8
    go_wp2_with fail
    refine (rsteps_any one 8 _ (by decide)).mono ?_
    rintro e w ⟨rfl, rfl⟩
    go_wp2_with fail
    go_loop [2, 7, 8] (fun x f p => ∃ k e s : Nat, x = .int .i64 (k : Int) ∧ k ≤ m ∧ f = nr (steps e one) ∧ p = nr (steps s one) ∧ Hid (s + e * k = 8 * m)) (fun x _ _ => (intOf x).toNat)
    case atStart => exact ⟨m, 8, 0, rfl, Nat.le_refl _, rfl, rfl, by show _ = _; omega⟩
    case round =>
      obtain ⟨k, e, s, rfl, hk, rfl, rfl, HE⟩ := hrel
      by_cases hlt : 0 < k
      · have HS := hide (pow_sq e)
        have HM := hide (pow_mul e s)
        have em : (k : Int) % 2 = ((k % 2 : Nat) : Int) := by omega
        have ed : (k : Int) / 2 = ((k / 2 : Nat) : Int) := by omega
        generalize hf : steps e one = f at *
        generalize hp : steps s one = p at *
        have HF := hide hf
        have HP := hide hp
        clear hf hp
        rcases (by omega : k % 2 = 0 ∨ k % 2 = 1) with hm | hm
        · have HR := hide (even_round s e k _ HE.out hm)
          rw [hm] at em
          have hd : k / 2 < k := by omega
          clear hm
          generalize k / 2 = k2 at *
          go_wp2_with fail
          refine (rtimes_any f f _).mono ?_
          rintro e' w ⟨rfl, rfl⟩
          rw [HS.out]
          go_wp2
          go_round
          case rel => exact ⟨k2, 2 * e, s, by go_num, by omega, rfl, by rw [HP.out], HR⟩
          case measure => simp [intOf]; omega
        · have HR := hide (odd_round s e k _ HE.out hm)
          rw [hm] at em
          have hd : k / 2 < k := by omega
          clear hm
          generalize k / 2 = k2 at *
          go_wp2_with fail
          refine (rtimes_any p f _).mono ?_
          rintro e' w ⟨rfl, rfl⟩
          rw [HM.out]
          go_wp2_with fail
          refine (rtimes_any f f _).mono ?_
          rintro e' w ⟨rfl, rfl⟩
          rw [HS.out]
          go_wp2
          go_round
          case rel => exact ⟨k2, 2 * e, s + e, by go_num, by omega, rfl, rfl, HR⟩
          case measure => simp [intOf]; omega
      · obtain rfl : k = 0 := by omega
        have HS : Hid (s = 8 * m) := by have := HE.out; rw [Nat.mul_zero, Nat.add_zero] at this; exact this
        rw [HS.out]
        have HT := hide (T_pow_l (8 * m) a)
        have e1 := x_xor (steps (8 * m) a) b
        rw [← HJ.out] at e1
        obtain ⟨x, hx⟩ : ∃ x, Hid (steps (8 * m) a = x) := ⟨_, hide rfl⟩
        rw [hx.out] at e1 HT
        clear HE HJ HS hx
        generalize steps (8 * m) one = p at *
        go_wp2_with fail
        refine (rtimes_any a p _).mono ?_
        rintro e' w ⟨rfl, rfl⟩
        rw [HT.out]
        go_wp2
        go_ret
        exact ⟨rfl, rfl⟩
  · have e : J.join a b n = 0#32 := by rw [J.join, if_neg h]
    rw [e]
    have h' : n < 0 := by omega
    clear e h
    go_enter Tryd.func8, Tryd.ntmps8
    go_wp2
    go_ret
    exact ⟨rfl, rfl⟩
end Go.Proofs.YtibdgnegdnapoacDoor
