/- The document's own turned: a byte with the bits of x turned, bit by bit, is the xor. -/
import Derived.Test.YtahpnfbjpdnapaaDkRot
namespace Go.Proofs.Ytahpnfbjpdnapaa
open Go.RowKit Go.Wire1 Go.MuLone

theorem turn_step (c x i : Nat) : (c ^^^ x) % 2 ^ (i + 1) = (c ^^^ x) % 2 ^ i + (if c / 2 ^ i % 2 = x / 2 ^ i % 2 then 0 else 2 ^ i) := by
  rw [Nat.mod_pow_succ, Nat.xor_div_two_pow]
  have h : (c / 2 ^ i ^^^ x / 2 ^ i) % 2 = if c / 2 ^ i % 2 = x / 2 ^ i % 2 then 0 else 1 := by
    have h1 := Nat.xor_mod_two_eq_one (a := c / 2 ^ i) (b := x / 2 ^ i)
    split
    · rename_i e
      have h2 : ¬ ((c / 2 ^ i ^^^ x / 2 ^ i) % 2 = 1) := fun h3 => (h1.1 h3) (by rw [e])
      omega
    · rename_i e
      exact h1.2 (fun h3 => e (by omega))
  rw [h]
  split <;> omega

set_option maxHeartbeats 2000000 in
set_option maxRecDepth 100000 in
theorem turned_any (c : Int) (x : Nat) (w : World) (hc : 0 ≤ c ∧ c < 256) (hx : x < 256) :
    Calls Try.prog 44 #[.int .u8 c, .int .i64 (x : Int)] w fun r w' => r = .returned (.int .u8 (rotZ c (x : Int))) ∧ w = w' := by
  have HR := hide (rotZ_eq hc hx)
  obtain ⟨cn, rfl⟩ := Int.eq_ofNat_of_zero_le hc.1
  obtain ⟨z, hz⟩ : ∃ z, z = rotZ (cn : Int) (x : Int) := ⟨_, rfl⟩
  rw [← hz] at HR ⊢
  have hcn : cn < 256 := by omega
  have hw0 : IntKind.i64.wrap (cn : Int) = (cn : Int) := by simp only [IntKind.wrap_i64]; omega
  clear hc hz
  go_enter Try.func44, Try.ntmps44
  go_wp2
  go_loopw [1, 5, 6, 7, 8] (fun xv yv wv cv iv wr => ∃ (i xi y wt ci : Nat), xv = .int .i64 (xi : Int) ∧ yv = .int .i64 (y : Int) ∧ wv = .int .i64 (wt : Int) ∧ cv = .int .i64 (ci : Int) ∧ iv = .int .i64 (i : Int) ∧ i ≤ 8 ∧ xi < 256 ∧ ci < 256 ∧ wt ≤ 256 ∧ y < 256 ∧ Hid (xi = x / 2 ^ i ∧ ci = cn / 2 ^ i ∧ wt = 2 ^ i ∧ y = (cn ^^^ x) % 2 ^ i) ∧ w = wr) (fun _ _ _ _ iv _ => 8 - (intOf iv).toNat)
  case atStart => exact ⟨0, x, 0, 1, cn, rfl, rfl, rfl, rfl, rfl, by omega, hx, hcn, by omega, by omega, ⟨by simp, by simp, rfl, by simp [Nat.mod_one]⟩, rfl⟩
  case round =>
    obtain ⟨i, xi, y, wt, ci, rfl, rfl, rfl, rfl, rfl, hi, hxi, hci, hwt, hy, HE, rfl⟩ := hrel
    by_cases hlt : i < 8
    · have hpow : Hid (2 ^ i ≤ 128) := by
        have : (2 : Nat) ^ 7 = 128 := by decide
        show 2 ^ i ≤ 128
        rw [← this]; exact Nat.pow_le_pow_right (by decide) (by omega)
      have hq : Hid ((cn ^^^ x) % 2 ^ (i + 1) < 256) := by
        have h1 := Nat.mod_lt (cn ^^^ x) (show 0 < 2 ^ (i + 1) from Nat.pos_of_ne_zero (by simp))
        have h2 := hpow.out
        rw [Nat.pow_succ] at h1
        show _ < 256
        rw [Nat.pow_succ]
        omega
      have t1 : Int.tmod (ci : Int) 2 = ((ci % 2 : Nat) : Int) := by rw [Int.tmod_eq_emod_of_nonneg (by omega)]; omega
      have t2 : Int.tmod (xi : Int) 2 = ((xi % 2 : Nat) : Int) := by rw [Int.tmod_eq_emod_of_nonneg (by omega)]; omega
      have t3 : Int.tdiv (ci : Int) 2 = ((ci / 2 : Nat) : Int) := by rw [Int.tdiv_eq_ediv_of_nonneg (by omega)]; omega
      have t4 : Int.tdiv (xi : Int) 2 = ((xi / 2 : Nat) : Int) := by rw [Int.tdiv_eq_ediv_of_nonneg (by omega)]; omega
      have HN : Hid (xi / 2 = x / 2 ^ (i + 1) ∧ ci / 2 = cn / 2 ^ (i + 1) ∧ wt * 2 = 2 ^ (i + 1)) := by
        obtain ⟨e1, e2, e3, _⟩ := HE.out
        refine ⟨?_, ?_, ?_⟩
        · rw [e1, Nat.div_div_eq_div_mul, Nat.pow_succ]
        · rw [e2, Nat.div_div_eq_div_mul, Nat.pow_succ]
        · rw [e3, Nat.pow_succ]
      have hw2 : wt * 2 ≤ 256 := by have h1 := HE.out.2.2.1; have h2 := hpow.out; omega
      obtain ⟨r1, hr1⟩ : ∃ r1, r1 = ci % 2 := ⟨_, rfl⟩
      obtain ⟨r2, hr2⟩ : ∃ r2, r2 = xi % 2 := ⟨_, rfl⟩
      obtain ⟨c2, hc2⟩ : ∃ c2, c2 = ci / 2 := ⟨_, rfl⟩
      obtain ⟨x2, hx2⟩ : ∃ x2, x2 = xi / 2 := ⟨_, rfl⟩
      have hc2b : c2 < 256 := by omega
      have hx2b : x2 < 256 := by omega
      rw [← hr1] at t1
      rw [← hr2] at t2
      rw [← hc2] at t3 HN
      rw [← hx2] at t4 HN
      have HR1 := hide hr1
      have HR2 := hide hr2
      clear hr1 hr2 hc2 hx2
      by_cases e : r1 = r2
      · subst e
        have HY : Hid (y = (cn ^^^ x) % 2 ^ (i + 1)) := by
          show y = _
          obtain ⟨e1, e2, e3, e4⟩ := HE.out
          rw [turn_step, ← e1, ← e2, ← HR1.out, ← HR2.out, if_pos rfl, ← e4]; rfl
        go_wp2
        go_roundw
        case rel => exact ⟨i + 1, x2, y, wt * 2, c2, rfl, rfl, by go_num, rfl, by go_num, by omega, hx2b, hc2b, hw2, hy, ⟨HN.out.1, HN.out.2.1, HN.out.2.2, HY.out⟩, trivial⟩
        case measure => simp [intOf]; omega
      · have e2 : ¬ ((r1 : Int) = (r2 : Int)) := by omega
        have e3 : ((r1 : Int) != (r2 : Int)) = true := by simpa using e2
        have HY : Hid (y + wt = (cn ^^^ x) % 2 ^ (i + 1)) := by
          show y + wt = _
          obtain ⟨f1, f2, f3, f4⟩ := HE.out
          rw [turn_step, ← f1, ← f2, ← HR1.out, ← HR2.out, if_neg e, ← f4, ← f3]
        have hyb : y + wt < 256 := by rw [HY.out]; exact hq.out
        go_wp2
        go_roundw
        case rel => exact ⟨i + 1, x2, y + wt, wt * 2, c2, rfl, by go_num, by go_num, rfl, by go_num, by omega, hx2b, hc2b, hw2, hyb, ⟨HN.out.1, HN.out.2.1, HN.out.2.2, HY.out⟩, trivial⟩
        case measure => simp [intOf]; omega
    · have HF : Hid ((y : Int) = z) := by
        show (y : Int) = z
        obtain ⟨_, _, _, e4⟩ := HE.out
        rw [HR.out, e4, Int.toNat_natCast, show i = 8 by omega, Nat.mod_eq_of_lt (Nat.xor_lt_two_pow (by omega) (by omega))]
      have hwy : IntKind.u8.wrap (y : Int) = (y : Int) := by simp only [IntKind.wrap_u8]; omega
      go_wp2
      go_ret
      exact ⟨by rw [← HF.out]; rfl, rfl⟩
end Go.Proofs.Ytahpnfbjpdnapaa
