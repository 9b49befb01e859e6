/- The contracts of the document's own Sum, sumByte, okay and Seal, and of the statements' helper room. -/
import Derived.Test.YtiajkdjljilndaaDoorFrLaw
namespace Go.Proofs.YtiajkdjljilndaaDoor
open Go.RowKit Go.Wire1 Go.Crc2 Go.Frm

theorem x_ones7 (a : R) : bits .xor .u32 (a.toNat : Int) 4294967295 = ((~~~ a).toNat : Int) := by
  have := x_xorN a 4294967295 (by decide)
  rw [show BitVec.ofNat 32 4294967295 = BitVec.allOnes 32 by decide, BitVec.xor_allOnes] at this
  exact this
theorem odd_bit (r : R) : r.getLsbD 0 = decide (r.toNat % 2 = 1) := by rw [BitVec.getLsbD, Nat.testBit_eq_decide_div_mod_eq]; simp
theorem half_reg (r : R) : ((r.toNat : Nat) : Int) / (2 : Int) = (((r >>> 1).toNat : Nat) : Int) := by rw [BitVec.toNat_ushiftRight, Nat.shiftRight_eq_div_pow]; omega

set_option maxHeartbeats 2000000 in
set_option maxRecDepth 100000 in
theorem rsum7_any (a : Option Addr) (n cap : Nat) (l : List Int) (w : World) (hs : Seg w a n l) (hb : Byt l) :
    Calls Tryd.prog 40 #[.slice a n cap] w fun e w' => e = .returned (nr (upd 0#32 l)) ∧ w = w' := by
  have HS : Hid (Seg w a n l) := hs
  have HB : Hid (Byt l) := hb
  have hl : Hid (l.length = n) := hs.1
  have hn : n ≤ maxLen := hs.2.1
  unfold maxLen at hn
  clear hs hb
  have eU : Hid (upd 0#32 l = ~~~ (takes (~~~ 0#32) l)) := rfl
  rw [eU.out]
  obtain ⟨c1, hc1⟩ : ∃ c1 : R, c1 = ~~~ 0#32 := ⟨_, rfl⟩
  have hc : c1.toNat = 4294967295 := by rw [hc1]; decide
  have HC := hide hc
  rw [← hc1]
  clear eU hc1 hc
  obtain ⟨fin, hfin⟩ : ∃ fin, Hid (~~~ (takes c1 l) = fin) := ⟨_, rfl⟩
  rw [hfin.out]
  simp only [nr]
  go_enter Tryd.func40, Tryd.ntmps40
  go_wp2
  go_loopw [3, 4] (fun v i wr => ∃ k : Nat, i = .int .i64 (k : Int) ∧ k ≤ n ∧ v = nr (takes c1 (l.take k)) ∧ wr = w) (fun _ i _ => n - (intOf i).toNat)
  case atStart => exact ⟨0, rfl, Nat.zero_le _, by rw [List.take_zero, takes_nil]; simp only [nr, HC.out]; rfl, rfl⟩
  case round =>
    obtain ⟨k, rfl, hk, rfl, rfl⟩ := hrel
    by_cases hlt : k < n
    · obtain ⟨ba, oa, rfl, hca⟩ := HS.out.2.2 (by omega)
      have ca : wr.cell? ⟨ba, oa + k, none⟩ = some (.int .u8 (l.getD k 0)) := hca k hlt
      have hz := byt_at HB.out k
      have HT : Hid (takes c1 (l.take (k + 1)) = take (takes c1 (l.take k)) (l.getD k 0)) := take_step' c1 (by have := hl.out; omega)
      clear hca
      generalize l.getD k 0 = z at *
      generalize takes c1 (l.take k) = r at *
      obtain ⟨m, rfl⟩ := Int.eq_ofNat_of_zero_le hz.1
      have e1 := x_xorN r m (by omega)
      have HK : Hid (take r (m : Int) = steps 8 (r ^^^ BitVec.ofNat 32 m)) := rfl
      generalize r ^^^ BitVec.ofNat 32 m = r1 at *
      have b := r_lt r
      have b1 := r_lt r1
      simp only [nr]
      go_wp2
      go_loopw [3, 5] (fun v jv w2 => ∃ j : Nat, jv = .int .i64 (j : Int) ∧ j ≤ 8 ∧ v = nr (steps j r1) ∧ w2 = wr) (fun _ jv _ => 8 - (intOf jv).toNat)
      case atStart => exact ⟨0, rfl, by omega, rfl, rfl⟩
      case round =>
        obtain ⟨j, rfl, hj, rfl, rfl⟩ := hrel
        by_cases hj8 : j < 8
        · have HN : Hid (steps (j + 1) r1 = stp (steps j r1)) := by show _ = _; rw [steps_add j 1]; rfl
          generalize steps j r1 = s at *
          have bs := r_lt s
          have hh := half_reg s
          have bh := r_lt (s >>> 1)
          have hob := odd_bit s
          cases ho : s.getLsbD 0 with
          | true =>
            have q1 : s.toNat % 2 = 1 := by rw [ho] at hob; simpa using hob.symm
            have q2 : (((s.toNat : Nat) : Int) % 2 == 1) = true := by simp; omega
            have q3 : (Int.tmod ((s.toNat : Nat) : Int) 2 == 1) = true := by rw [Int.tmod_eq_emod_of_nonneg (by omega)]; exact q2
            have ex : bits .xor .u32 (((s >>> 1).toNat : Nat) : Int) 2197175160 = (((s >>> 1) ^^^ BitVec.ofNat 32 2197175160).toNat : Int) := x_xorN (s >>> 1) 2197175160 (by decide)
            have HP : Hid (stp s = (s >>> 1) ^^^ BitVec.ofNat 32 2197175160) := by show _ = _; unfold stp; rw [ho]; rfl
            generalize (s >>> 1) ^^^ BitVec.ofNat 32 2197175160 = s2 at *
            have b2 := r_lt s2
            simp only [nr]
            clear hob ho q1
            generalize s.toNat = sn at *
            generalize (s >>> 1).toNat = sh at *
            go_wp2
            go_roundw
            case rel => exact ⟨j + 1, by go_num, by omega, by rw [HN.out, HP.out], by trivial⟩
            case measure => simp [intOf]; omega
          | false =>
            have q1 : ¬ s.toNat % 2 = 1 := by rw [ho] at hob; simpa using hob.symm
            have q2 : (((s.toNat : Nat) : Int) % 2 == 1) = false := by simp; omega
            have q3 : (Int.tmod ((s.toNat : Nat) : Int) 2 == 1) = false := by rw [Int.tmod_eq_emod_of_nonneg (by omega)]; exact q2
            have HP : Hid (stp s = s >>> 1) := by show _ = _; unfold stp; rw [ho]; rfl
            simp only [nr]
            clear hob ho q1
            obtain ⟨sh, hsh⟩ : ∃ sh, (s >>> 1).toNat = sh := ⟨_, rfl⟩
            rw [hsh] at hh bh
            have HSH := hide hsh
            clear hsh
            generalize s.toNat = sn at *
            go_wp2
            go_roundw
            case rel => exact ⟨j + 1, by go_num, by omega, by rw [HN.out, HP.out]; simp only [HSH.out], by trivial⟩
            case measure => simp [intOf]; omega
        · have h8 : j = 8 := by omega
          have HE : Hid (steps j r1 = take r (m : Int)) := by show _ = _; rw [HK.out, h8]
          rw [HE.out]
          generalize take r (m : Int) = r2 at *
          clear h8
          go_wp2
          go_roundw
          case rel => exact ⟨k + 1, by go_num, by omega, by rw [HT.out], by trivial⟩
          case measure => simp [intOf]; omega
    · have HT : Hid (l.take k = l) := List.take_of_length_le (by have := hl.out; omega)
      rw [HT.out]
      have e1 := x_ones7 (takes c1 l)
      rw [hfin.out] at e1
      generalize takes c1 l = r at *
      simp only [nr]
      go_wp2
      go_ret
      exact ⟨rfl, rfl⟩

set_option maxHeartbeats 2000000 in
set_option maxRecDepth 100000 in
theorem rsumByte_any (s : R) (i : Nat) (w : World) (hi : i ≤ 4) : Calls Tryd.prog 41 #[nr s, .int .i64 (i : Int)] w fun e w' => e = .returned (.int .u8 (bt s i)) ∧ w = w' := by
  have hb : bt s i = ((s.toNat / 256 ^ i % 256 : Nat) : Int) := by unfold bt; rw [show 2 ^ (8 * i) = 256 ^ i by rw [Nat.pow_mul]]
  have hs := r_lt s
  rw [hb]
  simp only [nr]
  generalize s.toNat = m at *
  obtain ⟨Z, hZ⟩ : ∃ Z, Hid (m / 256 ^ i = Z) := ⟨_, rfl⟩
  rw [hZ.out]
  clear hb
  go_enter Tryd.func41, Tryd.ntmps41
  go_wp2
  go_loopw [0, 5] (fun v kv wr => ∃ k q : Nat, kv = .int .i64 (k : Int) ∧ k ≤ i ∧ v = .int .u32 (q : Int) ∧ q < 4294967296 ∧ Hid (q = m / 256 ^ k) ∧ wr = w) (fun _ kv _ => i - (intOf kv).toNat)
  case atStart => exact ⟨0, m, rfl, by omega, rfl, hs, by show _ = _; simp, rfl⟩
  case round =>
    obtain ⟨k, q, rfl, hk, rfl, hq, HQ, rfl⟩ := hrel
    by_cases hlt : k < i
    · have HQ2 : Hid (q / 256 = m / 256 ^ (k + 1)) := by show _ = _; rw [HQ.out, Nat.pow_succ, Nat.div_div_eq_div_mul]
      go_wp2
      go_roundw
      case rel => exact ⟨k + 1, q / 256, by go_num, by omega, by congr 1, by omega, HQ2, by trivial⟩
      case measure => simp [intOf]; omega
    · have hki : k = i := by omega
      have HF : Hid (Z = q) := by show _ = _; rw [← hZ.out, HQ.out, hki]
      clear hki
      go_wp2
      go_ret
      exact ⟨by rw [HF.out]; congr 2, rfl⟩

set_option maxHeartbeats 2000000 in
set_option maxRecDepth 100000 in
theorem rokay_any (v : Int) (w : World) : Calls Tryd.prog 37 #[.int .i64 v] w fun r w' => r = .returned (.bool (verB v)) ∧ w = w' := by
  by_cases h0 : 0 ≤ v
  · by_cases h2 : v ≤ 2
    · have E : Hid (verB v = true) := by show _ = _; unfold verB; simp [h0, h2]
      go_enter Tryd.func37, Tryd.ntmps37
      go_wp2
      go_ret
      exact ⟨by rw [E.out]; rfl, rfl⟩
    · have E : Hid (verB v = false) := by show _ = _; unfold verB; simp [h2]
      go_enter Tryd.func37, Tryd.ntmps37
      go_wp2
      go_ret
      exact ⟨by rw [E.out]; rfl, rfl⟩
  · have E : Hid (verB v = false) := by show _ = _; unfold verB; simp [h0]
    go_enter Tryd.func37, Tryd.ntmps37
    go_wp2
    go_ret
    exact ⟨by rw [E.out]; rfl, rfl⟩
end Go.Proofs.YtiajkdjljilndaaDoor
