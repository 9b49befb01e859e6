/- The contracts of step, times, bytesOn and Join: whatever the length is. -/
import Derived.Test.YtibdgnegdnapoacDoorCrc
import Derived.Test.YtibdgnegdnapoacDoorCMath2
import Derived.Lib.Tables
import Derived.Lib.Walk
import Derived.Lib.BitFns
namespace Go.Proofs.YtibdgnegdnapoacDoor
open Go.RowKit Go.Wire1 Go.Crc2
namespace J

theorem x_and1 (a : R) : bits .and .u32 (a.toNat : Int) 1 = if a.getLsbD 0 then 1 else 0 := by
  have := u32_and_nat a.toNat 1 a.isLt (by decide)
  rw [Nat.and_one_is_mod] at this
  rw [show (1 : Int) = ((1 : Nat) : Int) by rfl, this, BitVec.getLsbD, Nat.testBit_zero]
  rcases (by omega : a.toNat % 2 = 0 ∨ a.toNat % 2 = 1) with h | h <;> simp [h]
theorem x_shr1 (a : R) : Int.ofNat a.toNat / (2 : Int) = Int.ofNat (a >>> 1).toNat := by
  rw [BitVec.toNat_ushiftRight, Nat.shiftRight_eq_div_pow]; simp only [Int.ofNat_eq_natCast]; omega
theorem x_pol (a : R) : bits .xor .u32 (a.toNat : Int) 2197175160 = ((a ^^^ poly).toNat : Int) := x_xorN a 2197175160 (by decide)
theorem x_top (a : R) : bits .and .u32 (a.toNat : Int) 2147483648 = if a.getLsbD 31 then 2147483648 else 0 := by
  have := u32_and_nat a.toNat 2147483648 a.isLt (by decide)
  have e : (a &&& BitVec.twoPow 32 31).toNat = a.toNat &&& 2147483648 := by rw [BitVec.toNat_and]; rfl
  rw [show (2147483648 : Int) = ((2147483648 : Nat) : Int) by rfl, this, ← e, BitVec.and_twoPow]
  cases a.getLsbD 31 <;> rfl
theorem shl_val (a : R) : Int.ofNat a.toNat * (2 : Int) % (4294967296 : Int) = ((a <<< 1).toNat : Int) := by
  rw [BitVec.toNat_shiftLeft, Nat.shiftLeft_eq]; simp only [Int.ofNat_eq_natCast]; omega

set_option maxHeartbeats 400000 in
set_option maxRecDepth 100000 in
theorem step_any (r : R) (w : World) :
    Calls Tryd.prog 31 #[nr r] w fun e w' => e = .returned (nr (stp r)) ∧ w' = w := by
  have e1 := x_and1 r
  have e2 := x_shr1 r
  have e3 := x_pol (r >>> 1)
  have b := r_lt r
  obtain ⟨fin, hfin⟩ : ∃ fin, Hid (stp r = fin) := ⟨_, rfl⟩
  rw [hfin.out]
  cases h : r.getLsbD 0
  · have h2 : fin = r >>> 1 := by rw [← hfin.out, stp, h]; rfl
    rw [h] at e1
    subst h2
    simp only [nr, Int.ofNat_eq_natCast, if_false, Bool.false_eq_true] at *
    clear e3 hfin h
    generalize (r >>> 1).toNat = k at *
    generalize r.toNat = k1 at *
    go_enter Tryd.func31, Tryd.ntmps31
    go_wp2
    go_ret
    exact ⟨by rw [← e2]; rfl, rfl⟩
  · have h2 : fin = (r >>> 1) ^^^ poly := by rw [← hfin.out, stp, h]; rfl
    rw [h] at e1
    rw [← h2] at e3
    clear h2 hfin h
    simp only [nr, Int.ofNat_eq_natCast, if_true] at *
    generalize (r >>> 1).toNat = k at *
    generalize r.toNat = k1 at *
    go_enter Tryd.func31, Tryd.ntmps31
    go_wp2
    go_ret
    exact ⟨rfl, rfl⟩

set_option maxHeartbeats 400000 in
set_option maxRecDepth 100000 in
theorem times_any (a b : R) (w : World) :
    Calls Tryd.prog 17 #[nr a, nr b] w fun e w' => e = .returned (nr (T a b)) ∧ w' = w := by
  obtain ⟨fin, hfin⟩ : ∃ fin, Hid (T a b = fin) := ⟨_, rfl⟩
  rw [hfin.out]
  go_enter Tryd.func17, Tryd.ntmps17
  go_wp2
  go_loop [0, 1, 5, 6] (fun x y p i => ∃ (k f : Nat) (c d q : R), i = .int .i64 (k : Int) ∧ k + f = 32 ∧ x = nr c ∧ y = nr d ∧ p = nr q ∧ Hid (tm f q c d = fin)) (fun _ _ _ i => 32 - (intOf i).toNat)
  case atStart => exact ⟨0, 32, a, b, 0#32, rfl, rfl, rfl, rfl, rfl, hfin⟩
  case round =>
    obtain ⟨k, f, c, d, q, rfl, hk, rfl, rfl, rfl, HF⟩ := hrel
    have hk1 : k ≤ 32 := by omega
    by_cases hlt : k < 32
    · obtain ⟨f, rfl⟩ : ∃ g, f = g + 1 := ⟨f - 1, by omega⟩
      have e1 := x_top d
      have e2 := x_xor q c
      have HV := hide (shl_val d)
      have HT : Hid (tm f (if d.getLsbD 31 then q ^^^ c else q) (stp c) (d <<< 1) = fin) := HF.out
      have HK : Hid (k + (f + 1) = 32) := hk
      have bd := r_lt d
      clear hk HF
      cases h : d.getLsbD 31
      · rw [h] at e1 HT
        simp only [nr, Bool.false_eq_true, if_false] at *
        go_wp2_with fail
        refine (step_any c _).mono ?_
        rintro e w ⟨rfl, rfl⟩
        go_wp2
        go_round
        case rel => exact ⟨k + 1, f, stp c, d <<< 1, q, by go_num, by have := HK.out; omega, rfl, by rw [← HV.out]; rfl, rfl, HT⟩
        case measure => simp [intOf]; omega
      · rw [h] at e1 HT
        simp only [nr, if_true] at *
        go_wp2_with fail
        refine (step_any c _).mono ?_
        rintro e w ⟨rfl, rfl⟩
        go_wp2
        go_round
        case rel => exact ⟨k + 1, f, stp c, d <<< 1, q ^^^ c, by go_num, by have := HK.out; omega, rfl, by rw [← HV.out]; rfl, rfl, HT⟩
        case measure => simp [intOf]; omega
    · obtain rfl : k = 32 := by omega
      obtain rfl : f = 0 := by omega
      have HT : Hid (q = fin) := HF.out
      rw [HT.out]
      go_wp2
      go_ret
      exact ⟨rfl, rfl⟩

theorem fold_tab : ({ data := ((([0, 1, 2, 2, 3, 3, 3, 3, 4, 4, 4, 4, 4, 4, 4, 4, 5, 5, 5, 5, 5, 5, 5, 5, 5, 5, 5, 5, 5, 5, 5, 5, 6, 6, 6, 6, 6, 6, 6, 6, 6, 6, 6, 6, 6, 6, 6, 6, 6, 6, 6, 6, 6, 6, 6, 6, 6, 6, 6, 6, 6, 6, 6, 6] : List UInt8).append [7, 7, 7, 7, 7, 7, 7, 7, 7, 7, 7, 7, 7, 7, 7, 7, 7, 7, 7, 7, 7, 7, 7, 7, 7, 7, 7, 7, 7, 7, 7, 7, 7, 7, 7, 7, 7, 7, 7, 7, 7, 7, 7, 7, 7, 7, 7, 7, 7, 7, 7, 7, 7, 7, 7, 7, 7, 7, 7, 7, 7, 7, 7, 7]).append (([8, 8, 8, 8, 8, 8, 8, 8, 8, 8, 8, 8, 8, 8, 8, 8, 8, 8, 8, 8, 8, 8, 8, 8, 8, 8, 8, 8, 8, 8, 8, 8, 8, 8, 8, 8, 8, 8, 8, 8, 8, 8, 8, 8, 8, 8, 8, 8, 8, 8, 8, 8, 8, 8, 8, 8, 8, 8, 8, 8, 8, 8, 8, 8] : List UInt8).append [8, 8, 8, 8, 8, 8, 8, 8, 8, 8, 8, 8, 8, 8, 8, 8, 8, 8, 8, 8, 8, 8, 8, 8, 8, 8, 8, 8, 8, 8, 8, 8, 8, 8, 8, 8, 8, 8, 8, 8, 8, 8, 8, 8, 8, 8, 8, 8, 8, 8, 8, 8, 8, 8, 8, 8, 8, 8, 8, 8, 8, 8, 8, 8])).toArray } : ByteArray) = Lib.len8tab := by decide +kernel
theorem tab_all : ∀ y : Fin 256, (Lib.len8tab.data.getD y.val 0).toNat ≤ 8 ∧ y.val < 2 ^ (Lib.len8tab.data.getD y.val 0).toNat := by decide +kernel
theorem tab_at (y : Nat) (h : y < Lib.len8tab.size) (h' : y < 256) : ∃ t : Nat, (Lib.len8tab[y]'h).toNat = t ∧ t ≤ 8 ∧ y < 2 ^ t := by
  have e : (Lib.len8tab.data.getD y 0) = Lib.len8tab[y]'h := by
    have h2 : y < Lib.len8tab.data.size := h
    simp only [Array.getD, h2, dif_pos]; rfl
  obtain ⟨h1, h2⟩ := tab_all ⟨y, h'⟩
  simp only [e] at h1 h2
  exact ⟨_, rfl, h1, h2⟩

set_option maxHeartbeats 4000000 in
set_option maxRecDepth 100000 in
theorem len64_any (x : Nat) (hx : x < 4294967296) (w : World) :
    Calls Tryd.prog 36 #[.int .u64 (x : Int)] w fun e w' => (∃ L : Nat, e = .returned (.int .i64 (L : Int)) ∧ L ≤ 64 ∧ x < 2 ^ L) ∧ w' = w := by
  obtain ⟨tab, htab, hsz, htv⟩ : ∃ tab : ByteArray, Hid (Lib.len8tab = tab) ∧ tab.size = 256 ∧ Hid (∀ (y : Nat) (h : y < tab.size), y < 256 → ∃ t : Nat, (tab[y]'h).toNat = t ∧ t ≤ 8 ∧ y < 2 ^ t) := ⟨Lib.len8tab, hide rfl, Lib.len8tab_size, tab_at⟩
  have d1 : decide ((4294967296 : Int) ≤ (x : Int)) = false := by simp only [decide_eq_false_iff_not]; omega
  by_cases h1 : 65536 ≤ x
  · have d2 : decide ((65536 : Int) ≤ (x : Int)) = true := by simp only [decide_eq_true_eq]; omega
    by_cases h2 : 256 ≤ x / 65536
    · obtain ⟨z, hz⟩ : ∃ z, x / 65536 = z := ⟨_, rfl⟩
      have ez : (x : Int) / 65536 = (z : Int) := by omega
      obtain ⟨y, hy⟩ : ∃ y, z / 256 = y := ⟨_, rfl⟩
      have ey : (z : Int) / 256 = (y : Int) := by omega
      have h2' : 256 ≤ z := by omega
      have d3 : decide ((256 : Int) ≤ (z : Int)) = true := by simp only [decide_eq_true_eq]; omega
      have hy2 : y < tab.size := by rw [hsz]; omega
      obtain ⟨t, ht, h8, hlt⟩ := htv.out y hy2 (by omega)
      have HF : Hid (x < 2 ^ (24 + t)) := by
        show _ < _
        rw [Nat.pow_add, show (2 : Nat) ^ 24 = 16777216 by decide]
        omega
      have HT := hide ht
      clear ht hlt hy hsz
      go_enter Tryd.func36, Tryd.ntmps36
      simp only [fold_tab]
      rw [htab.out]
      clear htab htv
      generalize hff : Tryd.f36 = ff
      have hr : ff.results = #[.tmp 2] := by rw [← hff]; rfl
      clear hff
      go_wp2
      refine bodyPost_ret (results_tmp hr _ _ _) rfl ?_
      refine ⟨⟨24 + t, congrArg Ending.returned (congrArg (Value.int IntKind.i64) ?_), by omega, HF.out⟩, rfl⟩
      rw [HT.out]
      unfold wrap64
      omega
    · obtain ⟨y, hy⟩ : ∃ y, x / 65536 = y := ⟨_, rfl⟩
      have ey : (x : Int) / 65536 = (y : Int) := by omega
      have h2' : y < 256 := by omega
      have d3 : decide ((256 : Int) ≤ (y : Int)) = false := by simp only [decide_eq_false_iff_not]; omega
      have hy2 : y < tab.size := by rw [hsz]; omega
      obtain ⟨t, ht, h8, hlt⟩ := htv.out y hy2 (by omega)
      have HF : Hid (x < 2 ^ (16 + t)) := by
        show _ < _
        rw [Nat.pow_add, show (2 : Nat) ^ 16 = 65536 by decide]
        omega
      have HT := hide ht
      clear ht hlt hy hsz
      go_enter Tryd.func36, Tryd.ntmps36
      simp only [fold_tab]
      rw [htab.out]
      clear htab htv
      generalize hff : Tryd.f36 = ff
      have hr : ff.results = #[.tmp 2] := by rw [← hff]; rfl
      clear hff
      go_wp2
      refine bodyPost_ret (results_tmp hr _ _ _) rfl ?_
      refine ⟨⟨16 + t, congrArg Ending.returned (congrArg (Value.int IntKind.i64) ?_), by omega, HF.out⟩, rfl⟩
      rw [HT.out]
      unfold wrap64
      omega
  · have d2 : decide ((65536 : Int) ≤ (x : Int)) = false := by simp only [decide_eq_false_iff_not]; omega
    by_cases h2 : 256 ≤ x
    · have d3 : decide ((256 : Int) ≤ (x : Int)) = true := by simp only [decide_eq_true_eq]; omega
      obtain ⟨y, hy⟩ : ∃ y, x / 256 = y := ⟨_, rfl⟩
      have ey : (x : Int) / 256 = (y : Int) := by omega
      have hy2 : y < tab.size := by rw [hsz]; omega
      obtain ⟨t, ht, h8, hlt⟩ := htv.out y hy2 (by omega)
      have HF : Hid (x < 2 ^ (8 + t)) := by
        show _ < _
        rw [Nat.pow_add, show (2 : Nat) ^ 8 = 256 by decide]
        omega
      have HT := hide ht
      clear ht hlt hy hsz
      go_enter Tryd.func36, Tryd.ntmps36
      simp only [fold_tab]
      rw [htab.out]
      clear htab htv
      generalize hff : Tryd.f36 = ff
      have hr : ff.results = #[.tmp 2] := by rw [← hff]; rfl
      clear hff
      go_wp2
      refine bodyPost_ret (results_tmp hr _ _ _) rfl ?_
      refine ⟨⟨8 + t, congrArg Ending.returned (congrArg (Value.int IntKind.i64) ?_), by omega, HF.out⟩, rfl⟩
      rw [HT.out]
      unfold wrap64
      omega
    · have d3 : decide ((256 : Int) ≤ (x : Int)) = false := by simp only [decide_eq_false_iff_not]; omega
      have hy2 : x < tab.size := by rw [hsz]; omega
      obtain ⟨t, ht, h8, hlt⟩ := htv.out x hy2 (by omega)
      have HF : Hid (x < 2 ^ (0 + t)) := by show _ < _; rw [Nat.zero_add]; exact hlt
      have HT := hide ht
      clear ht hlt hsz
      go_enter Tryd.func36, Tryd.ntmps36
      simp only [fold_tab]
      rw [htab.out]
      clear htab htv
      generalize hff : Tryd.f36 = ff
      have hr : ff.results = #[.tmp 2] := by rw [← hff]; rfl
      clear hff
      go_wp2
      refine bodyPost_ret (results_tmp hr _ _ _) rfl ?_
      refine ⟨⟨0 + t, congrArg Ending.returned (congrArg (Value.int IntKind.i64) ?_), by omega, HF.out⟩, rfl⟩
      rw [HT.out]
      unfold wrap64
      omega

set_option maxHeartbeats 400000 in
set_option maxRecDepth 100000 in
theorem len_any (x : Nat) (hx : x < 4294967296) (w : World) :
    Calls Tryd.prog 32 #[.int .u64 (x : Int)] w fun e w' => (∃ L : Nat, e = .returned (.int .i64 (L : Int)) ∧ L ≤ 64 ∧ x < 2 ^ L) ∧ w' = w := by
  go_enter Tryd.func32, Tryd.ntmps32
  go_wp2_with fail
  refine (len64_any x hx _).mono ?_
  rintro e w ⟨⟨L, rfl, h1, h2⟩, rfl⟩
  have H2 := hide h2
  clear h2
  go_wp2
  go_ret
  exact ⟨⟨L, rfl, h1, H2.out⟩, rfl⟩

end J
end Go.Proofs.YtibdgnegdnapoacDoor
