/- Texts of the proof, joined. -/
import Derived.Test.YtdokagebfeejbaaGreatDoorJ30
import Derived.Test.YtdokagebfeejbaaGreatDoorJ31
import Derived.Test.YtdokagebfeejbaaGreatDoorJ32
import Derived.Test.YtdokagebfeejbaaGreatDoorJ33
import Derived.Test.YtdokagebfeejbaaGreatDoorJ34
/- The document's own Check of messages, at every message. -/
namespace Go.Proofs.YtdokagebfeejbaaGreatDoor
open Go.RowKit Go.Wire1

theorem shF_inst5 {v n : Int} {m : Ms} (h : instB n m.row m.num = false) : ∀ k, shF v n m k = 52
  | 0 => by show unl (instB n m.row m.num) 52 = 52; rw [h]; rfl
  | 1 => by show orL (unl (instB n m.row m.num) 52 :: _) = 52; rw [h]; rfl
  | 2 => by show orL (unl (instB n m.row m.num) 52 :: _) = 52; rw [h]; rfl
  | 3 => by show orL (unl (instB n m.row m.num) 52 :: _) = 52; rw [h]; rfl
  | 4 => by show orL (unl (instB n m.row m.num) 52 :: _) = 52; rw [h]; rfl
  | 5 => by show orL (unl (instB n m.row m.num) 52 :: _) = 52; rw [h]; rfl
  | 6 => by show orL (unl (instB n m.row m.num) 52 :: _) = 52; rw [h]; rfl
  | 7 => by show orL (unl (instB n m.row m.num) 52 :: _) = 52; rw [h]; rfl
  | k + 8 => by show unl (instB n m.row m.num) 52 = 52; rw [h]; rfl
set_option maxHeartbeats 4000000 in
set_option maxRecDepth 100000 in
theorem ck5_ver (v n : Int) (m : Ms) (ua : Option Addr) (uk uc : Nat) (w : World) (hv : ¬ (v = 1 ∨ v = 2)) : Calls Tryz.prog 8 #[.int .i64 v, .int .i64 n, .agg (mgc m (.slice ua uk uc)).toArray] w fun e w' => e = .returned (.int .i64 2) ∧ Below w.heap.size w w' := by
  obtain ⟨X, hX⟩ : ∃ X, X = w.alloc (.cells (mgc m (.slice ua uk uc)).toArray 30) := ⟨_, rfl⟩
  have M0 : Hid (Blk X w.heap.size (mgc m (.slice ua uk uc))) := by rw [hX]; exact blk_new w 30 (mgc m (.slice ua uk uc))
  have B0 : Hid (Below w.heap.size w X) := by rw [hX]; exact (Below.refl _ w).alloc (Nat.le_refl _) _
  have d1 : (v != 1) = true := by rw [bne_iff_ne]; omega
  have d2 : (v != 2) = true := by rw [bne_iff_ne]; omega
  clear hv
  go_enter Tryz.func8, Tryz.ntmps8
  go_upto_region 1 with fail
  rw [← hX]
  clear hX
  go_wp2
  go_ret
  exact ⟨rfl, B0.out⟩
set_option maxHeartbeats 4000000 in
set_option maxRecDepth 100000 in
theorem ck5_size (v n : Int) (m : Ms) (ua : Option Addr) (uk uc : Nat) (w : World) (hv : v = 1 ∨ v = 2) (hn : n < 1 ∨ (¬ n < 1 ∧ 7 < n)) : Calls Tryz.prog 8 #[.int .i64 v, .int .i64 n, .agg (mgc m (.slice ua uk uc)).toArray] w fun e w' => e = .returned (.int .i64 3) ∧ Below w.heap.size w w' := by
  obtain ⟨X, hX⟩ : ∃ X, X = w.alloc (.cells (mgc m (.slice ua uk uc)).toArray 30) := ⟨_, rfl⟩
  have M0 : Hid (Blk X w.heap.size (mgc m (.slice ua uk uc))) := by rw [hX]; exact blk_new w 30 (mgc m (.slice ua uk uc))
  have B0 : Hid (Below w.heap.size w X) := by rw [hX]; exact (Below.refl _ w).alloc (Nat.le_refl _) _
  rcases hn with hn | ⟨hn, hn2⟩
  · have d1 : decide (n < 1) = true := decide_eq_true hn
    clear hn
    rcases hv with rfl | rfl
    all_goals
      go_enter Tryz.func8, Tryz.ntmps8
      go_upto_region 1 with fail
      rw [← hX]
      clear hX
      go_wp2
      go_ret
      exact ⟨rfl, B0.out⟩
  · have d1 : decide (n < 1) = false := decide_eq_false hn
    have d2 : decide (7 < n) = true := decide_eq_true hn2
    clear hn hn2
    rcases hv with rfl | rfl
    all_goals
      go_enter Tryz.func8, Tryz.ntmps8
      go_upto_region 1 with fail
      rw [← hX]
      clear hX
      go_wp2
      go_ret
      exact ⟨rfl, B0.out⟩
set_option maxHeartbeats 4000000 in
set_option maxRecDepth 100000 in
theorem ck5_kind (v n : Int) (m : Ms) (ua : Option Addr) (uk uc : Nat) (w : World) (hv : v = 1 ∨ v = 2) (hn : 1 ≤ n ∧ n ≤ 7) (hik : ik5 v m.kind = false) : Calls Tryz.prog 8 #[.int .i64 v, .int .i64 n, .agg (mgc m (.slice ua uk uc)).toArray] w fun e w' => e = .returned (.int .i64 51) ∧ Below w.heap.size w w' := by
  obtain ⟨X, hX⟩ : ∃ X, X = w.alloc (.cells (mgc m (.slice ua uk uc)).toArray 30) := ⟨_, rfl⟩
  have M0 : Hid (Blk X w.heap.size (mgc m (.slice ua uk uc))) := by rw [hX]; exact blk_new w 30 (mgc m (.slice ua uk uc))
  have B0 : Hid (Below w.heap.size w X) := by rw [hX]; exact (Below.refl _ w).alloc (Nat.le_refl _) _
  have n1 : decide (n < 1) = false := decide_eq_false (by omega)
  have n7 : decide (7 < n) = false := decide_eq_false (by omega)
  have HIK := hide hik
  clear hn hik
  have c_X_kind : X.cell? ⟨w.heap.size, 0, none⟩ = some (.int .i64 m.kind) := M0.out.cell 0 _ rfl
  rcases hv with rfl | rfl
  all_goals
    go_enter Tryz.func8, Tryz.ntmps8
    go_upto_region 1 with fail
    rw [← hX]
    clear hX
    go_wp2_with fail
    refine (ik5_any' _ m.kind _).mono ?_
    rintro e w1 ⟨rfl, hb⟩
    rw [HIK.out]
    have B1 : Hid (Below w.heap.size w w1) := B0.out.trans (hb.mono B0.out.size)
    have M1 : Hid (Blk w1 w.heap.size (mgc m (.slice ua uk uc))) := M0.out.on hb
    clear hb M0 B0
    go_wp2
    go_ret
    exact ⟨rfl, B1.out⟩
set_option maxHeartbeats 4000000 in
set_option maxRecDepth 100000 in
theorem ck5_extra (v n : Int) (m : Ms) (ua : Option Addr) (uk uc : Nat) (w : World) (hv : v = 1 ∨ v = 2) (hn : 1 ≤ n ∧ n ≤ 7) (hik : ik5 v m.kind = true) (hex : extraM m = true) (hI : SegI w ua uk m.dl) : Calls Tryz.prog 8 #[.int .i64 v, .int .i64 n, .agg (mgc m (.slice ua uk uc)).toArray] w fun e w' => e = .returned (.int .i64 58) ∧ Below w.heap.size w w' := by
  obtain ⟨X, hX⟩ : ∃ X, X = w.alloc (.cells (mgc m (.slice ua uk uc)).toArray 30) := ⟨_, rfl⟩
  have M0 : Hid (Blk X w.heap.size (mgc m (.slice ua uk uc))) := by rw [hX]; exact blk_new w 30 (mgc m (.slice ua uk uc))
  have B0 : Hid (Below w.heap.size w X) := by rw [hX]; exact (Below.refl _ w).alloc (Nat.le_refl _) _
  have n1 : decide (n < 1) = false := decide_eq_false (by omega)
  have n7 : decide (7 < n) = false := decide_eq_false (by omega)
  have HIK := hide hik
  have HEX := hide hex
  have HU := hide hI.1.symm
  clear hn hik hex hI
  have c_X_kind : X.cell? ⟨w.heap.size, 0, none⟩ = some (.int .i64 m.kind) := M0.out.cell 0 _ rfl
  rcases hv with rfl | rfl
  all_goals
    go_enter Tryz.func8, Tryz.ntmps8
    go_upto_region 1 with fail
    rw [← hX]
    clear hX
    go_wp2_with fail
    refine (ik5_any' _ m.kind _).mono ?_
    rintro e w1 ⟨rfl, hb⟩
    rw [HIK.out]
    have B1 : Hid (Below w.heap.size w w1) := B0.out.trans (hb.mono B0.out.size)
    have M1 : Hid (Blk w1 w.heap.size (mgc m (.slice ua uk uc))) := M0.out.on hb
    clear hb M0 B0
    go_wp2_with (first | (refine wpList_load_mid rfl 30 _ rfl w.heap.size 0 rfl (mgc m (.slice ua uk uc)) _ M1.out.range Tryz.underlying30 rfl (by kernel_rfl) ?_) | (refine wpList_load_want (by rfl) 30 _ rfl w.heap.size 0 rfl (mgc m (.slice ua uk uc)) _ M1.out.range Tryz.underlying30 rfl (by kernel_rfl) ?_))
    refine (ex5_any _ m ua uk uc _ HU.out HIK.out).mono ?_
    rintro e w2 ⟨rfl, hb⟩
    rw [HEX.out]
    have B2 : Hid (Below w.heap.size w w2) := B1.out.trans (hb.mono B1.out.size)
    have M2 : Hid (Blk w2 w.heap.size (mgc m (.slice ua uk uc))) := M1.out.on hb
    clear hb M1 B1
    have c_w2_row : w2.cell? ⟨w.heap.size, 1, none⟩ = some (.int .i64 m.row) := M2.out.cell 1 _ rfl
    have c_w2_num : w2.cell? ⟨w.heap.size, 2, none⟩ = some (.int .i64 m.num) := M2.out.cell 2 _ rfl
    go_wp2
    go_ret
    exact ⟨rfl, B2.out⟩
set_option maxHeartbeats 4000000 in
set_option maxRecDepth 100000 in
theorem ck5_inst (v n : Int) (m : Ms) (ua : Option Addr) (uk uc : Nat) (w : World) (hv : v = 1 ∨ v = 2) (hn : 1 ≤ n ∧ n ≤ 7) (hik : ik5 v m.kind = true) (hex : extraM m = false) (hii : instB n m.row m.num = false) (hI : SegI w ua uk m.dl) : Calls Tryz.prog 8 #[.int .i64 v, .int .i64 n, .agg (mgc m (.slice ua uk uc)).toArray] w fun e w' => e = .returned (.int .i64 52) ∧ Below w.heap.size w w' := by
  obtain ⟨X, hX⟩ : ∃ X, X = w.alloc (.cells (mgc m (.slice ua uk uc)).toArray 30) := ⟨_, rfl⟩
  have M0 : Hid (Blk X w.heap.size (mgc m (.slice ua uk uc))) := by rw [hX]; exact blk_new w 30 (mgc m (.slice ua uk uc))
  have B0 : Hid (Below w.heap.size w X) := by rw [hX]; exact (Below.refl _ w).alloc (Nat.le_refl _) _
  have n1 : decide (n < 1) = false := decide_eq_false (by omega)
  have n7 : decide (7 < n) = false := decide_eq_false (by omega)
  have HIK := hide hik
  have HEX := hide hex
  have HU := hide hI.1.symm
  have HII := hide hii
  clear hn hik hex hii hI
  have c_X_kind : X.cell? ⟨w.heap.size, 0, none⟩ = some (.int .i64 m.kind) := M0.out.cell 0 _ rfl
  rcases hv with rfl | rfl
  all_goals
    go_enter Tryz.func8, Tryz.ntmps8
    go_upto_region 1 with fail
    rw [← hX]
    clear hX
    go_wp2_with fail
    refine (ik5_any' _ m.kind _).mono ?_
    rintro e w1 ⟨rfl, hb⟩
    rw [HIK.out]
    have B1 : Hid (Below w.heap.size w w1) := B0.out.trans (hb.mono B0.out.size)
    have M1 : Hid (Blk w1 w.heap.size (mgc m (.slice ua uk uc))) := M0.out.on hb
    clear hb M0 B0
    go_wp2_with (first | (refine wpList_load_mid rfl 30 _ rfl w.heap.size 0 rfl (mgc m (.slice ua uk uc)) _ M1.out.range Tryz.underlying30 rfl (by kernel_rfl) ?_) | (refine wpList_load_want (by rfl) 30 _ rfl w.heap.size 0 rfl (mgc m (.slice ua uk uc)) _ M1.out.range Tryz.underlying30 rfl (by kernel_rfl) ?_))
    refine (ex5_any _ m ua uk uc _ HU.out HIK.out).mono ?_
    rintro e w2 ⟨rfl, hb⟩
    rw [HEX.out]
    have B2 : Hid (Below w.heap.size w w2) := B1.out.trans (hb.mono B1.out.size)
    have M2 : Hid (Blk w2 w.heap.size (mgc m (.slice ua uk uc))) := M1.out.on hb
    clear hb M1 B1
    have c_w2_row : w2.cell? ⟨w.heap.size, 1, none⟩ = some (.int .i64 m.row) := M2.out.cell 1 _ rfl
    have c_w2_num : w2.cell? ⟨w.heap.size, 2, none⟩ = some (.int .i64 m.num) := M2.out.cell 2 _ rfl
    go_wp2_with fail
    refine (ii5_any n m.row m.num _).mono ?_
    rintro e w3 ⟨rfl, hb⟩
    rw [HII.out]
    have B3 : Hid (Below w.heap.size w w3) := B2.out.trans (hb.mono B2.out.size)
    have M3 : Hid (Blk w3 w.heap.size (mgc m (.slice ua uk uc))) := M2.out.on hb
    clear hb M2 B2
    go_wp2
    go_ret
    exact ⟨rfl, B3.out⟩
theorem refCheck5_any (v n : Int) (m : Ms) (ua : Option Addr) (uk uc : Nat) (w : World) (hI : SegI w ua uk m.dl) : Calls Tryz.prog 8 #[.int .i64 v, .int .i64 n, .agg (mgc m (.slice ua uk uc)).toArray] w fun e w' => e = .returned (.int .i64 (chkM v n m)) ∧ Below w.heap.size w w' := by
  by_cases hv : v = 1 ∨ v = 2
  rotate_left
  · have e : chkM v n m = 2 := by unfold chkM callF; rw [if_neg hv]; rfl
    rw [e]; exact ck5_ver v n m ua uk uc w hv
  by_cases hn : 1 ≤ n ∧ n ≤ 7
  rotate_left
  · have e : chkM v n m = 3 := by unfold chkM callF; rw [if_pos hv, if_neg hn]; rfl
    rw [e]; exact ck5_size v n m ua uk uc w hv (by omega)
  have e0 : callF v n = 0 := by unfold callF; rw [if_pos hv, if_pos hn]
  cases hik : ik5 v m.kind with
  | false =>
    have e : chkM v n m = 51 := by unfold chkM; rw [if_pos e0, ← ik5_mk hv, hik]; rfl
    rw [e]; exact ck5_kind v n m ua uk uc w hv hn hik
  | true =>
    cases hex : extraM m with
    | true =>
      have e : chkM v n m = 58 := by unfold chkM; rw [if_pos e0, ← ik5_mk hv, hik, if_pos rfl, hex]; rfl
      rw [e]; exact ck5_extra v n m ua uk uc w hv hn hik hex hI
    | false =>
      cases hii : instB n m.row m.num with
      | false =>
        have e : chkM v n m = 52 := by unfold chkM; rw [if_pos e0, ← ik5_mk hv, hik, if_pos rfl, hex, if_neg Bool.false_ne_true]; exact shF_inst5 hii _
        rw [e]; exact ck5_inst v n m ua uk uc w hv hn hik hex hii hI
      | true =>
        have hk' : 1 ≤ m.kind ∧ m.kind ≤ 9 := by
          have h := hik
          simp only [ik5, Bool.or_eq_true, Bool.and_eq_true, beq_iff_eq, decide_eq_true_eq] at h
          omega
        rcases (by omega : m.kind = 1 ∨ m.kind = 2 ∨ m.kind = 3 ∨ m.kind = 4 ∨ m.kind = 5 ∨ m.kind = 6 ∨ m.kind = 7 ∨ m.kind = 8 ∨ m.kind = 9) with h | h | h | h | h | h | h | h | h
        · exact ck5_1a v n m ua uk uc w hv hn hik hex hii h hI
        · exact ck5_2 v n m ua uk uc w hv hn hik hex hii h hI
        · exact ck5_1b v n m ua uk uc w hv hn hik hex hii h hI
        · exact ck5_3a v n m ua uk uc w hv hn hik hex hii h hI
        · exact ck5_4 v n m ua uk uc w hv hn hik hex hii h hI
        · exact ck5_3b v n m ua uk uc w hv hn hik hex hii h hI
        · by_cases h0 : m.st = 0
          · exact ck5_5 v n m ua uk uc w hv hn hik hex hii ⟨h, h0⟩ hI
          · by_cases h1 : m.st = 1
            · exact ck5_6a v n m ua uk uc w hv hn hik hex hii ⟨h, h1⟩ hI
            · exact ck5_6b v n m ua uk uc w hv hn hik hex hii ⟨h, h0, h1⟩ hI
        · exact ck5_7 v n m ua uk uc w hv hn hik hex hii h hI
        · exact ck5_0 v n m ua uk uc w hv hn hik hex hii h hI
end Go.Proofs.YtdokagebfeejbaaGreatDoor
