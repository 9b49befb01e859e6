/- The contract of the statements' helper filled. -/
import Derived.Test.YtahpnfbjpdnapaaDkMath
import Derived.Test.YtahpnfbjpdnapaaCBytes
namespace Go.Proofs.Ytahpnfbjpdnapaa
open Go.RowKit Go.Wire1

set_option maxHeartbeats 1000000 in
set_option maxRecDepth 100000 in
theorem filled_c1 (a : Option Addr) (n cap : Nat) (xs : List Int) (t : Int) (w : World) (ha : Seg w a n xs) (hlen : n ≤ 140737488351232) (h1 : t < 1) :
    Calls Try.prog 19 #[.slice a n cap, .int .i64 t] w fun e w' => ∃ v, e = .returned v ∧ w'.ownsRow w.heap.size 5 1 v xs.length (xs.map (Value.int .u8)) ∧ Below w.heap.size w w' := by
  obtain ⟨i0, hi, hz0, hz1, hz2⟩ := info_parts Try.info5
  have HA : Hid (Seg w a n xs) := ha
  have hxl : Hid (xs.length = n) := ha.1
  clear ha
  go_enter Try.func19, Try.ntmps19
  go_wp2
  go_loopw [5, 6] (fun v c wr => (c = .int .i64 0 ∧ v = .slice none 0 0 ∧ w = wr) ∨ (c = .int .i64 1 ∧ Hid (wr.ownsRow w.heap.size 5 1 v xs.length (xs.map (Value.int .u8))) ∧ Hid (Below w.heap.size w wr))) (fun _ c _ => 1 - (intOf c).toNat)
  case atStart => exact .inl ⟨rfl, rfl, rfl⟩
  case round =>
    rcases hrel with ⟨rfl, rfl, rfl⟩ | ⟨rfl, hown, hbel⟩
    · go_wp2
      go_loopw [5, 7] (fun v c wq => ∃ k : Nat, c = .int .i64 (k : Int) ∧ k ≤ n ∧ wq.ownsRow w.heap.size 5 1 v (xs.take k).length ((xs.take k).map (Value.int .u8)) ∧ Below w.heap.size w wq) (fun _ c _ => n - (intOf c).toNat)
      case atStart => exact ⟨0, rfl, Nat.zero_le _, World.ownsRow_nil _ _ _ _, Below.refl _ _⟩
      case round =>
        obtain ⟨k, rfl, hk, hown, hbel⟩ := hrel
        have hsz := hbel.size
        have htl : (xs.take k).length ≤ k := List.length_take_le _ _
        by_cases hlt2 : k < n
        · obtain ⟨ba, oa, rfl, hca⟩ := (HA.out.below hbel (Nat.le_refl _)).2.2 (by omega)
          have ca : wr.cell? ⟨ba, oa + k, none⟩ = some (.int .u8 (xs.getD k 0)) := hca k hlt2
          have HT : Hid (xs.take (k + 1) = xs.take k ++ [xs.getD k 0]) := take_next (by have := hxl.out; omega)
          clear hca
          generalize xs.getD k 0 = z at *
          generalize xs.take k = pre at *
          go_wp2_with (first
            | (at_builtin; refine wpList_append_own _ rfl _ _ 27 rfl w.heap.size 5 i0 (.int .u8 0) 1 1 Try.underlying27 hi hz0 hz1 hz2 rfl (by decide) _ _ _ rfl (hown.alloc _) ⟨wr.heap.size, 0, none⟩ 1 1 [.int .u8 z] rfl rfl ?c1 ?c2 ?c3 ?c4 ?c5 ?_))
          case c1 =>
            intro j u hj
            match j, hj with
            | 0, hj => simp at hj; subst hj; simp [Addr.add]
          case c2 => intro u hu; simp at hu; subst hu; rfl
          case c3 => unfold maxLen; omega
          case c4 => omega
          case c5 => simp; omega
          intro v' w1 hown' hgrow _
          have R := push hsz hown hbel hown' hgrow
          clear hown' hgrow hown
          go_wp2
          go_roundw
          case rel => rw [← HT.out] at R; exact ⟨k + 1, by go_num, by omega, R.1, R.2⟩
          case measure => simp [intOf]; omega
        · have HT : Hid (xs.take k = xs) := List.take_of_length_le (by have := hxl.out; omega)
          rw [HT.out] at hown
          have HO := hide hown
          have HB := hide hbel
          clear htl hown hbel
          go_wp2
          go_roundw
          case rel => exact .inr ⟨rfl, HO, HB⟩
          case measure => simp [intOf]
    · go_wp2
      go_ret
      exact ⟨_, rfl, hown.out, hbel.out⟩

set_option maxHeartbeats 1000000 in
set_option maxRecDepth 100000 in
theorem filled_c2 (a : Option Addr) (n cap : Nat) (xs : List Int) (t : Int) (w : World) (ha : Seg w a n xs) (hlen : n ≤ 140737488351232) (h1 : ¬ t < 1) (h2 : n = 0) :
    Calls Try.prog 19 #[.slice a n cap, .int .i64 t] w fun e w' => ∃ v, e = .returned v ∧ w'.ownsRow w.heap.size 5 1 v xs.length (xs.map (Value.int .u8)) ∧ Below w.heap.size w w' := by
  obtain ⟨i0, hi, hz0, hz1, hz2⟩ := info_parts Try.info5
  have HA : Hid (Seg w a n xs) := ha
  have hxl : Hid (xs.length = n) := ha.1
  clear ha
  have h4 : ((n : Int) == 0) = true := by simp [h2]
  clear h2
  go_enter Try.func19, Try.ntmps19
  go_wp2
  go_loopw [5, 6] (fun v c wr => (c = .int .i64 0 ∧ v = .slice none 0 0 ∧ w = wr) ∨ (c = .int .i64 1 ∧ Hid (wr.ownsRow w.heap.size 5 1 v xs.length (xs.map (Value.int .u8))) ∧ Hid (Below w.heap.size w wr))) (fun _ c _ => 1 - (intOf c).toNat)
  case atStart => exact .inl ⟨rfl, rfl, rfl⟩
  case round =>
    rcases hrel with ⟨rfl, rfl, rfl⟩ | ⟨rfl, hown, hbel⟩
    · go_wp2
      go_loopw [5, 7] (fun v c wq => ∃ k : Nat, c = .int .i64 (k : Int) ∧ k ≤ n ∧ wq.ownsRow w.heap.size 5 1 v (xs.take k).length ((xs.take k).map (Value.int .u8)) ∧ Below w.heap.size w wq) (fun _ c _ => n - (intOf c).toNat)
      case atStart => exact ⟨0, rfl, Nat.zero_le _, World.ownsRow_nil _ _ _ _, Below.refl _ _⟩
      case round =>
        obtain ⟨k, rfl, hk, hown, hbel⟩ := hrel
        have hsz := hbel.size
        have htl : (xs.take k).length ≤ k := List.length_take_le _ _
        by_cases hlt2 : k < n
        · obtain ⟨ba, oa, rfl, hca⟩ := (HA.out.below hbel (Nat.le_refl _)).2.2 (by omega)
          have ca : wr.cell? ⟨ba, oa + k, none⟩ = some (.int .u8 (xs.getD k 0)) := hca k hlt2
          have HT : Hid (xs.take (k + 1) = xs.take k ++ [xs.getD k 0]) := take_next (by have := hxl.out; omega)
          clear hca
          generalize xs.getD k 0 = z at *
          generalize xs.take k = pre at *
          go_wp2_with (first
            | (at_builtin; refine wpList_append_own _ rfl _ _ 27 rfl w.heap.size 5 i0 (.int .u8 0) 1 1 Try.underlying27 hi hz0 hz1 hz2 rfl (by decide) _ _ _ rfl (hown.alloc _) ⟨wr.heap.size, 0, none⟩ 1 1 [.int .u8 z] rfl rfl ?c1 ?c2 ?c3 ?c4 ?c5 ?_))
          case c1 =>
            intro j u hj
            match j, hj with
            | 0, hj => simp at hj; subst hj; simp [Addr.add]
          case c2 => intro u hu; simp at hu; subst hu; rfl
          case c3 => unfold maxLen; omega
          case c4 => omega
          case c5 => simp; omega
          intro v' w1 hown' hgrow _
          have R := push hsz hown hbel hown' hgrow
          clear hown' hgrow hown
          go_wp2
          go_roundw
          case rel => rw [← HT.out] at R; exact ⟨k + 1, by go_num, by omega, R.1, R.2⟩
          case measure => simp [intOf]; omega
        · have HT : Hid (xs.take k = xs) := List.take_of_length_le (by have := hxl.out; omega)
          rw [HT.out] at hown
          have HO := hide hown
          have HB := hide hbel
          clear htl hown hbel
          go_wp2
          go_roundw
          case rel => exact .inr ⟨rfl, HO, HB⟩
          case measure => simp [intOf]
    · go_wp2
      go_ret
      exact ⟨_, rfl, hown.out, hbel.out⟩

set_option maxHeartbeats 1000000 in
set_option maxRecDepth 100000 in
theorem filled_c3 (a : Option Addr) (n cap : Nat) (xs : List Int) (t : Int) (w : World) (ha : Seg w a n xs) (hlen : n ≤ 140737488351232) (h1 : ¬ t < 1) (h2 : ¬ n = 0) (h3 : (4194368 : Int) / (n : Int) < t) :
    Calls Try.prog 19 #[.slice a n cap, .int .i64 t] w fun e w' => ∃ v, e = .returned v ∧ w'.ownsRow w.heap.size 5 1 v xs.length (xs.map (Value.int .u8)) ∧ Below w.heap.size w w' := by
  obtain ⟨i0, hi, hz0, hz1, hz2⟩ := info_parts Try.info5
  have HA : Hid (Seg w a n xs) := ha
  have hxl : Hid (xs.length = n) := ha.1
  clear ha
  have h4 : ((n : Int) == 0) = false := by simpa using h2
  have h5 : Int.tdiv 4194368 (n : Int) = (4194368 : Int) / (n : Int) := Int.tdiv_eq_ediv_of_nonneg (by decide)
  have h7 : ¬ ((n : Int) = 0) := by omega
  obtain ⟨d, hd⟩ : ∃ d, (4194368 : Int) / (n : Int) = d := ⟨_, rfl⟩
  have h6 : 0 ≤ d ∧ d ≤ 4194368 := by rw [← hd]; exact ⟨Int.ediv_nonneg (by decide) (by omega), Int.ediv_le_self _ (by decide)⟩
  have h8 := h6.1
  have h9 := h6.2
  clear h6
  rw [hd] at h5 h3
  clear hd
  go_enter Try.func19, Try.ntmps19
  go_wp2
  go_loopw [5, 6] (fun v c wr => (c = .int .i64 0 ∧ v = .slice none 0 0 ∧ w = wr) ∨ (c = .int .i64 1 ∧ Hid (wr.ownsRow w.heap.size 5 1 v xs.length (xs.map (Value.int .u8))) ∧ Hid (Below w.heap.size w wr))) (fun _ c _ => 1 - (intOf c).toNat)
  case atStart => exact .inl ⟨rfl, rfl, rfl⟩
  case round =>
    rcases hrel with ⟨rfl, rfl, rfl⟩ | ⟨rfl, hown, hbel⟩
    · go_wp2
      go_loopw [5, 7] (fun v c wq => ∃ k : Nat, c = .int .i64 (k : Int) ∧ k ≤ n ∧ wq.ownsRow w.heap.size 5 1 v (xs.take k).length ((xs.take k).map (Value.int .u8)) ∧ Below w.heap.size w wq) (fun _ c _ => n - (intOf c).toNat)
      case atStart => exact ⟨0, rfl, Nat.zero_le _, World.ownsRow_nil _ _ _ _, Below.refl _ _⟩
      case round =>
        obtain ⟨k, rfl, hk, hown, hbel⟩ := hrel
        have hsz := hbel.size
        have htl : (xs.take k).length ≤ k := List.length_take_le _ _
        by_cases hlt2 : k < n
        · obtain ⟨ba, oa, rfl, hca⟩ := (HA.out.below hbel (Nat.le_refl _)).2.2 (by omega)
          have ca : wr.cell? ⟨ba, oa + k, none⟩ = some (.int .u8 (xs.getD k 0)) := hca k hlt2
          have HT : Hid (xs.take (k + 1) = xs.take k ++ [xs.getD k 0]) := take_next (by have := hxl.out; omega)
          clear hca
          generalize xs.getD k 0 = z at *
          generalize xs.take k = pre at *
          go_wp2_with (first
            | (at_builtin; refine wpList_append_own _ rfl _ _ 27 rfl w.heap.size 5 i0 (.int .u8 0) 1 1 Try.underlying27 hi hz0 hz1 hz2 rfl (by decide) _ _ _ rfl (hown.alloc _) ⟨wr.heap.size, 0, none⟩ 1 1 [.int .u8 z] rfl rfl ?c1 ?c2 ?c3 ?c4 ?c5 ?_))
          case c1 =>
            intro j u hj
            match j, hj with
            | 0, hj => simp at hj; subst hj; simp [Addr.add]
          case c2 => intro u hu; simp at hu; subst hu; rfl
          case c3 => unfold maxLen; omega
          case c4 => omega
          case c5 => simp; omega
          intro v' w1 hown' hgrow _
          have R := push hsz hown hbel hown' hgrow
          clear hown' hgrow hown
          go_wp2
          go_roundw
          case rel => rw [← HT.out] at R; exact ⟨k + 1, by go_num, by omega, R.1, R.2⟩
          case measure => simp [intOf]; omega
        · have HT : Hid (xs.take k = xs) := List.take_of_length_le (by have := hxl.out; omega)
          rw [HT.out] at hown
          have HO := hide hown
          have HB := hide hbel
          clear htl hown hbel
          go_wp2
          go_roundw
          case rel => exact .inr ⟨rfl, HO, HB⟩
          case measure => simp [intOf]
    · go_wp2
      go_ret
      exact ⟨_, rfl, hown.out, hbel.out⟩

set_option maxHeartbeats 1000000 in
set_option maxRecDepth 100000 in
theorem filled_c4 (a : Option Addr) (n cap : Nat) (xs : List Int) (q : Nat) (w : World) (ha : Seg w a n xs) (h1 : 1 ≤ q) (hq : (q : Int) ≤ 9223372036854775807) (h2 : ¬ n = 0) (h3 : ¬ (4194368 : Int) / (n : Int) < (q : Int)) (htn : q * n ≤ 140737488351232) :
    Calls Try.prog 19 #[.slice a n cap, .int .i64 (q : Int)] w fun e w' => ∃ v, e = .returned v ∧ w'.ownsRow w.heap.size 5 1 v (repL xs q).length ((repL xs q).map (Value.int .u8)) ∧ Below w.heap.size w w' := by
  obtain ⟨i0, hi, hz0, hz1, hz2⟩ := info_parts Try.info5
  have HA : Hid (Seg w a n xs) := ha
  have hxl : Hid (xs.length = n) := ha.1
  clear ha
  have h4 : ((n : Int) == 0) = false := by simpa using h2
  have h5 : Int.tdiv 4194368 (n : Int) = (4194368 : Int) / (n : Int) := Int.tdiv_eq_ediv_of_nonneg (by decide)
  have h7 : ¬ ((n : Int) = 0) := by omega
  obtain ⟨d, hd⟩ : ∃ d, (4194368 : Int) / (n : Int) = d := ⟨_, rfl⟩
  have h6 : 0 ≤ d ∧ d ≤ 4194368 := by rw [← hd]; exact ⟨Int.ediv_nonneg (by decide) (by omega), Int.ediv_le_self _ (by decide)⟩
  have h8 := h6.1
  have h9 := h6.2
  have h10 : ¬ ((q : Int) < 1) := by omega
  clear h6
  rw [hd] at h5 h3
  clear hd
  go_enter Try.func19, Try.ntmps19
  go_wp2
  go_loopw [5, 6] (fun v c wr => ∃ i : Nat, c = .int .i64 (i : Int) ∧ i ≤ q ∧ Hid (wr.ownsRow w.heap.size 5 1 v (repL xs i).length ((repL xs i).map (Value.int .u8))) ∧ Hid (Below w.heap.size w wr)) (fun _ c _ => q - (intOf c).toNat)
  case atStart => exact ⟨0, rfl, Nat.zero_le _, World.ownsRow_nil _ _ _ _, Below.refl _ _⟩
  case round =>
    obtain ⟨i, rfl, hi2, hown, hbel⟩ := hrel
    by_cases hlt : i < q
    · have hpre : (repL xs i).length + n ≤ 140737488351232 := by
        have e1 := repL_len xs (i + 1)
        rw [repL_succ, List.length_append, hxl.out] at e1
        rw [e1]
        exact Nat.le_trans (Nat.mul_le_mul_right n (by omega : i + 1 ≤ q)) htn
      have HNX : Hid (repL xs (i + 1) = repL xs i ++ xs) := repL_succ xs i
      generalize repL xs i = P at *
      go_wp2
      go_loopw [5, 7] (fun v c wq => ∃ k : Nat, c = .int .i64 (k : Int) ∧ k ≤ n ∧ wq.ownsRow w.heap.size 5 1 v (P ++ xs.take k).length ((P ++ xs.take k).map (Value.int .u8)) ∧ Below w.heap.size w wq) (fun _ c _ => n - (intOf c).toNat)
      case atStart => exact ⟨0, rfl, Nat.zero_le _, by simpa using hown.out, hbel.out⟩
      case round =>
        clear hown hbel
        obtain ⟨k, rfl, hk, hown, hbel⟩ := hrel
        have hsz := hbel.size
        have htl : (P ++ xs.take k).length ≤ P.length + k := by rw [List.length_append]; have := List.length_take_le k xs; omega
        by_cases hlt2 : k < n
        · obtain ⟨ba, oa, rfl, hca⟩ := (HA.out.below hbel (Nat.le_refl _)).2.2 (by omega)
          have ca : wr.cell? ⟨ba, oa + k, none⟩ = some (.int .u8 (xs.getD k 0)) := hca k hlt2
          have HT : Hid (P ++ xs.take (k + 1) = (P ++ xs.take k) ++ [xs.getD k 0]) := by show _ = _; rw [take_next (by have := hxl.out; omega), List.append_assoc]
          clear hca
          generalize xs.getD k 0 = z at *
          generalize P ++ xs.take k = pre at *
          go_wp2_with (first
            | (at_builtin; refine wpList_append_own _ rfl _ _ 27 rfl w.heap.size 5 i0 (.int .u8 0) 1 1 Try.underlying27 hi hz0 hz1 hz2 rfl (by decide) _ _ _ rfl (hown.alloc _) ⟨wr.heap.size, 0, none⟩ 1 1 [.int .u8 z] rfl rfl ?c1 ?c2 ?c3 ?c4 ?c5 ?_))
          case c1 =>
            intro j u hj
            match j, hj with
            | 0, hj => simp at hj; subst hj; simp [Addr.add]
          case c2 => intro u hu; simp at hu; subst hu; rfl
          case c3 => unfold maxLen; omega
          case c4 => omega
          case c5 => simp; omega
          intro v' w1 hown' hgrow _
          have R := push hsz hown hbel hown' hgrow
          clear hown' hgrow hown
          go_wp2
          go_roundw
          case rel => rw [← HT.out] at R; exact ⟨k + 1, by go_num, by omega, R.1, R.2⟩
          case measure => simp [intOf]; omega
        · have HT : Hid (P ++ xs.take k = P ++ xs) := by show _ = _; rw [List.take_of_length_le (by have := hxl.out; omega)]
          rw [HT.out, ← HNX.out] at hown
          have HO := hide hown
          have HB := hide hbel
          clear htl hown hbel
          go_wp2
          go_roundw
          case rel => exact ⟨i + 1, by go_num, by omega, HO, HB⟩
          case measure => simp [intOf]; omega
    · obtain rfl : i = q := by omega
      go_wp2
      go_ret
      exact ⟨_, rfl, hown.out, hbel.out⟩

theorem filled_any (a : Option Addr) (n cap : Nat) (xs : List Int) (t : Int) (w : World) (ha : Seg w a n xs) (hlen : n ≤ 140737488351232) (ht : I64 t) :
    Calls Try.prog 19 #[.slice a n cap, .int .i64 t] w fun e w' => ∃ v, e = .returned v ∧ w'.ownsRow w.heap.size 5 1 v (fillL xs t).length ((fillL xs t).map (Value.int .u8)) ∧ Below w.heap.size w w' := by
  have hl := ha.1
  by_cases h1 : t < 1
  · have e : fillL xs t = xs := fillL_one (.inl h1)
    rw [e]; exact filled_c1 a n cap xs t w ha hlen h1
  by_cases h2 : n = 0
  · have e : fillL xs t = xs := fillL_one (.inr (.inl (by omega)))
    rw [e]; exact filled_c2 a n cap xs t w ha hlen h1 h2
  by_cases h3 : (4194368 : Int) / (n : Int) < t
  · have e : fillL xs t = xs := fillL_one (.inr (.inr (by rw [hl]; exact h3)))
    rw [e]; exact filled_c3 a n cap xs t w ha hlen h1 h2 h3
  · obtain ⟨q, rfl⟩ := Int.eq_ofNat_of_zero_le (show 0 ≤ t by omega)
    have e0 : fillN n (q : Int) = q := by
      unfold fillN
      rw [if_neg (by intro h; rcases h with h | h | h <;> contradiction)]
      omega
    have e : fillL xs (q : Int) = repL xs q := by unfold fillL; rw [hl, e0]
    have hb := fillN_le n (q : Int) hlen
    rw [e0] at hb
    rw [e]; exact filled_c4 a n cap xs q w ha (by omega) ht.2 h2 h3 hb
end Go.Proofs.Ytahpnfbjpdnapaa
