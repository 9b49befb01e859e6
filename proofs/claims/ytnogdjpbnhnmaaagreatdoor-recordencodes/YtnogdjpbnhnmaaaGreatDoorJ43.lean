/- Texts of the proof, joined. -/
import Derived.Test.YtnogdjpbnhnmaaaGreatDoorJ12
import Derived.Deep.QuietTactic
import Derived.BigQuiet
import Derived.Test.YtnogdjpbnhnmaaaGreatDoorJ30
import Derived.Test.YtnogdjpbnhnmaaaGreatDoorJ36
import Derived.Test.YtnogdjpbnhnmaaaGreatDoorJ39
import Derived.Test.YtnogdjpbnhnmaaaGreatDoorJ41
import Derived.Test.YtnogdjpbnhnmaaaGreatDoorJ42
/- The contract of SameBytes: two lists of bytes in memory, alike or not; it only reads. -/
namespace Go.Proofs.YtnogdjpbnhnmaaaGreatDoor
open Go.RowKit Go.Wire1

set_option maxHeartbeats 400000 in
set_option maxRecDepth 100000 in
theorem same_any (a b : Option Addr) (n m cap cap' : Nat) (xs ys : List Int) (w : World) (ha : Seg w a n xs) (hb : Seg w b m ys) :
    Calls Tryz.prog 12 #[.slice a n cap, .slice b m cap'] w fun e w' => e = .returned (.bool (sameB xs ys)) ∧ ∃ q, w' = w.drewN q := by
  obtain ⟨hn, hn', ha⟩ := ha
  obtain ⟨hm, hm', hb⟩ := hb
  unfold maxLen at hn' hm'
  by_cases hnm : n = m
  · subst hnm
    have HN : Hid (xs.length = n) := hn
    have HM : Hid (ys.length = n) := hm
    clear hn hm
    go_enter Tryz.func12, Tryz.ntmps12
    go_wp2
    go_loopw [5] (fun i wr => ∃ k q : Nat, i = .int .i64 (k : Int) ∧ k ≤ n ∧ Hid (xs.take k = ys.take k) ∧ wr = w.drewN q) (fun i _ => n - (intOf i).toNat)
    case atStart => exact ⟨0, 0, rfl, Nat.zero_le _, rfl, rfl⟩
    case round =>
      obtain ⟨k, q, rfl, hk, HT, rfl⟩ := hrel
      by_cases hlt : k < n
      · obtain ⟨ba, oa, rfl, hca⟩ := ha (by omega)
        obtain ⟨bb, ob, rfl, hcb⟩ := hb (by omega)
        have ca : w.cell? ⟨ba, oa + k, none⟩ = some (.int .u8 (xs.getD k 0)) := hca k hlt
        have cb : w.cell? ⟨bb, ob + k, none⟩ = some (.int .u8 (ys.getD k 0)) := hcb k hlt
        clear ha hb hca hcb
        by_cases he : xs.getD k 0 = ys.getD k 0
        · have HT' : Hid (xs.take (k + 1) = ys.take (k + 1)) := take_step (by have := HN.out; omega) (by have := HM.out; omega) HT.out he
          rw [← he] at cb
          clear he
          generalize xs.getD k 0 = c at ca cb
          go_wp2
          go_quiet (fail)
          go_wp2
          go_roundw
          case rel => exact ⟨k + 1, _, by go_num, by omega, HT', rfl⟩
          case measure => simp [intOf]; omega
        · have HS : Hid (sameB xs ys = false) := same_no he
          have hb' : (xs.getD k 0 != ys.getD k 0) = true := by simpa using he
          clear he
          generalize xs.getD k 0 = c at ca hb'
          generalize ys.getD k 0 = d at cb hb'
          go_wp2
          go_quiet (fail)
          go_wp2
          go_ret
          exact ⟨by rw [HS.out]; rfl, _, by rw [World.drewN_drewN]⟩
      · have HS : Hid (sameB xs ys = true) := same_yes (by have := HT.out; rwa [List.take_of_length_le (by have := HN.out; omega), List.take_of_length_le (by have := HM.out; omega)] at this)
        go_wp2
        go_ret
        exact ⟨by rw [HS.out]; rfl, _, rfl⟩
  · have HS : Hid (sameB xs ys = false) := same_len (by omega)
    have hne : ((n : Int) != (m : Int)) = true := by rw [bne_iff_ne]; omega
    go_enter Tryz.func12, Tryz.ntmps12
    go_wp2
    go_ret
    exact ⟨by rw [HS.out]; rfl, 0, rfl⟩
end Go.Proofs.YtnogdjpbnhnmaaaGreatDoor
/- What RecordEncodes stands on. -/
namespace Go
end Go
/- The contracts of the document's own add and number of records. -/
namespace Go.Proofs.YtnogdjpbnhnmaaaGreatDoor
open Go.RowKit Go.Wire1

set_option maxHeartbeats 1000000 in
set_option maxRecDepth 100000 in
theorem add6_any (a b : Option Addr) (n m cap cap' : Nat) (xs ys : List Int) (w : World) (ha : Seg w a n xs) (hb : Seg w b m ys) (hlen : n + m ≤ 140737488355328) :
    Calls Tryz.prog 32 #[.slice a n cap, .slice b m cap'] w fun e w' => ∃ v, e = .returned v ∧ w'.ownsRow w.heap.size 5 1 v (xs ++ ys).length ((xs ++ ys).map (Value.int .u8)) ∧ Below w.heap.size w w' := by
  obtain ⟨i0, hi, hz0, hz1, hz2⟩ := info_parts Tryz.info5
  have HA : Hid (Seg w a n xs) := ha
  have HB : Hid (Seg w b m ys) := hb
  have hxl : Hid (xs.length = n) := ha.1
  have hyl : Hid (ys.length = m) := hb.1
  clear ha hb
  go_enter Tryz.func32, Tryz.ntmps32
  go_wp2_with fail
  refine (bytes_any _ _ _ xs _ HA.out (by omega)).mono ?_
  rintro e w1 ⟨v, rfl, hown0, hbel0⟩
  go_wp2
  go_loopw [5, 6] (fun v c wr => ∃ k : Nat, c = .int .i64 (k : Int) ∧ k ≤ m ∧ wr.ownsRow w.heap.size 5 1 v (xs ++ ys.take k).length ((xs ++ ys.take k).map (Value.int .u8)) ∧ Below w.heap.size w wr) (fun _ c _ => m - (intOf c).toNat)
  case atStart => exact ⟨0, rfl, Nat.zero_le _, by simpa using hown0, hbel0⟩
  case round =>
    obtain ⟨k, rfl, hk, hown, hbel⟩ := hrel
    have hsz := hbel.size
    have htl : (xs ++ ys.take k).length ≤ n + k := by rw [List.length_append, hxl.out, List.length_take]; omega
    by_cases hlt : k < m
    · obtain ⟨ba, oa, rfl, hca⟩ := (HB.out.below hbel (Nat.le_refl _)).2.2 (by omega)
      have ca : wr.cell? ⟨ba, oa + k, none⟩ = some (.int .u8 (ys.getD k 0)) := hca k hlt
      have HT : Hid (xs ++ ys.take (k + 1) = (xs ++ ys.take k) ++ [ys.getD k 0]) := by show _ = _; rw [take_next (by have := hyl.out; omega), List.append_assoc]
      clear hca hown0 hbel0
      generalize ys.getD k 0 = z at *
      generalize xs ++ ys.take k = pre at *
      go_wp2_with (first
        | (at_builtin; refine wpList_append_own _ rfl _ _ 22 rfl w.heap.size 5 i0 (.int .u8 0) 1 1 Tryz.underlying22 hi hz0 hz1 hz2 rfl (by decide) _ _ _ rfl (hown.alloc _) ⟨wr.heap.size, 0, none⟩ 1 1 [.int .u8 z] rfl rfl ?c1 ?c2 ?c3 ?c4 ?c5 ?_))
      case c1 =>
        intro j u hj
        match j, hj with
        | 0, hj => simp at hj; subst hj; simp [Addr.add]
      case c2 => intro u hu; simp at hu; subst hu; rfl
      case c3 => unfold maxLen; omega
      case c4 => omega
      case c5 => simp; omega
      intro v' w1 hown' hgrow _
      have R := push hsz hown hbel hown' hgrow
      clear hown' hgrow hown
      go_wp2
      go_roundw
      case rel => rw [← HT.out] at R; exact ⟨k + 1, by go_num, by omega, R.1, R.2⟩
      case measure => simp [intOf]; omega
    · have HT : Hid (xs ++ ys.take k = xs ++ ys) := by show _ = _; rw [List.take_of_length_le (by have := hyl.out; omega)]
      rw [HT.out] at hown
      clear htl hown0 hbel0
      go_wp2
      go_ret
      exact ⟨_, rfl, hown, hbel⟩

set_option maxHeartbeats 1000000 in
set_option maxRecDepth 100000 in
theorem number6_any (a : Option Addr) (n cap : Nat) (xs : List Int) (x : Nat) (w : World) (ha : Seg w a n xs) (hx : x < 9223372036854775808) (hlen : n ≤ 1000000) :
    Calls Tryz.prog 28 #[.slice a n cap, .int .i64 (x : Int)] w fun e w' => ∃ v, e = .returned v ∧ w'.ownsRow w.heap.size 5 1 v (xs ++ enc x).length ((xs ++ enc x).map (Value.int .u8)) ∧ Below w.heap.size w w' := by
  have HA := hide ha
  have h0 : (0 : Int) ≤ (x : Int) := by omega
  have h1 : (x : Int) < 18446744073709551616 := by omega
  have ht : Hid ((enc x).length ≤ 10) := (enc_le x (by omega)).2
  clear ha
  go_enter Tryz.func28, Tryz.ntmps28
  go_wp2_with fail
  refine (rputUint_any x _ (by omega)).mono ?_
  rintro e w1 ⟨v, rfl, o1, b1⟩
  obtain ⟨a1, c1, rfl, k1, k2, S1⟩ := seg_own o1
  have B1 := hide b1
  have HS := hide S1
  obtain ⟨E, hE⟩ : ∃ E, Hid (enc x = E) := ⟨_, rfl⟩
  rw [hE.out] at HS ht ⊢
  obtain ⟨m, hm⟩ : ∃ m, Hid (E.length = m) := ⟨_, rfl⟩
  rw [hm.out] at HS ht ⊢
  have ht2 := ht.out
  clear o1 b1 S1 k1 k2
  go_wp2_with fail
  refine (add6_any _ _ _ _ _ _ xs E _ (HA.out.below B1.out (Nat.le_refl _)) HS.out (by omega)).mono ?_
  rintro e w2 ⟨v, rfl, o2, b2⟩
  have O2 := hide o2
  have B2 := hide b2
  clear o2 b2
  go_wp2
  go_ret
  rw [hE.out]
  exact ⟨_, rfl, own_more O2.out B1.out.size, B1.out.trans (B2.out.mono B1.out.size)⟩
end Go.Proofs.YtnogdjpbnhnmaaaGreatDoor
