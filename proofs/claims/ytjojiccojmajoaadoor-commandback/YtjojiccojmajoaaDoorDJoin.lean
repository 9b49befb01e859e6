/- The contract of the statements' helper joined. -/
import Derived.Test.YtjojiccojmajoaaDoorPut
import Derived.Test.YtjojiccojmajoaaDoorWide
namespace Go.Proofs.YtjojiccojmajoaaDoor
open Go.RowKit Go.Wire1

set_option maxHeartbeats 1000000 in
set_option maxRecDepth 100000 in
theorem joined_any (a b : Option Addr) (n m cap cap' : Nat) (xs ys : List Int) (w : World) (ha : Seg w a n xs) (hb : Seg w b m ys) (hn : n ≤ 16777216) (hlen : m ≤ 140737488355328) :
    Calls Tryd.prog 12 #[.slice a n cap, .slice b m cap'] w fun e w' => ∃ v, e = .returned v ∧ w'.ownsRow w.heap.size 5 1 v (xs ++ ys).length ((xs ++ ys).map (Value.int .u8)) ∧ Below w.heap.size w w' := by
  obtain ⟨i0, hi, hz0, hz1, hz2⟩ := info_parts Tryd.info5
  have HA : Hid (Seg w a n xs) := ha
  have HB : Hid (Seg w b m ys) := hb
  have hxl : Hid (xs.length = n) := ha.1
  have hyl : Hid (ys.length = m) := hb.1
  clear ha hb
  go_enter Tryd.func12, Tryd.ntmps12
  go_wp2
  go_loopw [5, 6] (fun v c wr => ∃ k : Nat, c = .int .i64 (k : Int) ∧ k ≤ n ∧ wr.ownsRow w.heap.size 5 1 v (xs.take k).length ((xs.take k).map (Value.int .u8)) ∧ Below w.heap.size w wr) (fun _ c _ => n - (intOf c).toNat)
  case atStart => exact ⟨0, rfl, Nat.zero_le _, World.ownsRow_nil _ _ _ _, Below.refl _ _⟩
  case round =>
    obtain ⟨k, rfl, hk, hown, hbel⟩ := hrel
    have hsz := hbel.size
    have htl : (xs.take k).length ≤ k := List.length_take_le _ _
    by_cases hlt : k < n
    · obtain ⟨ba, oa, rfl, hca⟩ := (HA.out.below hbel (Nat.le_refl _)).2.2 (by omega)
      have ca : wr.cell? ⟨ba, oa + k, none⟩ = some (.int .u8 (xs.getD k 0)) := hca k hlt
      have HT : Hid (xs.take (k + 1) = xs.take k ++ [xs.getD k 0]) := take_next (by have := hxl.out; omega)
      clear hca
      generalize xs.getD k 0 = z at *
      generalize xs.take k = pre at *
      go_wp2_with (first
        | (at_builtin; refine wpList_append_wide rfl _ _ 24 rfl w.heap.size 5 i0 (.int .u8 0) Tryd.underlying24 hi hz0 hz1 hz2 rfl _ _ _ rfl (hown.alloc _) ⟨_, 0, none⟩ 1 (.int .u8 z) rfl ?c1 rfl ?c2 ?c3 ?_))
      case c1 => simp
      case c2 => omega
      case c3 => simp; omega
      intro v' w1 hown' hgrow
      have R := push hsz hown hbel hown' hgrow
      clear hown' hgrow hown
      go_wp2
      go_roundw
      case rel => rw [← HT.out] at R; exact ⟨k + 1, by go_num, by omega, R.1, R.2⟩
      case measure => simp [intOf]; omega
    · have HT : Hid (xs.take k = xs) := List.take_of_length_le (by have := hxl.out; omega)
      rw [HT.out] at hown
      clear htl
      go_wp2
      go_loopw [5, 7] (fun v c wr => ∃ k : Nat, c = .int .i64 (k : Int) ∧ k ≤ m ∧ wr.ownsRow w.heap.size 5 1 v (xs ++ ys.take k).length ((xs ++ ys.take k).map (Value.int .u8)) ∧ Below w.heap.size w wr) (fun _ c _ => m - (intOf c).toNat)
      case atStart => exact ⟨0, rfl, Nat.zero_le _, by simpa using hown, hbel⟩
      case round =>
        clear hown hbel hsz
        obtain ⟨k, rfl, hk, hown, hbel⟩ := hrel
        have hsz := hbel.size
        have htl : (xs ++ ys.take k).length ≤ n + k := by rw [List.length_append, hxl.out, List.length_take]; omega
        by_cases hlt : k < m
        · obtain ⟨ba, oa, rfl, hca⟩ := (HB.out.below hbel (Nat.le_refl _)).2.2 (by omega)
          have ca := hca k hlt
          have HT : Hid (xs ++ ys.take (k + 1) = (xs ++ ys.take k) ++ [ys.getD k 0]) := by show _ = _; rw [take_next (by have := hyl.out; omega), List.append_assoc]
          clear hca
          generalize ys.getD k 0 = z at *
          generalize xs ++ ys.take k = pre at *
          go_wp2_with (first
            | (at_builtin; refine wpList_append_wide rfl _ _ 24 rfl w.heap.size 5 i0 (.int .u8 0) Tryd.underlying24 hi hz0 hz1 hz2 rfl _ _ _ rfl (hown.alloc _) ⟨_, 0, none⟩ 1 (.int .u8 z) rfl ?d1 rfl ?d2 ?d3 ?_))
          case d1 => simp
          case d2 => omega
          case d3 => simp; omega
          intro v' w1 hown' hgrow
          have R := push hsz hown hbel hown' hgrow
          clear hown' hgrow hown
          go_wp2
          go_roundw
          case rel => rw [← HT.out] at R; exact ⟨k + 1, by go_num, by omega, R.1, R.2⟩
          case measure => simp [intOf]; omega
        · have HT : Hid (ys.take k = ys) := List.take_of_length_le (by have := hyl.out; omega)
          rw [HT.out] at hown
          clear htl
          go_wp2
          go_ret
          exact ⟨_, rfl, hown, hbel⟩
end Go.Proofs.YtjojiccojmajoaaDoor
