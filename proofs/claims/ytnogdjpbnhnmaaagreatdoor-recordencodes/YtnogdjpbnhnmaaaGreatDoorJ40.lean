/- Texts of the proof, joined. -/
import Derived.Test.YtnogdjpbnhnmaaaGreatDoorRows
import Derived.Test.YtnogdjpbnhnmaaaGreatDoorJ12
import Derived.WalkKit
import Derived.Test.YtnogdjpbnhnmaaaGreatDoorJ05
/- The contract of the statements' helper Bytes: a new list. -/
namespace Go.Proofs.YtnogdjpbnhnmaaaGreatDoor
open Go.RowKit Go.Wire1

set_option maxHeartbeats 1000000 in
set_option maxRecDepth 100000 in
theorem bytes_any (a : Option Addr) (n cap : Nat) (xs : List Int) (w : World) (ha : Seg w a n xs) (hlen : n ≤ 140737488355328) :
    Calls Tryz.prog 10 #[.slice a n cap] w fun e w' => ∃ v, e = .returned v ∧ w'.ownsRow w.heap.size 5 1 v xs.length (xs.map (Value.int .u8)) ∧ Below w.heap.size w w' := by
  obtain ⟨i0, hi, hz0, hz1, hz2⟩ := info_parts Tryz.info5
  have HA : Hid (Seg w a n xs) := ha
  have hxl : Hid (xs.length = n) := ha.1
  clear ha
  go_enter Tryz.func10, Tryz.ntmps10
  go_wp2
  go_loopw [3, 4] (fun v c wr => ∃ k : Nat, c = .int .i64 (k : Int) ∧ k ≤ n ∧ wr.ownsRow w.heap.size 5 1 v (xs.take k).length ((xs.take k).map (Value.int .u8)) ∧ Below w.heap.size w wr) (fun _ c _ => n - (intOf c).toNat)
  case atStart => exact ⟨0, rfl, Nat.zero_le _, World.ownsRow_nil _ _ _ _, Below.refl _ _⟩
  case round =>
    obtain ⟨k, rfl, hk, hown, hbel⟩ := hrel
    have hsz := hbel.size
    have htl : (xs.take k).length ≤ k := List.length_take_le _ _
    by_cases hlt : k < n
    · obtain ⟨ba, oa, rfl, hca⟩ := (HA.out.below hbel (Nat.le_refl _)).2.2 (by omega)
      have ca : wr.cell? ⟨ba, oa + k, none⟩ = some (.int .u8 (xs.getD k 0)) := hca k hlt
      have HT : Hid (xs.take (k + 1) = xs.take k ++ [xs.getD k 0]) := take_next (by have := hxl.out; omega)
      clear hca
      generalize xs.getD k 0 = z at *
      generalize xs.take k = pre at *
      go_wp2_with (first
        | (at_builtin; refine wpList_append_own _ rfl _ _ 22 rfl w.heap.size 5 i0 (.int .u8 0) 1 1 Tryz.underlying22 hi hz0 hz1 hz2 rfl (by decide) _ _ _ rfl (hown.alloc _) ⟨wr.heap.size, 0, none⟩ 1 1 [.int .u8 z] rfl rfl ?c1 ?c2 ?c3 ?c4 ?c5 ?_))
      case c1 =>
        intro j u hj
        match j, hj with
        | 0, hj => simp at hj; subst hj; simp [Addr.add]
      case c2 => intro u hu; simp at hu; subst hu; rfl
      case c3 => unfold maxLen; omega
      case c4 => omega
      case c5 => simp; omega
      intro v' w1 hown' hgrow _
      have R := push hsz hown hbel hown' hgrow
      clear hown' hgrow hown
      go_wp2
      go_roundw
      case rel => rw [← HT.out] at R; exact ⟨k + 1, by go_num, by omega, R.1, R.2⟩
      case measure => simp [intOf]; omega
    · have HT : Hid (xs.take k = xs) := List.take_of_length_le (by have := hxl.out; omega)
      rw [HT.out] at hown
      clear htl
      go_wp2
      go_ret
      exact ⟨_, rfl, hown, hbel⟩
end Go.Proofs.YtnogdjpbnhnmaaaGreatDoor
/- The contract of the document's own add: the bytes of one list behind those of another. -/
namespace Go.Proofs.YtnogdjpbnhnmaaaGreatDoor
open Go.RowKit Go.Wire1

set_option maxHeartbeats 1000000 in
set_option maxRecDepth 100000 in
theorem add_any (a b : Option Addr) (n m cap cap' : Nat) (xs ys : List Int) (w : World) (ha : Seg w a n xs) (hb : Seg w b m ys) (hlen : n + m ≤ 140737488355328) :
    Calls Tryz.prog 70 #[.slice a n cap, .slice b m cap'] w fun e w' => ∃ v, e = .returned v ∧ w'.ownsRow w.heap.size 5 1 v (xs ++ ys).length ((xs ++ ys).map (Value.int .u8)) ∧ Below w.heap.size w w' := by
  obtain ⟨i0, hi, hz0, hz1, hz2⟩ := info_parts Tryz.info5
  have HA : Hid (Seg w a n xs) := ha
  have HB : Hid (Seg w b m ys) := hb
  have hxl : Hid (xs.length = n) := ha.1
  have hyl : Hid (ys.length = m) := hb.1
  clear ha hb
  go_enter Tryz.func70, Tryz.ntmps70
  go_wp2_with fail
  refine (bytes_any _ _ _ xs _ HA.out (by omega)).mono ?_
  rintro e w1 ⟨v, rfl, hown0, hbel0⟩
  go_wp2
  go_loopw [5, 6] (fun v c wr => ∃ k : Nat, c = .int .i64 (k : Int) ∧ k ≤ m ∧ wr.ownsRow w.heap.size 5 1 v (xs ++ ys.take k).length ((xs ++ ys.take k).map (Value.int .u8)) ∧ Below w.heap.size w wr) (fun _ c _ => m - (intOf c).toNat)
  case atStart => exact ⟨0, rfl, Nat.zero_le _, by simpa using hown0, hbel0⟩
  case round =>
    obtain ⟨k, rfl, hk, hown, hbel⟩ := hrel
    have hsz := hbel.size
    have htl : (xs ++ ys.take k).length ≤ n + k := by rw [List.length_append, hxl.out, List.length_take]; omega
    by_cases hlt : k < m
    · obtain ⟨ba, oa, rfl, hca⟩ := (HB.out.below hbel (Nat.le_refl _)).2.2 (by omega)
      have ca : wr.cell? ⟨ba, oa + k, none⟩ = some (.int .u8 (ys.getD k 0)) := hca k hlt
      have HT : Hid (xs ++ ys.take (k + 1) = (xs ++ ys.take k) ++ [ys.getD k 0]) := by show _ = _; rw [take_next (by have := hyl.out; omega), List.append_assoc]
      clear hca hown0 hbel0
      generalize ys.getD k 0 = z at *
      generalize xs ++ ys.take k = pre at *
      go_wp2_with (first
        | (at_builtin; refine wpList_append_own _ rfl _ _ 22 rfl w.heap.size 5 i0 (.int .u8 0) 1 1 Tryz.underlying22 hi hz0 hz1 hz2 rfl (by decide) _ _ _ rfl (hown.alloc _) ⟨wr.heap.size, 0, none⟩ 1 1 [.int .u8 z] rfl rfl ?c1 ?c2 ?c3 ?c4 ?c5 ?_))
      case c1 =>
        intro j u hj
        match j, hj with
        | 0, hj => simp at hj; subst hj; simp [Addr.add]
      case c2 => intro u hu; simp at hu; subst hu; rfl
      case c3 => unfold maxLen; omega
      case c4 => omega
      case c5 => simp; omega
      intro v' w1 hown' hgrow _
      have R := push hsz hown hbel hown' hgrow
      clear hown' hgrow hown
      go_wp2
      go_roundw
      case rel => rw [← HT.out] at R; exact ⟨k + 1, by go_num, by omega, R.1, R.2⟩
      case measure => simp [intOf]; omega
    · have HT : Hid (xs ++ ys.take k = xs ++ ys) := by show _ = _; rw [List.take_of_length_le (by have := hyl.out; omega)]
      rw [HT.out] at hown
      clear htl hown0 hbel0
      go_wp2
      go_ret
      exact ⟨_, rfl, hown, hbel⟩
theorem add_own {a b : Option Addr} {n m cap cap' : Nat} {xs ys : List Int} {w0 w : World} {B : Nat} (hb0 : Below B w0 w) (hB : B ≤ w0.heap.size) (ha : Seg w a n xs) (hb : Seg w b m ys) (hlen : n + m ≤ 140737488355328) {zs : List Int} (hz : xs ++ ys = zs) :
    Calls Tryz.prog 70 #[.slice a n cap, .slice b m cap'] w fun e w' => ∃ v, e = .returned v ∧ w'.ownsRow B 5 1 v zs.length (zs.map (Value.int .u8)) ∧ Below B w0 w' := by
  refine (add_any a b n m cap cap' xs ys w ha hb hlen).mono ?_
  rintro e w' ⟨v, rfl, hown, hb'⟩
  subst hz
  exact ⟨v, rfl, own_base hown (Nat.le_trans hB hb0.size), hb0.on hb' hB⟩
end Go.Proofs.YtnogdjpbnhnmaaaGreatDoor
