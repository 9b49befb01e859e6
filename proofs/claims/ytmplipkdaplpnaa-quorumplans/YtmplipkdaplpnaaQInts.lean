/- The contract of the statements' helper Ints (a new list). -/
import Derived.Test.YtmplipkdaplpnaaVLit
import Derived.OwnWalk
namespace Go.Proofs.Ytmplipkdaplpnaa
open Go.RowKit Go.Wire1

theorem pushIQ {B : Nat} {w wr w1 : World} {v v' : Value} {o : Obj} {pre : List Int} {z : Int} (hB : B ≤ wr.heap.size) (hown : wr.ownsRow B 3 1 v pre.length (pre.map (Value.int .i64))) (hbel : Below B w wr)
    (hown' : w1.ownsRow B 3 1 v' (pre.length + 1) (pre.map (Value.int .i64) ++ [.int .i64 z])) (hgrow : (wr.alloc o).grownBy w1 v.ownBlock) :
    w1.ownsRow B 3 1 v' (pre ++ [z]).length ((pre ++ [z]).map (Value.int .i64)) ∧ Below B w w1 :=
  ⟨by simpa using hown', (hbel.alloc hB o).grown hgrow (by simp; omega) (fun j hj => (hown.lt j hj).1)⟩

set_option maxHeartbeats 1000000 in
set_option maxRecDepth 100000 in
theorem ints_any (a : Option Addr) (n cap : Nat) (xs : List Int) (w : World) (ha : SegI w a n xs) (hlen : n * 8 ≤ 140737488355328) :
    Calls Try.prog 46 #[.slice a n cap] w fun e w' => ∃ v, e = .returned v ∧ w'.ownsRow w.heap.size 3 1 v xs.length (xs.map (Value.int .i64)) ∧ Below w.heap.size w w' := by
  obtain ⟨i0, hi, hz0, hz1, hz2⟩ := info_parts Try.info3
  have HA : Hid (SegI w a n xs) := ha
  have hxl : Hid (xs.length = n) := ha.1
  clear ha
  go_enter Try.func46, Try.ntmps46
  go_wp2
  go_loopw [3, 4] (fun v c wr => ∃ k : Nat, c = .int .i64 (k : Int) ∧ k ≤ n ∧ wr.ownsRow w.heap.size 3 1 v (xs.take k).length ((xs.take k).map (Value.int .i64)) ∧ Below w.heap.size w wr) (fun _ c _ => n - (intOf c).toNat)
  case atStart => exact ⟨0, rfl, Nat.zero_le _, World.ownsRow_nil _ _ _ _, Below.refl _ _⟩
  case round =>
    obtain ⟨k, rfl, hk, hown, hbel⟩ := hrel
    have hsz := hbel.size
    have htl : (xs.take k).length ≤ k := List.length_take_le _ _
    by_cases hlt : k < n
    · obtain ⟨ba, oa, rfl, hca⟩ := (HA.out.below hbel (Nat.le_refl _)).2.2.1 (by omega)
      have ca : wr.cell? ⟨ba, oa + k, none⟩ = some (.int .i64 (xs.getD k 0)) := hca k hlt
      have HT : Hid (xs.take (k + 1) = xs.take k ++ [xs.getD k 0]) := take_next (by have := hxl.out; omega)
      clear hca
      generalize xs.getD k 0 = z at *
      generalize xs.take k = pre at *
      go_wp2_with (first
        | (at_builtin; refine wpList_append_own _ rfl _ _ 22 rfl w.heap.size 3 i0 (.int .i64 0) 1 8 Try.underlying22 hi hz0 hz1 hz2 rfl (by decide) _ _ _ rfl (hown.alloc _) ⟨wr.heap.size, 0, none⟩ 1 1 [.int .i64 z] rfl rfl ?c1 ?c2 ?c3 ?c4 ?c5 ?_))
      case c1 =>
        intro j u hj
        match j, hj with
        | 0, hj => simp at hj; subst hj; simp [Addr.add]
      case c2 => intro u hu; simp at hu; subst hu; rfl
      case c3 => unfold maxLen; omega
      case c4 => omega
      case c5 => simp; omega
      intro v' w1 hown' hgrow _
      have R := pushIQ hsz hown hbel hown' hgrow
      clear hown' hgrow hown
      go_wp2
      go_roundw
      case rel => rw [← HT.out] at R; exact ⟨k + 1, by go_num, by omega, R.1, R.2⟩
      case measure => simp [intOf]; omega
    · have HT : Hid (xs.take k = xs) := List.take_of_length_le (by have := hxl.out; omega)
      rw [HT.out] at hown
      clear htl
      go_wp2
      go_ret
      exact ⟨_, rfl, hown, hbel⟩

end Go.Proofs.Ytmplipkdaplpnaa
