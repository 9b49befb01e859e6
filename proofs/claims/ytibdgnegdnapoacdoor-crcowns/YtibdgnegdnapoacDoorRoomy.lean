/- The contract of the statements' helper roomy: a new list with three bytes of spare room behind it. -/
import Derived.Test.YtibdgnegdnapoacDoorCBytes
namespace Go.Proofs.YtibdgnegdnapoacDoor
open Go.RowKit Go.Wire1

set_option maxHeartbeats 1000000 in
set_option maxRecDepth 100000 in
theorem roomy_any (a : Option Addr) (n cap : Nat) (xs : List Int) (w : World) (ha : Seg w a n xs) (hlen : n ≤ 140737488351232) :
    Calls Tryd.prog 27 #[.slice a n cap] w fun e w' => ∃ v, e = .returned v ∧ w'.ownsRow w.heap.size 5 1 v (xs ++ [11, 12, 13]).length ((xs ++ [11, 12, 13]).map (Value.int .u8)) ∧ Below w.heap.size w w' := by
  obtain ⟨i0, hi, hz0, hz1, hz2⟩ := info_parts Tryd.info5
  have hx' : xs.length ≤ 140737488351232 := by rw [ha.1]; exact hlen
  have HA := hide ha
  clear ha
  go_enter Tryd.func27, Tryd.ntmps27
  go_wp2_with fail
  refine (bytes_any a n cap xs _ HA.out (by omega)).mono ?_
  rintro e w1 ⟨v, rfl, hown, hbel⟩
  have hsz := hbel.size
  go_wp2_with (first
    | (at_builtin; refine wpList_append_own _ rfl _ _ 30 rfl w.heap.size 5 i0 (.int .u8 0) 1 1 Tryd.underlying30 hi hz0 hz1 hz2 rfl (by decide) _ _ _ rfl (hown.alloc _) ⟨w1.heap.size, 0, none⟩ 1 1 [.int .u8 11] rfl rfl ?c1 ?c2 ?c3 ?c4 ?c5 ?_))
  case c1 =>
    intro j u hj
    match j, hj with
    | 0, hj => simp at hj; subst hj; simp [Addr.add]
  case c2 => intro u hu; simp at hu; subst hu; rfl
  case c3 => unfold maxLen; omega
  case c4 => omega
  case c5 => simp; omega
  intro v2 w2 hown' hgrow _
  have R := push hsz hown hbel hown' hgrow
  clear hown' hgrow hown hbel hsz
  obtain ⟨hown, hbel⟩ := R
  have hsz := hbel.size
  have hx1 : (xs ++ [11]).length ≤ 140737488351233 := by simp only [List.length_append, List.length_cons, List.length_nil]; omega
  generalize hp1 : xs ++ [11] = pre1 at *
  go_wp2_with (first
    | (at_builtin; refine wpList_append_own _ rfl _ _ 30 rfl w.heap.size 5 i0 (.int .u8 0) 1 1 Tryd.underlying30 hi hz0 hz1 hz2 rfl (by decide) _ _ _ rfl (hown.alloc _) ⟨w2.heap.size, 0, none⟩ 1 1 [.int .u8 12] rfl rfl ?c1 ?c2 ?c3 ?c4 ?c5 ?_))
  case c1 =>
    intro j u hj
    match j, hj with
    | 0, hj => simp at hj; subst hj; simp [Addr.add]
  case c2 => intro u hu; simp at hu; subst hu; rfl
  case c3 => unfold maxLen; omega
  case c4 => omega
  case c5 => simp; omega
  intro v3 w3 hown' hgrow _
  have R := push hsz hown hbel hown' hgrow
  clear hown' hgrow hown hbel hsz
  obtain ⟨hown, hbel⟩ := R
  have hsz := hbel.size
  have hx2 : (pre1 ++ [12]).length ≤ 140737488351234 := by simp only [List.length_append, List.length_cons, List.length_nil]; omega
  generalize hp2 : pre1 ++ [12] = pre2 at *
  go_wp2_with (first
    | (at_builtin; refine wpList_append_own _ rfl _ _ 30 rfl w.heap.size 5 i0 (.int .u8 0) 1 1 Tryd.underlying30 hi hz0 hz1 hz2 rfl (by decide) _ _ _ rfl (hown.alloc _) ⟨w3.heap.size, 0, none⟩ 1 1 [.int .u8 13] rfl rfl ?c1 ?c2 ?c3 ?c4 ?c5 ?_))
  case c1 =>
    intro j u hj
    match j, hj with
    | 0, hj => simp at hj; subst hj; simp [Addr.add]
  case c2 => intro u hu; simp at hu; subst hu; rfl
  case c3 => unfold maxLen; omega
  case c4 => omega
  case c5 => simp; omega
  intro v4 w4 hown' hgrow _
  have R := push hsz hown hbel hown' hgrow
  clear hown' hgrow hown hbel hsz
  obtain ⟨hown, hbel⟩ := R
  have hsz := hbel.size
  have hx3 : (pre2 ++ [13]).length ≤ 140737488351235 := by simp only [List.length_append, List.length_cons, List.length_nil]; omega
  generalize hp3 : pre2 ++ [13] = pre3 at *
  go_wp2
  go_ret
  have e : xs ++ [11, 12, 13] = pre3 := by rw [← hp3, ← hp2, ← hp1]; simp
  rw [e]
  exact ⟨_, rfl, hown, hbel⟩
end Go.Proofs.YtibdgnegdnapoacDoor
