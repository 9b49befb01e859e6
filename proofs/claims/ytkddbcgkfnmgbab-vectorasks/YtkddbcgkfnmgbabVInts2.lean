/- The contracts of the statements' helpers Ints (a new list) and roomy (a new list with three numbers more). -/
import Derived.Test.YtkddbcgkfnmgbabVRef0
namespace Go.Proofs.Ytkddbcgkfnmgbab
open Go.RowKit Go.Wire1

set_option maxHeartbeats 1000000 in
set_option maxRecDepth 100000 in
theorem ints_any (a : Option Addr) (n cap : Nat) (xs : List Int) (w : World) (ha : SegI w a n xs) (hlen : n * 8 ≤ 140737488355328) :
    Calls Try.prog 13 #[.slice a n cap] w fun e w' => ∃ v, e = .returned v ∧ w'.ownsRow w.heap.size 3 1 v xs.length (xs.map (Value.int .i64)) ∧ Below w.heap.size w w' := by
  obtain ⟨i0, hi, hz0, hz1, hz2⟩ := info_parts Try.info3
  have HA : Hid (SegI w a n xs) := ha
  have hxl : Hid (xs.length = n) := ha.1
  clear ha
  go_enter Try.func13, Try.ntmps13
  go_wp2
  go_loopw [3, 4] (fun v c wr => ∃ k : Nat, c = .int .i64 (k : Int) ∧ k ≤ n ∧ wr.ownsRow w.heap.size 3 1 v (xs.take k).length ((xs.take k).map (Value.int .i64)) ∧ Below w.heap.size w wr) (fun _ c _ => n - (intOf c).toNat)
  case atStart => exact ⟨0, rfl, Nat.zero_le _, World.ownsRow_nil _ _ _ _, Below.refl _ _⟩
  case round =>
    obtain ⟨k, rfl, hk, hown, hbel⟩ := hrel
    have hsz := hbel.size
    have htl : (xs.take k).length ≤ k := List.length_take_le _ _
    by_cases hlt : k < n
    · obtain ⟨ba, oa, rfl, hca⟩ := (HA.out.below hbel (Nat.le_refl _)).2.2.1 (by omega)
      have ca : wr.cell? ⟨ba, oa + k, none⟩ = some (.int .i64 (xs.getD k 0)) := hca k hlt
      have HT : Hid (xs.take (k + 1) = xs.take k ++ [xs.getD k 0]) := take_next (by have := hxl.out; omega)
      clear hca
      generalize xs.getD k 0 = z at *
      generalize xs.take k = pre at *
      go_wp2_with (first
        | (at_builtin; refine wpList_append_own _ rfl _ _ 22 rfl w.heap.size 3 i0 (.int .i64 0) 1 8 Try.underlying22 hi hz0 hz1 hz2 rfl (by decide) _ _ _ rfl (hown.alloc _) ⟨wr.heap.size, 0, none⟩ 1 1 [.int .i64 z] rfl rfl ?c1 ?c2 ?c3 ?c4 ?c5 ?_))
      case c1 =>
        intro j u hj
        match j, hj with
        | 0, hj => simp at hj; subst hj; simp [Addr.add]
      case c2 => intro u hu; simp at hu; subst hu; rfl
      case c3 => unfold maxLen; omega
      case c4 => omega
      case c5 => simp; omega
      intro v' w1 hown' hgrow _
      have R := pushI hsz hown hbel hown' hgrow
      clear hown' hgrow hown
      go_wp2
      go_roundw
      case rel => rw [← HT.out] at R; exact ⟨k + 1, by go_num, by omega, R.1, R.2⟩
      case measure => simp [intOf]; omega
    · have HT : Hid (xs.take k = xs) := List.take_of_length_le (by have := hxl.out; omega)
      rw [HT.out] at hown
      clear htl
      go_wp2
      go_ret
      exact ⟨_, rfl, hown, hbel⟩

theorem fit_append {l m : List Int} (h : Fit l) (k : Fit m) : Fit (l ++ m) := fun j => by
  by_cases hj : j < l.length
  · rw [List.getD, List.getElem?_append_left hj]; exact h j
  · rw [List.getD, List.getElem?_append_right (by omega)]; exact k _

def spare3 : List Int := [901, 902, 903]
theorem fit_spare : Fit spare3 := fit_of (fun x hx => by unfold spare3 at hx; simp only [List.mem_cons, List.not_mem_nil, or_false] at hx; omega)

set_option maxHeartbeats 1000000 in
set_option maxRecDepth 100000 in
/-- A row of our own at its block: the list, and the three numbers behind it. -/
theorem roomy_any (a : Option Addr) (n cap : Nat) (xs : List Int) (w : World) (ha : SegI w a n xs) (hlen : (n + 3) * 8 ≤ 140737488355328) :
    Calls Try.prog 5 #[.slice a n cap] w fun e w' => ∃ g c, e = .returned (.slice (some ⟨g, 0, none⟩) (n + 3) c) ∧ MineI w' w.heap.size g (n + 3) c (xs ++ spare3) ∧ Below w.heap.size w w' := by
  obtain ⟨i0, hi, hz0, hz1, hz2⟩ := info_parts Try.info3
  have HA : Hid (SegI w a n xs) := ha
  have hxl : Hid (xs.length = n) := ha.1
  clear ha
  go_enter Try.func5, Try.ntmps5
  go_wp2_with fail
  refine (ints_any _ _ _ xs _ HA.out (by omega)).mono ?_
  rintro e w1 ⟨v, rfl, hown, hb1⟩
  have hsz := hb1.size
  rw [hxl.out] at hown
  go_wp2_with (first
    | (at_builtin; refine wpList_append_own _ rfl _ _ 22 rfl w.heap.size 3 i0 (.int .i64 0) 1 8 Try.underlying22 hi hz0 hz1 hz2 rfl (by decide) _ _ _ rfl (hown.alloc _) ⟨w1.heap.size, 0, none⟩ 3 3 [.int .i64 901, .int .i64 902, .int .i64 903] rfl rfl ?c1 ?c2 ?c3 ?c4 ?c5 ?_))
  case c1 =>
    intro j u hj
    rw [add_at, Nat.zero_add]
    exact (cell_new w1 [.int .i64 901, .int .i64 902, .int .i64 903] 3 j).trans hj
  case c2 => intro u hu; simp at hu; rcases hu with rfl | rfl | rfl <;> rfl
  case c3 => unfold maxLen; omega
  case c4 => omega
  case c5 => simp; omega
  intro v' w2 hown' hgrow _
  have B2 : Hid (Below w.heap.size w w2) := (hb1.alloc hsz _).grown hgrow (by simp; omega) (fun j hj => (hown.lt j hj).1)
  have hL : (xs ++ spare3).length = n + 3 := by rw [List.length_append, hxl.out]; rfl
  have hown2 : w2.ownsRow w.heap.size 3 1 v' (xs ++ spare3).length ((xs ++ spare3).map (Value.int .i64)) := by
    rw [hL, List.map_append]; exact hown'
  obtain ⟨g, c, hv, hmine⟩ := mineI_of hown2 (by omega)
  rw [hL] at hv hmine
  have HM : Hid (MineI w2 w.heap.size g (n + 3) c (xs ++ spare3)) := hmine
  subst hv
  clear hown hown' hgrow hown2 hmine hb1 hL
  go_wp2
  go_ret
  exact ⟨g, c, rfl, HM.out, B2.out⟩
end Go.Proofs.Ytkddbcgkfnmgbab
