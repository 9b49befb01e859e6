/- Texts of the proof, joined. -/
import Derived.Test.YtpjdgbhjjknopaaDoorJ03
import Derived.Deep.QuietTactic
import Derived.BigQuiet
/- The contracts of the statements' helpers Bytes and room: new lists. -/
namespace Go.Proofs.YtpjdgbhjjknopaaDoor
open Go.RowKit Go.Wire1

theorem push3 {B : Nat} {w wr w1 : World} {v v' : Value} {o : Obj} {pre : List Int} {x y z : Int} (hB : B ≤ wr.heap.size) (hown : wr.ownsRow B 5 1 v pre.length (pre.map (Value.int .u8))) (hbel : Below B w wr)
    (hown' : w1.ownsRow B 5 1 v' (pre.length + 3) (pre.map (Value.int .u8) ++ [.int .u8 x, .int .u8 y, .int .u8 z])) (hgrow : (wr.alloc o).grownBy w1 v.ownBlock) :
    w1.ownsRow B 5 1 v' (pre ++ [x, y, z]).length ((pre ++ [x, y, z]).map (Value.int .u8)) ∧ Below B w w1 :=
  ⟨by simpa using hown', (hbel.alloc hB o).grown hgrow (by simp; omega) (fun j hj => (hown.lt j hj).1)⟩

set_option maxHeartbeats 1000000 in
set_option maxRecDepth 100000 in
theorem bytes_any (a : Option Addr) (n cap : Nat) (xs : List Int) (w : World) (ha : Seg w a n xs) (hlen : n ≤ 140737488355328) :
    Calls Tryd.prog 11 #[.slice a n cap] w fun e w' => ∃ v, e = .returned v ∧ w'.ownsRow w.heap.size 5 1 v xs.length (xs.map (Value.int .u8)) ∧ Below w.heap.size w w' := by
  obtain ⟨i0, hi, hz0, hz1, hz2⟩ := info_parts Tryd.info5
  have HA : Hid (Seg w a n xs) := ha
  have hxl : Hid (xs.length = n) := ha.1
  clear ha
  go_enter Tryd.func11, Tryd.ntmps11
  go_wp2
  go_loopw [3, 4] (fun v c wr => ∃ k : Nat, c = .int .i64 (k : Int) ∧ k ≤ n ∧ wr.ownsRow w.heap.size 5 1 v (xs.take k).length ((xs.take k).map (Value.int .u8)) ∧ Below w.heap.size w wr) (fun _ c _ => n - (intOf c).toNat)
  case atStart => exact ⟨0, rfl, Nat.zero_le _, World.ownsRow_nil _ _ _ _, Below.refl _ _⟩
  case round =>
    obtain ⟨k, rfl, hk, hown, hbel⟩ := hrel
    have hsz := hbel.size
    have htl : (xs.take k).length ≤ k := List.length_take_le _ _
    by_cases hlt : k < n
    · obtain ⟨ba, oa, rfl, hca⟩ := (HA.out.below hbel (Nat.le_refl _)).2.2 (by omega)
      have ca : wr.cell? ⟨ba, oa + k, none⟩ = some (.int .u8 (xs.getD k 0)) := hca k hlt
      have HT : Hid (xs.take (k + 1) = xs.take k ++ [xs.getD k 0]) := take_next (by have := hxl.out; omega)
      clear hca
      generalize xs.getD k 0 = z at *
      generalize xs.take k = pre at *
      go_wp2_with (first
        | (at_builtin; refine wpList_append_own _ rfl _ _ 22 rfl w.heap.size 5 i0 (.int .u8 0) 1 1 Tryd.underlying22 hi hz0 hz1 hz2 rfl (by decide) _ _ _ rfl (hown.alloc _) ⟨wr.heap.size, 0, none⟩ 1 1 [.int .u8 z] rfl rfl ?c1 ?c2 ?c3 ?c4 ?c5 ?_))
      case c1 =>
        intro j u hj
        match j, hj with
        | 0, hj => simp at hj; subst hj; simp [Addr.add]
      case c2 => intro u hu; simp at hu; subst hu; rfl
      case c3 => unfold maxLen; omega
      case c4 => omega
      case c5 => simp; omega
      intro v' w1 hown' hgrow _
      have R := push hsz hown hbel hown' hgrow
      clear hown' hgrow hown
      go_wp2
      go_roundw
      case rel => rw [← HT.out] at R; exact ⟨k + 1, by go_num, by omega, R.1, R.2⟩
      case measure => simp [intOf]; omega
    · have HT : Hid (xs.take k = xs) := List.take_of_length_le (by have := hxl.out; omega)
      rw [HT.out] at hown
      clear htl
      go_wp2
      go_ret
      exact ⟨_, rfl, hown, hbel⟩

set_option maxHeartbeats 1000000 in
set_option maxRecDepth 100000 in
theorem room4_any (a : Option Addr) (n cap : Nat) (xs : List Int) (w : World) (ha : Seg w a n xs) (hlen : n ≤ 140737488351232) :
    Calls Tryd.prog 5 #[.slice a n cap] w fun e w' => ∃ v, e = .returned v ∧ w'.ownsRow w.heap.size 5 1 v (xs ++ [161, 162, 163]).length ((xs ++ [161, 162, 163]).map (Value.int .u8)) ∧ Below w.heap.size w w' := by
  obtain ⟨i0, hi, hz0, hz1, hz2⟩ := info_parts Tryd.info5
  have hxl := ha.1
  have hx' : xs.length ≤ 140737488351232 := by omega
  clear hxl
  go_enter Tryd.func5, Tryd.ntmps5
  go_wp2_with fail
  refine (bytes_any a n cap xs _ ha (by omega)).mono ?_
  rintro e w1 ⟨v, rfl, hown, hbel⟩
  have hsz := hbel.size
  go_wp2_with (first
    | (at_builtin; refine wpList_append_own _ rfl _ _ 22 rfl w.heap.size 5 i0 (.int .u8 0) 1 1 Tryd.underlying22 hi hz0 hz1 hz2 rfl (by decide) _ _ _ rfl (hown.alloc _) ⟨w1.heap.size, 0, none⟩ 3 3 [.int .u8 161, .int .u8 162, .int .u8 163] rfl rfl ?c1 ?c2 ?c3 ?c4 ?c5 ?_))
  case c1 =>
    intro j u hj
    match j, hj with
    | 0, hj => simp at hj; subst hj; simp [Addr.add]
    | 1, hj => simp at hj; subst hj; simp [Addr.add]
    | 2, hj => simp at hj; subst hj; simp [Addr.add]
  case c2 => intro u hu; simp at hu; rcases hu with rfl | rfl | rfl <;> rfl
  case c3 => unfold maxLen; omega
  case c4 => omega
  case c5 => simp; omega
  intro v' w2 hown' hgrow _
  have R := push3 hsz hown hbel hown' hgrow
  clear hown' hgrow hown
  go_wp2
  go_ret
  exact ⟨_, rfl, R.1, R.2⟩
end Go.Proofs.YtpjdgbhjjknopaaDoor
/- The contract of SameBytes: two lists of bytes in memory, alike or not; it only reads. -/
namespace Go.Proofs.YtpjdgbhjjknopaaDoor
open Go.RowKit Go.Wire1

set_option maxHeartbeats 400000 in
set_option maxRecDepth 100000 in
theorem same_any (a b : Option Addr) (n m cap cap' : Nat) (xs ys : List Int) (w : World) (ha : Seg w a n xs) (hb : Seg w b m ys) :
    Calls Tryd.prog 10 #[.slice a n cap, .slice b m cap'] w fun e w' => e = .returned (.bool (sameB xs ys)) ∧ ∃ q, w' = w.drewN q := by
  obtain ⟨hn, hn', ha⟩ := ha
  obtain ⟨hm, hm', hb⟩ := hb
  unfold maxLen at hn' hm'
  by_cases hnm : n = m
  · subst hnm
    have HN : Hid (xs.length = n) := hn
    have HM : Hid (ys.length = n) := hm
    clear hn hm
    go_enter Tryd.func10, Tryd.ntmps10
    go_wp2
    go_loopw [5] (fun i wr => ∃ k q : Nat, i = .int .i64 (k : Int) ∧ k ≤ n ∧ Hid (xs.take k = ys.take k) ∧ wr = w.drewN q) (fun i _ => n - (intOf i).toNat)
    case atStart => exact ⟨0, 0, rfl, Nat.zero_le _, rfl, rfl⟩
    case round =>
      obtain ⟨k, q, rfl, hk, HT, rfl⟩ := hrel
      by_cases hlt : k < n
      · obtain ⟨ba, oa, rfl, hca⟩ := ha (by omega)
        obtain ⟨bb, ob, rfl, hcb⟩ := hb (by omega)
        have ca : w.cell? ⟨ba, oa + k, none⟩ = some (.int .u8 (xs.getD k 0)) := hca k hlt
        have cb : w.cell? ⟨bb, ob + k, none⟩ = some (.int .u8 (ys.getD k 0)) := hcb k hlt
        clear ha hb hca hcb
        by_cases he : xs.getD k 0 = ys.getD k 0
        · have HT' : Hid (xs.take (k + 1) = ys.take (k + 1)) := take_step (by have := HN.out; omega) (by have := HM.out; omega) HT.out he
          rw [← he] at cb
          clear he
          generalize xs.getD k 0 = c at ca cb
          go_wp2
          go_quiet (fail)
          go_wp2
          go_roundw
          case rel => exact ⟨k + 1, _, by go_num, by omega, HT', rfl⟩
          case measure => simp [intOf]; omega
        · have HS : Hid (sameB xs ys = false) := same_no he
          have hb' : (xs.getD k 0 != ys.getD k 0) = true := by simpa using he
          clear he
          generalize xs.getD k 0 = c at ca hb'
          generalize ys.getD k 0 = d at cb hb'
          go_wp2
          go_quiet (fail)
          go_wp2
          go_ret
          exact ⟨by rw [HS.out]; rfl, _, by rw [World.drewN_drewN]⟩
      · have HS : Hid (sameB xs ys = true) := same_yes (by have := HT.out; rwa [List.take_of_length_le (by have := HN.out; omega), List.take_of_length_le (by have := HM.out; omega)] at this)
        go_wp2
        go_ret
        exact ⟨by rw [HS.out]; rfl, _, rfl⟩
  · have HS : Hid (sameB xs ys = false) := same_len (by omega)
    have hne : ((n : Int) != (m : Int)) = true := by rw [bne_iff_ne]; omega
    go_enter Tryd.func10, Tryd.ntmps10
    go_wp2
    go_ret
    exact ⟨by rw [HS.out]; rfl, 0, rfl⟩
end Go.Proofs.YtpjdgbhjjknopaaDoor
