/- The contracts of the document's own Width and Entries; one more int onto a row of our own. -/
import Derived.Test.YtmplipkdaplpnaaVLit
namespace Go.Proofs.Ytmplipkdaplpnaa
open Go.RowKit Go.Wire1

theorem pushI {B : Nat} {w wr w1 : World} {v v' : Value} {o : Obj} {pre : List Int} {z : Int} (hB : B ≤ wr.heap.size) (hown : wr.ownsRow B 3 1 v pre.length (pre.map (Value.int .i64))) (hbel : Below B w wr)
    (hown' : w1.ownsRow B 3 1 v' (pre.length + 1) (pre.map (Value.int .i64) ++ [.int .i64 z])) (hgrow : (wr.alloc o).grownBy w1 v.ownBlock) :
    w1.ownsRow B 3 1 v' (pre ++ [z]).length ((pre ++ [z]).map (Value.int .i64)) ∧ Below B w w1 :=
  ⟨by simpa using hown', (hbel.alloc hB o).grown hgrow (by simp; omega) (fun j hj => (hown.lt j hj).1)⟩

set_option maxRecDepth 100000 in
theorem width_any (a : Option Addr) (n cap : Nat) (w : World) (hn : n ≤ maxLen) :
    Calls Try.prog 72 #[.slice a n cap] w fun e w' => e = .returned (.bool (okW n)) ∧ w = w' := by
  unfold maxLen at hn
  by_cases h1 : (1 : Int) ≤ (n : Int)
  · by_cases h2 : (n : Int) ≤ 7
    · have HQ : Hid (okW n = true) := decide_eq_true (by omega)
      go_enter Try.func72, Try.ntmps72
      go_wp2
      go_ret
      exact ⟨by rw [HQ.out]; rfl, rfl⟩
    · have HQ : Hid (okW n = false) := decide_eq_false (by omega)
      go_enter Try.func72, Try.ntmps72
      go_wp2
      go_ret
      exact ⟨by rw [HQ.out]; rfl, rfl⟩
  · have HQ : Hid (okW n = false) := decide_eq_false (by omega)
    go_enter Try.func72, Try.ntmps72
    go_wp2
    go_ret
    exact ⟨by rw [HQ.out]; rfl, rfl⟩
set_option maxHeartbeats 400000 in
set_option maxRecDepth 100000 in
theorem entries_any (a : Option Addr) (n cap : Nat) (l : List Int) (w : World) (h : SegI w a n l) :
    Calls Try.prog 73 #[.slice a n cap] w fun e w' => e = .returned (.bool (okL l)) ∧ w = w' := by
  obtain ⟨hn, hn', ha, -⟩ := h
  have HN : Hid (l.length = n) := hn
  unfold maxLen at hn'
  clear hn
  go_enter Try.func73, Try.ntmps73
  go_wp2
  go_loop [3] (fun i => ∃ k : Nat, i = .int .i64 (k : Int) ∧ k ≤ n ∧ Hid (okL (l.take k) = true)) (fun i => n - (intOf i).toNat)
  case atStart => exact ⟨0, rfl, Nat.zero_le _, rfl⟩
  case round =>
    obtain ⟨k, rfl, hk, HT⟩ := hrel
    by_cases hlt : k < n
    · obtain ⟨ba, oa, rfl, hca⟩ := ha (by omega)
      have ca := hca k hlt
      clear ha hca
      by_cases h0 : l.getD k 0 < 0
      · have HS : Hid (okL l = false) := okL_no (k := k) (by have := HN.out; omega) (by omega)
        generalize l.getD k 0 = c at *
        go_wp2
        go_ret
        exact ⟨by rw [HS.out]; rfl, rfl⟩
      · by_cases h1 : 1048576 < l.getD k 0
        · have HS : Hid (okL l = false) := okL_no (k := k) (by have := HN.out; omega) (by omega)
          generalize l.getD k 0 = c at *
          go_wp2
          go_ret
          exact ⟨by rw [HS.out]; rfl, rfl⟩
        · have HT' : Hid (okL (l.take (k + 1)) = true) := okL_step (by have := HN.out; omega) HT.out (by omega)
          generalize l.getD k 0 = c at *
          go_wp2
          go_round
          case rel => exact ⟨k + 1, by go_num, by omega, HT'⟩
          case measure => simp [intOf]; omega
    · have HS : Hid (okL l = true) := by show _ = _; have := HT.out; rwa [List.take_of_length_le (by have := HN.out; omega)] at this
      go_wp2
      go_ret
      exact ⟨by rw [HS.out]; rfl, rfl⟩
end Go.Proofs.Ytmplipkdaplpnaa
