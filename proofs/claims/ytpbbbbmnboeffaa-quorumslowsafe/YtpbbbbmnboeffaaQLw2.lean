/- The statements' own helpers: decides, sound, unlike. -/
import Derived.Test.YtpbbbbmnboeffaaQLaw
namespace Go.Proofs.Ytpbbbbmnboeffaa
open Go.RowKit Go.Wire1

set_option maxHeartbeats 1000000 in
set_option maxRecDepth 100000 in
theorem decides_any (n i : Int) (w : World) : Calls Try.prog 6 #[.int .i64 n, .int .i64 i] w fun e w' => e = .returned (.bool (szQ n && repQ n i)) ∧ w = w' := by
  by_cases hs : n = 3 ∨ n = 5 ∨ n = 7
  · have H3 : ∀ m : Int, (m = 3 ∨ m = 5 ∨ m = 7) → (szQ m && repQ m i) = (decide (0 ≤ i) && decide (i < m)) := fun m hm => by rcases hm with rfl | rfl | rfl <;> rfl
    by_cases h0 : 0 ≤ i
    · have HQ : Hid ((szQ n && repQ n i) = decide (i < n)) := by show _ = _; rw [H3 n hs, decide_eq_true h0]; rfl
      clear H3
      rcases hs with rfl | rfl | rfl <;> (
        go_enter Try.func6, Try.ntmps6
        go_wp2
        go_ret
        exact ⟨by rw [HQ.out]; rfl, rfl⟩)
    · have HQ : Hid ((szQ n && repQ n i) = false) := by show _ = _; rw [H3 n hs, decide_eq_false h0]; rfl
      clear H3
      rcases hs with rfl | rfl | rfl <;> (
        go_enter Try.func6, Try.ntmps6
        go_wp2
        go_ret
        exact ⟨by rw [HQ.out]; rfl, rfl⟩)
  · have b3 : (n == 3) = false := beq_eq_false_iff_ne.2 (fun e => hs (.inl e))
    have b5 : (n == 5) = false := beq_eq_false_iff_ne.2 (fun e => hs (.inr (.inl e)))
    have b7 : (n == 7) = false := beq_eq_false_iff_ne.2 (fun e => hs (.inr (.inr e)))
    have HQ : Hid ((szQ n && repQ n i) = false) := by show _ = _; unfold szQ; rw [b3, b5, b7]; rfl
    clear hs
    go_enter Try.func6, Try.ntmps6
    go_wp2
    go_ret
    exact ⟨by rw [HQ.out]; rfl, rfl⟩
/-- Attributes that are sound, for any number of replicas. -/
def sndB (n seq : Int) (l : List Int) : Bool := decide (0 ≤ seq) && (decide (seq ≤ 1073741824) && (decide ((l.length : Int) = n) && okL l))
theorem sndB_sz {n seq : Int} {l : List Int} (h : szQ n = true) : sndB n seq l = sndQ n seq l := by
  have hn : n = 3 ∨ n = 5 ∨ n = 7 := by unfold szQ at h; simpa using h
  unfold sndB sndQ isVec okW
  by_cases hl : (l.length : Int) = n
  · rw [decide_eq_true hl, decide_eq_true (show 1 ≤ l.length ∧ l.length ≤ 7 by omega)]; rfl
  · rw [decide_eq_false hl]; rfl
set_option maxHeartbeats 1000000 in
set_option maxRecDepth 100000 in
theorem sound_any (n seq : Int) (a : Option Addr) (k c : Nat) (l : List Int) (w : World) (h : SegI w a k l) :
    Calls Try.prog 7 #[.int .i64 n, .int .i64 seq, .slice a k c] w fun e w' => e = .returned (.bool (sndB n seq l)) ∧ w = w' := by
  obtain ⟨hn, hn', ha, -⟩ := h
  have HN : Hid (l.length = k) := hn
  unfold maxLen at hn'
  clear hn
  by_cases h0 : 0 ≤ seq
  · by_cases h1 : seq ≤ 1073741824
    · by_cases h2 : (k : Int) = n
      · subst h2
        have HQ : Hid (sndB (k : Int) seq l = okL l) := by
          show _ = _
          unfold sndB
          rw [decide_eq_true h0, decide_eq_true h1, HN.out, decide_eq_true rfl]; rfl
        go_enter Try.func7, Try.ntmps7
        go_wp2
        go_loop [7] (fun i => ∃ q : Nat, i = .int .i64 (q : Int) ∧ q ≤ k ∧ Hid (okL (l.take q) = true)) (fun i => k - (intOf i).toNat)
        case atStart => exact ⟨0, rfl, Nat.zero_le _, rfl⟩
        case round =>
          obtain ⟨q, rfl, hq, HT⟩ := hrel
          by_cases hlt : q < k
          · obtain ⟨ba, oa, rfl, hca⟩ := ha (by omega)
            have ca := hca q hlt
            clear ha hca
            by_cases g0 : l.getD q 0 < 0
            · have HS : Hid (okL l = false) := okL_no (k := q) (by have := HN.out; omega) (by omega)
              generalize l.getD q 0 = d at *
              go_wp2
              go_ret
              exact ⟨by rw [HQ.out, HS.out]; rfl, rfl⟩
            · by_cases g1 : 1048576 < l.getD q 0
              · have HS : Hid (okL l = false) := okL_no (k := q) (by have := HN.out; omega) (by omega)
                generalize l.getD q 0 = d at *
                go_wp2
                go_ret
                exact ⟨by rw [HQ.out, HS.out]; rfl, rfl⟩
              · have HT' : Hid (okL (l.take (q + 1)) = true) := okL_step (by have := HN.out; omega) HT.out (by omega)
                generalize l.getD q 0 = d at *
                go_wp2
                go_round
                case rel => exact ⟨q + 1, by go_num, by omega, HT'⟩
                case measure => simp [intOf]; omega
          · have HS : Hid (okL l = true) := by show _ = _; have := HT.out; rwa [List.take_of_length_le (by have := HN.out; omega)] at this
            go_wp2
            go_ret
            exact ⟨by rw [HQ.out, HS.out]; rfl, rfl⟩
      · have HQ : Hid (sndB n seq l = false) := by show _ = _; unfold sndB; rw [HN.out, decide_eq_false h2]; simp
        have b2 : ((k : Int) != n) = true := by simpa using h2
        clear h2
        go_enter Try.func7, Try.ntmps7
        go_wp2
        go_ret
        exact ⟨by rw [HQ.out]; rfl, rfl⟩
    · have HQ : Hid (sndB n seq l = false) := by show _ = _; unfold sndB; rw [decide_eq_false h1]; simp
      go_enter Try.func7, Try.ntmps7
      go_wp2
      go_ret
      exact ⟨by rw [HQ.out]; rfl, rfl⟩
  · have HQ : Hid (sndB n seq l = false) := by show _ = _; unfold sndB; rw [decide_eq_false h0]; simp
    go_enter Try.func7, Try.ntmps7
    go_wp2
    go_ret
    exact ⟨by rw [HQ.out]; rfl, rfl⟩
theorem sound_q (n seq : Int) (a : Option Addr) (k c : Nat) (l : List Int) (w : World) (h : SegI w a k l) {b : Bool} (hb : sndB n seq l = b) :
    Calls Try.prog 7 #[.int .i64 n, .int .i64 seq, .slice a k c] w fun e w' => e = .returned (.bool b) ∧ w' = w := (sound_any n seq a k c l w h).mono fun _ _ ⟨h1, h2⟩ => ⟨by rw [h1, hb], h2.symm⟩
/-- The places of the votes in memory: the i-th one's first cell. -/
theorem VRow.frAt {w : World} {a : Option Addr} {n : Nat} {vs : List Vt} (h : VRow w a n vs) (h0 : 0 < n) : ∃ b off, a = some ⟨b, off, none⟩ ∧ ∀ i v, vs[i]? = some v → w.rangeAt b (off + i * 15) (vcs v) := by
  obtain ⟨b, off, e, hat⟩ := h.row.at_ h0
  exact ⟨b, off, e, fun i v hi => hat i (vcs v) (by rw [List.getElem?_map, hi]; rfl)⟩
theorem take_map_succ {α β : Type} {f : α → β} {l : List α} {k : Nat} {v : α} (h : l[k]? = some v) : (l.take (k + 1)).map f = (l.take k).map f ++ [f v] := by
  rw [List.take_add_one, h]; simp
end Go.Proofs.Ytpbbbbmnboeffaa
