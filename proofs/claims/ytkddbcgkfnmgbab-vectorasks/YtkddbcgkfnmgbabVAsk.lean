/- The contracts of the document's own Vector, Covers, Holds and Raise. -/
import Derived.Test.YtkddbcgkfnmgbabVInts2
import Derived.Test.YtkddbcgkfnmgbabVHolds
namespace Go.Proofs.Ytkddbcgkfnmgbab
open Go.RowKit Go.Wire1

set_option maxRecDepth 100000 in
theorem rvector_any (a : Option Addr) (n cap : Nat) (l : List Int) (w : World) (h : SegI w a n l) :
    Calls Try.prog 15 #[.slice a n cap] w fun e w' => e = .returned (.bool (isVec l)) ∧ w = w' := by
  have HS : Hid (SegI w a n l) := h
  have HQ : Hid (isVec l = (okW n && okL l)) := by show _ = _; unfold isVec; rw [h.1]
  have hm := h.2.1
  clear h
  go_enter Try.func15, Try.ntmps15
  go_wp2_with fail
  refine (width_any _ _ _ _ hm).mono ?_
  rintro e w' ⟨rfl, rfl⟩
  go_wp2_with fail
  refine (entries_any _ _ _ l _ HS.out).mono ?_
  rintro e w' ⟨rfl, rfl⟩
  generalize okW n = x at *
  generalize okL l = y at *
  cases x <;> cases y <;>
  · go_wp2
    go_ret
    exact ⟨by rw [HQ.out]; rfl, rfl⟩

set_option maxHeartbeats 400000 in
set_option maxRecDepth 100000 in
theorem rcovers_any (a b : Option Addr) (n m cap cap' : Nat) (xs ys : List Int) (w : World) (ha : SegI w a n xs) (hb : SegI w b m ys) :
    Calls Try.prog 7 #[.slice a n cap, .slice b m cap'] w fun e w' => e = .returned (.bool (coversB xs ys)) ∧ ∃ q, w' = w.drewN q := by
  have HA : Hid (SegI w a n xs) := ha
  have HB : Hid (SegI w b m ys) := hb
  have HN : Hid (xs.length = n) := ha.1
  have HM : Hid (ys.length = m) := hb.1
  have hn := ha.2.1
  have hm := hb.2.1
  unfold maxLen at hn hm
  clear ha hb
  go_enter Try.func7, Try.ntmps7
  go_wp2_with fail
  refine (rvector_any _ _ _ xs _ HA.out).mono ?_
  rintro e w' ⟨rfl, rfl⟩
  go_wp2_with fail
  refine (rvector_any _ _ _ ys _ HB.out).mono ?_
  rintro e w' ⟨rfl, rfl⟩
  cases h1 : isVec xs with
  | false =>
    have HQ : Hid (coversB xs ys = false) := by show _ = _; unfold coversB; rw [h1]; simp
    clear h1
    go_wp2
    go_ret
    exact ⟨by rw [HQ.out]; rfl, 0, rfl⟩
  | true =>
    cases h2 : isVec ys with
    | false =>
      have HQ : Hid (coversB xs ys = false) := by show _ = _; unfold coversB; rw [h2]; simp
      clear h1 h2
      go_wp2
      go_ret
      exact ⟨by rw [HQ.out]; rfl, 0, rfl⟩
    | true =>
      by_cases hnm : n = m
      · subst hnm
        have HQ : Hid (coversB xs ys = overK xs ys n) := by show _ = _; unfold coversB; rw [h1, h2, HN.out, HM.out]; simp
        clear h1 h2
        go_wp2
        go_loopw [7] (fun i wr => ∃ k q : Nat, i = .int .i64 (k : Int) ∧ k ≤ n ∧ Hid (overK xs ys k = true) ∧ wr = w.drewN q) (fun i _ => n - (intOf i).toNat)
        case atStart => exact ⟨0, 0, rfl, Nat.zero_le _, rfl, rfl⟩
        case round =>
          obtain ⟨k, q, rfl, hk, HT, rfl⟩ := hrel
          by_cases hlt : k < n
          · obtain ⟨ba, oa, rfl, hca⟩ := HA.out.2.2.1 (by omega)
            obtain ⟨bb, ob, rfl, hcb⟩ := HB.out.2.2.1 (by omega)
            have ca : w.cell? ⟨ba, oa + k, none⟩ = some (.int .i64 (xs.getD k 0)) := hca k hlt
            have cb : w.cell? ⟨bb, ob + k, none⟩ = some (.int .i64 (ys.getD k 0)) := hcb k hlt
            clear hca hcb
            by_cases he : xs.getD k 0 < ys.getD k 0
            · have HS : Hid (coversB xs ys = false) := by show _ = _; rw [HQ.out]; exact overK_no hlt he
              generalize xs.getD k 0 = c at ca he
              generalize ys.getD k 0 = d at cb he
              go_wp2
              go_quiet (fail)
              go_wp2
              go_ret
              exact ⟨by rw [HS.out]; rfl, _, by rw [World.drewN_drewN]⟩
            · have HT' : Hid (overK xs ys (k + 1) = true) := overK_step HT.out (by omega)
              generalize xs.getD k 0 = c at ca he
              generalize ys.getD k 0 = d at cb he
              go_wp2
              go_quiet (fail)
              go_wp2
              go_roundw
              case rel => exact ⟨k + 1, _, by go_num, by omega, HT', rfl⟩
              case measure => simp [intOf]; omega
          · have HS : Hid (coversB xs ys = true) := by show _ = _; rw [HQ.out]; obtain rfl : k = n := by omega
                                                       exact HT.out
            go_wp2
            go_ret
            exact ⟨by rw [HS.out]; rfl, _, rfl⟩
      · have HQ : Hid (coversB xs ys = false) := by show _ = _; unfold coversB; rw [decide_eq_false (by rw [HN.out, HM.out]; exact hnm)]; rfl
        have hne : ((n : Int) != (m : Int)) = true := by rw [bne_iff_ne]; omega
        clear h1 h2
        go_wp2
        go_ret
        exact ⟨by rw [HQ.out]; rfl, 0, rfl⟩

set_option maxHeartbeats 400000 in
set_option maxRecDepth 100000 in
theorem rholds_any (a : Option Addr) (n cap : Nat) (l : List Int) (r x : Int) (w : World) (h : SegI w a n l) :
    Calls Try.prog 9 #[.slice a n cap, .agg #[.int .i64 r, .int .i64 x]] w fun e w' => e = .returned (.bool (holdsB l r x)) ∧ Below w.heap.size w w' := by
  have HS : Hid (SegI (w.alloc (.cells #[.int .i64 r, .int .i64 x] 24)) a n l) := h.on _
  have HL : Hid (l.length = n) := h.1
  have B1 : Hid (Below w.heap.size w (w.alloc (.cells #[.int .i64 r, .int .i64 x] 24))) := (Below.refl _ _).more (Nat.le_refl _) _
  have hm := h.2.1
  unfold maxLen at hm
  clear h
  go_enter Try.func9, Try.ntmps9
  go_wp2_with fail
  refine (rvector_any _ _ _ l _ HS.out).mono ?_
  rintro e w' ⟨rfl, rfl⟩
  cases h1 : isVec l with
  | false =>
    have HQ : Hid (holdsB l r x = false) := by show _ = _; unfold holdsB; rw [h1]; rfl
    clear h1
    go_wp2
    go_ret
    exact ⟨by rw [HQ.out]; rfl, B1.out⟩
  | true =>
    by_cases h2 : r < 0
    · have HQ : Hid (holdsB l r x = false) := by show _ = _; unfold holdsB; rw [h1, HL.out, show isPl n r = false from decide_eq_false (by omega)]; rfl
      clear h1
      go_wp2
      go_ret
      exact ⟨by rw [HQ.out]; rfl, B1.out⟩
    · by_cases h3 : (n : Int) ≤ r
      · have HQ : Hid (holdsB l r x = false) := by show _ = _; unfold holdsB; rw [h1, HL.out, show isPl n r = false from decide_eq_false (by omega)]; rfl
        clear h1
        go_wp2
        go_ret
        exact ⟨by rw [HQ.out]; rfl, B1.out⟩
      · obtain ⟨k, rfl⟩ := Int.eq_ofNat_of_zero_le (show 0 ≤ r by omega)
        have hk : (k : Int) < (n : Int) := by omega
        have HP : Hid (isPl n (k : Int) = true) := decide_eq_true ⟨by omega, hk⟩
        by_cases h4 : 1 ≤ x
        · obtain ⟨b, off, rfl, hc⟩ := HS.out.2.2.1 (by omega)
          have cx := hc k (by omega)
          have HE : Hid (holdsB l (k : Int) x = decide (x ≤ l.getD k 0)) := by
            show _ = _; unfold holdsB; rw [h1, HL.out, HP.out, decide_eq_true h4]; rfl
          clear h1 hc
          generalize l.getD k 0 = y at *
          by_cases h5 : x ≤ y
          · have HQ : Hid (holdsB l (k : Int) x = true) := by show _ = _; rw [HE.out]; exact decide_eq_true h5
            go_wp2
            go_quiet (fail)
            go_wp2
            go_ret
            exact ⟨by rw [HQ.out]; rfl, B1.out.drewN' _⟩
          · have HQ : Hid (holdsB l (k : Int) x = false) := by show _ = _; rw [HE.out]; exact decide_eq_false h5
            have d5 : decide (x ≤ y) = false := decide_eq_false h5
            go_wp2
            go_quiet (fail)
            go_wp2
            go_ret
            exact ⟨by rw [HQ.out]; rfl, B1.out.drewN' _⟩
        · have HQ : Hid (holdsB l (k : Int) x = false) := by show _ = _; unfold holdsB; rw [h1, HL.out, HP.out, decide_eq_false h4]; rfl
          have d4 : decide (1 ≤ x) = false := decide_eq_false h4
          clear h1
          go_wp2
          go_quiet (fail)
          go_wp2
          go_ret
          exact ⟨by rw [HQ.out]; rfl, B1.out.drewN' _⟩

set_option maxHeartbeats 1000000 in
set_option maxRecDepth 100000 in
theorem rraise_any (a : Option Addr) (n cap : Nat) (l : List Int) (r x : Int) (w : World) (h : SegI w a n l) :
    Calls Try.prog 12 #[.slice a n cap, .agg #[.int .i64 r, .int .i64 x]] w fun e w' => ∃ v, e = .returned v ∧ w'.ownsRow w.heap.size 3 1 v (raiseL l r x).length ((raiseL l r x).map (Value.int .i64)) ∧ Below w.heap.size w w' := by
  have HS : Hid (SegI (w.alloc (.cells #[.int .i64 r, .int .i64 x] 24)) a n l) := h.on _
  have HL : Hid (l.length = n) := h.1
  have B1 : Hid (Below w.heap.size w (w.alloc (.cells #[.int .i64 r, .int .i64 x] 24))) := (Below.refl _ _).more (Nat.le_refl _) _
  have hm := h.2.1
  unfold maxLen at hm
  clear h
  go_enter Try.func12, Try.ntmps12
  go_wp2_with fail
  refine (rvector_any _ _ _ l _ HS.out).mono ?_
  rintro e w' ⟨rfl, rfl⟩
  cases h1 : isVec l with
  | false =>
    have HQ : Hid (raiseL l r x = []) := by show _ = _; unfold raiseL; rw [if_neg (by rw [h1]; simp)]
    clear h1
    go_wp2
    go_ret
    exact ⟨_, rfl, own_none _ _ HQ.out, B1.out⟩
  | true =>
    have hw7 : 1 ≤ n ∧ n ≤ 7 := by
      have h1' := h1
      unfold isVec at h1'
      simp only [Bool.and_eq_true] at h1'
      have := of_decide_eq_true h1'.1
      rw [HL.out] at this
      exact this
    have H1 : Hid (isVec l = true) := h1
    clear h1
    by_cases h2 : r < 0
    · have HQ : Hid (raiseL l r x = []) := by show _ = _; unfold raiseL; rw [if_neg (by rw [HL.out, show isPl n r = false from decide_eq_false (by omega)]; simp)]
      go_wp2
      go_ret
      exact ⟨_, rfl, own_none _ _ HQ.out, B1.out⟩
    · by_cases h3 : (n : Int) ≤ r
      · have HQ : Hid (raiseL l r x = []) := by show _ = _; unfold raiseL; rw [if_neg (by rw [HL.out, show isPl n r = false from decide_eq_false (by omega)]; simp)]
        go_wp2
        go_ret
        exact ⟨_, rfl, own_none _ _ HQ.out, B1.out⟩
      · by_cases h4 : x < 1
        · have HQ : Hid (raiseL l r x = []) := by show _ = _; unfold raiseL; rw [if_neg (by omega)]
          go_wp2
          go_ret
          exact ⟨_, rfl, own_none _ _ HQ.out, B1.out⟩
        · by_cases h5 : 1048576 < x
          · have HQ : Hid (raiseL l r x = []) := by show _ = _; unfold raiseL; rw [if_neg (by omega)]
            go_wp2
            go_ret
            exact ⟨_, rfl, own_none _ _ HQ.out, B1.out⟩
          · obtain ⟨k, rfl⟩ := Int.eq_ofNat_of_zero_le (show 0 ≤ r by omega)
            have hk : (k : Int) < (n : Int) := by omega
            have HQ : Hid (raiseL l (k : Int) x = l.set k (if l.getD k 0 < x then x else l.getD k 0)) := by
              show _ = _; unfold raiseL; rw [if_pos ⟨H1.out, by rw [HL.out]; exact decide_eq_true ⟨by omega, hk⟩, by omega, by omega⟩]; rfl
            go_wp2_with fail
            refine (ints_any _ _ _ l _ HS.out (by omega)).mono ?_
            rintro e w1 ⟨v, rfl, hown, hb1⟩
            rw [World.size_alloc] at hown hb1
            obtain ⟨g, c, hv, hm1⟩ := mineI_of hown (by rw [HL.out]; omega)
            rw [HL.out] at hv hm1
            subst hv
            have hgB := hm1.2.2.2.2
            have cx := hm1.cell (j := k) (by omega)
            have fz := hm1.frozen k
            have c0 : w1.cell? ⟨w.heap.size, 0, none⟩ = some (.int .i64 (k : Int)) := by
              rw [hb1.cell (p := ⟨w.heap.size, 0, none⟩) (by show w.heap.size < _; omega)]; simp
            have c1 : w1.cell? ⟨w.heap.size, 1, none⟩ = some (.int .i64 x) := by
              rw [hb1.cell (p := ⟨w.heap.size, 1, none⟩) (by show w.heap.size < _; omega)]; simp
            have HM : Hid (MineI w1 (w.heap.size + 1) g n c l) := hm1
            have HB : Hid (Below w.heap.size w w1) := B1.out.trans (hb1.mono (by omega))
            have HQ2 : Hid (¬ l.getD k 0 < x → l.set k (l.getD k 0) = l) := fun _ => by
              apply List.ext_getElem?
              intro j
              rw [List.getElem?_set]
              by_cases e : k = j
              · subst e
                rw [if_pos rfl, if_pos (by have := HL.out; omega), List.getD, List.getElem?_eq_getElem (by have := HL.out; omega)]; rfl
              · rw [if_neg e]
            clear hm1 hb1 hown
            generalize l.getD k 0 = y at *
            by_cases hyx : y < x
            · have HR : Hid (raiseL l (k : Int) x = l.set k x) := by show _ = _; rw [HQ.out, if_pos hyx]
              go_wp2
              go_quiet (fail)
              go_wp2
              go_ret
              refine ⟨_, rfl, ?_, ?_⟩
              · rw [HR.out, List.length_set, HL.out]
                exact own_base (HM.out.store k x).1 (B' := w.heap.size) (by omega)
              · exact below_store (w' := w1.drewN _) (HB.out.drewN' _) (by omega) _
            · have HR : Hid (raiseL l (k : Int) x = l) := by show _ = _; rw [HQ.out, if_neg hyx]; exact HQ2.out hyx
              have dyx : decide (y < x) = false := decide_eq_false hyx
              go_wp2
              go_quiet (fail)
              go_wp2
              go_ret
              refine ⟨_, rfl, ?_, HB.out.drewN' _⟩
              rw [HR.out, HL.out]
              exact own_base HM.out.1 (B' := w.heap.size) (by omega)
theorem rraise_seg {a : Option Addr} {n cap : Nat} {l : List Int} {r x : Int} {w0 w : World} {B : Nat} (hb : Below B w0 w) (hB : B ≤ w0.heap.size) (h : SegI w a n l) {u : List Int} {m : Nat} (hu : raiseL l r x = u) (hm : u.length = m) :
    Calls Try.prog 12 #[.slice a n cap, .agg #[.int .i64 r, .int .i64 x]] w fun e w' => ∃ a1 c1, e = .returned (.slice a1 m c1) ∧ m ≤ c1 ∧ SegI w' a1 m u ∧ Below B w0 w' ∧ Below w.heap.size w w' := by
  refine (rraise_any a n cap l r x w h).mono ?_
  rintro e w' ⟨v, rfl, hown, hb'⟩
  obtain ⟨a1, c1, rfl, hc, hs⟩ := own_segI hown (fit_raise _ _)
  subst hu hm
  exact ⟨a1, c1, rfl, hc, hs, hb.on hb' hB, hb'⟩
end Go.Proofs.Ytkddbcgkfnmgbab
