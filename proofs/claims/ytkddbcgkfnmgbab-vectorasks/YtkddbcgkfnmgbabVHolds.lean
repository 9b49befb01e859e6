/- The contracts of Holds and Raise. -/
import Derived.Test.YtkddbcgkfnmgbabVPreds
import Derived.Test.YtkddbcgkfnmgbabVLit
import Derived.RegionTactic
import Derived.BigRegion
namespace Go.Proofs.Ytkddbcgkfnmgbab
open Go.RowKit Go.Wire1

theorem isVector_q (a : Option Addr) (n cap : Nat) (l : List Int) (w : World) (h : SegI w a n l) {t : Bool} (ht : isVec l = t) :
    Calls Try.prog 14 #[.slice a n cap] w fun e w' => e = .returned (.bool t) ∧ w' = w := (isVector_any a n cap l w h).mono fun _ _ h => ⟨by rw [h.1, ht], h.2.symm⟩
theorem isPlace_q (a : Option Addr) (n cap : Nat) (i : Int) (w : World) {t : Bool} (ht : isPl n i = t) :
    Calls Try.prog 16 #[.slice a n cap, .int .i64 i] w fun e w' => e = .returned (.bool t) ∧ w' = w := (isPlace_any a n cap i w).mono fun _ _ h => ⟨by rw [h.1, ht], h.2.symm⟩

def holdsB (l : List Int) (r x : Int) : Bool := isVec l && (isPl l.length r && (decide (1 ≤ x) && decide (x ≤ l.getD r.toNat 0)))

set_option maxHeartbeats 400000 in
set_option maxRecDepth 100000 in
theorem holds_any (a : Option Addr) (n cap : Nat) (l : List Int) (r x : Int) (w : World) (h : SegI w a n l) :
    Calls Try.prog 8 #[.slice a n cap, .agg #[.int .i64 r, .int .i64 x]] w fun e w' => e = .returned (.bool (holdsB l r x)) ∧ Below w.heap.size w w' := by
  have HS : Hid (SegI (w.alloc (.cells #[.int .i64 r, .int .i64 x] 24)) a n l) := h.on _
  have HL : Hid (l.length = n) := h.1
  have B1 : Hid (Below w.heap.size w (w.alloc (.cells #[.int .i64 r, .int .i64 x] 24))) := (Below.refl _ _).more (Nat.le_refl _) _
  have hm := h.2.1
  unfold maxLen at hm
  have hB : Below w.heap.size w (w.alloc (.cells #[.int .i64 r, .int .i64 x] 24)) := B1.out
  clear hB
  cases h1 : isVec l with
  | false =>
    have HQ : Hid (holdsB l r x = false) := by show _ = _; unfold holdsB; rw [h1]; rfl
    have H1 : Hid (isVec l = false) := h1
    clear h h1
    go_enter Try.func8, Try.ntmps8
    go_wp2
    go_quiet (first | (go_at_call 14; refine Calls.quiet_of_same (isVector_q _ _ _ l _ (HS.out.drewN _) H1.out)))
    go_wp2
    go_ret
    exact ⟨by rw [HQ.out]; rfl, B1.out.drewN' _⟩
  | true =>
    have H1 : Hid (isVec l = true) := h1
    cases h2 : isPl n r with
    | false =>
      have HQ : Hid (holdsB l r x = false) := by show _ = _; unfold holdsB; rw [h1, HL.out, h2]; rfl
      have H2 : Hid (isPl n r = false) := h2
      clear h h1 h2
      go_enter Try.func8, Try.ntmps8
      go_wp2
      go_quiet (first | (go_at_call 14; refine Calls.quiet_of_same (isVector_q _ _ _ l _ (HS.out.drewN _) H1.out)) | (go_at_call 16; refine Calls.quiet_of_same (isPlace_q _ _ _ _ _ H2.out)))
      go_wp2
      go_ret
      exact ⟨by rw [HQ.out]; rfl, B1.out.drewN' _⟩
    | true =>
      have H2 : Hid (isPl n r = true) := h2
      have hp := of_decide_eq_true h2
      obtain ⟨k, rfl⟩ := Int.eq_ofNat_of_zero_le hp.1
      by_cases h3 : 1 ≤ x
      · obtain ⟨b, off, rfl, hc⟩ := HS.out.2.2.1 (by omega)
        have cx := hc k (by omega)
        have hk : (k : Int) < (n : Int) := by omega
        have HE : Hid (holdsB l (k : Int) x = decide (x ≤ l.getD k 0)) := by
          show _ = _; unfold holdsB; rw [h1, HL.out, h2, decide_eq_true h3]; rfl
        clear h h1 h2 hc hp
        generalize l.getD k 0 = y at *
        by_cases h4 : x ≤ y
        · have HQ : Hid (holdsB l (k : Int) x = true) := by show _ = _; rw [HE.out]; exact decide_eq_true h4
          go_enter Try.func8, Try.ntmps8
          go_wp2
          go_quiet (first | (go_at_call 14; refine Calls.quiet_of_same (isVector_q _ _ _ l _ (HS.out.drewN _) H1.out)) | (go_at_call 16; refine Calls.quiet_of_same (isPlace_q _ _ _ _ _ H2.out)))
          go_wp2
          go_ret
          exact ⟨by rw [HQ.out]; rfl, B1.out.drewN' _⟩
        · have HQ : Hid (holdsB l (k : Int) x = false) := by show _ = _; rw [HE.out]; exact decide_eq_false h4
          have d4 : decide (x ≤ y) = false := decide_eq_false h4
          go_enter Try.func8, Try.ntmps8
          go_wp2
          go_quiet (first | (go_at_call 14; refine Calls.quiet_of_same (isVector_q _ _ _ l _ (HS.out.drewN _) H1.out)) | (go_at_call 16; refine Calls.quiet_of_same (isPlace_q _ _ _ _ _ H2.out)))
          go_wp2
          go_ret
          exact ⟨by rw [HQ.out]; rfl, B1.out.drewN' _⟩
      · have HQ : Hid (holdsB l (k : Int) x = false) := by show _ = _; unfold holdsB; rw [h1, HL.out, h2, decide_eq_false h3]; rfl
        have d3 : decide (1 ≤ x) = false := decide_eq_false h3
        clear h h1 h2 hp
        go_enter Try.func8, Try.ntmps8
        go_wp2
        go_quiet (first | (go_at_call 14; refine Calls.quiet_of_same (isVector_q _ _ _ l _ (HS.out.drewN _) H1.out)) | (go_at_call 16; refine Calls.quiet_of_same (isPlace_q _ _ _ _ _ H2.out)))
        go_wp2
        go_ret
        exact ⟨by rw [HQ.out]; rfl, B1.out.drewN' _⟩

def raiseL (l : List Int) (r x : Int) : List Int := if isVec l = true ∧ isPl l.length r = true ∧ 1 ≤ x ∧ x ≤ 1048576 then l.set r.toNat (if l.getD r.toNat 0 < x then x else l.getD r.toNat 0) else []

theorem own_base {w : World} {B B' : Nat} {e : TypeId} {s : Nat} {v : Value} {n : Nat} {xs : List Value} (h : w.ownsRow B e s v n xs) (hB : B' ≤ B) : w.ownsRow B' e s v n xs :=
  ⟨h.1, h.2.imp id fun ⟨g, cap, cur, h1, h2, h3⟩ => ⟨g, cap, cur, h1, Nat.le_trans hB h2, h3⟩⟩
theorem own_none (w : World) (B : Nat) {l : List Int} (h : l = []) : w.ownsRow B 3 1 (.slice none 0 0) l.length (l.map (Value.int .i64)) := by subst h; exact World.ownsRow_nil _ _ _ _
set_option maxHeartbeats 1000000 in
set_option maxRecDepth 100000 in
theorem raise_any (a : Option Addr) (n cap : Nat) (l : List Int) (r x : Int) (w : World) (h : SegI w a n l) :
    Calls Try.prog 11 #[.slice a n cap, .agg #[.int .i64 r, .int .i64 x]] w fun e w' => ∃ v, e = .returned v ∧ w'.ownsRow w.heap.size 3 1 v (raiseL l r x).length ((raiseL l r x).map (Value.int .i64)) ∧ Below w.heap.size w w' := by
  have HS : Hid (SegI (w.alloc (.cells #[.int .i64 r, .int .i64 x] 24)) a n l) := h.on _
  have HL : Hid (l.length = n) := h.1
  have B1 : Hid (Below w.heap.size w (w.alloc (.cells #[.int .i64 r, .int .i64 x] 24))) := (Below.refl _ _).more (Nat.le_refl _) _
  have hm := h.2.1
  unfold maxLen at hm
  clear h
  go_enter Try.func11, Try.ntmps11
  go_wp2_with fail
  refine (isVector_any _ _ _ l _ HS.out).mono ?_
  rintro e w' ⟨rfl, rfl⟩
  cases h1 : isVec l with
  | false =>
    have HQ : Hid (raiseL l r x = []) := by show _ = _; unfold raiseL; rw [if_neg (by rw [h1]; simp)]
    clear h1
    go_wp2
    go_ret
    exact ⟨_, rfl, own_none _ _ HQ.out, B1.out⟩
  | true =>
    have hw7 : 1 ≤ n ∧ n ≤ 7 := by
      unfold isVec at h1
      simp only [Bool.and_eq_true] at h1
      have := of_decide_eq_true h1.1
      rw [HL.out] at this
      exact this
    have H1 : Hid (isVec l = true) := h1
    clear h1
    go_wp2_with fail
    refine (isPlace_any _ _ _ r _).mono ?_
    rintro e w' ⟨rfl, rfl⟩
    cases h2 : isPl n r with
    | false =>
      have HQ : Hid (raiseL l r x = []) := by show _ = _; unfold raiseL; rw [if_neg (by rw [HL.out, h2]; simp)]
      clear h2
      go_wp2
      go_ret
      exact ⟨_, rfl, own_none _ _ HQ.out, B1.out⟩
    | true =>
      have hp := of_decide_eq_true h2
      have H2 : Hid (isPl n r = true) := h2
      clear h2
      by_cases h3 : x < 1
      · have HQ : Hid (raiseL l r x = []) := by show _ = _; unfold raiseL; rw [if_neg (by omega)]
        go_wp2
        go_ret
        exact ⟨_, rfl, own_none _ _ HQ.out, B1.out⟩
      · by_cases h4 : 1048576 < x
        · have HQ : Hid (raiseL l r x = []) := by show _ = _; unfold raiseL; rw [if_neg (by omega)]
          go_wp2
          go_ret
          exact ⟨_, rfl, own_none _ _ HQ.out, B1.out⟩
        · obtain ⟨k, rfl⟩ := Int.eq_ofNat_of_zero_le hp.1
          have HQ : Hid (raiseL l (k : Int) x = l.set k (if l.getD k 0 < x then x else l.getD k 0)) := by
            show _ = _; unfold raiseL; rw [if_pos ⟨H1.out, by rw [HL.out]; exact H2.out, by omega, by omega⟩]; rfl
          have hk : (k : Int) < (n : Int) := hp.2
          clear hp
          go_wp2_with fail
          refine (copyOf_any _ _ _ l _ HS.out (by omega) (by omega)).mono ?_
          rintro e w1 ⟨rfl, hm1, hb1⟩
          rw [World.size_alloc] at hm1 hb1 ⊢
          have cx := hm1.cell (j := k) (by omega)
          have fz := hm1.frozen k
          have c0 : w1.cell? ⟨w.heap.size, 0, none⟩ = some (.int .i64 (k : Int)) := by
            rw [hb1.cell (p := ⟨w.heap.size, 0, none⟩) (by show w.heap.size < _; omega)]; simp
          have c1 : w1.cell? ⟨w.heap.size, 1, none⟩ = some (.int .i64 x) := by
            rw [hb1.cell (p := ⟨w.heap.size, 1, none⟩) (by show w.heap.size < _; omega)]; simp
          have HM : Hid (MineI w1 (w.heap.size + 1) (w.heap.size + 1) n n l) := hm1
          have HB : Hid (Below w.heap.size w w1) := B1.out.trans (hb1.mono (by omega))
          clear hm1 hb1
          generalize l.getD k 0 = y at *
          go_wp2
          go_region
          obtain ⟨z, hz⟩ : ∃ z, Hid (z = if y < x then x else y) := ⟨_, rfl⟩
          rw [← hz.out]
          go_wp2
          go_ret
          refine ⟨_, rfl, ?_, (below_store HB.out (by omega) _).drew⟩
          have h1 := own_base (HM.out.store k z).1 (B' := w.heap.size) (by omega)
          rw [HQ.out, List.length_set, HL.out, ← hz.out]
          exact h1

theorem fit_raise {l : List Int} (r x : Int) : Fit (raiseL l r x) := by
  unfold raiseL
  split
  · rename_i h
    have ho : okL l = true := by have := h.1; unfold isVec at this; simp only [Bool.and_eq_true] at this; exact this.2
    refine fit_of (fun y hy => ?_)
    have h1 := okL_at ho r.toNat
    rcases List.mem_or_eq_of_mem_set hy with h2 | h2
    · have := List.all_eq_true.1 ho y h2
      simp only [okE, decide_eq_true_eq] at this
      omega
    · subst h2
      split <;> omega
  · exact fit_of (fun y hy => by cases hy)
theorem raise_seg {a : Option Addr} {n cap : Nat} {l : List Int} {r x : Int} {w0 w : World} {B : Nat} (hb : Below B w0 w) (hB : B ≤ w0.heap.size) (h : SegI w a n l) {u : List Int} {m : Nat} (hu : raiseL l r x = u) (hm : u.length = m) :
    Calls Try.prog 11 #[.slice a n cap, .agg #[.int .i64 r, .int .i64 x]] w fun e w' => ∃ a1 c1, e = .returned (.slice a1 m c1) ∧ m ≤ c1 ∧ SegI w' a1 m u ∧ Below B w0 w' ∧ Below w.heap.size w w' := by
  refine (raise_any a n cap l r x w h).mono ?_
  rintro e w' ⟨v, rfl, hown, hb'⟩
  obtain ⟨a1, c1, rfl, hc, hs⟩ := own_segI hown (fit_raise _ _)
  subst hu hm
  exact ⟨a1, c1, rfl, hc, hs, hb.on hb' hB, hb'⟩
end Go.Proofs.Ytkddbcgkfnmgbab
