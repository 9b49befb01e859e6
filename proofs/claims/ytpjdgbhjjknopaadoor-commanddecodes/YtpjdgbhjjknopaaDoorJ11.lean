/- Texts of the proof, joined. -/
import Derived.Test.YtpjdgbhjjknopaaDoorJ04
import Derived.Test.YtpjdgbhjjknopaaDoorJ10
/- What the document's own scan stands on: its cells, as a reader's. -/
namespace Go.Proofs.YtpjdgbhjjknopaaDoor
open Go.RowKit Go.Wire1

theorem rcU_ret (n cap : Nat) (sa : Option Addr) (l : List Int) (w : World) (hs : Seg w sa n l) (hy : Byt l) :
    Calls Tryd.prog 40 #[.slice sa n cap] w fun e w' => (match dec l with | .ok (x, m) => e = .returned (.tuple #[.int .u64 (x : Int), .int .i64 (m : Int), .int .i64 0]) | .error i => e = .returned (.tuple #[.int .u64 0, .int .i64 0, .int .i64 (11 + (i : Int))])) ∧ w' = w := by
  refine (refUint_any n cap sa l w hs hy).mono ?_
  rintro e w' ⟨h, rfl⟩
  refine ⟨?_, rfl⟩
  cases hd : dec l with
  | error i => rw [hd] at h; exact h
  | ok p => rw [hd] at h; exact h
theorem rcI_ret (n cap : Nat) (sa : Option Addr) (l : List Int) (w : World) (hs : Seg w sa n l) (hy : Byt l) :
    Calls Tryd.prog 30 #[.slice sa n cap] w fun e w' => (match dec l with | .ok (x, m) => e = .returned (.tuple #[.int .i64 (unzig x), .int .i64 (m : Int), .int .i64 0]) | .error i => e = .returned (.tuple #[.int .i64 0, .int .i64 0, .int .i64 (11 + (i : Int))])) ∧ w' = w := by
  refine (refInt_any n cap sa l w hs hy).mono ?_
  rintro e w' ⟨h, rfl⟩
  refine ⟨?_, rfl⟩
  cases hd : dec l with
  | error i => rw [hd] at h; exact h
  | ok p => rw [hd] at h; exact h

section
variable {w : World} {b : Nat} {sa : Option Addr} {n cap k m : Nat} {f : Int} {l : List Int} {a : Nat → Addr}
theorem rc_forms (h : Rdr w b sa n cap k f l a) :
    (∃ sb so, sa = some ⟨sb, so, none⟩ ∧ k < n ∧ 0 < (cap : Int) - (k : Int) ∧ ∀ q, Seg (w.drewN q) (some ⟨sb, so + k, none⟩) (n - k) (l.drop k)) ∨ (k = n ∧ (cap : Int) - (k : Int) = 0 ∧ l.drop k = []) ∨ (k = n ∧ 0 < (cap : Int) - (k : Int) ∧ l.drop k = []) := by
  have hk := h.ready.le
  have hc := h.capLe
  by_cases e : k = n
  · have hd : l.drop k = [] := by rw [List.drop_eq_nil_iff, h.ready.seg.1]; omega
    by_cases e2 : cap = k
    · right; left; exact ⟨e, by omega, hd⟩
    · right; right; exact ⟨e, by omega, hd⟩
  · left
    obtain ⟨sb, so, rfl, _⟩ := h.ready.seg.2.2 (by omega)
    exact ⟨sb, so, rfl, by omega, by omega, fun q => (h.ready.seg.drewN q).from (by omega)⟩
theorem rc_move (h : Rdr w b sa n cap k f l a) (q : Nat) (hm : k + m ≤ n) : Touch b w ((w.drewN q).setCell ⟨b, 1, none⟩ (.int .i64 ((k : Int) + (m : Int)))) ∧ Rdr ((w.drewN q).setCell ⟨b, 1, none⟩ (.int .i64 ((k : Int) + (m : Int)))) b sa n cap (k + m) f l a := by
  have hT : Touch b w ((w.drewN q).setCell ⟨b, 1, none⟩ (.int .i64 ((k : Int) + (m : Int)))) := ((Touch.refl b w).drewN q).setB _
  refine ⟨hT, h.moved hT ?_ ?_ ?_ ?_ ?_ hm⟩
  · rw [World.cell?_setCell_other _ _ _ _ (by simp)]; exact h.ready.cur.1
  · have := World.cell?_setCell_same (w.drewN q) ⟨b, 1, none⟩ (.int .i64 ((k : Int) + (m : Int))) h.ready.cur.2.1
    rw [this]; simp
  · rw [World.frozen?_setCell]; exact h.ready.cur.2.2
  · rw [World.cell?_setCell_other _ _ _ _ (by simp)]; exact h.fault
  · rw [World.frozen?_setCell]; exact h.thaw
theorem rc_moved (h : Rdr w b sa n cap k f l a) (q : Nat) (z : Int) (hz : z = (k : Int) + (m : Int)) (hm : k + m ≤ n) : Touch b w ((w.drewN q).setCell ⟨b, 1, none⟩ (.int .i64 z)) ∧ Rdr ((w.drewN q).setCell ⟨b, 1, none⟩ (.int .i64 z)) b sa n cap (k + m) f l a := by
  rw [hz]; exact rc_move h q hm
theorem rc_break (h : Rdr w b sa n cap k f l a) (q : Nat) (z : Int) : Touch b w ((w.drewN q).setCell ⟨b, 2, none⟩ (.int .i64 z)) ∧ Rdr ((w.drewN q).setCell ⟨b, 2, none⟩ (.int .i64 z)) b sa n cap k z l a := by
  have hT : Touch b w ((w.drewN q).setCell ⟨b, 2, none⟩ (.int .i64 z)) := ((Touch.refl b w).drewN q).setB _
  refine ⟨hT, h.moved hT ?_ ?_ ?_ ?_ ?_ h.ready.le⟩
  · rw [World.cell?_setCell_other _ _ _ _ (by simp)]; exact h.ready.cur.1
  · rw [World.cell?_setCell_other _ _ _ _ (by simp)]; exact h.ready.cur.2.1
  · rw [World.frozen?_setCell]; exact h.ready.cur.2.2
  · exact World.cell?_setCell_same (w.drewN q) ⟨b, 2, none⟩ _ h.fault
  · rw [World.frozen?_setCell]; exact h.thaw
end

/-- What the document's scan reads as a number from k on. -/
def rcU (top : Nat) (own : Int) (l : List Int) (k : Nat) (f : Int) : Nat × Nat × Int :=
  if f = 0 then (match dec (l.drop k) with | .ok (x, m) => if top < x then (0, k, own) else (x, k + m, 0) | .error i => (0, k, 11 + (i : Int))) else (0, k, f)
theorem rcU_le (top : Nat) (own : Int) (l : List Int) (k : Nat) (f : Int) : (rcU top own l k f).1 ≤ top := by
  unfold rcU
  split
  · split
    · split <;> simp; omega
    · simp
  · simp

set_option maxHeartbeats 2000000 in
set_option maxRecDepth 100000 in
theorem rcUint_any (top : Nat) (own : Int) (b n cap k : Nat) (f : Int) (sa : Option Addr) (l : List Int) (a : Nat → Addr) (w : World) (ho : own ≠ 0) (ht : top ≤ 1073741824) (h : Rdr w b sa n cap k f l a) :
    Calls Tryd.prog 26 #[.pointer (some ⟨b, 0, none⟩), .int .u64 (top : Int), .int .i64 own] w fun e w' => e = .returned (.int .i64 ((rcU top own l k f).1 : Nat)) ∧ Touch b w w' ∧ Rdr w' b sa n cap (rcU top own l k f).2.1 (rcU top own l k f).2.2 l a := by
  have c0 : w.cell? ⟨b, 0, none⟩ = some (.slice sa n cap) := h.ready.cur.1
  have c1 : w.cell? ⟨b, 1, none⟩ = some (.int .i64 (k : Int)) := h.ready.cur.2.1
  have f1 : w.frozen? ⟨b, 1, none⟩ = false := h.ready.cur.2.2
  have c2 := h.fault
  have f2 := h.thaw
  have hn := h.ready.seg.2.1
  have hcm := h.capMax
  have hcl := h.capLe
  have hkn := h.ready.le
  have hl := hide h.ready.seg.1
  have ho1 : (own == 0) = false := beq_eq_false_iff_ne.2 ho
  have ho2 : (own != 0) = true := by rw [bne_iff_ne]; exact ho
  clear ho
  unfold maxLen at hn hcm
  by_cases hf : f = 0
  · subst hf
    have bk := byt_drop h.ready.byt k
    have HFm := hide (rc_forms h)
    cases hd : dec (l.drop k) with
    | error i =>
      have hne : ((11 + (i : Int)) == 0) = false := beq_eq_false_iff_ne.2 (by omega)
      have hne' : ((11 + (i : Int)) != 0) = true := by rw [bne_iff_ne]; omega
      have HQ : Hid (rcU top own l k 0 = (0, k, 11 + (i : Int))) := by unfold rcU; rw [hd]; rfl
      rcases HFm.out with ⟨sb, so, rfl, g1, g2, g3⟩ | ⟨rfl, g2, g3⟩ | ⟨rfl, g2, g3⟩
      · have HC : Hid (∀ q, Calls Tryd.prog 40 #[.slice (some ⟨sb, so + k, none⟩) (n - k) (cap - k)] (w.drewN q) fun e w' => e = .returned (.tuple #[.int .u64 0, .int .i64 0, .int .i64 (11 + (i : Int))]) ∧ w' = w.drewN q) := fun q => by
          have := rcU_ret (n - k) (cap - k) _ _ (w.drewN q) (g3 q) bk; rw [hd] at this; exact this
        clear g3
        clear hd HFm
        go_enter Tryd.func26, Tryd.ntmps26
        go_wp2_with fail
        go_quiet ((go_at_call 40; exact Calls.quiet_of_same (HC.out _)))
        go_wp2
        go_ret
        rw [HQ.out]
        exact ⟨rfl, rc_break h _ _⟩
      · rw [g3] at hd
        have HC : Hid (∀ (ad : Option Addr) (c q : Nat), Calls Tryd.prog 40 #[.slice ad 0 c] (w.drewN q) fun e w' => e = .returned (.tuple #[.int .u64 0, .int .i64 0, .int .i64 (11 + (i : Int))]) ∧ w' = w.drewN q) := fun ad c q => by
          have := rcU_ret 0 c ad [] (w.drewN q) (seg_empty _ _) (fun z hz => by cases hz); rw [hd] at this; exact this
        clear g3
        clear hd HFm
        go_enter Tryd.func26, Tryd.ntmps26
        go_wp2_with fail
        go_quiet ((go_at_call 40; exact Calls.quiet_of_same (HC.out _ _ _)))
        go_wp2
        go_ret
        rw [HQ.out]
        exact ⟨rfl, rc_break h _ _⟩
      · rw [g3] at hd
        have HC : Hid (∀ (ad : Option Addr) (c q : Nat), Calls Tryd.prog 40 #[.slice ad 0 c] (w.drewN q) fun e w' => e = .returned (.tuple #[.int .u64 0, .int .i64 0, .int .i64 (11 + (i : Int))]) ∧ w' = w.drewN q) := fun ad c q => by
          have := rcU_ret 0 c ad [] (w.drewN q) (seg_empty _ _) (fun z hz => by cases hz); rw [hd] at this; exact this
        clear g3
        clear hd HFm
        go_enter Tryd.func26, Tryd.ntmps26
        go_wp2_with fail
        go_quiet ((go_at_call 40; exact Calls.quiet_of_same (HC.out _ _ _)))
        go_wp2
        go_ret
        rw [HQ.out]
        exact ⟨rfl, rc_break h _ _⟩
    | ok p =>
      obtain ⟨x, m⟩ := p
      have hx := dec_lt bk hd
      have hm : k + m ≤ n := by have := (dec_len bk hd).2.2; rw [List.length_drop, hl.out] at this; omega
      rcases HFm.out with ⟨sb, so, rfl, g1, g2, g3⟩ | ⟨rfl, g2, g3⟩ | ⟨rfl, g2, g3⟩
      · have HC : Hid (∀ q, Calls Tryd.prog 40 #[.slice (some ⟨sb, so + k, none⟩) (n - k) (cap - k)] (w.drewN q) fun e w' => e = .returned (.tuple #[.int .u64 (x : Int), .int .i64 (m : Int), .int .i64 0]) ∧ w' = w.drewN q) := fun q => by
          have := rcU_ret (n - k) (cap - k) _ _ (w.drewN q) (g3 q) bk; rw [hd] at this; exact this
        clear g3
        by_cases hb : top < x
        · have HQ : Hid (rcU top own l k 0 = (0, k, own)) := by unfold rcU; rw [hd]; exact if_pos hb
          clear hd HFm
          go_enter Tryd.func26, Tryd.ntmps26
          go_wp2_with fail
          go_quiet ((go_at_call 40; exact Calls.quiet_of_same (HC.out _)))
          go_wp2
          go_ret
          rw [HQ.out]
          exact ⟨rfl, rc_break h _ _⟩
        · have HQ : Hid (rcU top own l k 0 = (x, k + m, 0)) := by unfold rcU; rw [hd]; exact if_neg hb
          have hxt : x ≤ 1073741824 := by omega
          clear hd HFm
          go_enter Tryd.func26, Tryd.ntmps26
          go_wp2_with fail
          go_quiet ((go_at_call 40; exact Calls.quiet_of_same (HC.out _)))
          go_wp2
          go_ret
          rw [HQ.out]
          exact ⟨rfl, rc_move h _ hm⟩
      · rw [g3] at hd; cases hd
      · rw [g3] at hd; cases hd
  · have HQ : Hid (rcU top own l k f = (0, k, f)) := by unfold rcU; exact if_neg hf
    have hb : (f != 0) = true := by rw [bne_iff_ne]; exact hf
    clear hf
    go_enter Tryd.func26, Tryd.ntmps26
    go_wp2
    go_ret
    rw [HQ.out]
    exact ⟨rfl, Touch.refl b w, h⟩
end Go.Proofs.YtpjdgbhjjknopaaDoor
