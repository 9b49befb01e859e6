/- The contracts of the document's own reader: NewReader, Uint, Int, Byte, Err, Left and Close. -/
import Derived.Test.YtifhbbljjalpfabDoorNew
import Derived.Test.YtifhbbljjalpfabDoorGive
import Derived.Test.YtifhbbljjalpfabDoorRef
import Derived.Test.YtifhbbljjalpfabDoorRoom
namespace Go.Proofs.YtifhbbljjalpfabDoor
open Go.RowKit Go.Wire1

def refTup (r : Except Nat (Nat × Nat)) : Value :=
  match r with
  | .ok (x, m) => .tuple #[.int .u64 (x : Int), .int .i64 (m : Int), .int .i64 0]
  | .error i => .tuple #[.int .u64 0, .int .i64 0, .int .i64 (11 + (i : Int))]
def refTupI (r : Except Nat (Nat × Nat)) : Value :=
  match r with
  | .ok (x, m) => .tuple #[.int .i64 (unzig x), .int .i64 (m : Int), .int .i64 0]
  | .error i => .tuple #[.int .i64 0, .int .i64 0, .int .i64 (11 + (i : Int))]
theorem refU_ret (n cap : Nat) (sa : Option Addr) (l : List Int) (w : World) (hs : Seg w sa n l) (hy : Byt l) :
    Calls Tryd.prog 63 #[.slice sa n cap] w fun e w' => e = .returned (refTup (dec l)) ∧ w' = w := by
  refine (refUint_any n cap sa l w hs hy).mono ?_
  rintro e w' ⟨h, rfl⟩
  refine ⟨?_, rfl⟩
  cases hd : dec l with
  | error i => rw [hd] at h; exact h
  | ok p => rw [hd] at h; exact h
theorem refI_ret (n cap : Nat) (sa : Option Addr) (l : List Int) (w : World) (hs : Seg w sa n l) (hy : Byt l) :
    Calls Tryd.prog 64 #[.slice sa n cap] w fun e w' => e = .returned (refTupI (dec l)) ∧ w' = w := by
  refine (refInt_any n cap sa l w hs hy).mono ?_
  rintro e w' ⟨h, rfl⟩
  refine ⟨?_, rfl⟩
  cases hd : dec l with
  | error i => rw [hd] at h; exact h
  | ok p => rw [hd] at h; exact h

/-- The three forms that the bytes from the place on take. -/
theorem forms {w : World} {b : Nat} {sa : Option Addr} {n cap k : Nat} {f : Int} {l : List Int} {a : Nat → Addr} (h : Rdr w b sa n cap k f l a) :
    (∃ sb so, sa = some ⟨sb, so, none⟩ ∧ k < n ∧ 0 < (cap : Int) - (k : Int) ∧ ∀ q, Seg (w.drewN q) (some ⟨sb, so + k, none⟩) (n - k) (l.drop k)) ∨ (k = n ∧ (cap : Int) - (k : Int) = 0 ∧ l.drop k = []) ∨ (k = n ∧ 0 < (cap : Int) - (k : Int) ∧ l.drop k = []) := by
  have hk := h.ready.le
  have hc := h.capLe
  by_cases e : k = n
  · have hd : l.drop k = [] := by rw [List.drop_eq_nil_iff, h.ready.seg.1]; omega
    by_cases e2 : cap = k
    · right; left; exact ⟨e, by omega, hd⟩
    · right; right; exact ⟨e, by omega, hd⟩
  · left
    obtain ⟨sb, so, rfl, _⟩ := h.ready.seg.2.2 (by omega)
    exact ⟨sb, so, rfl, by omega, by omega, fun q => (h.ready.seg.drewN q).from (by omega)⟩

theorem moveAt {w : World} {b : Nat} {sa : Option Addr} {n cap k m : Nat} {f : Int} {l : List Int} {a : Nat → Addr} (h : Rdr w b sa n cap k f l a) (q : Nat) (hm : k + m ≤ n) : Touch b w ((w.drewN q).setCell ⟨b, 1, none⟩ (.int .i64 ((k : Int) + (m : Int)))) ∧ Rdr ((w.drewN q).setCell ⟨b, 1, none⟩ (.int .i64 ((k : Int) + (m : Int)))) b sa n cap (k + m) f l a := by
  have hT : Touch b w ((w.drewN q).setCell ⟨b, 1, none⟩ (.int .i64 ((k : Int) + (m : Int)))) := ((Touch.refl b w).drewN q).setB _
  refine ⟨hT, h.moved hT ?_ ?_ ?_ ?_ ?_ hm⟩
  · rw [World.cell?_setCell_other _ _ _ _ (by simp)]; exact h.ready.cur.1
  · have := World.cell?_setCell_same (w.drewN q) ⟨b, 1, none⟩ (.int .i64 ((k : Int) + (m : Int))) h.ready.cur.2.1
    rw [this]; simp
  · rw [World.frozen?_setCell]; exact h.ready.cur.2.2
  · rw [World.cell?_setCell_other _ _ _ _ (by simp)]; exact h.fault
  · rw [World.frozen?_setCell]; exact h.thaw
theorem breakAt {w : World} {b : Nat} {sa : Option Addr} {n cap k : Nat} {f : Int} {l : List Int} {a : Nat → Addr} (h : Rdr w b sa n cap k f l a) (q : Nat) (z : Int) : Touch b w ((w.drewN q).setCell ⟨b, 2, none⟩ (.int .i64 z)) ∧ Rdr ((w.drewN q).setCell ⟨b, 2, none⟩ (.int .i64 z)) b sa n cap k z l a := by
  have hT : Touch b w ((w.drewN q).setCell ⟨b, 2, none⟩ (.int .i64 z)) := ((Touch.refl b w).drewN q).setB _
  refine ⟨hT, h.moved hT ?_ ?_ ?_ ?_ ?_ h.ready.le⟩
  · rw [World.cell?_setCell_other _ _ _ _ (by simp)]; exact h.ready.cur.1
  · rw [World.cell?_setCell_other _ _ _ _ (by simp)]; exact h.ready.cur.2.1
  · rw [World.frozen?_setCell]; exact h.ready.cur.2.2
  · exact World.cell?_setCell_same (w.drewN q) ⟨b, 2, none⟩ _ h.fault
  · rw [World.frozen?_setCell]; exact h.thaw

set_option maxHeartbeats 2000000 in
set_option maxRecDepth 100000 in
theorem refRUint_any (most : Nat) (b n cap k : Nat) (f : Int) (sa : Option Addr) (l : List Int) (a : Nat → Addr) (w : World) (h : Rdr w b sa n cap k f l a) :
    Calls Tryd.prog 50 #[.pointer (some ⟨b, 0, none⟩), .int .u64 (most : Int)] w fun e w' => e = .returned (Meth (.int .u64 0) (rU most l k) k f).1 ∧ Touch b w w' ∧ Rdr w' b sa n cap (Meth (.int .u64 0) (rU most l k) k f).2.1 (Meth (.int .u64 0) (rU most l k) k f).2.2 l a := by
  have c0 : w.cell? ⟨b, 0, none⟩ = some (.slice sa n cap) := h.ready.cur.1
  have c1 : w.cell? ⟨b, 1, none⟩ = some (.int .i64 (k : Int)) := h.ready.cur.2.1
  have f1 : w.frozen? ⟨b, 1, none⟩ = false := h.ready.cur.2.2
  have c2 := h.fault
  have f2 := h.thaw
  have hn := h.ready.seg.2.1
  have hcm := h.capMax
  have hcl := h.capLe
  have hkn := h.ready.le
  have hl := hide h.ready.seg.1
  unfold maxLen at hn hcm
  by_cases hf : f = 0
  · subst hf
    have bk := byt_drop h.ready.byt k
    have HFm := hide (forms h)
    cases hd : dec (l.drop k) with
    | error i =>
      have hne : ((11 + (i : Int)) == 0) = false := beq_eq_false_iff_ne.2 (by omega)
      have hne' : ((11 + (i : Int)) != 0) = true := by rw [bne_iff_ne]; omega
      have HQ := hide (meth_err (Z := .int .u64 0) (k := k) (show rU most l k = .error i by unfold rU; rw [hd]))
      rcases HFm.out with ⟨sb, so, rfl, g1, g2, g3⟩ | ⟨rfl, g2, g3⟩ | ⟨rfl, g2, g3⟩
      · have HC : Hid (∀ q, Calls Tryd.prog 63 #[.slice (some ⟨sb, so + k, none⟩) (n - k) (cap - k)] (w.drewN q) fun e w' => e = .returned (.tuple #[.int .u64 0, .int .i64 0, .int .i64 (11 + (i : Int))]) ∧ w' = w.drewN q) := fun q => by
          have := refU_ret (n - k) (cap - k) _ _ (w.drewN q) (g3 q) bk; rw [hd] at this; exact this
        clear g3
        clear hd HFm
        go_enter Tryd.func50, Tryd.ntmps50
        go_wp2_with fail
        go_quiet ((go_at_call 63; exact Calls.quiet_of_same (HC.out _)))
        go_wp2
        go_ret
        rw [HQ.out]
        exact ⟨rfl, breakAt h _ _⟩
      · rw [g3] at hd
        have HC : Hid (∀ (ad : Option Addr) (c q : Nat), Calls Tryd.prog 63 #[.slice ad 0 c] (w.drewN q) fun e w' => e = .returned (.tuple #[.int .u64 0, .int .i64 0, .int .i64 (11 + (i : Int))]) ∧ w' = w.drewN q) := fun ad c q => by
          have := refU_ret 0 c ad [] (w.drewN q) (seg_empty _ _) (fun z hz => by cases hz); rw [hd] at this; exact this
        clear g3
        clear hd HFm
        go_enter Tryd.func50, Tryd.ntmps50
        go_wp2_with fail
        go_quiet ((go_at_call 63; exact Calls.quiet_of_same (HC.out _ _ _)))
        go_wp2
        go_ret
        rw [HQ.out]
        exact ⟨rfl, breakAt h _ _⟩
      · rw [g3] at hd
        have HC : Hid (∀ (ad : Option Addr) (c q : Nat), Calls Tryd.prog 63 #[.slice ad 0 c] (w.drewN q) fun e w' => e = .returned (.tuple #[.int .u64 0, .int .i64 0, .int .i64 (11 + (i : Int))]) ∧ w' = w.drewN q) := fun ad c q => by
          have := refU_ret 0 c ad [] (w.drewN q) (seg_empty _ _) (fun z hz => by cases hz); rw [hd] at this; exact this
        clear g3
        clear hd HFm
        go_enter Tryd.func50, Tryd.ntmps50
        go_wp2_with fail
        go_quiet ((go_at_call 63; exact Calls.quiet_of_same (HC.out _ _ _)))
        go_wp2
        go_ret
        rw [HQ.out]
        exact ⟨rfl, breakAt h _ _⟩
    | ok p =>
      obtain ⟨x, m⟩ := p
      have hx := dec_lt bk hd
      have hm : k + m ≤ n := by have := (dec_len bk hd).2.2; rw [List.length_drop, hl.out] at this; omega
      rcases HFm.out with ⟨sb, so, rfl, g1, g2, g3⟩ | ⟨rfl, g2, g3⟩ | ⟨rfl, g2, g3⟩
      · have HC : Hid (∀ q, Calls Tryd.prog 63 #[.slice (some ⟨sb, so + k, none⟩) (n - k) (cap - k)] (w.drewN q) fun e w' => e = .returned (.tuple #[.int .u64 (x : Int), .int .i64 (m : Int), .int .i64 0]) ∧ w' = w.drewN q) := fun q => by
          have := refU_ret (n - k) (cap - k) _ _ (w.drewN q) (g3 q) bk; rw [hd] at this; exact this
        clear g3
        by_cases hb : most < x
        · have HQ := hide (meth_err (Z := .int .u64 0) (k := k) (show rU most l k = .error 3 by unfold rU; rw [hd]; exact if_pos hb))
          clear hd HFm
          go_enter Tryd.func50, Tryd.ntmps50
          go_wp2_with fail
          go_quiet ((go_at_call 63; exact Calls.quiet_of_same (HC.out _)))
          go_wp2
          go_ret
          rw [HQ.out]
          exact ⟨rfl, breakAt h _ _⟩
        · have HQ := hide (meth_ok (Z := .int .u64 0) (k := k) (show rU most l k = .ok (.int .u64 (x : Int), m) by unfold rU; rw [hd]; exact if_neg hb))
          clear hd HFm
          go_enter Tryd.func50, Tryd.ntmps50
          go_wp2_with fail
          go_quiet ((go_at_call 63; exact Calls.quiet_of_same (HC.out _)))
          go_wp2
          go_ret
          rw [HQ.out]
          exact ⟨rfl, moveAt h _ hm⟩
      · rw [g3] at hd; cases hd
      · rw [g3] at hd; cases hd
  · have HQ := hide (meth_broken (Z := .int .u64 0) (r := rU most l k) (k := k) hf)
    have hb : (f != 0) = true := by rw [bne_iff_ne]; exact hf
    clear hf
    go_enter Tryd.func50, Tryd.ntmps50
    go_wp2
    go_ret
    rw [HQ.out]
    exact ⟨rfl, Touch.refl b w, h⟩

set_option maxHeartbeats 2000000 in
set_option maxRecDepth 100000 in
theorem refRInt_any (b n cap k : Nat) (f : Int) (sa : Option Addr) (l : List Int) (a : Nat → Addr) (w : World) (h : Rdr w b sa n cap k f l a) :
    Calls Tryd.prog 51 #[.pointer (some ⟨b, 0, none⟩)] w fun e w' => e = .returned (Meth (.int .i64 0) (rI l k) k f).1 ∧ Touch b w w' ∧ Rdr w' b sa n cap (Meth (.int .i64 0) (rI l k) k f).2.1 (Meth (.int .i64 0) (rI l k) k f).2.2 l a := by
  have c0 : w.cell? ⟨b, 0, none⟩ = some (.slice sa n cap) := h.ready.cur.1
  have c1 : w.cell? ⟨b, 1, none⟩ = some (.int .i64 (k : Int)) := h.ready.cur.2.1
  have f1 : w.frozen? ⟨b, 1, none⟩ = false := h.ready.cur.2.2
  have c2 := h.fault
  have f2 := h.thaw
  have hn := h.ready.seg.2.1
  have hcm := h.capMax
  have hcl := h.capLe
  have hkn := h.ready.le
  have hl := hide h.ready.seg.1
  unfold maxLen at hn hcm
  by_cases hf : f = 0
  · subst hf
    have bk := byt_drop h.ready.byt k
    have HFm := hide (forms h)
    cases hd : dec (l.drop k) with
    | error i =>
      have hne : ((11 + (i : Int)) == 0) = false := beq_eq_false_iff_ne.2 (by omega)
      have hne' : ((11 + (i : Int)) != 0) = true := by rw [bne_iff_ne]; omega
      have HQ := hide (meth_err (Z := .int .i64 0) (k := k) (show rI l k = .error i by unfold rI; rw [hd]))
      rcases HFm.out with ⟨sb, so, rfl, g1, g2, g3⟩ | ⟨rfl, g2, g3⟩ | ⟨rfl, g2, g3⟩
      · have HC : Hid (∀ q, Calls Tryd.prog 64 #[.slice (some ⟨sb, so + k, none⟩) (n - k) (cap - k)] (w.drewN q) fun e w' => e = .returned (.tuple #[.int .i64 0, .int .i64 0, .int .i64 (11 + (i : Int))]) ∧ w' = w.drewN q) := fun q => by
          have := refI_ret (n - k) (cap - k) _ _ (w.drewN q) (g3 q) bk; rw [hd] at this; exact this
        clear g3
        clear hd HFm
        go_enter Tryd.func51, Tryd.ntmps51
        go_wp2_with fail
        go_quiet ((go_at_call 64; exact Calls.quiet_of_same (HC.out _)))
        go_wp2
        go_ret
        rw [HQ.out]
        exact ⟨rfl, breakAt h _ _⟩
      · rw [g3] at hd
        have HC : Hid (∀ (ad : Option Addr) (c q : Nat), Calls Tryd.prog 64 #[.slice ad 0 c] (w.drewN q) fun e w' => e = .returned (.tuple #[.int .i64 0, .int .i64 0, .int .i64 (11 + (i : Int))]) ∧ w' = w.drewN q) := fun ad c q => by
          have := refI_ret 0 c ad [] (w.drewN q) (seg_empty _ _) (fun z hz => by cases hz); rw [hd] at this; exact this
        clear g3
        clear hd HFm
        go_enter Tryd.func51, Tryd.ntmps51
        go_wp2_with fail
        go_quiet ((go_at_call 64; exact Calls.quiet_of_same (HC.out _ _ _)))
        go_wp2
        go_ret
        rw [HQ.out]
        exact ⟨rfl, breakAt h _ _⟩
      · rw [g3] at hd
        have HC : Hid (∀ (ad : Option Addr) (c q : Nat), Calls Tryd.prog 64 #[.slice ad 0 c] (w.drewN q) fun e w' => e = .returned (.tuple #[.int .i64 0, .int .i64 0, .int .i64 (11 + (i : Int))]) ∧ w' = w.drewN q) := fun ad c q => by
          have := refI_ret 0 c ad [] (w.drewN q) (seg_empty _ _) (fun z hz => by cases hz); rw [hd] at this; exact this
        clear g3
        clear hd HFm
        go_enter Tryd.func51, Tryd.ntmps51
        go_wp2_with fail
        go_quiet ((go_at_call 64; exact Calls.quiet_of_same (HC.out _ _ _)))
        go_wp2
        go_ret
        rw [HQ.out]
        exact ⟨rfl, breakAt h _ _⟩
    | ok p =>
      obtain ⟨x, m⟩ := p
      have hx := dec_lt bk hd
      have hm : k + m ≤ n := by have := (dec_len bk hd).2.2; rw [List.length_drop, hl.out] at this; omega
      rcases HFm.out with ⟨sb, so, rfl, g1, g2, g3⟩ | ⟨rfl, g2, g3⟩ | ⟨rfl, g2, g3⟩
      · have HC : Hid (∀ q, Calls Tryd.prog 64 #[.slice (some ⟨sb, so + k, none⟩) (n - k) (cap - k)] (w.drewN q) fun e w' => e = .returned (.tuple #[.int .i64 (unzig x), .int .i64 (m : Int), .int .i64 0]) ∧ w' = w.drewN q) := fun q => by
          have := refI_ret (n - k) (cap - k) _ _ (w.drewN q) (g3 q) bk; rw [hd] at this; exact this
        clear g3
        have HQ := hide (meth_ok (Z := .int .i64 0) (k := k) (show rI l k = .ok (.int .i64 (unzig x), m) by unfold rI; rw [hd]))
        clear hd HFm
        go_enter Tryd.func51, Tryd.ntmps51
        go_wp2_with fail
        go_quiet ((go_at_call 64; exact Calls.quiet_of_same (HC.out _)))
        go_wp2
        go_ret
        rw [HQ.out]
        exact ⟨rfl, moveAt h _ hm⟩
      · rw [g3] at hd; cases hd
      · rw [g3] at hd; cases hd
  · have HQ := hide (meth_broken (Z := .int .i64 0) (r := rI l k) (k := k) hf)
    have hb : (f != 0) = true := by rw [bne_iff_ne]; exact hf
    clear hf
    go_enter Tryd.func51, Tryd.ntmps51
    go_wp2
    go_ret
    rw [HQ.out]
    exact ⟨rfl, Touch.refl b w, h⟩

set_option maxHeartbeats 2000000 in
set_option maxRecDepth 100000 in
theorem refRByte_any (most : Int) (b n cap k : Nat) (f : Int) (sa : Option Addr) (l : List Int) (a : Nat → Addr) (w : World) (h : Rdr w b sa n cap k f l a) :
    Calls Tryd.prog 52 #[.pointer (some ⟨b, 0, none⟩), .int .i64 most] w fun e w' => e = .returned (Meth (.int .i64 0) (rB most l k) k f).1 ∧ Touch b w w' ∧ Rdr w' b sa n cap (Meth (.int .i64 0) (rB most l k) k f).2.1 (Meth (.int .i64 0) (rB most l k) k f).2.2 l a := by
  have c0 : w.cell? ⟨b, 0, none⟩ = some (.slice sa n cap) := h.ready.cur.1
  have c1 : w.cell? ⟨b, 1, none⟩ = some (.int .i64 (k : Int)) := h.ready.cur.2.1
  have f1 : w.frozen? ⟨b, 1, none⟩ = false := h.ready.cur.2.2
  have c2 := h.fault
  have f2 := h.thaw
  have hn := h.ready.seg.2.1
  have hkn := h.ready.le
  have hl := hide h.ready.seg.1
  unfold maxLen at hn
  by_cases hf : f = 0
  · subst hf
    by_cases hk : k = n
    · subst hk
      have HQ := hide (meth_err (Z := .int .i64 0) (k := k) (show rB most l k = .error 0 by unfold rB; exact if_pos (by rw [hl.out]; exact Nat.le_refl _)))
      go_enter Tryd.func52, Tryd.ntmps52
      go_wp2_with fail
      go_quiet (fail)
      go_wp2
      go_ret
      rw [HQ.out]
      exact ⟨rfl, breakAt h _ _⟩
    · obtain ⟨sb, so, rfl, hc⟩ := h.ready.seg.2.2 (by omega)
      have hck := hc k (by omega)
      have hz := byt_at h.ready.byt k
      clear hc
      by_cases hx : most < l.getD k 0
      · have HQ := hide (meth_err (Z := .int .i64 0) (k := k) (show rB most l k = .error 3 by unfold rB; rw [if_neg (by rw [hl.out]; omega), if_pos hx]))
        generalize l.getD k 0 = z at *
        go_enter Tryd.func52, Tryd.ntmps52
        go_wp2_with fail
        go_quiet (fail)
        go_wp2_with fail
        go_quiet (fail)
        go_wp2
        go_ret
        rw [HQ.out]
        exact ⟨rfl, breakAt h _ _⟩
      · have HQ := hide (meth_ok (Z := .int .i64 0) (k := k) (show rB most l k = .ok (.int .i64 (l.getD k 0), 1) by unfold rB; rw [if_neg (by rw [hl.out]; omega), if_neg hx]))
        generalize l.getD k 0 = z at *
        go_enter Tryd.func52, Tryd.ntmps52
        go_wp2_with fail
        go_quiet (fail)
        go_wp2_with fail
        go_quiet (fail)
        go_wp2
        go_ret
        rw [HQ.out]
        exact ⟨rfl, moveAt (m := 1) h _ (by omega)⟩
  · have HQ := hide (meth_broken (Z := .int .i64 0) (r := rB most l k) (k := k) hf)
    have hb : (f != 0) = true := by rw [bne_iff_ne]; exact hf
    clear hf
    go_enter Tryd.func52, Tryd.ntmps52
    go_wp2
    go_ret
    rw [HQ.out]
    exact ⟨rfl, Touch.refl b w, h⟩

set_option maxHeartbeats 400000 in
set_option maxRecDepth 100000 in
theorem refErr_any (b n cap k : Nat) (f : Int) (sa : Option Addr) (l : List Int) (a : Nat → Addr) (w : World) (h : Rdr w b sa n cap k f l a) :
    Calls Tryd.prog 54 #[.pointer (some ⟨b, 0, none⟩)] w fun e w' => e = .returned (.tuple #[.int .i64 f, .int .i64 (k : Int)]) ∧ ∃ q, w' = w.drewN q := by
  have c1 : w.cell? ⟨b, 1, none⟩ = _ := h.ready.cur.2.1
  have c2 := h.fault
  go_enter Tryd.func54, Tryd.ntmps54
  go_wp2
  go_quiet (fail)
  go_wp2
  go_ret2
  exact ⟨rfl, _, rfl⟩

set_option maxHeartbeats 400000 in
set_option maxRecDepth 100000 in
theorem refLeft_any (b n cap k : Nat) (f : Int) (sa : Option Addr) (l : List Int) (a : Nat → Addr) (w : World) (h : Rdr w b sa n cap k f l a) :
    Calls Tryd.prog 55 #[.pointer (some ⟨b, 0, none⟩)] w fun e w' => e = .returned (.int .i64 ((n : Int) - (k : Int))) ∧ ∃ q, w' = w.drewN q := by
  have c0 : w.cell? ⟨b, 0, none⟩ = some (.slice sa n cap) := h.ready.cur.1
  have c1 : w.cell? ⟨b, 1, none⟩ = some (.int .i64 (k : Int)) := h.ready.cur.2.1
  have hn := h.ready.seg.2.1
  have hkn := h.ready.le
  unfold maxLen at hn
  go_enter Tryd.func55, Tryd.ntmps55
  go_wp2
  go_quiet (fail)
  go_wp2
  go_ret
  exact ⟨rfl, _, rfl⟩

set_option maxHeartbeats 400000 in
set_option maxRecDepth 100000 in
theorem refClose_any (b n cap k : Nat) (f : Int) (sa : Option Addr) (l : List Int) (a : Nat → Addr) (w : World) (h : Rdr w b sa n cap k f l a) :
    Calls Tryd.prog 56 #[.pointer (some ⟨b, 0, none⟩)] w fun e w' => e = .returned (.int .i64 (closeF n k f)) ∧ Touch b w w' ∧ Rdr w' b sa n cap k (closeF n k f) l a := by
  have c0 : w.cell? ⟨b, 0, none⟩ = some (.slice sa n cap) := h.ready.cur.1
  have c1 : w.cell? ⟨b, 1, none⟩ = some (.int .i64 (k : Int)) := h.ready.cur.2.1
  have c2 := h.fault
  have f2 := h.thaw
  by_cases hf : f = 0
  · subst hf
    by_cases hkn : k < n
    · have HQ : Hid (closeF n k 0 = 16) := by show _ = _; unfold closeF; rw [if_pos ⟨rfl, hkn⟩]
      go_enter Tryd.func56, Tryd.ntmps56
      go_wp2_with fail
      go_quiet (fail)
      go_wp2
      go_ret
      rw [HQ.out]
      exact ⟨rfl, breakAt h _ _⟩
    · have HQ : Hid (closeF n k 0 = 0) := by show _ = _; unfold closeF; rw [if_neg (fun h => hkn h.2)]
      go_enter Tryd.func56, Tryd.ntmps56
      go_wp2_with fail
      go_quiet (fail)
      go_wp2
      go_ret
      rw [HQ.out]
      exact ⟨rfl, (Touch.refl b w).drewN _, h.drewN _⟩
  · have HQ : Hid (closeF n k f = f) := by show _ = _; unfold closeF; rw [if_neg (fun h => hf h.1)]
    have hb : (f == 0) = false := beq_eq_false_iff_ne.2 hf
    clear hf
    go_enter Tryd.func56, Tryd.ntmps56
    go_wp2_with fail
    go_quiet (fail)
    go_wp2
    go_ret
    rw [HQ.out]
    exact ⟨rfl, (Touch.refl b w).drewN _, h.drewN _⟩

set_option maxHeartbeats 1000000 in
set_option maxRecDepth 100000 in
theorem refNew_any (sa : Option Addr) (n cap : Nat) (l : List Int) (a : Nat → Addr) (w : World) (hs : Seg w sa n l) (hy : Byt l) (he : Errs w a) (hlen : n ≤ 140737488355328) :
    Calls Tryd.prog 29 #[.slice sa n cap] w fun e w' => ∃ b sa' cap', e = .returned (.pointer (some ⟨b, 0, none⟩)) ∧ w.heap.size ≤ b ∧ Below w.heap.size w w' ∧ Rdr w' b sa' l.length cap' 0 0 l a ∧ (∀ x, sa' = some x → 0 < l.length → w.heap.size ≤ x.block) := by
  go_enter Tryd.func29, Tryd.ntmps29
  go_wp2_with fail
  refine (bytes_any sa n cap l _ hs hlen).mono ?_
  rintro e w1 ⟨v, rfl, hown, hbel⟩
  obtain ⟨sa', cap', rfl, hR⟩ := rdr_new 83 hown hbel he hy
  have hbase : ∀ x, sa' = some x → 0 < l.length → w.heap.size ≤ x.block := fun x hx _ => by
    subst hx; exact (hown.lt x.block rfl).1
  have B2 : Below w.heap.size w (w1.alloc (.cells #[.slice sa' l.length cap', .int .i64 0, .int .i64 0] 83)) := hbel.alloc hbel.size _
  have hsz := hbel.size
  clear hown hbel
  go_wp2
  go_ret
  exact ⟨_, _, _, rfl, hsz, B2, hR, hbase⟩
end Go.Proofs.YtifhbbljjalpfabDoor
