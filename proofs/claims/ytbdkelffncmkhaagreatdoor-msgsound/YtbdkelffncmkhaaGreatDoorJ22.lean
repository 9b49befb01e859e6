/- Texts of the proof, joined. -/
import Derived.Test.YtbdkelffncmkhaaGreatDoorJ21
import Derived.Test.YtbdkelffncmkhaaGreatDoorJ01
import Derived.Test.YtbdkelffncmkhaaGreatDoorJ20
/- The contracts of noopFault, mayNoop, the two voteFaults and depsFault. -/
namespace Go.Proofs.YtbdkelffncmkhaaGreatDoor
open Go.RowKit Go.Wire1

set_option maxHeartbeats 1000000 in
set_option maxRecDepth 100000 in
theorem noopFault_any (c : Cm) (seq : Int) (dv : Value) (may : Bool) (w : World) :
    Calls Tryz.prog 52 #[.agg #[.int .i64 c.kind, .int .i64 c.client, .int .i64 c.req, .string c.key, .string c.key2, .string c.val, .string c.old, .int .i64 c.n, .int .i64 seq, dv], .bool may] w fun e w' => e = .returned (.int .i64 (unl (may || !(c.kind == 0)) 57)) ∧ Below w.heap.size w w' := by
  have BB : ∀ o, Hid (Below w.heap.size w (w.alloc o)) := fun o => (Below.refl _ w).alloc (Nat.le_refl _) _
  cases may with
  | true =>
    go_enter Tryz.func52, Tryz.ntmps52
    go_wp2_with fail
    refine (unless_any _ 57 _).mono ?_
    rintro r w1 ⟨rfl, rfl⟩
    go_wp2
    go_ret
    exact ⟨rfl, (BB _).out⟩
  | false =>
    obtain ⟨b, hb⟩ : ∃ b, (c.kind == 0) = b := ⟨_, rfl⟩
    rw [hb]
    go_enter Tryz.func52, Tryz.ntmps52
    go_wp2_with fail
    refine (isNoop_any c seq dv _).mono ?_
    rintro r w1 ⟨rfl, hb1⟩
    rw [hb]
    have B1 : Hid (Below w.heap.size w w1) := (BB _).out.trans (hb1.mono (by simp))
    clear hb1
    go_wp2_with fail
    refine (unless_any _ 57 _).mono ?_
    rintro r w2 ⟨rfl, rfl⟩
    go_wp2
    go_ret
    exact ⟨rfl, B1.out⟩

set_option maxHeartbeats 400000 in
set_option maxRecDepth 100000 in
theorem mayNoopP_any (kind row num rnd who : Int) (c : Cm) (seq : Int) (dv : Value) (w : World) :
    Calls Tryz.prog 39 #[.agg #[.int .i64 kind, .int .i64 row, .int .i64 num, .int .i64 rnd, .int .i64 who, .int .i64 c.kind, .int .i64 c.client, .int .i64 c.req, .string c.key, .string c.key2, .string c.val, .string c.old, .int .i64 c.n, .int .i64 seq, dv]] w fun e w' => e = .returned (.bool (kind != 1)) ∧ Below w.heap.size w w' := by
  have BB : ∀ o, Hid (Below w.heap.size w (w.alloc o)) := fun o => (Below.refl _ w).alloc (Nat.le_refl _) _
  go_enter Tryz.func39, Tryz.ntmps39
  go_wp2
  go_ret
  exact ⟨rfl, (BB _).out⟩
set_option maxHeartbeats 400000 in
set_option maxRecDepth 100000 in
theorem mayNoopV_any (kind row num rnd who st : Int) (sm : Bool) (vr vw : Int) (c : Cm) (seq : Int) (dv : Value) (w : World) :
    Calls Tryz.prog 60 #[.agg #[.int .i64 kind, .int .i64 row, .int .i64 num, .int .i64 rnd, .int .i64 who, .int .i64 st, .bool sm, .int .i64 vr, .int .i64 vw, .int .i64 c.kind, .int .i64 c.client, .int .i64 c.req, .string c.key, .string c.key2, .string c.val, .string c.old, .int .i64 c.n, .int .i64 seq, dv]] w fun e w' => e = .returned (.bool (st != 1)) ∧ Below w.heap.size w w' := by
  have BB : ∀ o, Hid (Below w.heap.size w (w.alloc o)) := fun o => (Below.refl _ w).alloc (Nat.le_refl _) _
  go_enter Tryz.func60, Tryz.ntmps60
  go_wp2
  go_ret
  exact ⟨rfl, (BB _).out⟩

def nackB (n row rnd who vr vw : Int) : Bool := balB n row vr vw && belB rnd who vr vw
set_option maxHeartbeats 1000000 in
set_option maxRecDepth 100000 in
theorem voteFaultN_any (kind row num rnd who vr vw n : Int) (w : World) :
    Calls Tryz.prog 42 #[.agg #[.int .i64 kind, .int .i64 row, .int .i64 num, .int .i64 rnd, .int .i64 who, .int .i64 vr, .int .i64 vw], .int .i64 n] w fun e w' => e = .returned (.int .i64 (unl (nackB n row rnd who vr vw) 54)) ∧ Below w.heap.size w w' := by
  obtain ⟨V, hV⟩ : ∃ V, V = w.alloc (.cells #[.int .i64 kind, .int .i64 row, .int .i64 num, .int .i64 rnd, .int .i64 who, .int .i64 vr, .int .i64 vw] 92) := ⟨_, rfl⟩
  have BV : Hid (Below w.heap.size w V) := by rw [hV]; exact (Below.refl _ w).alloc (Nat.le_refl _) _
  have hs : V.heap.size = w.heap.size + 1 := by rw [hV]; simp
  have c3 : V.cell? ⟨w.heap.size, 3, none⟩ = some (.int .i64 rnd) := by rw [hV, World.cell?_alloc_at _ _ _ _ rfl]; rfl
  have c4 : V.cell? ⟨w.heap.size, 4, none⟩ = some (.int .i64 who) := by rw [hV, World.cell?_alloc_at _ _ _ _ rfl]; rfl
  have c5 : V.cell? ⟨w.heap.size, 5, none⟩ = some (.int .i64 vr) := by rw [hV, World.cell?_alloc_at _ _ _ _ rfl]; rfl
  have c6 : V.cell? ⟨w.heap.size, 6, none⟩ = some (.int .i64 vw) := by rw [hV, World.cell?_alloc_at _ _ _ _ rfl]; rfl
  obtain ⟨b, hb⟩ : ∃ b, Hid (nackB n row rnd who vr vw = b) := ⟨_, rfl⟩
  rw [hb.out]
  obtain ⟨b1, h1⟩ : ∃ b, Hid (balB n row vr vw = b) := ⟨_, rfl⟩
  obtain ⟨b2, h2⟩ : ∃ b, Hid (belB rnd who vr vw = b) := ⟨_, rfl⟩
  have hbb : (b1 && b2) = b := by rw [← hb.out, ← h1.out, ← h2.out]; rfl
  subst hbb
  clear hb
  cases b1 <;> cases b2
  all_goals
    go_enter Tryz.func42, Tryz.ntmps42
    go_wp2_with fail
    rw [← hV]
    refine (isBallot_any n row num vr vw _).mono ?_
    rintro r w1 ⟨rfl, hb1⟩
    rw [h1.out]
    have k3 := (hb1.cell (p := ⟨w.heap.size, 3, none⟩) (by show w.heap.size < V.heap.size; omega)).trans c3
    have k4 := (hb1.cell (p := ⟨w.heap.size, 4, none⟩) (by show w.heap.size < V.heap.size; omega)).trans c4
    have k5 := (hb1.cell (p := ⟨w.heap.size, 5, none⟩) (by show w.heap.size < V.heap.size; omega)).trans c5
    have k6 := (hb1.cell (p := ⟨w.heap.size, 6, none⟩) (by show w.heap.size < V.heap.size; omega)).trans c6
    have B1 : Hid (Below w.heap.size w w1) := BV.out.trans (hb1.mono (by omega))
    clear hb1 hV c3 c4 c5 c6
    go_wp2_with fail
    first
    | (refine (unless_any _ 54 _).mono ?_
       rintro r w2 ⟨rfl, rfl⟩
       go_wp2
       go_ret
       exact ⟨rfl, B1.out⟩)
    | (refine (mbelow_any rnd who vr vw _).mono ?_
       rintro r w2 ⟨rfl, hb2⟩
       rw [h2.out]
       have B2 : Hid (Below w.heap.size w w2) := B1.out.trans (hb2.mono B1.out.size)
       clear hb2
       go_wp2_with fail
       refine (unless_any _ 54 _).mono ?_
       rintro r w3 ⟨rfl, rfl⟩
       go_wp2
       go_ret
       exact ⟨rfl, B2.out⟩)

def voteB (n row rnd who st : Int) (sm : Bool) (vr vw : Int) : Bool := (st == 1 || st == 2) && (balB n row vr vw && (belB vr vw rnd who && ((st == 1 && vr == 0) || !sm)))
set_option maxHeartbeats 4000000 in
set_option maxRecDepth 100000 in
theorem voteFaultV_any (kind row num rnd who st : Int) (sm : Bool) (vr vw : Int) (c : Cm) (seq : Int) (dv : Value) (n : Int) (w : World) :
    Calls Tryz.prog 59 #[.agg #[.int .i64 kind, .int .i64 row, .int .i64 num, .int .i64 rnd, .int .i64 who, .int .i64 st, .bool sm, .int .i64 vr, .int .i64 vw, .int .i64 c.kind, .int .i64 c.client, .int .i64 c.req, .string c.key, .string c.key2, .string c.val, .string c.old, .int .i64 c.n, .int .i64 seq, dv], .int .i64 n] w fun e w' => e = .returned (.int .i64 (unl (voteB n row rnd who st sm vr vw) 54)) ∧ Below w.heap.size w w' := by
  obtain ⟨V, hV⟩ : ∃ V, V = w.alloc (.cells #[.int .i64 kind, .int .i64 row, .int .i64 num, .int .i64 rnd, .int .i64 who, .int .i64 st, .bool sm, .int .i64 vr, .int .i64 vw, .int .i64 c.kind, .int .i64 c.client, .int .i64 c.req, .string c.key, .string c.key2, .string c.val, .string c.old, .int .i64 c.n, .int .i64 seq, dv] 99) := ⟨_, rfl⟩
  have BV : Hid (Below w.heap.size w V) := by rw [hV]; exact (Below.refl _ w).alloc (Nat.le_refl _) _
  have hs : V.heap.size = w.heap.size + 1 := by rw [hV]; simp
  have CC : ∀ w1 : World, (∀ j, w1.cell? ⟨w.heap.size, j, none⟩ = V.cell? ⟨w.heap.size, j, none⟩) → w1.cell? ⟨w.heap.size, 3, none⟩ = some (.int .i64 rnd) ∧ w1.cell? ⟨w.heap.size, 4, none⟩ = some (.int .i64 who) ∧ w1.cell? ⟨w.heap.size, 6, none⟩ = some (.bool sm) ∧ w1.cell? ⟨w.heap.size, 7, none⟩ = some (.int .i64 vr) ∧ w1.cell? ⟨w.heap.size, 8, none⟩ = some (.int .i64 vw) := fun w1 h => by
    refine ⟨?_, ?_, ?_, ?_, ?_⟩ <;> (rw [h, hV, World.cell?_alloc_at _ _ _ _ rfl]; rfl)
  obtain ⟨b, hb⟩ : ∃ b, Hid (voteB n row rnd who st sm vr vw = b) := ⟨_, rfl⟩
  rw [hb.out]
  by_cases h1 : st = 1
  · subst h1
    obtain ⟨b1, hb1⟩ : ∃ b, Hid (balB n row vr vw = b) := ⟨_, rfl⟩
    obtain ⟨b2, hb2⟩ : ∃ b, Hid (belB vr vw rnd who = b) := ⟨_, rfl⟩
    cases b1 with
    | false =>
      obtain rfl : false = b := by rw [← hb.out]; simp [voteB, hb1.out]
      go_enter Tryz.func59, Tryz.ntmps59
      go_wp2_with fail
      rw [← hV]
      refine (isBallot_any n row num vr vw _).mono ?_
      rintro r w1 ⟨rfl, hc1⟩
      rw [hb1.out]
      have B1 : Hid (Below w.heap.size w w1) := BV.out.trans (hc1.mono (by omega))
      clear hc1 hV hb CC
      go_wp2_with fail
      refine (unless_any _ 54 _).mono ?_
      rintro r w2 ⟨rfl, rfl⟩
      go_wp2
      go_ret
      exact ⟨rfl, B1.out⟩
    | true =>
      cases b2 with
      | false =>
        obtain rfl : false = b := by rw [← hb.out]; simp [voteB, hb2.out]
        go_enter Tryz.func59, Tryz.ntmps59
        go_wp2_with fail
        rw [← hV]
        refine (isBallot_any n row num vr vw _).mono ?_
        rintro r w1 ⟨rfl, hc1⟩
        rw [hb1.out]
        have B1 : Hid (Below w.heap.size w w1) := BV.out.trans (hc1.mono (by omega))
        obtain ⟨k3, k4, k6, k7, k8⟩ := CC w1 (fun j => hc1.cell (p := ⟨w.heap.size, j, none⟩) (by show w.heap.size < V.heap.size; omega))
        clear hc1 hV hb CC
        go_wp2_with fail
        refine (mbelow_any vr vw rnd who _).mono ?_
        rintro r w2 ⟨rfl, hc2⟩
        rw [hb2.out]
        have B2 : Hid (Below w.heap.size w w2) := B1.out.trans (hc2.mono B1.out.size)
        clear hc2 k3 k4 k6 k7 k8
        go_wp2_with fail
        refine (unless_any _ 54 _).mono ?_
        rintro r w3 ⟨rfl, rfl⟩
        go_wp2
        go_ret
        exact ⟨rfl, B2.out⟩
      | true =>
        obtain ⟨z, hz⟩ : ∃ z, (vr == 0) = z := ⟨_, rfl⟩
        obtain rfl : (z || !sm) = b := by rw [← hb.out]; simp [voteB, hb1.out, hb2.out, hz]
        cases z <;> cases sm
        all_goals
          go_enter Tryz.func59, Tryz.ntmps59
          go_wp2_with fail
          rw [← hV]
          refine (isBallot_any n row num vr vw _).mono ?_
          rintro r w1 ⟨rfl, hc1⟩
          rw [hb1.out]
          have B1 : Hid (Below w.heap.size w w1) := BV.out.trans (hc1.mono (by omega))
          obtain ⟨k3, k4, k6, k7, k8⟩ := CC w1 (fun j => hc1.cell (p := ⟨w.heap.size, j, none⟩) (by show w.heap.size < V.heap.size; omega))
          have HK6 := hide k6
          clear hc1 hV hb CC
          go_wp2_with fail
          refine (mbelow_any vr vw rnd who _).mono ?_
          rintro r w2 ⟨rfl, hc2⟩
          rw [hb2.out]
          have B2 : Hid (Below w.heap.size w w2) := B1.out.trans (hc2.mono B1.out.size)
          have k6 := (hc2.cell (p := ⟨w.heap.size, 6, none⟩) (cell_lt HK6.out)).trans HK6.out
          clear hc2 k3 k4 k7 k8
          go_wp2_with fail
          refine (unless_any _ 54 _).mono ?_
          rintro r w3 ⟨rfl, rfl⟩
          go_wp2
          go_ret
          exact ⟨rfl, B2.out⟩
  by_cases h2 : st = 2
  · subst h2
    obtain ⟨b1, hb1⟩ : ∃ b, Hid (balB n row vr vw = b) := ⟨_, rfl⟩
    obtain ⟨b2, hb2⟩ : ∃ b, Hid (belB vr vw rnd who = b) := ⟨_, rfl⟩
    cases b1 with
    | false =>
      obtain rfl : false = b := by rw [← hb.out]; simp [voteB, hb1.out]
      go_enter Tryz.func59, Tryz.ntmps59
      go_wp2_with fail
      rw [← hV]
      refine (isBallot_any n row num vr vw _).mono ?_
      rintro r w1 ⟨rfl, hc1⟩
      rw [hb1.out]
      have B1 : Hid (Below w.heap.size w w1) := BV.out.trans (hc1.mono (by omega))
      clear hc1 hV hb CC
      go_wp2_with fail
      refine (unless_any _ 54 _).mono ?_
      rintro r w2 ⟨rfl, rfl⟩
      go_wp2
      go_ret
      exact ⟨rfl, B1.out⟩
    | true =>
      cases b2 with
      | false =>
        obtain rfl : false = b := by rw [← hb.out]; simp [voteB, hb2.out]
        go_enter Tryz.func59, Tryz.ntmps59
        go_wp2_with fail
        rw [← hV]
        refine (isBallot_any n row num vr vw _).mono ?_
        rintro r w1 ⟨rfl, hc1⟩
        rw [hb1.out]
        have B1 : Hid (Below w.heap.size w w1) := BV.out.trans (hc1.mono (by omega))
        obtain ⟨k3, k4, k6, k7, k8⟩ := CC w1 (fun j => hc1.cell (p := ⟨w.heap.size, j, none⟩) (by show w.heap.size < V.heap.size; omega))
        clear hc1 hV hb CC
        go_wp2_with fail
        refine (mbelow_any vr vw rnd who _).mono ?_
        rintro r w2 ⟨rfl, hc2⟩
        rw [hb2.out]
        have B2 : Hid (Below w.heap.size w w2) := B1.out.trans (hc2.mono B1.out.size)
        clear hc2 k3 k4 k6 k7 k8
        go_wp2_with fail
        refine (unless_any _ 54 _).mono ?_
        rintro r w3 ⟨rfl, rfl⟩
        go_wp2
        go_ret
        exact ⟨rfl, B2.out⟩
      | true =>
        obtain ⟨z, hz⟩ : ∃ z, (vr == 0) = z := ⟨_, rfl⟩
        obtain rfl : (!sm) = b := by rw [← hb.out]; simp [voteB, hb1.out, hb2.out]
        cases z <;> cases sm
        all_goals
          go_enter Tryz.func59, Tryz.ntmps59
          go_wp2_with fail
          rw [← hV]
          refine (isBallot_any n row num vr vw _).mono ?_
          rintro r w1 ⟨rfl, hc1⟩
          rw [hb1.out]
          have B1 : Hid (Below w.heap.size w w1) := BV.out.trans (hc1.mono (by omega))
          obtain ⟨k3, k4, k6, k7, k8⟩ := CC w1 (fun j => hc1.cell (p := ⟨w.heap.size, j, none⟩) (by show w.heap.size < V.heap.size; omega))
          have HK6 := hide k6
          clear hc1 hV hb CC
          go_wp2_with fail
          refine (mbelow_any vr vw rnd who _).mono ?_
          rintro r w2 ⟨rfl, hc2⟩
          rw [hb2.out]
          have B2 : Hid (Below w.heap.size w w2) := B1.out.trans (hc2.mono B1.out.size)
          have k6 := (hc2.cell (p := ⟨w.heap.size, 6, none⟩) (cell_lt HK6.out)).trans HK6.out
          clear hc2 k3 k4 k7 k8
          go_wp2_with fail
          refine (unless_any _ 54 _).mono ?_
          rintro r w3 ⟨rfl, rfl⟩
          go_wp2
          go_ret
          exact ⟨rfl, B2.out⟩
  have g1 : (st == 1) = false := by rw [beq_eq_false_iff_ne]; exact h1
  have g2 : (st == 2) = false := by rw [beq_eq_false_iff_ne]; exact h2
  obtain rfl : false = b := by rw [← hb.out]; simp [voteB, g1, g2]
  clear h1 h2 hb CC
  go_enter Tryz.func59, Tryz.ntmps59
  go_wp2_with fail
  rw [← hV]
  clear hV
  refine (unless_any _ 54 _).mono ?_
  rintro r w3 ⟨rfl, rfl⟩
  go_wp2
  go_ret
  exact ⟨rfl, BV.out⟩

def depP (most x : Int) : Bool := decide (0 ≤ x) && decide (x ≤ most)
def depsB (n : Int) (noop : Bool) (l : List Int) : Bool := ((l.length : Int) == n) && l.all (depP (if noop then 0 else 1048576))
theorem all_no {p : Int → Bool} {l : List Int} {k : Nat} (h : k < l.length) (hp : p (l.getD k 0) = false) : l.all p = false := by
  rw [List.all_eq_false]
  refine ⟨l.getD k 0, ?_, by rw [hp]; exact Bool.false_ne_true⟩
  rw [List.getD_eq_getElem?_getD, List.getElem?_eq_getElem h]
  exact List.getElem_mem _
theorem all_step {p : Int → Bool} {l : List Int} {k : Nat} (h : k < l.length) (ht : (l.take k).all p = true) (hp : p (l.getD k 0) = true) : (l.take (k + 1)).all p = true := by
  rw [take_next h, List.all_append, ht, List.all_cons, hp]
  rfl
set_option maxHeartbeats 1000000 in
set_option maxRecDepth 100000 in
theorem depsFault_any (n : Int) (noop : Bool) (a : Option Addr) (m cap : Nat) (l : List Int) (w : World) (h : SegI w a m l) :
    Calls Tryz.prog 58 #[.int .i64 n, .bool noop, .slice a m cap] w fun e w' => e = .returned (.int .i64 (unl (depsB n noop l) 56)) ∧ w = w' := by
  obtain ⟨hm, hm', ha, -⟩ := h
  have HN : Hid (l.length = m) := hm
  unfold maxLen at hm'
  clear hm
  obtain ⟨b, hb⟩ : ∃ b, Hid (depsB n noop l = b) := ⟨_, rfl⟩
  rw [hb.out]
  by_cases h0 : (m : Int) = n
  rotate_left
  · obtain rfl : false = b := by
      rw [← hb.out]; unfold depsB; rw [HN.out]
      rw [show (((m : Nat) : Int) == n) = false by rw [beq_eq_false_iff_ne]; exact h0]; rfl
    have g0 : ((m : Int) != n) = true := by rw [bne_iff_ne]; exact h0
    clear h0 hb
    go_enter Tryz.func58, Tryz.ntmps58
    go_wp2
    go_ret
    exact ⟨rfl, rfl⟩
  subst h0
  have HB : Hid (l.all (depP (if noop then 0 else 1048576)) = b) := by show _ = _; rw [← hb.out]; unfold depsB; rw [HN.out]; simp
  clear hb
  cases noop with
  | false =>
    simp only [Bool.false_eq_true, if_false] at HB
    go_enter Tryz.func58, Tryz.ntmps58
    go_wp2
    go_loop [9, 17] (fun _ i => ∃ k : Nat, i = .int .i64 (k : Int) ∧ k ≤ m ∧ Hid ((l.take k).all (depP 1048576) = true)) (fun _ i => m - (intOf i).toNat)
    case atStart => exact ⟨0, rfl, Nat.zero_le _, rfl⟩
    case round =>
      obtain ⟨k, rfl, hk, HT⟩ := hrel
      by_cases hlt : k < m
      · obtain ⟨ba, oa, rfl, hca⟩ := ha (by omega)
        have ca := hca k hlt
        clear ha hca
        have hkl : Hid (k < l.length) := by have := HN.out; show _ < _; omega
        by_cases h0 : l.getD k 0 < 0
        · obtain rfl : false = b := by rw [← HB.out]; exact (all_no hkl.out (by simp only [depP]; rw [decide_eq_false (by omega)]; rfl)).symm
          clear HB HT
          generalize l.getD k 0 = c at *
          go_wp2
          go_ret
          exact ⟨rfl, rfl⟩
        · by_cases h1 : l.getD k 0 ≤ (1048576 : Int)
          · have HT' : Hid ((l.take (k + 1)).all (depP 1048576) = true) := all_step hkl.out HT.out (by simp only [depP]; rw [decide_eq_true (by omega), decide_eq_true h1]; rfl)
            generalize l.getD k 0 = c at *
            go_wp2
            go_round
            case rel => exact ⟨k + 1, by go_num, by omega, HT'⟩
            case measure => simp [intOf]; omega
          · obtain rfl : false = b := by rw [← HB.out]; exact (all_no hkl.out (by simp only [depP]; rw [decide_eq_false h1, Bool.and_false])).symm
            clear HB HT
            generalize l.getD k 0 = c at *
            go_wp2
            go_ret
            exact ⟨rfl, rfl⟩
      · obtain rfl : true = b := by rw [← HB.out]; have := HT.out; rw [List.take_of_length_le (by have := HN.out; omega)] at this; exact this.symm
        clear HB HT
        go_wp2
        go_ret
        exact ⟨rfl, rfl⟩
  | true =>
    simp only [if_true] at HB
    go_enter Tryz.func58, Tryz.ntmps58
    go_wp2
    go_loop [9, 17] (fun _ i => ∃ k : Nat, i = .int .i64 (k : Int) ∧ k ≤ m ∧ Hid ((l.take k).all (depP 0) = true)) (fun _ i => m - (intOf i).toNat)
    case atStart => exact ⟨0, rfl, Nat.zero_le _, rfl⟩
    case round =>
      obtain ⟨k, rfl, hk, HT⟩ := hrel
      by_cases hlt : k < m
      · obtain ⟨ba, oa, rfl, hca⟩ := ha (by omega)
        have ca := hca k hlt
        clear ha hca
        have hkl : Hid (k < l.length) := by have := HN.out; show _ < _; omega
        by_cases h0 : l.getD k 0 < 0
        · obtain rfl : false = b := by rw [← HB.out]; exact (all_no hkl.out (by simp only [depP]; rw [decide_eq_false (by omega)]; rfl)).symm
          clear HB HT
          generalize l.getD k 0 = c at *
          go_wp2
          go_ret
          exact ⟨rfl, rfl⟩
        · by_cases h1 : l.getD k 0 ≤ (0 : Int)
          · have HT' : Hid ((l.take (k + 1)).all (depP 0) = true) := all_step hkl.out HT.out (by simp only [depP]; rw [decide_eq_true (by omega), decide_eq_true h1]; rfl)
            generalize l.getD k 0 = c at *
            go_wp2
            go_round
            case rel => exact ⟨k + 1, by go_num, by omega, HT'⟩
            case measure => simp [intOf]; omega
          · obtain rfl : false = b := by rw [← HB.out]; exact (all_no hkl.out (by simp only [depP]; rw [decide_eq_false h1, Bool.and_false])).symm
            clear HB HT
            generalize l.getD k 0 = c at *
            go_wp2
            go_ret
            exact ⟨rfl, rfl⟩
      · obtain rfl : true = b := by rw [← HB.out]; have := HT.out; rw [List.take_of_length_le (by have := HN.out; omega)] at this; exact this.symm
        clear HB HT
        go_wp2
        go_ret
        exact ⟨rfl, rfl⟩
end Go.Proofs.YtbdkelffncmkhaaGreatDoor
/- The contracts of the scan's deps and attr. -/
namespace Go.Proofs.YtbdkelffncmkhaaGreatDoor
open Go.RowKit Go.Wire1

/-- A list of ints that lies in a block from B on. -/
def DV (w : World) (B : Nat) (u : Value) (l : List Int) : Prop := ∃ a k c, u = .slice a k c ∧ SegI w a k l ∧ ∀ x, a = some x → 0 < k → B ≤ x.block
theorem DV.nil (w : World) (B : Nat) : DV w B (.slice none 0 0) [] := ⟨none, 0, 0, rfl, ⟨rfl, by unfold maxLen; omega, fun h => by omega, fun j => by simp⟩, fun x h => by cases h⟩
theorem DV.of_blocks {w w' : World} {B : Nat} {u : Value} {l : List Int} (h : DV w B u l) (hb : ∀ k, B ≤ k → k < w.heap.size → w'.heap[k]? = w.heap[k]?) : DV w' B u l := by
  obtain ⟨a, k, c, rfl, ⟨h1, h2, h3, h4⟩, h5⟩ := h
  refine ⟨a, k, c, rfl, ⟨h1, h2, fun hk => ?_, h4⟩, h5⟩
  obtain ⟨b, off, rfl, hc⟩ := h3 hk
  exact ⟨b, off, rfl, fun j hj => by rw [World.cell?_of_block (w := w) (hb b (h5 _ rfl hk) (cell_lt (hc j hj)))]; exact hc j hj⟩
theorem DV.touch {w w' : World} {B g : Nat} {u : Value} {l : List Int} (h : DV w B u l) (T : Touch g w w') (hg : g < B) : DV w' B u l := h.of_blocks fun k h1 h2 => T.block k h2 (by omega)
theorem DV.below {w w' : World} {B C : Nat} {u : Value} {l : List Int} (h : DV w B u l) (hb : Below C w w') (hC : w.heap.size ≤ C) : DV w' B u l := h.of_blocks fun k _ h2 => hb.block k (by omega)
theorem DV.set {w : World} {B q o : Nat} {u : Value} {l : List Int} (h : DV w B u l) (x : Value) (hq : q < B) : DV (w.setCell ⟨q, o, none⟩ x) B u l := h.of_blocks fun k h1 _ => Below.heap_setCell _ _ _ _ (by show k ≠ q; omega)
theorem DV.less {w : World} {B B' : Nat} {u : Value} {l : List Int} (h : DV w B u l) (hB : B' ≤ B) : DV w B' u l := by
  obtain ⟨a, k, c, e, h1, h2⟩ := h
  exact ⟨a, k, c, e, h1, fun x hx hk => Nat.le_trans hB (h2 x hx hk)⟩
theorem DV.shape {w : World} {B : Nat} {u : Value} {l : List Int} (h : DV w B u l) : ∃ a k c, u = .slice a k c := by
  obtain ⟨a, k, c, e, _⟩ := h; exact ⟨a, k, c, e⟩

def iDeps (v n : Int) (l : List Int) (f : Int) : List Int × List Int × Int := if f = 0 then (upL (upk v n l), l.drop (upN (upk v n l)), (upE (upk v n l) : Int)) else ([], l, f)
theorem upN_le {v n : Int} {l : List Int} (hy : Byt l) : upN (upk v n l) ≤ l.length := by
  cases h : upk v n l with
  | error e => exact Nat.zero_le _
  | ok p => obtain ⟨xs, q⟩ := p; exact (upk_len hy h).2.1
theorem dv_own {w' : World} {B : Nat} {u : Value} {L : List Int} (h : w'.ownsRow B 3 1 u L.length (L.map (Value.int .i64))) (hf : Fit L) : DV w' B u L := by
  obtain ⟨a, c, hu, _, hs⟩ := own_segI h hf
  refine ⟨a, L.length, c, hu, hs, fun x hx hk => ?_⟩
  rcases h.2 with ⟨_, h2⟩ | ⟨b, cap, cur, e, hB, _⟩
  · omega
  · rw [hu, hx] at e
    injection e with e _ _
    injection e with e
    rw [e]
    exact hB

section
variable (w0 : World) (g : Nat) (v n : Int) (l : List Int)
set_option maxHeartbeats 8000000 in
set_option maxRecDepth 100000 in
theorem sdeps_any (a : Nat → Addr) (f : Int) (w : World) (he : Errs w0 a) (h : Scx w0 w g (Vf v n) l f) :
    Calls Tryz.prog 57 #[.pointer (some ⟨g, 0, none⟩)] w fun r w' => ∃ u, r = .returned u ∧ DV w' w.heap.size u (iDeps v n l f).1 ∧ Touch g w w' ∧ Scx w0 w' g (Vf v n) (iDeps v n l f).2.1 (iDeps v n l f).2.2 := by
  have HX := hide h
  have HE := hide he
  have hgl := h.lt
  obtain ⟨sa, m, cap, hs⟩ := h
  have r0 := hs.rest
  have r1 := hs.flt
  have r2 : w.cell? ⟨g, 2, none⟩ = some (.int .i64 v) := hs.more 2 (Nat.le_refl _)
  have r9 : w.cell? ⟨g, 9, none⟩ = some (.int .i64 n) := hs.more 9 (by omega)
  have hsrc := hs.src
  have HS := hide hs
  clear hs he
  by_cases h0 : f = 0
  · subst h0
    obtain ⟨L, hL⟩ : ∃ L, Hid (upL (upk v n l) = L) := ⟨_, rfl⟩
    obtain ⟨kk, hkk⟩ : ∃ kk, Hid (upN (upk v n l) = kk) := ⟨_, rfl⟩
    obtain ⟨f1, hf1⟩ : ∃ f1, Hid (((upE (upk v n l) : Nat) : Int) = f1) := ⟨_, rfl⟩
    have e1 : Hid (iDeps v n l 0 = (L, l.drop kk, f1)) := by show _ = _; unfold iDeps; rw [if_pos rfl, hL.out, hkk.out, hf1.out]
    rw [e1.out]
    simp only
    have hkl : Hid (kk ≤ l.length) := by rw [← hkk.out]; exact upN_le HS.out.byt
    have FL : Hid (Fit L) := by rw [← hL.out]; exact fit_up HS.out.byt _ _
    have BU1 : Hid (Below w.heap.size w w.drew) := (Below.refl _ _).drew
    have HL : Hid (Below w0.heap.size w0 w.drew) := low_on HS.out.low BU1.out HS.out.low.size
    go_enter Tryz.func57, Tryz.ntmps57
    go_wp2
    refine wp_region_noPanic ?_
    refine wp_region_held_drew (S := (fun w' => w'.cell? ⟨g, 0, none⟩ = some (.slice sa m cap) ∧ w'.cell? ⟨g, 2, none⟩ = some (.int .i64 v) ∧ w'.cell? ⟨g, 9, none⟩ = some (.int .i64 n))) (by kernel_rfl) ⟨r0, r2, r9⟩ (fun hHeld => ?_)
    refine tk 0 ?_
    refine tk 1 ?_
    refine tk 2 ?_
    refine tk 3 ?_
    refine tk 4 ?_
    refine tk 5 ?_
    refine tk 6 ?_
    refine tk 7 ?_
    refine tk 8 ?_
    refine tk 9 ?_
    refine tk 10 ?_
    refine tk 11 ?_
    refine tk 12 ?_
    refine tk 13 ?_
    refine wpAnyH_ready (rs := [14]) (by kernel_rfl) (by simp) ?_
    refine AllReadyH.cons rfl (fun K hK => ?_) AllReadyH.nil
    rw [if_pos (by rfl)]
    go_wp2_with fail
    refine (unpackF_any v n m cap sa l a _ (HS.out.seg.below HL.out (Nat.le_refl _)) hsrc HS.out.byt (HE.out.below HL.out (Nat.le_refl _))).mono ?_
    rintro e w1 ⟨u, rfl, hown, hb1⟩
    rw [hkk.out, hf1.out]
    rw [hL.out] at hown
    have BW : Hid (Below w.heap.size w w1) := low_on BU1.out hb1 BU1.out.size
    have k0 := (BW.out.cell (p := ⟨g, 0, none⟩) hgl).trans r0
    have k2 := (BW.out.cell (p := ⟨g, 2, none⟩) hgl).trans r2
    have k9 := (BW.out.cell (p := ⟨g, 9, none⟩) hgl).trans r9
    refine hK.out _ _ ⟨k0, k2, k9⟩ (fun hHeld => ?_)
    clear hK K
    try simp only [Act.put, List.getElem_toArray, List.getElem_cons_succ, List.getElem_cons_zero, List.setIfInBounds_toArray, List.set_cons_zero, List.set_cons_succ]
    refine tk 15 ?_
    refine tk 16 ?_
    refine tk 17 ?_
    refine tk 18 ?_
    refine tk 19 ?_
    refine tk 20 ?_
    refine tk 21 ?_
    refine wpAnyH_done (by kernel_rfl) ?_ _
    refine NoPanic.normal ?_
    have DU : Hid (DV w1 w.heap.size u L) := dv_own (by exact hown) FL.out
    obtain ⟨ua, uk, uc, rfl⟩ := DU.out.shape
    have SX : Hid (Scx w0 w1 g (Vf v n) l 0) := HX.out.below BW.out
    have TW : Hid (Touch g w w1) := Touch.ofBelow BW.out
    clear hb1 BW k0 k2 k9 hHeld hown
    go_wp2_with fail
    refine (ipass_any w0 g (Vf v n) l kk 0 f1 _ hkl.out SX.out).mono ?_
    rintro r w2 ⟨rfl, T2, S2⟩
    have R : Hid (DV w2 w.heap.size (.slice ua uk uc) L ∧ Touch g w w2 ∧ Scx w0 w2 g (Vf v n) (l.drop kk) f1) := ⟨DU.out.touch T2 hgl, TW.out.trans T2, S2⟩
    clear T2 S2 SX TW DU
    go_wp2
    go_ret
    exact ⟨_, rfl, R.out⟩
  · have e1 : Hid (iDeps v n l f = ([], l, f)) := by show _ = _; unfold iDeps; rw [if_neg h0]
    rw [e1.out]
    simp only
    have g1 : (f != 0) = true := by simpa using h0
    clear h0 e1
    go_enter Tryz.func57, Tryz.ntmps57
    go_wp2
    go_ret
    exact ⟨_, rfl, DV.nil _ _, Touch.refl _ _, HX.out⟩
end
end Go.Proofs.YtbdkelffncmkhaaGreatDoor
