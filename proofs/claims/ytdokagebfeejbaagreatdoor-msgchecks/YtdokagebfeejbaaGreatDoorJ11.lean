/- Texts of the proof, joined. -/
import Derived.Test.YtdokagebfeejbaaGreatDoorJ10
/- The contracts of noopFault, mayNoop, the two voteFaults and depsFault. -/
namespace Go.Proofs.YtdokagebfeejbaaGreatDoor
open Go.RowKit Go.Wire1

set_option maxHeartbeats 1000000 in
set_option maxRecDepth 100000 in
theorem noopFault_any (c : Cm) (seq : Int) (dv : Value) (may : Bool) (w : World) :
    Calls Tryz.prog 81 #[.agg #[.int .i64 c.kind, .int .i64 c.client, .int .i64 c.req, .string c.key, .string c.key2, .string c.val, .string c.old, .int .i64 c.n, .int .i64 seq, dv], .bool may] w fun e w' => e = .returned (.int .i64 (unl (may || !(c.kind == 0)) 57)) ∧ Below w.heap.size w w' := by
  have BB : ∀ o, Hid (Below w.heap.size w (w.alloc o)) := fun o => (Below.refl _ w).alloc (Nat.le_refl _) _
  cases may with
  | true =>
    go_enter Tryz.func81, Tryz.ntmps81
    go_wp2_with fail
    refine (unless_any _ 57 _).mono ?_
    rintro r w1 ⟨rfl, rfl⟩
    go_wp2
    go_ret
    exact ⟨rfl, (BB _).out⟩
  | false =>
    obtain ⟨b, hb⟩ : ∃ b, (c.kind == 0) = b := ⟨_, rfl⟩
    rw [hb]
    go_enter Tryz.func81, Tryz.ntmps81
    go_wp2_with fail
    refine (isNoop_any c seq dv _).mono ?_
    rintro r w1 ⟨rfl, hb1⟩
    rw [hb]
    have B1 : Hid (Below w.heap.size w w1) := (BB _).out.trans (hb1.mono (by simp))
    clear hb1
    go_wp2_with fail
    refine (unless_any _ 57 _).mono ?_
    rintro r w2 ⟨rfl, rfl⟩
    go_wp2
    go_ret
    exact ⟨rfl, B1.out⟩

set_option maxHeartbeats 400000 in
set_option maxRecDepth 100000 in
theorem mayNoopP_any (kind row num rnd who : Int) (c : Cm) (seq : Int) (dv : Value) (w : World) :
    Calls Tryz.prog 67 #[.agg #[.int .i64 kind, .int .i64 row, .int .i64 num, .int .i64 rnd, .int .i64 who, .int .i64 c.kind, .int .i64 c.client, .int .i64 c.req, .string c.key, .string c.key2, .string c.val, .string c.old, .int .i64 c.n, .int .i64 seq, dv]] w fun e w' => e = .returned (.bool (kind != 1)) ∧ Below w.heap.size w w' := by
  have BB : ∀ o, Hid (Below w.heap.size w (w.alloc o)) := fun o => (Below.refl _ w).alloc (Nat.le_refl _) _
  go_enter Tryz.func67, Tryz.ntmps67
  go_wp2
  go_ret
  exact ⟨rfl, (BB _).out⟩
set_option maxHeartbeats 400000 in
set_option maxRecDepth 100000 in
theorem mayNoopV_any (kind row num rnd who st : Int) (sm : Bool) (vr vw : Int) (c : Cm) (seq : Int) (dv : Value) (w : World) :
    Calls Tryz.prog 89 #[.agg #[.int .i64 kind, .int .i64 row, .int .i64 num, .int .i64 rnd, .int .i64 who, .int .i64 st, .bool sm, .int .i64 vr, .int .i64 vw, .int .i64 c.kind, .int .i64 c.client, .int .i64 c.req, .string c.key, .string c.key2, .string c.val, .string c.old, .int .i64 c.n, .int .i64 seq, dv]] w fun e w' => e = .returned (.bool (st != 1)) ∧ Below w.heap.size w w' := by
  have BB : ∀ o, Hid (Below w.heap.size w (w.alloc o)) := fun o => (Below.refl _ w).alloc (Nat.le_refl _) _
  go_enter Tryz.func89, Tryz.ntmps89
  go_wp2
  go_ret
  exact ⟨rfl, (BB _).out⟩

def nackB (n row rnd who vr vw : Int) : Bool := balB n row vr vw && belB rnd who vr vw
set_option maxHeartbeats 1000000 in
set_option maxRecDepth 100000 in
theorem voteFaultN_any (kind row num rnd who vr vw n : Int) (w : World) :
    Calls Tryz.prog 70 #[.agg #[.int .i64 kind, .int .i64 row, .int .i64 num, .int .i64 rnd, .int .i64 who, .int .i64 vr, .int .i64 vw], .int .i64 n] w fun e w' => e = .returned (.int .i64 (unl (nackB n row rnd who vr vw) 54)) ∧ Below w.heap.size w w' := by
  obtain ⟨V, hV⟩ : ∃ V, V = w.alloc (.cells #[.int .i64 kind, .int .i64 row, .int .i64 num, .int .i64 rnd, .int .i64 who, .int .i64 vr, .int .i64 vw] 105) := ⟨_, rfl⟩
  have BV : Hid (Below w.heap.size w V) := by rw [hV]; exact (Below.refl _ w).alloc (Nat.le_refl _) _
  have hs : V.heap.size = w.heap.size + 1 := by rw [hV]; simp
  have c3 : V.cell? ⟨w.heap.size, 3, none⟩ = some (.int .i64 rnd) := by rw [hV, World.cell?_alloc_at _ _ _ _ rfl]; rfl
  have c4 : V.cell? ⟨w.heap.size, 4, none⟩ = some (.int .i64 who) := by rw [hV, World.cell?_alloc_at _ _ _ _ rfl]; rfl
  have c5 : V.cell? ⟨w.heap.size, 5, none⟩ = some (.int .i64 vr) := by rw [hV, World.cell?_alloc_at _ _ _ _ rfl]; rfl
  have c6 : V.cell? ⟨w.heap.size, 6, none⟩ = some (.int .i64 vw) := by rw [hV, World.cell?_alloc_at _ _ _ _ rfl]; rfl
  obtain ⟨b, hb⟩ : ∃ b, Hid (nackB n row rnd who vr vw = b) := ⟨_, rfl⟩
  rw [hb.out]
  obtain ⟨b1, h1⟩ : ∃ b, Hid (balB n row vr vw = b) := ⟨_, rfl⟩
  obtain ⟨b2, h2⟩ : ∃ b, Hid (belB rnd who vr vw = b) := ⟨_, rfl⟩
  have hbb : (b1 && b2) = b := by rw [← hb.out, ← h1.out, ← h2.out]; rfl
  subst hbb
  clear hb
  cases b1 <;> cases b2
  all_goals
    go_enter Tryz.func70, Tryz.ntmps70
    go_wp2_with fail
    rw [← hV]
    refine (isBallot_any n row num vr vw _).mono ?_
    rintro r w1 ⟨rfl, hb1⟩
    rw [h1.out]
    have k3 := (hb1.cell (p := ⟨w.heap.size, 3, none⟩) (by show w.heap.size < V.heap.size; omega)).trans c3
    have k4 := (hb1.cell (p := ⟨w.heap.size, 4, none⟩) (by show w.heap.size < V.heap.size; omega)).trans c4
    have k5 := (hb1.cell (p := ⟨w.heap.size, 5, none⟩) (by show w.heap.size < V.heap.size; omega)).trans c5
    have k6 := (hb1.cell (p := ⟨w.heap.size, 6, none⟩) (by show w.heap.size < V.heap.size; omega)).trans c6
    have B1 : Hid (Below w.heap.size w w1) := BV.out.trans (hb1.mono (by omega))
    clear hb1 hV c3 c4 c5 c6
    go_wp2_with fail
    first
    | (refine (unless_any _ 54 _).mono ?_
       rintro r w2 ⟨rfl, rfl⟩
       go_wp2
       go_ret
       exact ⟨rfl, B1.out⟩)
    | (refine (mbelow_any rnd who vr vw _).mono ?_
       rintro r w2 ⟨rfl, hb2⟩
       rw [h2.out]
       have B2 : Hid (Below w.heap.size w w2) := B1.out.trans (hb2.mono B1.out.size)
       clear hb2
       go_wp2_with fail
       refine (unless_any _ 54 _).mono ?_
       rintro r w3 ⟨rfl, rfl⟩
       go_wp2
       go_ret
       exact ⟨rfl, B2.out⟩)

def voteB (n row rnd who st : Int) (sm : Bool) (vr vw : Int) : Bool := (st == 1 || st == 2) && (balB n row vr vw && (belB vr vw rnd who && ((st == 1 && vr == 0) || !sm)))
set_option maxHeartbeats 4000000 in
set_option maxRecDepth 100000 in
theorem voteFaultV_any (kind row num rnd who st : Int) (sm : Bool) (vr vw : Int) (c : Cm) (seq : Int) (dv : Value) (n : Int) (w : World) :
    Calls Tryz.prog 88 #[.agg #[.int .i64 kind, .int .i64 row, .int .i64 num, .int .i64 rnd, .int .i64 who, .int .i64 st, .bool sm, .int .i64 vr, .int .i64 vw, .int .i64 c.kind, .int .i64 c.client, .int .i64 c.req, .string c.key, .string c.key2, .string c.val, .string c.old, .int .i64 c.n, .int .i64 seq, dv], .int .i64 n] w fun e w' => e = .returned (.int .i64 (unl (voteB n row rnd who st sm vr vw) 54)) ∧ Below w.heap.size w w' := by
  obtain ⟨V, hV⟩ : ∃ V, V = w.alloc (.cells #[.int .i64 kind, .int .i64 row, .int .i64 num, .int .i64 rnd, .int .i64 who, .int .i64 st, .bool sm, .int .i64 vr, .int .i64 vw, .int .i64 c.kind, .int .i64 c.client, .int .i64 c.req, .string c.key, .string c.key2, .string c.val, .string c.old, .int .i64 c.n, .int .i64 seq, dv] 103) := ⟨_, rfl⟩
  have BV : Hid (Below w.heap.size w V) := by rw [hV]; exact (Below.refl _ w).alloc (Nat.le_refl _) _
  have hs : V.heap.size = w.heap.size + 1 := by rw [hV]; simp
  have CC : ∀ w1 : World, (∀ j, w1.cell? ⟨w.heap.size, j, none⟩ = V.cell? ⟨w.heap.size, j, none⟩) → w1.cell? ⟨w.heap.size, 3, none⟩ = some (.int .i64 rnd) ∧ w1.cell? ⟨w.heap.size, 4, none⟩ = some (.int .i64 who) ∧ w1.cell? ⟨w.heap.size, 6, none⟩ = some (.bool sm) ∧ w1.cell? ⟨w.heap.size, 7, none⟩ = some (.int .i64 vr) ∧ w1.cell? ⟨w.heap.size, 8, none⟩ = some (.int .i64 vw) := fun w1 h => by
    refine ⟨?_, ?_, ?_, ?_, ?_⟩ <;> (rw [h, hV, World.cell?_alloc_at _ _ _ _ rfl]; rfl)
  obtain ⟨b, hb⟩ : ∃ b, Hid (voteB n row rnd who st sm vr vw = b) := ⟨_, rfl⟩
  rw [hb.out]
  by_cases h1 : st = 1
  · subst h1
    obtain ⟨b1, hb1⟩ : ∃ b, Hid (balB n row vr vw = b) := ⟨_, rfl⟩
    obtain ⟨b2, hb2⟩ : ∃ b, Hid (belB vr vw rnd who = b) := ⟨_, rfl⟩
    cases b1 with
    | false =>
      obtain rfl : false = b := by rw [← hb.out]; simp [voteB, hb1.out]
      go_enter Tryz.func88, Tryz.ntmps88
      go_wp2_with fail
      rw [← hV]
      refine (isBallot_any n row num vr vw _).mono ?_
      rintro r w1 ⟨rfl, hc1⟩
      rw [hb1.out]
      have B1 : Hid (Below w.heap.size w w1) := BV.out.trans (hc1.mono (by omega))
      clear hc1 hV hb CC
      go_wp2_with fail
      refine (unless_any _ 54 _).mono ?_
      rintro r w2 ⟨rfl, rfl⟩
      go_wp2
      go_ret
      exact ⟨rfl, B1.out⟩
    | true =>
      cases b2 with
      | false =>
        obtain rfl : false = b := by rw [← hb.out]; simp [voteB, hb2.out]
        go_enter Tryz.func88, Tryz.ntmps88
        go_wp2_with fail
        rw [← hV]
        refine (isBallot_any n row num vr vw _).mono ?_
        rintro r w1 ⟨rfl, hc1⟩
        rw [hb1.out]
        have B1 : Hid (Below w.heap.size w w1) := BV.out.trans (hc1.mono (by omega))
        obtain ⟨k3, k4, k6, k7, k8⟩ := CC w1 (fun j => hc1.cell (p := ⟨w.heap.size, j, none⟩) (by show w.heap.size < V.heap.size; omega))
        clear hc1 hV hb CC
        go_wp2_with fail
        refine (mbelow_any vr vw rnd who _).mono ?_
        rintro r w2 ⟨rfl, hc2⟩
        rw [hb2.out]
        have B2 : Hid (Below w.heap.size w w2) := B1.out.trans (hc2.mono B1.out.size)
        clear hc2 k3 k4 k6 k7 k8
        go_wp2_with fail
        refine (unless_any _ 54 _).mono ?_
        rintro r w3 ⟨rfl, rfl⟩
        go_wp2
        go_ret
        exact ⟨rfl, B2.out⟩
      | true =>
        obtain ⟨z, hz⟩ : ∃ z, (vr == 0) = z := ⟨_, rfl⟩
        obtain rfl : (z || !sm) = b := by rw [← hb.out]; simp [voteB, hb1.out, hb2.out, hz]
        cases z <;> cases sm
        all_goals
          go_enter Tryz.func88, Tryz.ntmps88
          go_wp2_with fail
          rw [← hV]
          refine (isBallot_any n row num vr vw _).mono ?_
          rintro r w1 ⟨rfl, hc1⟩
          rw [hb1.out]
          have B1 : Hid (Below w.heap.size w w1) := BV.out.trans (hc1.mono (by omega))
          obtain ⟨k3, k4, k6, k7, k8⟩ := CC w1 (fun j => hc1.cell (p := ⟨w.heap.size, j, none⟩) (by show w.heap.size < V.heap.size; omega))
          have HK6 := hide k6
          clear hc1 hV hb CC
          go_wp2_with fail
          refine (mbelow_any vr vw rnd who _).mono ?_
          rintro r w2 ⟨rfl, hc2⟩
          rw [hb2.out]
          have B2 : Hid (Below w.heap.size w w2) := B1.out.trans (hc2.mono B1.out.size)
          have k6 := (hc2.cell (p := ⟨w.heap.size, 6, none⟩) (cell_lt HK6.out)).trans HK6.out
          clear hc2 k3 k4 k7 k8
          go_wp2_with fail
          refine (unless_any _ 54 _).mono ?_
          rintro r w3 ⟨rfl, rfl⟩
          go_wp2
          go_ret
          exact ⟨rfl, B2.out⟩
  by_cases h2 : st = 2
  · subst h2
    obtain ⟨b1, hb1⟩ : ∃ b, Hid (balB n row vr vw = b) := ⟨_, rfl⟩
    obtain ⟨b2, hb2⟩ : ∃ b, Hid (belB vr vw rnd who = b) := ⟨_, rfl⟩
    cases b1 with
    | false =>
      obtain rfl : false = b := by rw [← hb.out]; simp [voteB, hb1.out]
      go_enter Tryz.func88, Tryz.ntmps88
      go_wp2_with fail
      rw [← hV]
      refine (isBallot_any n row num vr vw _).mono ?_
      rintro r w1 ⟨rfl, hc1⟩
      rw [hb1.out]
      have B1 : Hid (Below w.heap.size w w1) := BV.out.trans (hc1.mono (by omega))
      clear hc1 hV hb CC
      go_wp2_with fail
      refine (unless_any _ 54 _).mono ?_
      rintro r w2 ⟨rfl, rfl⟩
      go_wp2
      go_ret
      exact ⟨rfl, B1.out⟩
    | true =>
      cases b2 with
      | false =>
        obtain rfl : false = b := by rw [← hb.out]; simp [voteB, hb2.out]
        go_enter Tryz.func88, Tryz.ntmps88
        go_wp2_with fail
        rw [← hV]
        refine (isBallot_any n row num vr vw _).mono ?_
        rintro r w1 ⟨rfl, hc1⟩
        rw [hb1.out]
        have B1 : Hid (Below w.heap.size w w1) := BV.out.trans (hc1.mono (by omega))
        obtain ⟨k3, k4, k6, k7, k8⟩ := CC w1 (fun j => hc1.cell (p := ⟨w.heap.size, j, none⟩) (by show w.heap.size < V.heap.size; omega))
        clear hc1 hV hb CC
        go_wp2_with fail
        refine (mbelow_any vr vw rnd who _).mono ?_
        rintro r w2 ⟨rfl, hc2⟩
        rw [hb2.out]
        have B2 : Hid (Below w.heap.size w w2) := B1.out.trans (hc2.mono B1.out.size)
        clear hc2 k3 k4 k6 k7 k8
        go_wp2_with fail
        refine (unless_any _ 54 _).mono ?_
        rintro r w3 ⟨rfl, rfl⟩
        go_wp2
        go_ret
        exact ⟨rfl, B2.out⟩
      | true =>
        obtain ⟨z, hz⟩ : ∃ z, (vr == 0) = z := ⟨_, rfl⟩
        obtain rfl : (!sm) = b := by rw [← hb.out]; simp [voteB, hb1.out, hb2.out]
        cases z <;> cases sm
        all_goals
          go_enter Tryz.func88, Tryz.ntmps88
          go_wp2_with fail
          rw [← hV]
          refine (isBallot_any n row num vr vw _).mono ?_
          rintro r w1 ⟨rfl, hc1⟩
          rw [hb1.out]
          have B1 : Hid (Below w.heap.size w w1) := BV.out.trans (hc1.mono (by omega))
          obtain ⟨k3, k4, k6, k7, k8⟩ := CC w1 (fun j => hc1.cell (p := ⟨w.heap.size, j, none⟩) (by show w.heap.size < V.heap.size; omega))
          have HK6 := hide k6
          clear hc1 hV hb CC
          go_wp2_with fail
          refine (mbelow_any vr vw rnd who _).mono ?_
          rintro r w2 ⟨rfl, hc2⟩
          rw [hb2.out]
          have B2 : Hid (Below w.heap.size w w2) := B1.out.trans (hc2.mono B1.out.size)
          have k6 := (hc2.cell (p := ⟨w.heap.size, 6, none⟩) (cell_lt HK6.out)).trans HK6.out
          clear hc2 k3 k4 k7 k8
          go_wp2_with fail
          refine (unless_any _ 54 _).mono ?_
          rintro r w3 ⟨rfl, rfl⟩
          go_wp2
          go_ret
          exact ⟨rfl, B2.out⟩
  have g1 : (st == 1) = false := by rw [beq_eq_false_iff_ne]; exact h1
  have g2 : (st == 2) = false := by rw [beq_eq_false_iff_ne]; exact h2
  obtain rfl : false = b := by rw [← hb.out]; simp [voteB, g1, g2]
  clear h1 h2 hb CC
  go_enter Tryz.func88, Tryz.ntmps88
  go_wp2_with fail
  rw [← hV]
  clear hV
  refine (unless_any _ 54 _).mono ?_
  rintro r w3 ⟨rfl, rfl⟩
  go_wp2
  go_ret
  exact ⟨rfl, BV.out⟩

def depP (most x : Int) : Bool := decide (0 ≤ x) && decide (x ≤ most)
def depsB (n : Int) (noop : Bool) (l : List Int) : Bool := ((l.length : Int) == n) && l.all (depP (if noop then 0 else 1048576))
theorem all_no {p : Int → Bool} {l : List Int} {k : Nat} (h : k < l.length) (hp : p (l.getD k 0) = false) : l.all p = false := by
  rw [List.all_eq_false]
  refine ⟨l.getD k 0, ?_, by rw [hp]; exact Bool.false_ne_true⟩
  rw [List.getD_eq_getElem?_getD, List.getElem?_eq_getElem h]
  exact List.getElem_mem _
theorem all_step {p : Int → Bool} {l : List Int} {k : Nat} (h : k < l.length) (ht : (l.take k).all p = true) (hp : p (l.getD k 0) = true) : (l.take (k + 1)).all p = true := by
  rw [take_next h, List.all_append, ht, List.all_cons, hp]
  rfl
set_option maxHeartbeats 1000000 in
set_option maxRecDepth 100000 in
theorem depsFault_any (n : Int) (noop : Bool) (a : Option Addr) (m cap : Nat) (l : List Int) (w : World) (h : SegI w a m l) :
    Calls Tryz.prog 87 #[.int .i64 n, .bool noop, .slice a m cap] w fun e w' => e = .returned (.int .i64 (unl (depsB n noop l) 56)) ∧ w = w' := by
  obtain ⟨hm, hm', ha, -⟩ := h
  have HN : Hid (l.length = m) := hm
  unfold maxLen at hm'
  clear hm
  obtain ⟨b, hb⟩ : ∃ b, Hid (depsB n noop l = b) := ⟨_, rfl⟩
  rw [hb.out]
  by_cases h0 : (m : Int) = n
  rotate_left
  · obtain rfl : false = b := by
      rw [← hb.out]; unfold depsB; rw [HN.out]
      rw [show (((m : Nat) : Int) == n) = false by rw [beq_eq_false_iff_ne]; exact h0]; rfl
    have g0 : ((m : Int) != n) = true := by rw [bne_iff_ne]; exact h0
    clear h0 hb
    go_enter Tryz.func87, Tryz.ntmps87
    go_wp2
    go_ret
    exact ⟨rfl, rfl⟩
  subst h0
  have HB : Hid (l.all (depP (if noop then 0 else 1048576)) = b) := by show _ = _; rw [← hb.out]; unfold depsB; rw [HN.out]; simp
  clear hb
  cases noop with
  | false =>
    simp only [Bool.false_eq_true, if_false] at HB
    go_enter Tryz.func87, Tryz.ntmps87
    go_wp2
    go_loop [9, 17] (fun _ i => ∃ k : Nat, i = .int .i64 (k : Int) ∧ k ≤ m ∧ Hid ((l.take k).all (depP 1048576) = true)) (fun _ i => m - (intOf i).toNat)
    case atStart => exact ⟨0, rfl, Nat.zero_le _, rfl⟩
    case round =>
      obtain ⟨k, rfl, hk, HT⟩ := hrel
      by_cases hlt : k < m
      · obtain ⟨ba, oa, rfl, hca⟩ := ha (by omega)
        have ca := hca k hlt
        clear ha hca
        have hkl : Hid (k < l.length) := by have := HN.out; show _ < _; omega
        by_cases h0 : l.getD k 0 < 0
        · obtain rfl : false = b := by rw [← HB.out]; exact (all_no hkl.out (by simp only [depP]; rw [decide_eq_false (by omega)]; rfl)).symm
          clear HB HT
          generalize l.getD k 0 = c at *
          go_wp2
          go_ret
          exact ⟨rfl, rfl⟩
        · by_cases h1 : l.getD k 0 ≤ (1048576 : Int)
          · have HT' : Hid ((l.take (k + 1)).all (depP 1048576) = true) := all_step hkl.out HT.out (by simp only [depP]; rw [decide_eq_true (by omega), decide_eq_true h1]; rfl)
            generalize l.getD k 0 = c at *
            go_wp2
            go_round
            case rel => exact ⟨k + 1, by go_num, by omega, HT'⟩
            case measure => simp [intOf]; omega
          · obtain rfl : false = b := by rw [← HB.out]; exact (all_no hkl.out (by simp only [depP]; rw [decide_eq_false h1, Bool.and_false])).symm
            clear HB HT
            generalize l.getD k 0 = c at *
            go_wp2
            go_ret
            exact ⟨rfl, rfl⟩
      · obtain rfl : true = b := by rw [← HB.out]; have := HT.out; rw [List.take_of_length_le (by have := HN.out; omega)] at this; exact this.symm
        clear HB HT
        go_wp2
        go_ret
        exact ⟨rfl, rfl⟩
  | true =>
    simp only [if_true] at HB
    go_enter Tryz.func87, Tryz.ntmps87
    go_wp2
    go_loop [9, 17] (fun _ i => ∃ k : Nat, i = .int .i64 (k : Int) ∧ k ≤ m ∧ Hid ((l.take k).all (depP 0) = true)) (fun _ i => m - (intOf i).toNat)
    case atStart => exact ⟨0, rfl, Nat.zero_le _, rfl⟩
    case round =>
      obtain ⟨k, rfl, hk, HT⟩ := hrel
      by_cases hlt : k < m
      · obtain ⟨ba, oa, rfl, hca⟩ := ha (by omega)
        have ca := hca k hlt
        clear ha hca
        have hkl : Hid (k < l.length) := by have := HN.out; show _ < _; omega
        by_cases h0 : l.getD k 0 < 0
        · obtain rfl : false = b := by rw [← HB.out]; exact (all_no hkl.out (by simp only [depP]; rw [decide_eq_false (by omega)]; rfl)).symm
          clear HB HT
          generalize l.getD k 0 = c at *
          go_wp2
          go_ret
          exact ⟨rfl, rfl⟩
        · by_cases h1 : l.getD k 0 ≤ (0 : Int)
          · have HT' : Hid ((l.take (k + 1)).all (depP 0) = true) := all_step hkl.out HT.out (by simp only [depP]; rw [decide_eq_true (by omega), decide_eq_true h1]; rfl)
            generalize l.getD k 0 = c at *
            go_wp2
            go_round
            case rel => exact ⟨k + 1, by go_num, by omega, HT'⟩
            case measure => simp [intOf]; omega
          · obtain rfl : false = b := by rw [← HB.out]; exact (all_no hkl.out (by simp only [depP]; rw [decide_eq_false h1, Bool.and_false])).symm
            clear HB HT
            generalize l.getD k 0 = c at *
            go_wp2
            go_ret
            exact ⟨rfl, rfl⟩
      · obtain rfl : true = b := by rw [← HB.out]; have := HT.out; rw [List.take_of_length_le (by have := HN.out; omega)] at this; exact this.symm
        clear HB HT
        go_wp2
        go_ret
        exact ⟨rfl, rfl⟩
end Go.Proofs.YtdokagebfeejbaaGreatDoor
