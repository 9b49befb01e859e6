/- Texts of the proof, joined. -/
import Derived.Test.YtnogdjpbnhnmaaaGreatDoorJ35
/- The contracts of the document's own attrOK and Check of a record. -/
namespace Go.Proofs.YtnogdjpbnhnmaaaGreatDoor
open Go.RowKit Go.Wire1

def attrB (n : Int) (r : Rc) : Bool := if noopR r then soundB n r.deps && (allZ r.deps && ((r.seq == 0) && (r.kind != 3))) else soundB n r.deps && (decide (1 ≤ r.seq) && decide (r.seq ≤ 1073741824))
theorem sound_deps {k : Nat} {r : Rc} (h1 : 1 ≤ k) (hk : k ≤ 7) : depsR (k : Int) r = (soundB (k : Int) r.deps && (!(noopR r) || allZ r.deps)) := by
  rw [Bool.eq_iff_iff]
  unfold depsR soundB isVec okW okL okE mostR allZ
  simp only [Bool.and_eq_true, decide_eq_true_eq, beq_iff_eq, List.all_eq_true, Bool.or_eq_true, Bool.not_eq_true']
  cases hn : noopR r
  · simp only [Bool.false_eq_true, if_false, true_or, and_true]
    constructor
    · rintro ⟨hl, ha⟩
      exact ⟨⟨⟨by omega, by omega⟩, fun x hx => ha x hx⟩, hl⟩
    · rintro ⟨⟨_, ha⟩, hl⟩
      exact ⟨hl, fun x hx => ha x hx⟩
  · simp only [if_true, reduceCtorEq, false_or]
    constructor
    · rintro ⟨hl, ha⟩
      exact ⟨⟨⟨⟨by omega, by omega⟩, fun x hx => by have := ha x hx; omega⟩, hl⟩, fun x hx => by have := ha x hx; omega⟩
    · rintro ⟨⟨⟨_, _⟩, hl⟩, hz⟩
      exact ⟨hl, fun x hx => by have := hz x hx; omega⟩
theorem attr_eq {k : Nat} {r : Rc} (h1 : 1 ≤ k) (hk : k ≤ 7) : attrB (k : Int) r = ((mayR r || !(noopR r)) && (seqR r && depsR (k : Int) r)) := by
  rw [sound_deps h1 hk]
  unfold attrB mayR seqR
  generalize soundB (k : Int) r.deps = a, allZ r.deps = b
  cases noopR r
  · simp only [Bool.false_eq_true, if_false]
    cases a <;> cases b <;> cases decide (1 ≤ r.seq) <;> cases decide (r.seq ≤ 1073741824) <;> cases r.kind != 3 <;> rfl
  · simp only [if_true]
    cases a <;> cases b <;> cases r.seq == 0 <;> cases r.kind != 3 <;> rfl
set_option maxHeartbeats 4000000 in
set_option maxRecDepth 100000 in
theorem refAttrOK_any (n : Int) (r : Rc) (w : World) (hr : Rok w r) :
    Calls Tryz.prog 63 #[.int .i64 n, .agg (rcs r).toArray] w fun e w' => e = .returned (.bool (attrB n r)) ∧ Below w.heap.size w w' := by
  obtain ⟨V, hV⟩ : ∃ V, V = w.alloc (.cells (rcs r).toArray 31) := ⟨_, rfl⟩
  have Q : Hid (Blk V w.heap.size (rcs r)) := by rw [hV]; exact blk_new w 31 (rcs r)
  have BV : Hid (Below w.heap.size w V) := by rw [hV]; exact (Below.refl _ _).alloc (Nat.le_refl _) _
  have hVs : w.heap.size ≤ V.heap.size := BV.out.size
  have HR := hide hr
  clear hr
  obtain ⟨x, hx⟩ : ∃ x, Hid (attrB n r = x) := ⟨_, rfl⟩
  rw [hx.out]
  have q0 : V.cell? ⟨w.heap.size, 0, none⟩ = some (.int .i64 r.kind) := Q.out.cell 0 _ (rcs0 r)
  have q6 : V.cell? ⟨w.heap.size, 6, none⟩ = some (.int .i64 r.c.kind) := Q.out.cell 6 _ (rcs6 r)
  have q14 : V.cell? ⟨w.heap.size, 14, none⟩ = some (.int .i64 r.seq) := Q.out.cell 14 _ (rcs14 r)
  have q15 : V.cell? ⟨w.heap.size, 15, none⟩ = some (.slice r.da r.dn r.dc) := Q.out.cell 15 _ (rcs15 r)
  go_enter Tryz.func63, Tryz.ntmps63
  go_upto_region 1 with fail
  rw [← hV]
  clear hV
  go_wp2_with fail
  refine (refSound_any n r.da r.dn r.dc r.deps _ (HR.out.seg.below BV.out (Nat.le_refl _))).mono ?_
  rintro e w' ⟨rfl, rfl⟩
  by_cases hn : r.c.kind = 0
  · have e0 : (r.c.kind == 0) = true := by simpa using hn
    have HX : Hid (x = (soundB n r.deps && (allZ r.deps && ((r.seq == 0) && (r.kind != 3))))) := by show _ = _; rw [← hx.out]; unfold attrB noopR; rw [e0]; rfl
    clear hn
    generalize soundB n r.deps = a at *
    go_wp2_with fail
    refine (refAllZero_any r.da r.dn r.dc r.deps _ (HR.out.seg.below BV.out (Nat.le_refl _))).mono ?_
    rintro e w' ⟨rfl, rfl⟩
    generalize allZ r.deps = b at *
    go_wp2
    all_goals
      go_ret
      refine ⟨?_, BV.out⟩
      have E := HX.out
      clear HX hx HR Q
      go_light
      simp [*]
  · have e0 : (r.c.kind == 0) = false := by simpa using hn
    have HX : Hid (x = (soundB n r.deps && (decide (1 ≤ r.seq) && decide (r.seq ≤ 1073741824)))) := by show _ = _; rw [← hx.out]; unfold attrB noopR; rw [e0]; rfl
    clear hn
    generalize soundB n r.deps = a at *
    go_wp2
    all_goals
      go_ret
      refine ⟨?_, BV.out⟩
      have E := HX.out
      clear HX hx HR Q
      go_light
      simp [*] <;> omega
def tailR (n : Int) (r : Rc) : Nat := if chk 2 r.c = 0 then unlR (attrB n r) 65 else chk 2 r.c
theorem tail_eq {k : Nat} {r : Rc} (h1 : 1 ≤ k) (hk : k ≤ 7) : firstR (k : Int) r [99, 113, 100] = tailR (k : Int) r := by
  unfold tailR
  rw [attr_eq h1 hk]
  show (if cmdR r = 0 then (if unlR (seqR r) 65 = 0 then (if unlR (depsR (k : Int) r) 65 = 0 then 0 else unlR (depsR (k : Int) r) 65) else unlR (seqR r) 65) else cmdR r) = _
  unfold cmdR
  by_cases hc : chk 2 r.c = 0
  · rw [if_pos hc, if_pos hc]
    generalize (mayR r || !(noopR r)) = a, seqR r = b, depsR (k : Int) r = d
    cases a <;> cases b <;> cases d <;> rfl
  · simp only [hc, if_false]
def refC (n : Int) (k : Nat) (r : Rc) : Nat :=
  if k = 1 then unlR (headB r) 66 else
  if rinstB n r.row r.num = false then 62 else
  if hasBB k = true ∧ balR n r = false then 63 else
  if k = 3 ∧ r.same = true ∧ ¬ r.round = 0 then 64 else
  if hasCB k = false then 0 else tailR n r
theorem refC_eq {n k : Nat} {r : Rc} (hk : r.kind = (k : Int)) (h1 : 1 ≤ k) (h5 : k ≤ 5) (n1 : 1 ≤ n) (n7 : n ≤ 7) : firstR (n : Int) r (rowR r.kind) = refC (n : Int) k r := by
  have T := tail_eq (r := r) n1 n7
  have hu : ∀ (b : Bool) (e y : Nat), e ≠ 0 → (if unlR b e = 0 then y else unlR b e) = if b = false then e else y := fun b e y he => by cases b <;> simp [unlR, he]
  have hz : ∀ (x : Nat) (xs : List Nat), firstR (n : Int) r (x :: xs) = if faultR (n : Int) r x = 0 then firstR (n : Int) r xs else faultR (n : Int) r x := fun _ _ => rfl
  have s3 : (if unlR (!r.same || r.round == 0) 64 = 0 then tailR (n : Int) r else unlR (!r.same || r.round == 0) 64) = if r.same = true ∧ ¬ r.round = 0 then 64 else tailR (n : Int) r := by
    rw [hu _ _ _ (by omega)]
    cases r.same <;> by_cases h : r.round = 0 <;> simp [h]
  unfold rowR refC
  rw [hk, show ((k : Int)).toNat = k from rfl]
  rcases five h1 h5 with rfl | rfl | rfl | rfl | rfl
  · show firstR (n : Int) r [119, 110] = _
    rw [hz, hz]
    show (if 0 = 0 then (if unlR (headB r) 66 = 0 then 0 else unlR (headB r) 66) else 0) = _
    cases headB r <;> rfl
  · show firstR (n : Int) r [105, 98] = _
    rw [hz, hz]
    show (if unlR (rinstB (n : Int) r.row r.num) 62 = 0 then (if unlR (balR (n : Int) r) 63 = 0 then 0 else unlR (balR (n : Int) r) 63) else unlR (rinstB (n : Int) r.row r.num) 62) = _
    cases rinstB (n : Int) r.row r.num <;> cases balR (n : Int) r <;> rfl
  · show firstR (n : Int) r [105, 98, 115, 99, 113, 100] = _
    rw [hz, hz, hz, T]
    show (if unlR (rinstB (n : Int) r.row r.num) 62 = 0 then (if unlR (balR (n : Int) r) 63 = 0 then (if unlR (!r.same || r.round == 0) 64 = 0 then tailR (n : Int) r else unlR (!r.same || r.round == 0) 64) else unlR (balR (n : Int) r) 63) else unlR (rinstB (n : Int) r.row r.num) 62) = _
    rw [s3]
    cases rinstB (n : Int) r.row r.num
    · rfl
    · cases balR (n : Int) r
      · rfl
      · simp [unlR, hasBB, hasCB]
  · show firstR (n : Int) r [105, 98, 99, 113, 100] = _
    rw [hz, hz, T]
    show (if unlR (rinstB (n : Int) r.row r.num) 62 = 0 then (if unlR (balR (n : Int) r) 63 = 0 then tailR (n : Int) r else unlR (balR (n : Int) r) 63) else unlR (rinstB (n : Int) r.row r.num) 62) = _
    cases rinstB (n : Int) r.row r.num <;> cases balR (n : Int) r <;> rfl
  · show firstR (n : Int) r [105, 99, 113, 100] = _
    rw [hz, T]
    show (if unlR (rinstB (n : Int) r.row r.num) 62 = 0 then tailR (n : Int) r else unlR (rinstB (n : Int) r.row r.num) 62) = _
    cases rinstB (n : Int) r.row r.num <;> rfl
theorem chkR_refC {n : Int} {k : Nat} {r : Rc} (hn : isSizeB n = true) (hk : r.kind = (k : Int)) (h1 : 1 ≤ k) (h5 : k ≤ 5) : chkR n r = if extraR r then 67 else refC n k r := by
  obtain ⟨m, rfl, m1, m7⟩ := size_nat hn
  unfold chkR
  rw [hn, if_pos rfl, show isKindR r.kind = true by rw [hk]; simp [isKindR]; omega, if_pos rfl, refC_eq hk h1 h5 m1 m7]
set_option maxHeartbeats 4000000 in
set_option maxRecDepth 100000 in
theorem refCheck_any (n : Int) (r : Rc) (w : World) (hr : Rok w r) :
    Calls Tryz.prog 27 #[.int .i64 n, .agg (rcs r).toArray] w fun e w' => e = .returned (.int .i64 (chkR n r : Nat)) ∧ Below w.heap.size w w' := by
  obtain ⟨V, hV⟩ : ∃ V, V = w.alloc (.cells (rcs r).toArray 31) := ⟨_, rfl⟩
  have Q : Hid (Blk V w.heap.size (rcs r)) := by rw [hV]; exact blk_new w 31 (rcs r)
  have BV : Hid (Below w.heap.size w V) := by rw [hV]; exact (Below.refl _ _).alloc (Nat.le_refl _) _
  have hVs : w.heap.size ≤ V.heap.size := BV.out.size
  have HR := hide hr
  clear hr
  have q0 : V.cell? ⟨w.heap.size, 0, none⟩ = some (.int .i64 r.kind) := Q.out.cell 0 _ (rcs0 r)
  cases hsz : isSizeB n with
  | false =>
    have HQ : Hid (chkR n r = 3) := by simp [Hid, chkR, hsz]
    by_cases g1 : n < 1
    · go_enter Tryz.func27, Tryz.ntmps27
      go_wp2
      go_ret
      exact ⟨by rw [HQ.out]; rfl, (Below.refl _ _).alloc (Nat.le_refl _) _⟩
    · have g2 : 7 < n := by simp only [isSizeB, Bool.and_eq_false_iff, decide_eq_false_iff_not] at hsz; omega
      go_enter Tryz.func27, Tryz.ntmps27
      go_wp2
      go_ret
      exact ⟨by rw [HQ.out]; rfl, (Below.refl _ _).alloc (Nat.le_refl _) _⟩
  | true =>
    obtain ⟨g1, g7⟩ : 1 ≤ n ∧ n ≤ 7 := by simpa [isSizeB] using hsz
    have n1 : ¬ n < 1 := by omega
    have n7 : ¬ 7 < n := by omega
    have d1 : decide (n < 1) = false := by simpa using g1
    have d7 : decide (7 < n) = false := by simpa using g7
    by_cases k1 : r.kind < 1
    · have HQ : Hid (chkR n r = 61) := by
        show _ = _
        unfold chkR
        rw [hsz, if_pos rfl, show isKindR r.kind = false by simp [isKindR]; omega]; rfl
      have g0 := rcs0 r
      go_enter Tryz.func27, Tryz.ntmps27
      go_wp2
      go_ret
      exact ⟨by rw [HQ.out]; rfl, (Below.refl _ _).alloc (Nat.le_refl _) _⟩
    by_cases k5 : 5 < r.kind
    · have HQ : Hid (chkR n r = 61) := by
        show _ = _
        unfold chkR
        rw [hsz, if_pos rfl, show isKindR r.kind = false by simp [isKindR]; omega]; rfl
      have g0 := rcs0 r
      go_enter Tryz.func27, Tryz.ntmps27
      go_wp2
      go_ret
      exact ⟨by rw [HQ.out]; rfl, (Below.refl _ _).alloc (Nat.le_refl _) _⟩
    obtain ⟨k, hkk⟩ : ∃ k : Nat, r.kind = (k : Int) := ⟨r.kind.toNat, by omega⟩
    have kk1 : 1 ≤ k := by omega
    have kk5 : k ≤ 5 := by omega
    have HE := hide (chkR_refC hsz hkk kk1 kk5)
    have HKk := hide hkk
    rw [hkk] at q0
    clear k1 k5 hkk n1 n7
    rcases five kk1 kk5 with rfl | rfl | rfl | rfl | rfl
    · go_enter Tryz.func27, Tryz.ntmps27
      go_upto_region 1 with fail
      rw [← hV]
      clear hV
      go_wp2_with (first | (refine wpList_load_mid rfl 31 _ rfl w.heap.size 0 rfl (rcs r) _ Q.out.range Tryz.underlying31 rfl (by kernel_rfl) ?_))
      refine (refExtra_any 1 r _ HKk.out (by omega) (by omega) HR.out.seg.1).mono ?_
      rintro e w1 ⟨rfl, hb1⟩
      have Q1 : Hid (Blk w1 w.heap.size (rcs r)) := Q.out.on hb1
      have B1 : Hid (Below w.heap.size w w1) := BV.out.trans (hb1.mono hVs)
      have z1 : w.heap.size ≤ w1.heap.size := B1.out.size
      clear hb1 q0
      have q0 : w1.cell? ⟨w.heap.size, 0, none⟩ = some (.int .i64 1) := (Q1.out.cell 0 _ (rcs0 r)).trans (by rw [HKk.out]; rfl)
      have q1 : w1.cell? ⟨w.heap.size, 1, none⟩ = some (.int .i64 r.row) := Q1.out.cell 1 _ (rcs1 r)
      have q2 : w1.cell? ⟨w.heap.size, 2, none⟩ = some (.int .i64 r.num) := Q1.out.cell 2 _ (rcs2 r)
      have q3 : w1.cell? ⟨w.heap.size, 3, none⟩ = some (.int .i64 r.round) := Q1.out.cell 3 _ (rcs3 r)
      have q4 : w1.cell? ⟨w.heap.size, 4, none⟩ = some (.int .i64 r.who) := Q1.out.cell 4 _ (rcs4 r)
      have q5 : w1.cell? ⟨w.heap.size, 5, none⟩ = some (.bool r.same) := Q1.out.cell 5 _ (rcs5 r)
      have q16 : w1.cell? ⟨w.heap.size, 16, none⟩ = some (.int .i64 r.id) := Q1.out.cell 16 _ (rcs16 r)
      have q17 : w1.cell? ⟨w.heap.size, 17, none⟩ = some (.int .i64 r.n) := Q1.out.cell 17 _ (rcs17 r)
      cases hx : extraR r with
      | true =>
        have HQ : Hid (chkR n r = 67) := by show _ = _; rw [HE.out, hx]; rfl
        clear HE hx
        go_wp2
        go_ret
        exact ⟨by rw [HQ.out]; rfl, B1.out⟩
      | false =>
        have HC : Hid (chkR n r = refC n 1 r) := by show _ = _; rw [HE.out, hx]; rfl
        clear HE hx
        go_wp2_with fail
        refine (refHeadOK_any r _).mono ?_
        rintro e w' ⟨rfl, rfl⟩
        cases hh : headB r with
        | true =>
          have HQ : Hid (chkR n r = 0) := by show _ = _; rw [HC.out]; unfold refC; rw [hh]; rfl
          clear HC hh
          go_wp2
          go_ret
          exact ⟨by rw [HQ.out]; rfl, B1.out⟩
        | false =>
          have HQ : Hid (chkR n r = 66) := by show _ = _; rw [HC.out]; unfold refC; rw [hh]; rfl
          clear HC hh
          go_wp2
          go_ret
          exact ⟨by rw [HQ.out]; rfl, B1.out⟩
    · go_enter Tryz.func27, Tryz.ntmps27
      go_upto_region 1 with fail
      rw [← hV]
      clear hV
      go_wp2_with (first | (refine wpList_load_mid rfl 31 _ rfl w.heap.size 0 rfl (rcs r) _ Q.out.range Tryz.underlying31 rfl (by kernel_rfl) ?_))
      refine (refExtra_any 2 r _ HKk.out (by omega) (by omega) HR.out.seg.1).mono ?_
      rintro e w1 ⟨rfl, hb1⟩
      have Q1 : Hid (Blk w1 w.heap.size (rcs r)) := Q.out.on hb1
      have B1 : Hid (Below w.heap.size w w1) := BV.out.trans (hb1.mono hVs)
      have z1 : w.heap.size ≤ w1.heap.size := B1.out.size
      clear hb1 q0
      have q0 : w1.cell? ⟨w.heap.size, 0, none⟩ = some (.int .i64 2) := (Q1.out.cell 0 _ (rcs0 r)).trans (by rw [HKk.out]; rfl)
      have q1 : w1.cell? ⟨w.heap.size, 1, none⟩ = some (.int .i64 r.row) := Q1.out.cell 1 _ (rcs1 r)
      have q2 : w1.cell? ⟨w.heap.size, 2, none⟩ = some (.int .i64 r.num) := Q1.out.cell 2 _ (rcs2 r)
      have q3 : w1.cell? ⟨w.heap.size, 3, none⟩ = some (.int .i64 r.round) := Q1.out.cell 3 _ (rcs3 r)
      have q4 : w1.cell? ⟨w.heap.size, 4, none⟩ = some (.int .i64 r.who) := Q1.out.cell 4 _ (rcs4 r)
      have q5 : w1.cell? ⟨w.heap.size, 5, none⟩ = some (.bool r.same) := Q1.out.cell 5 _ (rcs5 r)
      have q16 : w1.cell? ⟨w.heap.size, 16, none⟩ = some (.int .i64 r.id) := Q1.out.cell 16 _ (rcs16 r)
      have q17 : w1.cell? ⟨w.heap.size, 17, none⟩ = some (.int .i64 r.n) := Q1.out.cell 17 _ (rcs17 r)
      cases hx : extraR r with
      | true =>
        have HQ : Hid (chkR n r = 67) := by show _ = _; rw [HE.out, hx]; rfl
        clear HE hx
        go_wp2
        go_ret
        exact ⟨by rw [HQ.out]; rfl, B1.out⟩
      | false =>
        have HC : Hid (chkR n r = refC n 2 r) := by show _ = _; rw [HE.out, hx]; rfl
        have HN : Hid (¬ r.same = true) := by
          intro hs
          have hX := refX_eq 2 r HKk.out (by omega) (by omega)
          rw [hx, show zeroR r 115 = !r.same from rfl, hs] at hX
          simp [refX] at hX
        clear HE hx
        go_wp2_with fail
        refine (refInstOK_any n r.row r.num _).mono ?_
        rintro e w2 ⟨rfl, hb2⟩
        have Q2 : Hid (Blk w2 w.heap.size (rcs r)) := Q1.out.on hb2
        have B2 : Hid (Below w.heap.size w w2) := B1.out.trans (hb2.mono z1)
        have z2 : w.heap.size ≤ w2.heap.size := B2.out.size
        clear hb2 q0 q1 q2 q3 q4 q5 q16 q17
        have q0 : w2.cell? ⟨w.heap.size, 0, none⟩ = some (.int .i64 2) := (Q2.out.cell 0 _ (rcs0 r)).trans (by rw [HKk.out]; rfl)
        have q1 : w2.cell? ⟨w.heap.size, 1, none⟩ = some (.int .i64 r.row) := Q2.out.cell 1 _ (rcs1 r)
        have q2 : w2.cell? ⟨w.heap.size, 2, none⟩ = some (.int .i64 r.num) := Q2.out.cell 2 _ (rcs2 r)
        have q3 : w2.cell? ⟨w.heap.size, 3, none⟩ = some (.int .i64 r.round) := Q2.out.cell 3 _ (rcs3 r)
        have q4 : w2.cell? ⟨w.heap.size, 4, none⟩ = some (.int .i64 r.who) := Q2.out.cell 4 _ (rcs4 r)
        have q5 : w2.cell? ⟨w.heap.size, 5, none⟩ = some (.bool r.same) := Q2.out.cell 5 _ (rcs5 r)
        cases hi : rinstB n r.row r.num with
        | false =>
          have HQ : Hid (chkR n r = 62) := by show _ = _; rw [HC.out]; unfold refC; rw [hi]; rfl
          clear HC hi
          go_wp2
          go_ret
          exact ⟨by rw [HQ.out]; rfl, B2.out⟩
        | true =>
          have HI := hide hi
          obtain ⟨r0, r1⟩ : 0 ≤ r.row ∧ r.row < n := by simp only [rinstB, Bool.and_eq_true, decide_eq_true_eq] at hi; exact ⟨hi.1, hi.2.1⟩
          clear hi
          go_wp2_with fail
          refine (refHasBal_any 2 _ (by omega) (by omega)).mono ?_
          rintro e w' ⟨rfl, rfl⟩
          rw [show hasBB 2 = true from rfl]
          go_wp2_with fail
          refine (refBalOK_any n 2 r _ HKk.out r0 r1).mono ?_
          rintro e w3 ⟨rfl, hb3⟩
          have Q3 : Hid (Blk w3 w.heap.size (rcs r)) := Q2.out.on hb3
          have B3 : Hid (Below w.heap.size w w3) := B2.out.trans (hb3.mono z2)
          have z3 : w.heap.size ≤ w3.heap.size := B3.out.size
          clear hb3 q0 q1 q2 q3 q4 q5
          have q0 : w3.cell? ⟨w.heap.size, 0, none⟩ = some (.int .i64 2) := (Q3.out.cell 0 _ (rcs0 r)).trans (by rw [HKk.out]; rfl)
          have q3 : w3.cell? ⟨w.heap.size, 3, none⟩ = some (.int .i64 r.round) := Q3.out.cell 3 _ (rcs3 r)
          have q5 : w3.cell? ⟨w.heap.size, 5, none⟩ = some (.bool r.same) := Q3.out.cell 5 _ (rcs5 r)
          cases hb : balR n r with
          | false =>
            have HQ : Hid (chkR n r = 63) := by show _ = _; rw [HC.out]; unfold refC; rw [HI.out, hb]; rfl
            clear HC hb
            go_wp2
            go_ret
            exact ⟨by rw [HQ.out]; rfl, B3.out⟩
          | true =>
            have HB := hide hb
            clear hb
            cases hs : r.same with
            | false =>
              rw [hs] at q5
              clear hs
              go_wp2_with fail
              refine (refHasCmd_any 2 _ (by omega) (by omega)).mono ?_
              rintro e w' ⟨rfl, rfl⟩
              rw [show hasCB 2 = false from rfl]
              have HQ : Hid (chkR n r = 0) := by show _ = _; rw [HC.out]; unfold refC; rw [HI.out, HB.out]; rfl
              clear HC
              go_wp2
              go_ret
              exact ⟨by rw [HQ.out]; rfl, B3.out⟩
            | true =>
              rw [hs] at q5
              exfalso
              exact HN.out hs
    · go_enter Tryz.func27, Tryz.ntmps27
      go_upto_region 1 with fail
      rw [← hV]
      clear hV
      go_wp2_with (first | (refine wpList_load_mid rfl 31 _ rfl w.heap.size 0 rfl (rcs r) _ Q.out.range Tryz.underlying31 rfl (by kernel_rfl) ?_))
      refine (refExtra_any 3 r _ HKk.out (by omega) (by omega) HR.out.seg.1).mono ?_
      rintro e w1 ⟨rfl, hb1⟩
      have Q1 : Hid (Blk w1 w.heap.size (rcs r)) := Q.out.on hb1
      have B1 : Hid (Below w.heap.size w w1) := BV.out.trans (hb1.mono hVs)
      have z1 : w.heap.size ≤ w1.heap.size := B1.out.size
      clear hb1 q0
      have q0 : w1.cell? ⟨w.heap.size, 0, none⟩ = some (.int .i64 3) := (Q1.out.cell 0 _ (rcs0 r)).trans (by rw [HKk.out]; rfl)
      have q1 : w1.cell? ⟨w.heap.size, 1, none⟩ = some (.int .i64 r.row) := Q1.out.cell 1 _ (rcs1 r)
      have q2 : w1.cell? ⟨w.heap.size, 2, none⟩ = some (.int .i64 r.num) := Q1.out.cell 2 _ (rcs2 r)
      have q3 : w1.cell? ⟨w.heap.size, 3, none⟩ = some (.int .i64 r.round) := Q1.out.cell 3 _ (rcs3 r)
      have q4 : w1.cell? ⟨w.heap.size, 4, none⟩ = some (.int .i64 r.who) := Q1.out.cell 4 _ (rcs4 r)
      have q5 : w1.cell? ⟨w.heap.size, 5, none⟩ = some (.bool r.same) := Q1.out.cell 5 _ (rcs5 r)
      have q16 : w1.cell? ⟨w.heap.size, 16, none⟩ = some (.int .i64 r.id) := Q1.out.cell 16 _ (rcs16 r)
      have q17 : w1.cell? ⟨w.heap.size, 17, none⟩ = some (.int .i64 r.n) := Q1.out.cell 17 _ (rcs17 r)
      cases hx : extraR r with
      | true =>
        have HQ : Hid (chkR n r = 67) := by show _ = _; rw [HE.out, hx]; rfl
        clear HE hx
        go_wp2
        go_ret
        exact ⟨by rw [HQ.out]; rfl, B1.out⟩
      | false =>
        have HC : Hid (chkR n r = refC n 3 r) := by show _ = _; rw [HE.out, hx]; rfl
        clear HE hx
        go_wp2_with fail
        refine (refInstOK_any n r.row r.num _).mono ?_
        rintro e w2 ⟨rfl, hb2⟩
        have Q2 : Hid (Blk w2 w.heap.size (rcs r)) := Q1.out.on hb2
        have B2 : Hid (Below w.heap.size w w2) := B1.out.trans (hb2.mono z1)
        have z2 : w.heap.size ≤ w2.heap.size := B2.out.size
        clear hb2 q0 q1 q2 q3 q4 q5 q16 q17
        have q0 : w2.cell? ⟨w.heap.size, 0, none⟩ = some (.int .i64 3) := (Q2.out.cell 0 _ (rcs0 r)).trans (by rw [HKk.out]; rfl)
        have q1 : w2.cell? ⟨w.heap.size, 1, none⟩ = some (.int .i64 r.row) := Q2.out.cell 1 _ (rcs1 r)
        have q2 : w2.cell? ⟨w.heap.size, 2, none⟩ = some (.int .i64 r.num) := Q2.out.cell 2 _ (rcs2 r)
        have q3 : w2.cell? ⟨w.heap.size, 3, none⟩ = some (.int .i64 r.round) := Q2.out.cell 3 _ (rcs3 r)
        have q4 : w2.cell? ⟨w.heap.size, 4, none⟩ = some (.int .i64 r.who) := Q2.out.cell 4 _ (rcs4 r)
        have q5 : w2.cell? ⟨w.heap.size, 5, none⟩ = some (.bool r.same) := Q2.out.cell 5 _ (rcs5 r)
        cases hi : rinstB n r.row r.num with
        | false =>
          have HQ : Hid (chkR n r = 62) := by show _ = _; rw [HC.out]; unfold refC; rw [hi]; rfl
          clear HC hi
          go_wp2
          go_ret
          exact ⟨by rw [HQ.out]; rfl, B2.out⟩
        | true =>
          have HI := hide hi
          obtain ⟨r0, r1⟩ : 0 ≤ r.row ∧ r.row < n := by simp only [rinstB, Bool.and_eq_true, decide_eq_true_eq] at hi; exact ⟨hi.1, hi.2.1⟩
          clear hi
          go_wp2_with fail
          refine (refHasBal_any 3 _ (by omega) (by omega)).mono ?_
          rintro e w' ⟨rfl, rfl⟩
          rw [show hasBB 3 = true from rfl]
          go_wp2_with fail
          refine (refBalOK_any n 3 r _ HKk.out r0 r1).mono ?_
          rintro e w3 ⟨rfl, hb3⟩
          have Q3 : Hid (Blk w3 w.heap.size (rcs r)) := Q2.out.on hb3
          have B3 : Hid (Below w.heap.size w w3) := B2.out.trans (hb3.mono z2)
          have z3 : w.heap.size ≤ w3.heap.size := B3.out.size
          clear hb3 q0 q1 q2 q3 q4 q5
          have q0 : w3.cell? ⟨w.heap.size, 0, none⟩ = some (.int .i64 3) := (Q3.out.cell 0 _ (rcs0 r)).trans (by rw [HKk.out]; rfl)
          have q3 : w3.cell? ⟨w.heap.size, 3, none⟩ = some (.int .i64 r.round) := Q3.out.cell 3 _ (rcs3 r)
          have q5 : w3.cell? ⟨w.heap.size, 5, none⟩ = some (.bool r.same) := Q3.out.cell 5 _ (rcs5 r)
          cases hb : balR n r with
          | false =>
            have HQ : Hid (chkR n r = 63) := by show _ = _; rw [HC.out]; unfold refC; rw [HI.out, hb]; rfl
            clear HC hb
            go_wp2
            go_ret
            exact ⟨by rw [HQ.out]; rfl, B3.out⟩
          | true =>
            have HB := hide hb
            clear hb
            cases hs : r.same with
            | false =>
              rw [hs] at q5
              have HS := hide hs
              clear hs
              go_wp2_with fail
              refine (refHasCmd_any 3 _ (by omega) (by omega)).mono ?_
              rintro e w' ⟨rfl, rfl⟩
              rw [show hasCB 3 = true from rfl]
              have HT : Hid (chkR n r = tailR n r) := by show _ = _; rw [HC.out]; unfold refC; rw [HI.out, HB.out]; rw [HS.out]; rfl
              clear HC
              go_wp2_with (first | (refine wpList_load_mid rfl 28 _ rfl w.heap.size 6 rfl [.int .i64 r.c.kind, .int .i64 r.c.client, .int .i64 r.c.req, .string r.c.key, .string r.c.key2, .string r.c.val, .string r.c.old, .int .i64 r.c.n] _ (range_cmd Q3.out.range) Tryz.underlying28 rfl (by kernel_rfl) ?_))
              refine (rcheck_any 2 r.c _).mono ?_
              rintro e w4 ⟨rfl, hb4⟩
              have Q4 : Hid (Blk w4 w.heap.size (rcs r)) := Q3.out.on hb4
              have B4 : Hid (Below w.heap.size w w4) := B3.out.trans (hb4.mono z3)
              have z4 : w.heap.size ≤ w4.heap.size := B4.out.size
              clear hb4
              obtain ⟨f, hf⟩ : ∃ f, Hid (chk 2 r.c = f) := ⟨_, rfl⟩
              rw [hf.out]
              by_cases f0 : f = 0
              · subst f0
                have HT2 : Hid (chkR n r = unlR (attrB n r) 65) := by show _ = _; rw [HT.out]; unfold tailR; rw [if_pos hf.out]
                go_wp2_with (first | (refine wpList_load_mid rfl 31 _ rfl w.heap.size 0 rfl (rcs r) _ Q4.out.range Tryz.underlying31 rfl (by kernel_rfl) ?_))
                refine (refAttrOK_any n r _ (HR.out.below B4.out (Nat.le_refl _))).mono ?_
                rintro e w5 ⟨rfl, hb5⟩
                have B5 : Hid (Below w.heap.size w w5) := B4.out.trans (hb5.mono z4)
                clear hb5
                cases ha : attrB n r with
                | true =>
                  have HQ : Hid (chkR n r = 0) := by show _ = _; rw [HT2.out, ha]; rfl
                  clear ha
                  go_wp2
                  go_ret
                  exact ⟨by rw [HQ.out]; rfl, B5.out⟩
                | false =>
                  have HQ : Hid (chkR n r = 65) := by show _ = _; rw [HT2.out, ha]; rfl
                  clear ha
                  go_wp2
                  go_ret
                  exact ⟨by rw [HQ.out]; rfl, B5.out⟩
              · have HQ : Hid (chkR n r = f) := by show _ = _; rw [HT.out]; unfold tailR; rw [hf.out, if_neg f0]
                have fn : ((f : Int) != 0) = true := by rw [bne_iff_ne]; omega
                clear f0
                go_wp2
                go_ret
                exact ⟨by rw [HQ.out]; rfl, B4.out⟩
            | true =>
              rw [hs] at q5
              have HS := hide hs
              clear hs
              by_cases hz : r.round = 0
              · rw [hz] at q3
                have HZ := hide hz
                clear hz
                go_wp2_with fail
                refine (refHasCmd_any 3 _ (by omega) (by omega)).mono ?_
                rintro e w' ⟨rfl, rfl⟩
                rw [show hasCB 3 = true from rfl]
                have HT : Hid (chkR n r = tailR n r) := by show _ = _; rw [HC.out]; unfold refC; rw [HI.out, HB.out]; rw [HS.out, HZ.out]; rfl
                clear HC
                go_wp2_with (first | (refine wpList_load_mid rfl 28 _ rfl w.heap.size 6 rfl [.int .i64 r.c.kind, .int .i64 r.c.client, .int .i64 r.c.req, .string r.c.key, .string r.c.key2, .string r.c.val, .string r.c.old, .int .i64 r.c.n] _ (range_cmd Q3.out.range) Tryz.underlying28 rfl (by kernel_rfl) ?_))
                refine (rcheck_any 2 r.c _).mono ?_
                rintro e w4 ⟨rfl, hb4⟩
                have Q4 : Hid (Blk w4 w.heap.size (rcs r)) := Q3.out.on hb4
                have B4 : Hid (Below w.heap.size w w4) := B3.out.trans (hb4.mono z3)
                have z4 : w.heap.size ≤ w4.heap.size := B4.out.size
                clear hb4
                obtain ⟨f, hf⟩ : ∃ f, Hid (chk 2 r.c = f) := ⟨_, rfl⟩
                rw [hf.out]
                by_cases f0 : f = 0
                · subst f0
                  have HT2 : Hid (chkR n r = unlR (attrB n r) 65) := by show _ = _; rw [HT.out]; unfold tailR; rw [if_pos hf.out]
                  go_wp2_with (first | (refine wpList_load_mid rfl 31 _ rfl w.heap.size 0 rfl (rcs r) _ Q4.out.range Tryz.underlying31 rfl (by kernel_rfl) ?_))
                  refine (refAttrOK_any n r _ (HR.out.below B4.out (Nat.le_refl _))).mono ?_
                  rintro e w5 ⟨rfl, hb5⟩
                  have B5 : Hid (Below w.heap.size w w5) := B4.out.trans (hb5.mono z4)
                  clear hb5
                  cases ha : attrB n r with
                  | true =>
                    have HQ : Hid (chkR n r = 0) := by show _ = _; rw [HT2.out, ha]; rfl
                    clear ha
                    go_wp2
                    go_ret
                    exact ⟨by rw [HQ.out]; rfl, B5.out⟩
                  | false =>
                    have HQ : Hid (chkR n r = 65) := by show _ = _; rw [HT2.out, ha]; rfl
                    clear ha
                    go_wp2
                    go_ret
                    exact ⟨by rw [HQ.out]; rfl, B5.out⟩
                · have HQ : Hid (chkR n r = f) := by show _ = _; rw [HT.out]; unfold tailR; rw [hf.out, if_neg f0]
                  have fn : ((f : Int) != 0) = true := by rw [bne_iff_ne]; omega
                  clear f0
                  go_wp2
                  go_ret
                  exact ⟨by rw [HQ.out]; rfl, B4.out⟩
              · have HQ : Hid (chkR n r = 64) := by show _ = _; rw [HC.out]; unfold refC; rw [HI.out, HB.out, HS.out]; simp [hasBB, hz]
                have e0 : (r.round != 0) = true := by simpa using hz
                clear hz HC
                go_wp2
                go_ret
                exact ⟨by rw [HQ.out]; rfl, B3.out⟩
    · go_enter Tryz.func27, Tryz.ntmps27
      go_upto_region 1 with fail
      rw [← hV]
      clear hV
      go_wp2_with (first | (refine wpList_load_mid rfl 31 _ rfl w.heap.size 0 rfl (rcs r) _ Q.out.range Tryz.underlying31 rfl (by kernel_rfl) ?_))
      refine (refExtra_any 4 r _ HKk.out (by omega) (by omega) HR.out.seg.1).mono ?_
      rintro e w1 ⟨rfl, hb1⟩
      have Q1 : Hid (Blk w1 w.heap.size (rcs r)) := Q.out.on hb1
      have B1 : Hid (Below w.heap.size w w1) := BV.out.trans (hb1.mono hVs)
      have z1 : w.heap.size ≤ w1.heap.size := B1.out.size
      clear hb1 q0
      have q0 : w1.cell? ⟨w.heap.size, 0, none⟩ = some (.int .i64 4) := (Q1.out.cell 0 _ (rcs0 r)).trans (by rw [HKk.out]; rfl)
      have q1 : w1.cell? ⟨w.heap.size, 1, none⟩ = some (.int .i64 r.row) := Q1.out.cell 1 _ (rcs1 r)
      have q2 : w1.cell? ⟨w.heap.size, 2, none⟩ = some (.int .i64 r.num) := Q1.out.cell 2 _ (rcs2 r)
      have q3 : w1.cell? ⟨w.heap.size, 3, none⟩ = some (.int .i64 r.round) := Q1.out.cell 3 _ (rcs3 r)
      have q4 : w1.cell? ⟨w.heap.size, 4, none⟩ = some (.int .i64 r.who) := Q1.out.cell 4 _ (rcs4 r)
      have q5 : w1.cell? ⟨w.heap.size, 5, none⟩ = some (.bool r.same) := Q1.out.cell 5 _ (rcs5 r)
      have q16 : w1.cell? ⟨w.heap.size, 16, none⟩ = some (.int .i64 r.id) := Q1.out.cell 16 _ (rcs16 r)
      have q17 : w1.cell? ⟨w.heap.size, 17, none⟩ = some (.int .i64 r.n) := Q1.out.cell 17 _ (rcs17 r)
      cases hx : extraR r with
      | true =>
        have HQ : Hid (chkR n r = 67) := by show _ = _; rw [HE.out, hx]; rfl
        clear HE hx
        go_wp2
        go_ret
        exact ⟨by rw [HQ.out]; rfl, B1.out⟩
      | false =>
        have HC : Hid (chkR n r = refC n 4 r) := by show _ = _; rw [HE.out, hx]; rfl
        have HN : Hid (¬ r.same = true) := by
          intro hs
          have hX := refX_eq 4 r HKk.out (by omega) (by omega)
          rw [hx, show zeroR r 115 = !r.same from rfl, hs] at hX
          simp [refX] at hX
        clear HE hx
        go_wp2_with fail
        refine (refInstOK_any n r.row r.num _).mono ?_
        rintro e w2 ⟨rfl, hb2⟩
        have Q2 : Hid (Blk w2 w.heap.size (rcs r)) := Q1.out.on hb2
        have B2 : Hid (Below w.heap.size w w2) := B1.out.trans (hb2.mono z1)
        have z2 : w.heap.size ≤ w2.heap.size := B2.out.size
        clear hb2 q0 q1 q2 q3 q4 q5 q16 q17
        have q0 : w2.cell? ⟨w.heap.size, 0, none⟩ = some (.int .i64 4) := (Q2.out.cell 0 _ (rcs0 r)).trans (by rw [HKk.out]; rfl)
        have q1 : w2.cell? ⟨w.heap.size, 1, none⟩ = some (.int .i64 r.row) := Q2.out.cell 1 _ (rcs1 r)
        have q2 : w2.cell? ⟨w.heap.size, 2, none⟩ = some (.int .i64 r.num) := Q2.out.cell 2 _ (rcs2 r)
        have q3 : w2.cell? ⟨w.heap.size, 3, none⟩ = some (.int .i64 r.round) := Q2.out.cell 3 _ (rcs3 r)
        have q4 : w2.cell? ⟨w.heap.size, 4, none⟩ = some (.int .i64 r.who) := Q2.out.cell 4 _ (rcs4 r)
        have q5 : w2.cell? ⟨w.heap.size, 5, none⟩ = some (.bool r.same) := Q2.out.cell 5 _ (rcs5 r)
        cases hi : rinstB n r.row r.num with
        | false =>
          have HQ : Hid (chkR n r = 62) := by show _ = _; rw [HC.out]; unfold refC; rw [hi]; rfl
          clear HC hi
          go_wp2
          go_ret
          exact ⟨by rw [HQ.out]; rfl, B2.out⟩
        | true =>
          have HI := hide hi
          obtain ⟨r0, r1⟩ : 0 ≤ r.row ∧ r.row < n := by simp only [rinstB, Bool.and_eq_true, decide_eq_true_eq] at hi; exact ⟨hi.1, hi.2.1⟩
          clear hi
          go_wp2_with fail
          refine (refHasBal_any 4 _ (by omega) (by omega)).mono ?_
          rintro e w' ⟨rfl, rfl⟩
          rw [show hasBB 4 = true from rfl]
          go_wp2_with fail
          refine (refBalOK_any n 4 r _ HKk.out r0 r1).mono ?_
          rintro e w3 ⟨rfl, hb3⟩
          have Q3 : Hid (Blk w3 w.heap.size (rcs r)) := Q2.out.on hb3
          have B3 : Hid (Below w.heap.size w w3) := B2.out.trans (hb3.mono z2)
          have z3 : w.heap.size ≤ w3.heap.size := B3.out.size
          clear hb3 q0 q1 q2 q3 q4 q5
          have q0 : w3.cell? ⟨w.heap.size, 0, none⟩ = some (.int .i64 4) := (Q3.out.cell 0 _ (rcs0 r)).trans (by rw [HKk.out]; rfl)
          have q3 : w3.cell? ⟨w.heap.size, 3, none⟩ = some (.int .i64 r.round) := Q3.out.cell 3 _ (rcs3 r)
          have q5 : w3.cell? ⟨w.heap.size, 5, none⟩ = some (.bool r.same) := Q3.out.cell 5 _ (rcs5 r)
          cases hb : balR n r with
          | false =>
            have HQ : Hid (chkR n r = 63) := by show _ = _; rw [HC.out]; unfold refC; rw [HI.out, hb]; rfl
            clear HC hb
            go_wp2
            go_ret
            exact ⟨by rw [HQ.out]; rfl, B3.out⟩
          | true =>
            have HB := hide hb
            clear hb
            cases hs : r.same with
            | false =>
              rw [hs] at q5
              clear hs
              go_wp2_with fail
              refine (refHasCmd_any 4 _ (by omega) (by omega)).mono ?_
              rintro e w' ⟨rfl, rfl⟩
              rw [show hasCB 4 = true from rfl]
              have HT : Hid (chkR n r = tailR n r) := by show _ = _; rw [HC.out]; unfold refC; rw [HI.out, HB.out]; rfl
              clear HC
              go_wp2_with (first | (refine wpList_load_mid rfl 28 _ rfl w.heap.size 6 rfl [.int .i64 r.c.kind, .int .i64 r.c.client, .int .i64 r.c.req, .string r.c.key, .string r.c.key2, .string r.c.val, .string r.c.old, .int .i64 r.c.n] _ (range_cmd Q3.out.range) Tryz.underlying28 rfl (by kernel_rfl) ?_))
              refine (rcheck_any 2 r.c _).mono ?_
              rintro e w4 ⟨rfl, hb4⟩
              have Q4 : Hid (Blk w4 w.heap.size (rcs r)) := Q3.out.on hb4
              have B4 : Hid (Below w.heap.size w w4) := B3.out.trans (hb4.mono z3)
              have z4 : w.heap.size ≤ w4.heap.size := B4.out.size
              clear hb4
              obtain ⟨f, hf⟩ : ∃ f, Hid (chk 2 r.c = f) := ⟨_, rfl⟩
              rw [hf.out]
              by_cases f0 : f = 0
              · subst f0
                have HT2 : Hid (chkR n r = unlR (attrB n r) 65) := by show _ = _; rw [HT.out]; unfold tailR; rw [if_pos hf.out]
                go_wp2_with (first | (refine wpList_load_mid rfl 31 _ rfl w.heap.size 0 rfl (rcs r) _ Q4.out.range Tryz.underlying31 rfl (by kernel_rfl) ?_))
                refine (refAttrOK_any n r _ (HR.out.below B4.out (Nat.le_refl _))).mono ?_
                rintro e w5 ⟨rfl, hb5⟩
                have B5 : Hid (Below w.heap.size w w5) := B4.out.trans (hb5.mono z4)
                clear hb5
                cases ha : attrB n r with
                | true =>
                  have HQ : Hid (chkR n r = 0) := by show _ = _; rw [HT2.out, ha]; rfl
                  clear ha
                  go_wp2
                  go_ret
                  exact ⟨by rw [HQ.out]; rfl, B5.out⟩
                | false =>
                  have HQ : Hid (chkR n r = 65) := by show _ = _; rw [HT2.out, ha]; rfl
                  clear ha
                  go_wp2
                  go_ret
                  exact ⟨by rw [HQ.out]; rfl, B5.out⟩
              · have HQ : Hid (chkR n r = f) := by show _ = _; rw [HT.out]; unfold tailR; rw [hf.out, if_neg f0]
                have fn : ((f : Int) != 0) = true := by rw [bne_iff_ne]; omega
                clear f0
                go_wp2
                go_ret
                exact ⟨by rw [HQ.out]; rfl, B4.out⟩
            | true =>
              rw [hs] at q5
              exfalso
              exact HN.out hs
    · go_enter Tryz.func27, Tryz.ntmps27
      go_upto_region 1 with fail
      rw [← hV]
      clear hV
      go_wp2_with (first | (refine wpList_load_mid rfl 31 _ rfl w.heap.size 0 rfl (rcs r) _ Q.out.range Tryz.underlying31 rfl (by kernel_rfl) ?_))
      refine (refExtra_any 5 r _ HKk.out (by omega) (by omega) HR.out.seg.1).mono ?_
      rintro e w1 ⟨rfl, hb1⟩
      have Q1 : Hid (Blk w1 w.heap.size (rcs r)) := Q.out.on hb1
      have B1 : Hid (Below w.heap.size w w1) := BV.out.trans (hb1.mono hVs)
      have z1 : w.heap.size ≤ w1.heap.size := B1.out.size
      clear hb1 q0
      have q0 : w1.cell? ⟨w.heap.size, 0, none⟩ = some (.int .i64 5) := (Q1.out.cell 0 _ (rcs0 r)).trans (by rw [HKk.out]; rfl)
      have q1 : w1.cell? ⟨w.heap.size, 1, none⟩ = some (.int .i64 r.row) := Q1.out.cell 1 _ (rcs1 r)
      have q2 : w1.cell? ⟨w.heap.size, 2, none⟩ = some (.int .i64 r.num) := Q1.out.cell 2 _ (rcs2 r)
      have q3 : w1.cell? ⟨w.heap.size, 3, none⟩ = some (.int .i64 r.round) := Q1.out.cell 3 _ (rcs3 r)
      have q4 : w1.cell? ⟨w.heap.size, 4, none⟩ = some (.int .i64 r.who) := Q1.out.cell 4 _ (rcs4 r)
      have q5 : w1.cell? ⟨w.heap.size, 5, none⟩ = some (.bool r.same) := Q1.out.cell 5 _ (rcs5 r)
      have q16 : w1.cell? ⟨w.heap.size, 16, none⟩ = some (.int .i64 r.id) := Q1.out.cell 16 _ (rcs16 r)
      have q17 : w1.cell? ⟨w.heap.size, 17, none⟩ = some (.int .i64 r.n) := Q1.out.cell 17 _ (rcs17 r)
      cases hx : extraR r with
      | true =>
        have HQ : Hid (chkR n r = 67) := by show _ = _; rw [HE.out, hx]; rfl
        clear HE hx
        go_wp2
        go_ret
        exact ⟨by rw [HQ.out]; rfl, B1.out⟩
      | false =>
        have HC : Hid (chkR n r = refC n 5 r) := by show _ = _; rw [HE.out, hx]; rfl
        have HN : Hid (¬ r.same = true) := by
          intro hs
          have hX := refX_eq 5 r HKk.out (by omega) (by omega)
          rw [hx, show zeroR r 115 = !r.same from rfl, hs] at hX
          simp [refX] at hX
        clear HE hx
        go_wp2_with fail
        refine (refInstOK_any n r.row r.num _).mono ?_
        rintro e w2 ⟨rfl, hb2⟩
        have Q2 : Hid (Blk w2 w.heap.size (rcs r)) := Q1.out.on hb2
        have B2 : Hid (Below w.heap.size w w2) := B1.out.trans (hb2.mono z1)
        have z2 : w.heap.size ≤ w2.heap.size := B2.out.size
        clear hb2 q0 q1 q2 q3 q4 q5 q16 q17
        have q0 : w2.cell? ⟨w.heap.size, 0, none⟩ = some (.int .i64 5) := (Q2.out.cell 0 _ (rcs0 r)).trans (by rw [HKk.out]; rfl)
        have q1 : w2.cell? ⟨w.heap.size, 1, none⟩ = some (.int .i64 r.row) := Q2.out.cell 1 _ (rcs1 r)
        have q2 : w2.cell? ⟨w.heap.size, 2, none⟩ = some (.int .i64 r.num) := Q2.out.cell 2 _ (rcs2 r)
        have q3 : w2.cell? ⟨w.heap.size, 3, none⟩ = some (.int .i64 r.round) := Q2.out.cell 3 _ (rcs3 r)
        have q4 : w2.cell? ⟨w.heap.size, 4, none⟩ = some (.int .i64 r.who) := Q2.out.cell 4 _ (rcs4 r)
        have q5 : w2.cell? ⟨w.heap.size, 5, none⟩ = some (.bool r.same) := Q2.out.cell 5 _ (rcs5 r)
        cases hi : rinstB n r.row r.num with
        | false =>
          have HQ : Hid (chkR n r = 62) := by show _ = _; rw [HC.out]; unfold refC; rw [hi]; rfl
          clear HC hi
          go_wp2
          go_ret
          exact ⟨by rw [HQ.out]; rfl, B2.out⟩
        | true =>
          have HI := hide hi
          obtain ⟨r0, r1⟩ : 0 ≤ r.row ∧ r.row < n := by simp only [rinstB, Bool.and_eq_true, decide_eq_true_eq] at hi; exact ⟨hi.1, hi.2.1⟩
          clear hi
          go_wp2_with fail
          refine (refHasBal_any 5 _ (by omega) (by omega)).mono ?_
          rintro e w' ⟨rfl, rfl⟩
          rw [show hasBB 5 = false from rfl]
          cases hs : r.same with
          | false =>
            rw [hs] at q5
            clear hs
            go_wp2_with fail
            refine (refHasCmd_any 5 _ (by omega) (by omega)).mono ?_
            rintro e w' ⟨rfl, rfl⟩
            rw [show hasCB 5 = true from rfl]
            have HT : Hid (chkR n r = tailR n r) := by show _ = _; rw [HC.out]; unfold refC; rw [HI.out]; rfl
            clear HC
            go_wp2_with (first | (refine wpList_load_mid rfl 28 _ rfl w.heap.size 6 rfl [.int .i64 r.c.kind, .int .i64 r.c.client, .int .i64 r.c.req, .string r.c.key, .string r.c.key2, .string r.c.val, .string r.c.old, .int .i64 r.c.n] _ (range_cmd Q2.out.range) Tryz.underlying28 rfl (by kernel_rfl) ?_))
            refine (rcheck_any 2 r.c _).mono ?_
            rintro e w4 ⟨rfl, hb4⟩
            have Q4 : Hid (Blk w4 w.heap.size (rcs r)) := Q2.out.on hb4
            have B4 : Hid (Below w.heap.size w w4) := B2.out.trans (hb4.mono z2)
            have z4 : w.heap.size ≤ w4.heap.size := B4.out.size
            clear hb4
            obtain ⟨f, hf⟩ : ∃ f, Hid (chk 2 r.c = f) := ⟨_, rfl⟩
            rw [hf.out]
            by_cases f0 : f = 0
            · subst f0
              have HT2 : Hid (chkR n r = unlR (attrB n r) 65) := by show _ = _; rw [HT.out]; unfold tailR; rw [if_pos hf.out]
              go_wp2_with (first | (refine wpList_load_mid rfl 31 _ rfl w.heap.size 0 rfl (rcs r) _ Q4.out.range Tryz.underlying31 rfl (by kernel_rfl) ?_))
              refine (refAttrOK_any n r _ (HR.out.below B4.out (Nat.le_refl _))).mono ?_
              rintro e w5 ⟨rfl, hb5⟩
              have B5 : Hid (Below w.heap.size w w5) := B4.out.trans (hb5.mono z4)
              clear hb5
              cases ha : attrB n r with
              | true =>
                have HQ : Hid (chkR n r = 0) := by show _ = _; rw [HT2.out, ha]; rfl
                clear ha
                go_wp2
                go_ret
                exact ⟨by rw [HQ.out]; rfl, B5.out⟩
              | false =>
                have HQ : Hid (chkR n r = 65) := by show _ = _; rw [HT2.out, ha]; rfl
                clear ha
                go_wp2
                go_ret
                exact ⟨by rw [HQ.out]; rfl, B5.out⟩
            · have HQ : Hid (chkR n r = f) := by show _ = _; rw [HT.out]; unfold tailR; rw [hf.out, if_neg f0]
              have fn : ((f : Int) != 0) = true := by rw [bne_iff_ne]; omega
              clear f0
              go_wp2
              go_ret
              exact ⟨by rw [HQ.out]; rfl, B4.out⟩
          | true =>
            rw [hs] at q5
            exfalso
            exact HN.out hs
end Go.Proofs.YtnogdjpbnhnmaaaGreatDoor
