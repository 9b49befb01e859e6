/- Texts of the proof, joined. -/
import Derived.Test.YtnogdjpbnhnmaaaGreatDoorJ34
import Derived.Deep.Light
/- The contracts of the document's own headOK, instOK, balOK, extra, attrOK and Check of a record. -/
namespace Go.Proofs.YtnogdjpbnhnmaaaGreatDoor
open Go.RowKit Go.Wire1

set_option maxHeartbeats 4000000 in
set_option maxRecDepth 100000 in
theorem refHeadOK_any (r : Rc) (w : World) :
    Calls Tryz.prog 61 #[.int .i64 r.id, .int .i64 r.n] w fun e w' => e = .returned (.bool (headB r)) ∧ w = w' := by
  by_cases h0 : 1 ≤ r.n
  · by_cases h1 : r.n ≤ 7
    · by_cases h2 : 0 ≤ r.id
      · by_cases h3 : r.id < r.n
        · have HQ : Hid (headB r = true) := by simp [Hid, headB, isSizeB, h0, h1, h2, h3]
          go_enter Tryz.func61, Tryz.ntmps61
          go_wp2
          go_ret
          exact ⟨by rw [HQ.out]; rfl, rfl⟩
        · have HQ : Hid (headB r = false) := by simp [Hid, headB, isSizeB, h0, h1, h2, h3]
          have n3 : decide (r.id < r.n) = false := by simpa using h3
          go_enter Tryz.func61, Tryz.ntmps61
          go_wp2
          go_ret
          exact ⟨by rw [HQ.out]; rfl, rfl⟩
      · have HQ : Hid (headB r = false) := by simp [Hid, headB, isSizeB, h0, h1, h2]
        have n2 : decide (0 ≤ r.id) = false := by simpa using h2
        go_enter Tryz.func61, Tryz.ntmps61
        go_wp2
        go_ret
        exact ⟨by rw [HQ.out]; rfl, rfl⟩
    · have HQ : Hid (headB r = false) := by simp [Hid, headB, isSizeB, h0, h1]
      have n1 : decide (r.n ≤ 7) = false := by simpa using h1
      go_enter Tryz.func61, Tryz.ntmps61
      go_wp2
      go_ret
      exact ⟨by rw [HQ.out]; rfl, rfl⟩
  · have HQ : Hid (headB r = false) := by simp [Hid, headB, isSizeB, h0]
    have n0 : decide (1 ≤ r.n) = false := by simpa using h0
    go_enter Tryz.func61, Tryz.ntmps61
    go_wp2
    go_ret
    exact ⟨by rw [HQ.out]; rfl, rfl⟩
set_option maxHeartbeats 4000000 in
set_option maxRecDepth 100000 in
theorem refInstOK_any (n row num : Int) (w : World) :
    Calls Tryz.prog 40 #[.int .i64 n, .agg #[.int .i64 row, .int .i64 num]] w fun e w' => e = .returned (.bool (rinstB n row num)) ∧ Below w.heap.size w w' := by
  by_cases h0 : 0 ≤ row
  · by_cases h1 : row < n
    · by_cases h2 : 1 ≤ num
      · by_cases h3 : num ≤ 1048576
        · have HQ : Hid (rinstB n row num = true) := by simp [Hid, rinstB, h0, h1, h2, h3]
          go_enter Tryz.func40, Tryz.ntmps40
          go_wp2
          go_ret
          exact ⟨by rw [HQ.out]; rfl, (Below.refl _ _).alloc (Nat.le_refl _) _⟩
        · have HQ : Hid (rinstB n row num = false) := by simp [Hid, rinstB, h0, h1, h2, h3]
          have n3 : decide (num ≤ 1048576) = false := by simpa using h3
          go_enter Tryz.func40, Tryz.ntmps40
          go_wp2
          go_ret
          exact ⟨by rw [HQ.out]; rfl, (Below.refl _ _).alloc (Nat.le_refl _) _⟩
      · have HQ : Hid (rinstB n row num = false) := by simp [Hid, rinstB, h0, h1, h2]
        have n2 : decide (1 ≤ num) = false := by simpa using h2
        go_enter Tryz.func40, Tryz.ntmps40
        go_wp2
        go_ret
        exact ⟨by rw [HQ.out]; rfl, (Below.refl _ _).alloc (Nat.le_refl _) _⟩
    · have HQ : Hid (rinstB n row num = false) := by simp [Hid, rinstB, h0, h1]
      have n1 : decide (row < n) = false := by simpa using h1
      go_enter Tryz.func40, Tryz.ntmps40
      go_wp2
      go_ret
      exact ⟨by rw [HQ.out]; rfl, (Below.refl _ _).alloc (Nat.le_refl _) _⟩
  · have HQ : Hid (rinstB n row num = false) := by simp [Hid, rinstB, h0]
    have n0 : decide (0 ≤ row) = false := by simpa using h0
    go_enter Tryz.func40, Tryz.ntmps40
    go_wp2
    go_ret
    exact ⟨by rw [HQ.out]; rfl, (Below.refl _ _).alloc (Nat.le_refl _) _⟩
set_option maxHeartbeats 4000000 in
set_option maxRecDepth 100000 in
theorem refBalOK_any (n : Int) (k : Nat) (r : Rc) (w : World) (hk : r.kind = (k : Int)) (hr0 : 0 ≤ r.row) (hr1 : r.row < n) :
    Calls Tryz.prog 41 #[.int .i64 n, .int .i64 (k : Int), .agg #[.int .i64 r.row, .int .i64 r.num], .agg #[.int .i64 r.round, .int .i64 r.who]] w fun e w' => e = .returned (.bool (balR n r)) ∧ Below w.heap.size w w' := by
  have HK := hide hk
  clear hk
  by_cases a1 : r.round < 0
  · have HQ : Hid (balR n r = false) := by show _ = _; unfold balR; rw [if_neg (by omega), decide_eq_false (by omega : ¬ 1 ≤ r.round)]; rfl
    go_enter Tryz.func41, Tryz.ntmps41
    go_wp2
    go_ret
    exact ⟨by rw [HQ.out]; rfl, ((Below.refl _ w).alloc (Nat.le_refl _) _).alloc (by simp) _⟩
  by_cases a2 : 65535 < r.round
  · have HQ : Hid (balR n r = false) := by show _ = _; unfold balR; rw [if_neg (by omega), decide_eq_false (by omega : ¬ r.round ≤ 65535)]; simp
    go_enter Tryz.func41, Tryz.ntmps41
    go_wp2
    go_ret
    exact ⟨by rw [HQ.out]; rfl, ((Below.refl _ w).alloc (Nat.le_refl _) _).alloc (by simp) _⟩
  by_cases a3 : r.who < 0
  · have HQ : Hid (balR n r = false) := by
      show _ = _; unfold balR
      split
      · rw [show (r.who == r.row) = false by rw [beq_eq_false_iff_ne]; omega]; rfl
      · rw [decide_eq_false (by omega : ¬ 0 ≤ r.who)]; simp
    go_enter Tryz.func41, Tryz.ntmps41
    go_wp2
    go_ret
    exact ⟨by rw [HQ.out]; rfl, ((Below.refl _ w).alloc (Nat.le_refl _) _).alloc (by simp) _⟩
  by_cases a4 : n ≤ r.who
  · have HQ : Hid (balR n r = false) := by
      show _ = _; unfold balR
      split
      · rw [show (r.who == r.row) = false by rw [beq_eq_false_iff_ne]; omega]; rfl
      · rw [decide_eq_false (by omega : ¬ r.who < n)]; simp
    go_enter Tryz.func41, Tryz.ntmps41
    go_wp2
    go_ret
    exact ⟨by rw [HQ.out]; rfl, ((Below.refl _ w).alloc (Nat.le_refl _) _).alloc (by simp) _⟩
  by_cases a5 : 0 < r.round
  · have HQ : Hid (balR n r = true) := by show _ = _; unfold balR; rw [if_neg (by omega), decide_eq_true (by omega : 1 ≤ r.round), decide_eq_true (by omega : r.round ≤ 65535), decide_eq_true (by omega : 0 ≤ r.who), decide_eq_true (by omega : r.who < n)]; rfl
    go_enter Tryz.func41, Tryz.ntmps41
    go_wp2
    go_ret
    exact ⟨by rw [HQ.out]; rfl, ((Below.refl _ w).alloc (Nat.le_refl _) _).alloc (by simp) _⟩
  have HB : Hid (balR n r = ((r.who == r.row) && ((k : Int) != 2))) := by show _ = _; unfold balR; rw [if_pos (by omega), HK.out]
  by_cases a6 : r.who = r.row
  · have e6 : (r.who == r.row) = true := by simpa using a6
    have HQ : Hid (balR n r = ((k : Int) != 2)) := by show _ = _; rw [HB.out, e6]; rfl
    clear a6
    go_enter Tryz.func41, Tryz.ntmps41
    go_wp2
    go_ret
    exact ⟨by rw [HQ.out]; rfl, ((Below.refl _ w).alloc (Nat.le_refl _) _).alloc (by simp) _⟩
  · have e6 : (r.who == r.row) = false := by simpa using a6
    have HQ : Hid (balR n r = false) := by show _ = _; rw [HB.out, e6]; rfl
    clear a6
    go_enter Tryz.func41, Tryz.ntmps41
    go_wp2
    go_ret
    exact ⟨by rw [HQ.out]; rfl, ((Below.refl _ w).alloc (Nat.le_refl _) _).alloc (by simp) _⟩
def refX (k : Nat) (i b c s h : Bool) : Bool := ((i && !(hasIB k)) || ((b && !(hasBB k)) || (c && !(hasCB k)))) || ((s && (k != 3)) || (h && (k != 1)))
def cmdX (r : Rc) : Bool := !(zeroR r 99) || (!(zeroR r 113) || !(zeroR r 100))
def headX (r : Rc) : Bool := !(zeroR r 119) || !(zeroR r 110)
theorem refX_eq (k : Nat) (r : Rc) (hk : r.kind = (k : Int)) (h1 : 1 ≤ k) (h5 : k ≤ 5) : extraR r = refX k (!(zeroR r 105)) (!(zeroR r 98)) (cmdX r) (!(zeroR r 115)) (headX r) := by
  unfold extraR rowR cmdX headX
  rw [hk, show ((k : Int)).toNat = k from rfl]
  simp only [allR, List.any_cons, List.any_nil]
  rcases five h1 h5 with rfl | rfl | rfl | rfl | rfl <;>
  · generalize zeroR r 105 = zi, zeroR r 98 = zb, zeroR r 99 = zc, zeroR r 113 = zq, zeroR r 100 = zd, zeroR r 115 = zs, zeroR r 119 = zw, zeroR r 110 = zn
    revert zi zb zc zq zd zs zw zn
    decide
set_option maxHeartbeats 4000000 in
set_option maxRecDepth 100000 in
theorem refExtra_any (k : Nat) (r : Rc) (w : World) (hk : r.kind = (k : Int)) (h1 : 1 ≤ k) (h5 : k ≤ 5) (hd : r.deps.length = r.dn) :
    Calls Tryz.prog 60 #[.agg (rcs r).toArray] w fun e w' => e = .returned (.bool (extraR r)) ∧ Below w.heap.size w w' := by
  obtain ⟨V, hV⟩ : ∃ V, V = w.alloc (.cells (rcs r).toArray 31) := ⟨_, rfl⟩
  have Q : Hid (Blk V w.heap.size (rcs r)) := by rw [hV]; exact blk_new w 31 (rcs r)
  have BV : Hid (Below w.heap.size w V) := by rw [hV]; exact (Below.refl _ _).alloc (Nat.le_refl _) _
  have hVs : w.heap.size ≤ V.heap.size := BV.out.size
  have HE := hide (refX_eq k r hk h1 h5)
  obtain ⟨x, hx⟩ : ∃ x, Hid (extraR r = x) := ⟨_, rfl⟩
  rw [hx.out]
  have HKk := hide hk
  have ZI : Hid (zeroR r 105 = ((r.row == 0) && (r.num == 0))) := rfl
  have ZB : Hid (zeroR r 98 = ((r.round == 0) && (r.who == 0))) := rfl
  have ZC : Hid (zeroR r 99 = zeroCm r.c) := rfl
  have ZQ : Hid (zeroR r 113 = (r.seq == 0)) := rfl
  have ZD : Hid (zeroR r 100 = ((r.dn : Int) == 0)) := by show (r.deps.length == 0) = _; rw [hd, Bool.eq_iff_iff]; simp
  have ZS : Hid (zeroR r 115 = !r.same) := rfl
  have ZW : Hid (zeroR r 119 = (r.id == 0)) := rfl
  have ZN : Hid (zeroR r 110 = (r.n == 0)) := rfl
  clear hk hd
  have q1 : V.cell? ⟨w.heap.size, 1, none⟩ = some (.int .i64 r.row) := Q.out.cell 1 _ (rcs1 r)
  have q2 : V.cell? ⟨w.heap.size, 2, none⟩ = some (.int .i64 r.num) := Q.out.cell 2 _ (rcs2 r)
  have q3 : V.cell? ⟨w.heap.size, 3, none⟩ = some (.int .i64 r.round) := Q.out.cell 3 _ (rcs3 r)
  have q4 : V.cell? ⟨w.heap.size, 4, none⟩ = some (.int .i64 r.who) := Q.out.cell 4 _ (rcs4 r)
  go_enter Tryz.func60, Tryz.ntmps60
  go_upto_region 1 with fail
  rw [← hV]
  clear hV
  go_cut [3] from 9 (fun a wr => a = .bool (!(zeroR r 105)) ∧ V = wr)
  case first =>
    go_wp2
    all_goals
      go_meet
      case rel => exact ⟨by go_light; simp [ZI.out, *, bne], rfl⟩
  case rest =>
    obtain ⟨rfl, rfl⟩ := hcut
    go_upto_region 2 with fail
    go_cut [4] from 9 (fun a wr => a = .bool (!(zeroR r 98)) ∧ V = wr)
    case first =>
      go_wp2
      all_goals
        go_meet
        case rel => exact ⟨by go_light; simp [ZB.out, *, bne], rfl⟩
    case rest =>
      obtain ⟨rfl, rfl⟩ := hcut
      go_wp2_with (first | (refine wpList_load_mid rfl 28 _ rfl w.heap.size 6 rfl [.int .i64 r.c.kind, .int .i64 r.c.client, .int .i64 r.c.req, .string r.c.key, .string r.c.key2, .string r.c.val, .string r.c.old, .int .i64 r.c.n] _ (range_cmd Q.out.range) Tryz.underlying28 rfl (by kernel_rfl) ?_))
      refine (sameCmd_any r.c ⟨0, 0, 0, ⟨#[]⟩, ⟨#[]⟩, ⟨#[]⟩, ⟨#[]⟩, 0⟩ _).mono ?_
      rintro e w1 ⟨rfl, hb1⟩
      rw [same_zero]
      have Q1 : Hid (Blk w1 w.heap.size (rcs r)) := Q.out.on hb1
      have B1 : Hid (Below w.heap.size w w1) := BV.out.trans (hb1.mono hVs)
      clear hb1 q1 q2 q3 q4
      have q14 : w1.cell? ⟨w.heap.size, 14, none⟩ = some (.int .i64 r.seq) := Q1.out.cell 14 _ (rcs14 r)
      have q15 : w1.cell? ⟨w.heap.size, 15, none⟩ = some (.slice r.da r.dn r.dc) := Q1.out.cell 15 _ (rcs15 r)
      have q16 : w1.cell? ⟨w.heap.size, 16, none⟩ = some (.int .i64 r.id) := Q1.out.cell 16 _ (rcs16 r)
      have q17 : w1.cell? ⟨w.heap.size, 17, none⟩ = some (.int .i64 r.n) := Q1.out.cell 17 _ (rcs17 r)
      have q0 : w1.cell? ⟨w.heap.size, 0, none⟩ = some (.int .i64 (k : Int)) := by rw [← HKk.out]; exact Q1.out.cell 0 _ (rcs0 r)
      have q5 : w1.cell? ⟨w.heap.size, 5, none⟩ = some (.bool r.same) := Q1.out.cell 5 _ (rcs5 r)
      go_upto_region 4 with fail
      go_cut [6] from 9 (fun a wr => a = .bool (cmdX r) ∧ w1 = wr)
      case first =>
        have HX : Hid (cmdX r = (!(zeroCm r.c) || (!(r.seq == 0) || !((r.dn : Int) == 0)))) := by show _ = _; unfold cmdX; rw [ZC.out, ZQ.out, ZD.out]
        generalize zeroCm r.c = zc at *
        cases zc
        all_goals
          go_wp2
          all_goals
            go_meet
            case rel => exact ⟨by go_light; simp [HX.out, *, bne], rfl⟩
      case rest =>
        obtain ⟨rfl, rfl⟩ := hcut
        go_upto_region 5 with fail
        go_cut [7] from 9 (fun a wr => a = .bool (headX r) ∧ w1 = wr)
        case first =>
          have HX : Hid (headX r = (!(r.id == 0) || !(r.n == 0))) := by show _ = _; unfold headX; rw [ZW.out, ZN.out]
          go_wp2
          all_goals
            go_meet
            case rel => exact ⟨by go_light; simp [HX.out, *, bne], rfl⟩
        case rest =>
          obtain ⟨rfl, rfl⟩ := hcut
          have HE2 : Hid (extraR r = refX k (!(zeroR r 105)) (!(zeroR r 98)) (cmdX r) r.same (headX r)) := by show _ = _; rw [HE.out, ZS.out]; simp
          rw [hx.out] at HE2
          generalize (!(zeroR r 105)) = zi, (!(zeroR r 98)) = zb, cmdX r = zc, r.same = zs, headX r = zh at *
          clear HE ZI ZB ZC ZQ ZD ZS ZW ZN HKk q14 q15 q16 q17 hx
          rcases five h1 h5 with rfl | rfl | rfl | rfl | rfl
          · have CI : Hid (Calls Tryz.prog 97 #[.int .i64 1] w1 fun e w' => e = .returned (.bool false) ∧ w1 = w') := refHasInst_any 1 w1 h1 h5
            have CB : Hid (Calls Tryz.prog 29 #[.int .i64 1] w1 fun e w' => e = .returned (.bool false) ∧ w1 = w') := refHasBal_any 1 w1 h1 h5
            have CC : Hid (Calls Tryz.prog 30 #[.int .i64 1] w1 fun e w' => e = .returned (.bool false) ∧ w1 = w') := refHasCmd_any 1 w1 h1 h5
            clear h1 h5
            go_wp2_with (first | (go_at_call 97; refine CI.out.mono ?_; rintro e w' ⟨rfl, rfl⟩) | (go_at_call 29; refine CB.out.mono ?_; rintro e w' ⟨rfl, rfl⟩) | (go_at_call 30; refine CC.out.mono ?_; rintro e w' ⟨rfl, rfl⟩))
            all_goals
              go_ret
              refine ⟨?_, B1.out⟩
              have E := HE2.out
              clear CI CB CC HE2
              go_light
              simp only [refX, hasIB, hasBB, hasCB] at E
              simp [*]
          · have CI : Hid (Calls Tryz.prog 97 #[.int .i64 2] w1 fun e w' => e = .returned (.bool true) ∧ w1 = w') := refHasInst_any 2 w1 h1 h5
            have CB : Hid (Calls Tryz.prog 29 #[.int .i64 2] w1 fun e w' => e = .returned (.bool true) ∧ w1 = w') := refHasBal_any 2 w1 h1 h5
            have CC : Hid (Calls Tryz.prog 30 #[.int .i64 2] w1 fun e w' => e = .returned (.bool false) ∧ w1 = w') := refHasCmd_any 2 w1 h1 h5
            clear h1 h5
            go_wp2_with (first | (go_at_call 97; refine CI.out.mono ?_; rintro e w' ⟨rfl, rfl⟩) | (go_at_call 29; refine CB.out.mono ?_; rintro e w' ⟨rfl, rfl⟩) | (go_at_call 30; refine CC.out.mono ?_; rintro e w' ⟨rfl, rfl⟩))
            all_goals
              go_ret
              refine ⟨?_, B1.out⟩
              have E := HE2.out
              clear CI CB CC HE2
              go_light
              simp only [refX, hasIB, hasBB, hasCB] at E
              simp [*]
          · have CI : Hid (Calls Tryz.prog 97 #[.int .i64 3] w1 fun e w' => e = .returned (.bool true) ∧ w1 = w') := refHasInst_any 3 w1 h1 h5
            have CB : Hid (Calls Tryz.prog 29 #[.int .i64 3] w1 fun e w' => e = .returned (.bool true) ∧ w1 = w') := refHasBal_any 3 w1 h1 h5
            have CC : Hid (Calls Tryz.prog 30 #[.int .i64 3] w1 fun e w' => e = .returned (.bool true) ∧ w1 = w') := refHasCmd_any 3 w1 h1 h5
            clear h1 h5
            go_wp2_with (first | (go_at_call 97; refine CI.out.mono ?_; rintro e w' ⟨rfl, rfl⟩) | (go_at_call 29; refine CB.out.mono ?_; rintro e w' ⟨rfl, rfl⟩) | (go_at_call 30; refine CC.out.mono ?_; rintro e w' ⟨rfl, rfl⟩))
            all_goals
              go_ret
              refine ⟨?_, B1.out⟩
              have E := HE2.out
              clear CI CB CC HE2
              go_light
              simp only [refX, hasIB, hasBB, hasCB] at E
              simp [*]
          · have CI : Hid (Calls Tryz.prog 97 #[.int .i64 4] w1 fun e w' => e = .returned (.bool true) ∧ w1 = w') := refHasInst_any 4 w1 h1 h5
            have CB : Hid (Calls Tryz.prog 29 #[.int .i64 4] w1 fun e w' => e = .returned (.bool true) ∧ w1 = w') := refHasBal_any 4 w1 h1 h5
            have CC : Hid (Calls Tryz.prog 30 #[.int .i64 4] w1 fun e w' => e = .returned (.bool true) ∧ w1 = w') := refHasCmd_any 4 w1 h1 h5
            clear h1 h5
            go_wp2_with (first | (go_at_call 97; refine CI.out.mono ?_; rintro e w' ⟨rfl, rfl⟩) | (go_at_call 29; refine CB.out.mono ?_; rintro e w' ⟨rfl, rfl⟩) | (go_at_call 30; refine CC.out.mono ?_; rintro e w' ⟨rfl, rfl⟩))
            all_goals
              go_ret
              refine ⟨?_, B1.out⟩
              have E := HE2.out
              clear CI CB CC HE2
              go_light
              simp only [refX, hasIB, hasBB, hasCB] at E
              simp [*]
          · have CI : Hid (Calls Tryz.prog 97 #[.int .i64 5] w1 fun e w' => e = .returned (.bool true) ∧ w1 = w') := refHasInst_any 5 w1 h1 h5
            have CB : Hid (Calls Tryz.prog 29 #[.int .i64 5] w1 fun e w' => e = .returned (.bool false) ∧ w1 = w') := refHasBal_any 5 w1 h1 h5
            have CC : Hid (Calls Tryz.prog 30 #[.int .i64 5] w1 fun e w' => e = .returned (.bool true) ∧ w1 = w') := refHasCmd_any 5 w1 h1 h5
            clear h1 h5
            go_wp2_with (first | (go_at_call 97; refine CI.out.mono ?_; rintro e w' ⟨rfl, rfl⟩) | (go_at_call 29; refine CB.out.mono ?_; rintro e w' ⟨rfl, rfl⟩) | (go_at_call 30; refine CC.out.mono ?_; rintro e w' ⟨rfl, rfl⟩))
            all_goals
              go_ret
              refine ⟨?_, B1.out⟩
              have E := HE2.out
              clear CI CB CC HE2
              go_light
              simp only [refX, hasIB, hasBB, hasCB] at E
              simp [*]
end Go.Proofs.YtnogdjpbnhnmaaaGreatDoor
