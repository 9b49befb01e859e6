/- Texts of the proof, joined. -/
import Derived.Test.YtdokagebfeejbaaGreatDoorJ12
import Derived.Test.YtdokagebfeejbaaGreatDoorJ17
import Derived.Test.YtdokagebfeejbaaGreatDoorJ01
/- The document's own Check of messages: the functions of a whole message. -/
namespace Go.Proofs.YtdokagebfeejbaaGreatDoor
open Go.RowKit Go.Wire1

def hc5 (m : Ms) : Bool := (m.kind == 1) || ((m.kind == 3) || ((m.kind == 5) || ((m.kind == 7) && (m.st != 0))))
def hs5 (m : Ms) : Bool := hc5 m || (m.kind == 2)
def nb5 (m : Ms) : Bool := (m.kind == 1) || ((m.kind == 7) && (m.st == 1))
set_option maxHeartbeats 1000000 in
set_option maxRecDepth 100000 in
theorem hc5_any (m : Ms) (u : Value) (w : World) : Calls Tryz.prog 32 #[.agg (mgc m u).toArray] w fun e w' => e = .returned (.bool (hc5 m)) ∧ Below w.heap.size w w' := by
  obtain ⟨X, hX⟩ : ∃ X, X = w.alloc (.cells (mgc m u).toArray 30) := ⟨_, rfl⟩
  have Q : Hid (Blk X w.heap.size (mgc m u)) := by rw [hX]; exact blk_new w 30 (mgc m u)
  have BX : Hid (Below w.heap.size w X) := by rw [hX]; exact (Below.refl _ w).alloc (Nat.le_refl _) _
  have c_X_kind : X.cell? ⟨w.heap.size, 0, none⟩ = some (.int .i64 m.kind) := Q.out.cell 0 _ rfl
  have c_X_st : X.cell? ⟨w.heap.size, 7, none⟩ = some (.int .i64 m.st) := Q.out.cell 7 _ rfl
  by_cases h1 : m.kind = 1
  · have d1 : (m.kind == 1) = true := by simp [h1]
    have HQ : Hid (hc5 m = true) := by show _ = true; simp only [hc5, Bool.and_eq_true, Bool.or_eq_true, beq_iff_eq, bne_iff_ne]; omega
    rw [HQ.out]
    clear HQ h1
    go_enter Tryz.func32, Tryz.ntmps32
    go_upto_region 1 with fail
    rw [← hX]
    clear hX
    go_wp2
    go_ret
    exact ⟨rfl, BX.out⟩
  · have d1 : (m.kind == 1) = false := beq_eq_false_iff_ne.2 h1
    by_cases h2 : m.kind = 3
    · have d2 : (m.kind == 3) = true := by simp [h2]
      have HQ : Hid (hc5 m = true) := by show _ = true; simp only [hc5, Bool.and_eq_true, Bool.or_eq_true, beq_iff_eq, bne_iff_ne]; omega
      rw [HQ.out]
      clear HQ h1 h2
      go_enter Tryz.func32, Tryz.ntmps32
      go_upto_region 1 with fail
      rw [← hX]
      clear hX
      go_wp2
      go_ret
      exact ⟨rfl, BX.out⟩
    · have d2 : (m.kind == 3) = false := beq_eq_false_iff_ne.2 h2
      by_cases h3 : m.kind = 5
      · have d3 : (m.kind == 5) = true := by simp [h3]
        have HQ : Hid (hc5 m = true) := by show _ = true; simp only [hc5, Bool.and_eq_true, Bool.or_eq_true, beq_iff_eq, bne_iff_ne]; omega
        rw [HQ.out]
        clear HQ h1 h2 h3
        go_enter Tryz.func32, Tryz.ntmps32
        go_upto_region 1 with fail
        rw [← hX]
        clear hX
        go_wp2
        go_ret
        exact ⟨rfl, BX.out⟩
      · have d3 : (m.kind == 5) = false := beq_eq_false_iff_ne.2 h3
        by_cases h4 : m.kind = 7
        · have d4 : (m.kind == 7) = true := by simp [h4]
          by_cases h5 : m.st = 0
          · have d5 : (m.st != 0) = false := by simp [h5]
            have HQ : Hid (hc5 m = false) := by show _ = false; rw [Bool.eq_false_iff]; intro h; simp only [hc5, Bool.and_eq_true, Bool.or_eq_true, beq_iff_eq, bne_iff_ne] at h; omega
            rw [HQ.out]
            clear HQ h1 h2 h3 h4 h5
            go_enter Tryz.func32, Tryz.ntmps32
            go_upto_region 1 with fail
            rw [← hX]
            clear hX
            go_wp2
            go_ret
            exact ⟨rfl, BX.out⟩
          · have d5 : (m.st != 0) = true := by simp [h5]
            have HQ : Hid (hc5 m = true) := by show _ = true; simp only [hc5, Bool.and_eq_true, Bool.or_eq_true, beq_iff_eq, bne_iff_ne]; omega
            rw [HQ.out]
            clear HQ h1 h2 h3 h4 h5
            go_enter Tryz.func32, Tryz.ntmps32
            go_upto_region 1 with fail
            rw [← hX]
            clear hX
            go_wp2
            go_ret
            exact ⟨rfl, BX.out⟩
        · have d4 : (m.kind == 7) = false := beq_eq_false_iff_ne.2 h4
          have HQ : Hid (hc5 m = false) := by show _ = false; rw [Bool.eq_false_iff]; intro h; simp only [hc5, Bool.and_eq_true, Bool.or_eq_true, beq_iff_eq, bne_iff_ne] at h; omega
          rw [HQ.out]
          clear HQ h1 h2 h3 h4
          go_enter Tryz.func32, Tryz.ntmps32
          go_upto_region 1 with fail
          rw [← hX]
          clear hX
          go_wp2
          go_ret
          exact ⟨rfl, BX.out⟩
set_option maxHeartbeats 1000000 in
set_option maxRecDepth 100000 in
theorem nb5_any (m : Ms) (u : Value) (w : World) : Calls Tryz.prog 34 #[.agg (mgc m u).toArray] w fun e w' => e = .returned (.bool (nb5 m)) ∧ Below w.heap.size w w' := by
  obtain ⟨X, hX⟩ : ∃ X, X = w.alloc (.cells (mgc m u).toArray 30) := ⟨_, rfl⟩
  have Q : Hid (Blk X w.heap.size (mgc m u)) := by rw [hX]; exact blk_new w 30 (mgc m u)
  have BX : Hid (Below w.heap.size w X) := by rw [hX]; exact (Below.refl _ w).alloc (Nat.le_refl _) _
  have c_X_kind : X.cell? ⟨w.heap.size, 0, none⟩ = some (.int .i64 m.kind) := Q.out.cell 0 _ rfl
  have c_X_st : X.cell? ⟨w.heap.size, 7, none⟩ = some (.int .i64 m.st) := Q.out.cell 7 _ rfl
  by_cases h1 : m.kind = 1
  · have d1 : (m.kind == 1) = true := by simp [h1]
    have HQ : Hid (nb5 m = true) := by show _ = true; simp only [nb5, Bool.and_eq_true, Bool.or_eq_true, beq_iff_eq]; omega
    rw [HQ.out]
    clear HQ h1
    go_enter Tryz.func34, Tryz.ntmps34
    go_upto_region 1 with fail
    rw [← hX]
    clear hX
    go_wp2
    go_ret
    exact ⟨rfl, BX.out⟩
  · have d1 : (m.kind == 1) = false := beq_eq_false_iff_ne.2 h1
    by_cases h2 : m.kind = 7
    · have d2 : (m.kind == 7) = true := by simp [h2]
      by_cases h3 : m.st = 1
      · have d3 : (m.st == 1) = true := by simp [h3]
        have HQ : Hid (nb5 m = true) := by show _ = true; simp only [nb5, Bool.and_eq_true, Bool.or_eq_true, beq_iff_eq]; omega
        rw [HQ.out]
        clear HQ h1 h2 h3
        go_enter Tryz.func34, Tryz.ntmps34
        go_upto_region 1 with fail
        rw [← hX]
        clear hX
        go_wp2
        go_ret
        exact ⟨rfl, BX.out⟩
      · have d3 : (m.st == 1) = false := beq_eq_false_iff_ne.2 h3
        have HQ : Hid (nb5 m = false) := by show _ = false; rw [Bool.eq_false_iff]; intro h; simp only [nb5, Bool.and_eq_true, Bool.or_eq_true, beq_iff_eq] at h; omega
        rw [HQ.out]
        clear HQ h1 h2 h3
        go_enter Tryz.func34, Tryz.ntmps34
        go_upto_region 1 with fail
        rw [← hX]
        clear hX
        go_wp2
        go_ret
        exact ⟨rfl, BX.out⟩
    · have d2 : (m.kind == 7) = false := beq_eq_false_iff_ne.2 h2
      have HQ : Hid (nb5 m = false) := by show _ = false; rw [Bool.eq_false_iff]; intro h; simp only [nb5, Bool.and_eq_true, Bool.or_eq_true, beq_iff_eq] at h; omega
      rw [HQ.out]
      clear HQ h1 h2
      go_enter Tryz.func34, Tryz.ntmps34
      go_upto_region 1 with fail
      rw [← hX]
      clear hX
      go_wp2
      go_ret
      exact ⟨rfl, BX.out⟩
set_option maxHeartbeats 1000000 in
set_option maxRecDepth 100000 in
theorem hs5_any (m : Ms) (u : Value) (w : World) : Calls Tryz.prog 35 #[.agg (mgc m u).toArray] w fun e w' => e = .returned (.bool (hs5 m)) ∧ Below w.heap.size w w' := by
  obtain ⟨X, hX⟩ : ∃ X, X = w.alloc (.cells (mgc m u).toArray 30) := ⟨_, rfl⟩
  have Q : Hid (Blk X w.heap.size (mgc m u)) := by rw [hX]; exact blk_new w 30 (mgc m u)
  have BX : Hid (Below w.heap.size w X) := by rw [hX]; exact (Below.refl _ w).alloc (Nat.le_refl _) _
  go_enter Tryz.func35, Tryz.ntmps35
  go_upto_region 1 with fail
  rw [← hX]
  clear hX
  go_wp2_with (first | (refine wpList_load_mid rfl 30 _ rfl w.heap.size 0 rfl (mgc m u) _ Q.out.range Tryz.underlying30 rfl (by kernel_rfl) ?_))
  refine (hc5_any m u _).mono ?_
  rintro e w1 ⟨rfl, hb⟩
  have B1 : Hid (Below w.heap.size w w1) := BX.out.trans (hb.mono BX.out.size)
  have Q1 : Hid (Blk w1 w.heap.size (mgc m u)) := Q.out.on hb
  have c_w1_kind : w1.cell? ⟨w.heap.size, 0, none⟩ = some (.int .i64 m.kind) := Q1.out.cell 0 _ rfl
  clear hb Q BX
  obtain ⟨c, hc⟩ : ∃ c, Hid (hc5 m = c) := ⟨_, rfl⟩
  have HQ : Hid (hs5 m = (c || (m.kind == 2))) := by show _ = _; unfold hs5; rw [hc.out]
  rw [hc.out]
  cases c with
  | true =>
    go_wp2
    go_ret
    exact ⟨by rw [HQ.out]; rfl, B1.out⟩
  | false =>
    by_cases h2 : m.kind = 2
    · have d2 : (m.kind == 2) = true := by simp [h2]
      have hv : Hid ((false || (m.kind == 2)) = true) := by show _ = true; rw [d2]; rfl
      clear h2
      go_wp2
      go_ret
      exact ⟨by rw [HQ.out, hv.out]; rfl, B1.out⟩
    · have d2 : (m.kind == 2) = false := beq_eq_false_iff_ne.2 h2
      have hv : Hid ((false || (m.kind == 2)) = false) := by show _ = false; rw [d2]; rfl
      clear h2
      go_wp2
      go_ret
      exact ⟨by rw [HQ.out, hv.out]; rfl, B1.out⟩
set_option maxHeartbeats 1000000 in
set_option maxRecDepth 100000 in
theorem vo5_any (n : Int) (m : Ms) (u : Value) (w : World) : Calls Tryz.prog 30 #[.int .i64 n, .agg (mgc m u).toArray] w fun e w' => e = .returned (.bool (voteB n m.row m.x m.y m.st m.sm m.p m.q)) ∧ Below w.heap.size w w' := by
  obtain ⟨X, hX⟩ : ∃ X, X = w.alloc (.cells (mgc m u).toArray 30) := ⟨_, rfl⟩
  have Q : Hid (Blk X w.heap.size (mgc m u)) := by rw [hX]; exact blk_new w 30 (mgc m u)
  have BX : Hid (Below w.heap.size w X) := by rw [hX]; exact (Below.refl _ w).alloc (Nat.le_refl _) _
  have c_X_row : X.cell? ⟨w.heap.size, 1, none⟩ = some (.int .i64 m.row) := Q.out.cell 1 _ rfl
  have c_X_num : X.cell? ⟨w.heap.size, 2, none⟩ = some (.int .i64 m.num) := Q.out.cell 2 _ rfl
  have c_X_x : X.cell? ⟨w.heap.size, 3, none⟩ = some (.int .i64 m.x) := Q.out.cell 3 _ rfl
  have c_X_y : X.cell? ⟨w.heap.size, 4, none⟩ = some (.int .i64 m.y) := Q.out.cell 4 _ rfl
  have c_X_p : X.cell? ⟨w.heap.size, 5, none⟩ = some (.int .i64 m.p) := Q.out.cell 5 _ rfl
  have c_X_q : X.cell? ⟨w.heap.size, 6, none⟩ = some (.int .i64 m.q) := Q.out.cell 6 _ rfl
  have c_X_st : X.cell? ⟨w.heap.size, 7, none⟩ = some (.int .i64 m.st) := Q.out.cell 7 _ rfl
  have c_X_sm : X.cell? ⟨w.heap.size, 8, none⟩ = some (.bool m.sm) := Q.out.cell 8 _ rfl
  obtain ⟨z, hz⟩ : ∃ z, Hid (voteB n m.row m.x m.y m.st m.sm m.p m.q = z) := ⟨_, rfl⟩
  rw [hz.out]
  obtain ⟨b1, hb1⟩ : ∃ b1, Hid (balB n m.row m.p m.q = b1) := ⟨_, rfl⟩
  obtain ⟨b2, hb2⟩ : ∃ b2, Hid (belB m.p m.q m.x m.y = b2) := ⟨_, rfl⟩
  obtain ⟨sm, hsm⟩ : ∃ sm, Hid (m.sm = sm) := ⟨_, rfl⟩
  have hE : Hid (z = ((m.st == 1 || m.st == 2) && (b1 && (b2 && ((m.st == 1 && m.p == 0) || !sm))))) := by show _ = _; rw [← hz.out, ← hb1.out, ← hb2.out, ← hsm.out]; rfl
  clear hz
  by_cases h1 : m.st = 1
  · have d1 : (m.st != 1) = false := by simp [h1]
    have d1' : (m.st == 1) = true := by simp [h1]
    have hh := hide h1
    clear h1
    go_enter Tryz.func30, Tryz.ntmps30
    go_upto_region 1 with fail
    rw [← hX]
    clear hX
    go_wp2_with fail
    refine (ib5_any n m.row m.num m.p m.q _).mono ?_
    rintro e w1 ⟨rfl, hb⟩
    rw [hb1.out]
    have B1 : Hid (Below w.heap.size w w1) := BX.out.trans (hb.mono BX.out.size)
    have Q1 : Hid (Blk w1 w.heap.size (mgc m u)) := Q.out.on hb
    have c_w1_x : w1.cell? ⟨w.heap.size, 3, none⟩ = some (.int .i64 m.x) := Q1.out.cell 3 _ rfl
    have c_w1_y : w1.cell? ⟨w.heap.size, 4, none⟩ = some (.int .i64 m.y) := Q1.out.cell 4 _ rfl
    have c_w1_p : w1.cell? ⟨w.heap.size, 5, none⟩ = some (.int .i64 m.p) := Q1.out.cell 5 _ rfl
    have c_w1_q : w1.cell? ⟨w.heap.size, 6, none⟩ = some (.int .i64 m.q) := Q1.out.cell 6 _ rfl
    have c_w1_st : w1.cell? ⟨w.heap.size, 7, none⟩ = some (.int .i64 m.st) := Q1.out.cell 7 _ rfl
    clear hb Q BX
    cases b1 with
    | false =>
      have HF : Hid (z = false) := by show _ = _; rw [hE.out]; simp [hh.out]
      clear hE
      go_wp2
      go_ret
      exact ⟨by rw [HF.out]; rfl, B1.out⟩
    | true =>
      go_wp2_with fail
      refine (be5_any m.p m.q m.x m.y _).mono ?_
      rintro e w2 ⟨rfl, hb⟩
      rw [hb2.out]
      have B2 : Hid (Below w.heap.size w w2) := B1.out.trans (hb.mono B1.out.size)
      have Q2 : Hid (Blk w2 w.heap.size (mgc m u)) := Q1.out.on hb
      have c_w2_p : w2.cell? ⟨w.heap.size, 5, none⟩ = some (.int .i64 m.p) := Q2.out.cell 5 _ rfl
      have c_w2_st : w2.cell? ⟨w.heap.size, 7, none⟩ = some (.int .i64 m.st) := Q2.out.cell 7 _ rfl
      have c_w2_sm : w2.cell? ⟨w.heap.size, 8, none⟩ = some (.bool sm) := by rw [← hsm.out]; exact Q2.out.cell 8 _ rfl
      clear hb Q1 B1 hsm
      cases b2 with
      | false =>
        have HF : Hid (z = false) := by show _ = _; rw [hE.out]; simp [hh.out]
        clear hE
        go_wp2
        go_ret
        exact ⟨by rw [HF.out]; rfl, B2.out⟩
      | true =>
        cases sm with
        | false =>
          have HF : Hid (z = true) := by show _ = _; rw [hE.out]; simp [hh.out]
          clear hE
          go_wp2
          go_ret
          exact ⟨by rw [HF.out]; rfl, B2.out⟩
        | true =>
          by_cases h3 : m.p = 0
          · have d3 : (m.p == 0) = true := by simp [h3]
            have HF : Hid (z = true) := by show _ = _; rw [hE.out]; simp [hh.out, h3]
            clear hE
            clear h3
            go_wp2
            go_ret
            exact ⟨by rw [HF.out]; rfl, B2.out⟩
          · have d3 : (m.p == 0) = false := beq_eq_false_iff_ne.2 h3
            have HF : Hid (z = false) := by show _ = _; rw [hE.out]; simp [hh.out, h3]
            clear hE
            clear h3
            go_wp2
            go_ret
            exact ⟨by rw [HF.out]; rfl, B2.out⟩
  · have d1 : (m.st != 1) = true := by simp [h1]
    have d1' : (m.st == 1) = false := beq_eq_false_iff_ne.2 h1
    by_cases h2 : m.st = 2
    · have d2 : (m.st != 2) = false := by simp [h2]
      have hh := hide h1
      have hh2 := hide h2
      clear h1 h2
      go_enter Tryz.func30, Tryz.ntmps30
      go_upto_region 1 with fail
      rw [← hX]
      clear hX
      go_wp2_with fail
      refine (ib5_any n m.row m.num m.p m.q _).mono ?_
      rintro e w1 ⟨rfl, hb⟩
      rw [hb1.out]
      have B1 : Hid (Below w.heap.size w w1) := BX.out.trans (hb.mono BX.out.size)
      have Q1 : Hid (Blk w1 w.heap.size (mgc m u)) := Q.out.on hb
      have c_w1_x : w1.cell? ⟨w.heap.size, 3, none⟩ = some (.int .i64 m.x) := Q1.out.cell 3 _ rfl
      have c_w1_y : w1.cell? ⟨w.heap.size, 4, none⟩ = some (.int .i64 m.y) := Q1.out.cell 4 _ rfl
      have c_w1_p : w1.cell? ⟨w.heap.size, 5, none⟩ = some (.int .i64 m.p) := Q1.out.cell 5 _ rfl
      have c_w1_q : w1.cell? ⟨w.heap.size, 6, none⟩ = some (.int .i64 m.q) := Q1.out.cell 6 _ rfl
      have c_w1_st : w1.cell? ⟨w.heap.size, 7, none⟩ = some (.int .i64 m.st) := Q1.out.cell 7 _ rfl
      clear hb Q BX
      cases b1 with
      | false =>
        have HF : Hid (z = false) := by show _ = _; rw [hE.out]; simp [hh2.out]
        clear hE
        go_wp2
        go_ret
        exact ⟨by rw [HF.out]; rfl, B1.out⟩
      | true =>
        go_wp2_with fail
        refine (be5_any m.p m.q m.x m.y _).mono ?_
        rintro e w2 ⟨rfl, hb⟩
        rw [hb2.out]
        have B2 : Hid (Below w.heap.size w w2) := B1.out.trans (hb.mono B1.out.size)
        have Q2 : Hid (Blk w2 w.heap.size (mgc m u)) := Q1.out.on hb
        have c_w2_p : w2.cell? ⟨w.heap.size, 5, none⟩ = some (.int .i64 m.p) := Q2.out.cell 5 _ rfl
        have c_w2_st : w2.cell? ⟨w.heap.size, 7, none⟩ = some (.int .i64 m.st) := Q2.out.cell 7 _ rfl
        have c_w2_sm : w2.cell? ⟨w.heap.size, 8, none⟩ = some (.bool sm) := by rw [← hsm.out]; exact Q2.out.cell 8 _ rfl
        clear hb Q1 B1 hsm
        cases b2 with
        | false =>
          have HF : Hid (z = false) := by show _ = _; rw [hE.out]; simp [hh2.out]
          clear hE
          go_wp2
          go_ret
          exact ⟨by rw [HF.out]; rfl, B2.out⟩
        | true =>
          cases sm with
          | false =>
            have HF : Hid (z = true) := by show _ = _; rw [hE.out]; simp [hh2.out]
            clear hE
            go_wp2
            go_ret
            exact ⟨by rw [HF.out]; rfl, B2.out⟩
          | true =>
            have HF : Hid (z = false) := by show _ = _; rw [hE.out]; simp [hh2.out]
            clear hE
            go_wp2
            go_ret
            exact ⟨by rw [HF.out]; rfl, B2.out⟩
    · have d2 : (m.st != 2) = true := by simp [h2]
      have HF : Hid (z = false) := by show _ = _; rw [hE.out]; simp [h1, h2]
      rw [HF.out]
      clear h1 h2 HF hE
      go_enter Tryz.func30, Tryz.ntmps30
      go_upto_region 1 with fail
      rw [← hX]
      clear hX
      go_wp2
      go_ret
      exact ⟨rfl, BX.out⟩
theorem hb5_any' (k : Int) (w : World) : Calls Tryz.prog 27 #[.int .i64 k] w fun e w' => e = .returned (.bool (hb5 k)) ∧ Below w.heap.size w w' := (hb5_any k w).mono fun _ _ ⟨h, e⟩ => ⟨h, e ▸ Below.refl _ _⟩
theorem la5_any' (k : Int) (w : World) : Calls Tryz.prog 29 #[.int .i64 k] w fun e w' => e = .returned (.bool (la5 k)) ∧ Below w.heap.size w w' := (la5_any k w).mono fun _ _ ⟨h, e⟩ => ⟨h, e ▸ Below.refl _ _⟩
theorem ik5_any' (v k : Int) (w : World) : Calls Tryz.prog 24 #[.int .i64 v, .int .i64 k] w fun e w' => e = .returned (.bool (ik5 v k)) ∧ Below w.heap.size w w' := (ik5_any v k w).mono fun _ _ ⟨h, e⟩ => ⟨h, e ▸ Below.refl _ _⟩
theorem sf5_any' (noop : Bool) (s : Int) (w : World) : Calls Tryz.prog 36 #[.bool noop, .int .i64 s] w fun e w' => e = .returned (.bool (seqB noop s)) ∧ Below w.heap.size w w' := (sf5_any noop s w).mono fun _ _ ⟨h, e⟩ => ⟨h, e ▸ Below.refl _ _⟩
end Go.Proofs.YtdokagebfeejbaaGreatDoor
/- The leaves of the scan's shape: one for each kind of message. -/
namespace Go.Proofs.YtdokagebfeejbaaGreatDoor
open Go.RowKit Go.Wire1

section
variable (w0 : World) (g : Nat) (v n : Int) (l : List Int)
set_option maxHeartbeats 8000000 in
set_option maxRecDepth 100000 in
theorem shape_bal4 (a : Nat → Addr) (f : Int) (w : World) (row num : Int) (l1 : List Int) (f1 : Int) (x y : Int) (l2 : List Int) (f2 : Int) (he : Errs w0 a) (hKc : Knd w0) (hK : Kmd w0) (h : Scx w0 w g (Vf v n) l f) (e1 : Hid (iHead v n l f = ((4, row, num), l1, f1))) (e2 : Hid (iBalF v n 4 row l1 f1 = ((x, y), l2, f2))) :
    Calls Tryz.prog 39 #[.pointer (some ⟨g, 0, none⟩)] w fun r w' => ∃ u, r = .returned (.iface 98 (.agg #[.int .i64 4, .int .i64 row, .int .i64 num, .int .i64 x, .int .i64 y])) ∧ DV w' w.heap.size u [] ∧ Touch g w w' ∧ Scx w0 w' g (Vf v n) l2 f2 := by
  have HX := hide h
  have HE := hide he
  have HKm := hide hK
  have HKc := hide hKc
  have hgl := h.lt
  have HW := hide h.low.size
  clear h he hK hKc
  go_enter Tryz.func39, Tryz.ntmps39
  go_wp2_with fail
  refine (shead_any w0 g v n l a f _ HE.out HKm.out HX.out).mono ?_
  rintro r w1 ⟨rfl, T1, S1⟩
  rw [e1.out] at S1 ⊢
  simp only at S1 ⊢
  obtain ⟨X, hX⟩ : ∃ X, X = w1.alloc (.cells #[.int .i64 4, .int .i64 row, .int .i64 num] 88) := ⟨_, rfl⟩
  have BX : Hid (Below w1.heap.size w1 X) := by rw [hX]; exact (Below.refl _ _).alloc (Nat.le_refl _) _
  have HT1 : Hid (Touch g w X) := T1.trans (Touch.ofBelow BX.out)
  have HS1 : Hid (Scx w0 X g (Vf v n) l1 f1) := S1.below BX.out
  have HH1 : Hid (Blk X w1.heap.size [.int .i64 4, .int .i64 row, .int .i64 num]) := by rw [hX]; exact blk_new w1 88 [.int .i64 4, .int .i64 row, .int .i64 num]
  have hw1 : w.heap.size ≤ w1.heap.size := T1.size
  clear T1 S1 HX BX
  have h0 := HH1.out.cell 0 _ rfl
  have h1 := HH1.out.cell 1 _ rfl
  have h2 := HH1.out.cell 2 _ rfl
  go_wp2
  rw [← hX]
  clear hX
  refine wp_region_noPanic ?_
  refine wp_region_held_drew (S := (fun w' => w'.cell? ⟨w1.heap.size, 0, none⟩ = some (.int .i64 4) ∧ w'.cell? ⟨w1.heap.size, 1, none⟩ = some (.int .i64 row) ∧ w'.cell? ⟨w1.heap.size, 2, none⟩ = some (.int .i64 num))) (by kernel_rfl) ⟨h0, h1, h2⟩ (fun hHeld => ?_)
  refine tk 0 ?_
  refine tk 1 ?_
  refine tk 2 ?_
  refine wpAnyH_ready (rs := [3]) (by kernel_rfl) (by simp) ?_
  refine AllReadyH.cons rfl (fun K hK => ?_) AllReadyH.nil
  rw [if_pos (by rfl)]
  go_wp2_with fail
  refine (sballot_any w0 g v n l1 a 4 row num f1 _ (by omega) HE.out HKm.out HS1.out.drew).mono ?_
  rintro e w2 ⟨rfl, T2, S2⟩
  rw [e2.out] at S2 ⊢
  simp only at S2 ⊢
  have H2 := HH1.out.drew.touch T2 (by omega)
  refine hK.out _ _ ⟨H2.cell 0 _ rfl, H2.cell 1 _ rfl, H2.cell 2 _ rfl⟩ (fun hHeld => ?_)
  clear hK K
  try simp only [Act.put, List.getElem_toArray, List.getElem_cons_succ, List.getElem_cons_zero, List.setIfInBounds_toArray, List.set_cons_zero, List.set_cons_succ]
  refine tk 4 ?_
  refine tk 5 ?_
  refine tk 6 ?_
  refine wpAnyH_done (by kernel_rfl) ?_ _
  refine NoPanic.normal ?_
  have R : Hid (Touch g w w2 ∧ Scx w0 w2 g (Vf v n) l2 f2) := ⟨HT1.out.drew.trans T2, S2⟩
  clear T2 S2 H2 hHeld HS1 HT1 HH1 h0 h1 h2
  go_wp2
  go_ret
  exact ⟨.slice none 0 0, rfl, DV.nil _ _, R.out⟩
end
end Go.Proofs.YtdokagebfeejbaaGreatDoor
/- The leaf of the scan's shape for a Nack. -/
namespace Go.Proofs.YtdokagebfeejbaaGreatDoor
open Go.RowKit Go.Wire1

section
variable (w0 : World) (g : Nat) (v n : Int) (l : List Int)
end
end Go.Proofs.YtdokagebfeejbaaGreatDoor
