/- Texts of the proof, joined. -/
import Derived.Test.YtdokagebfeejbaaGreatDoorJ27
import Derived.Test.YtdokagebfeejbaaGreatDoorJ29
/- The document's own Check of messages: leaves (1a, 1b). -/
namespace Go.Proofs.YtdokagebfeejbaaGreatDoor
open Go.RowKit Go.Wire1

set_option maxHeartbeats 4000000 in
set_option maxRecDepth 100000 in
theorem ck5_1a (v n : Int) (m : Ms) (ua : Option Addr) (uk uc : Nat) (w : World) (hv : v = 1 ∨ v = 2) (hn : 1 ≤ n ∧ n ≤ 7) (hik : ik5 v m.kind = true) (hex : extraM m = false) (hii : instB n m.row m.num = true) (h : m.kind = 1) (hI : SegI w ua uk m.dl) : Calls Tryz.prog 8 #[.int .i64 v, .int .i64 n, .agg (mgc m (.slice ua uk uc)).toArray] w fun e w' => e = .returned (.int .i64 (chkM v n m)) ∧ Below w.heap.size w w' := by
  have HT : Hid (chkM v n m = orL [unl (balB n m.row m.x m.y) 53, (chk v m.c : Int), unl (!(m.c.kind == 0)) 57, unl (seqB (m.c.kind == 0) m.sq) 55, unl (depsB n (m.c.kind == 0) m.dl) 56]) := tail_1a v n m hv hn hik hex hii h
  have HKB : Hid (hb5 m.kind = true) := by rw [h]; rfl
  have HLA : Hid (la5 m.kind = false) := by rw [h]; rfl
  have HHC : Hid (hc5 m = true) := by show _ = _; unfold hc5; rw [h]; rfl
  have HHS : Hid (hs5 m = true) := by show _ = _; unfold hs5; rw [HHC.out, h]; rfl
  have HNB : Hid (nb5 m = true) := by show _ = _; unfold nb5; rw [h]; rfl
  have k7 : (m.kind == 7) = false := by rw [h]; rfl
  have k8 : (m.kind == 8) = false := by rw [h]; rfl
  have n1 : decide (n < 1) = false := decide_eq_false (by omega)
  have n7 : decide (7 < n) = false := decide_eq_false (by omega)
  have HIK := hide hik
  have HEX := hide hex
  have HII := hide hii
  have HI := hide hI
  have HU := hide (hI.1.symm)
  obtain ⟨z, hz⟩ : ∃ z, Hid (chkM v n m = z) := ⟨_, rfl⟩
  rw [hz.out] at HT ⊢
  clear h hik hex hii hI hn hz
  obtain ⟨b1, hb1⟩ : ∃ b, Hid (balB n m.row m.x m.y = b) := ⟨_, rfl⟩
  obtain ⟨cv, hcv⟩ : ∃ b, Hid (chk v m.c = b) := ⟨_, rfl⟩
  have HE : Hid (z = orL [unl (balB n m.row m.x m.y) 53, (chk v m.c : Int), unl (!(m.c.kind == 0)) 57, unl (seqB (m.c.kind == 0) m.sq) 55, unl (depsB n (m.c.kind == 0) m.dl) 56]) := HT
  rw [hb1.out, hcv.out] at HE
  clear HT
  obtain ⟨X, hX⟩ : ∃ X, X = w.alloc (.cells (mgc m (.slice ua uk uc)).toArray 30) := ⟨_, rfl⟩
  have M0 : Hid (Blk X w.heap.size (mgc m (.slice ua uk uc))) := by rw [hX]; exact blk_new w 30 (mgc m (.slice ua uk uc))
  have B0 : Hid (Below w.heap.size w X) := by rw [hX]; exact (Below.refl _ w).alloc (Nat.le_refl _) _
  have c_X_kind : X.cell? ⟨w.heap.size, 0, none⟩ = some (.int .i64 m.kind) := M0.out.cell 0 _ rfl
  rcases hv with rfl | rfl
  all_goals
    go_enter Tryz.func8, Tryz.ntmps8
    go_upto_region 1 with fail
    rw [← hX]
    clear hX
    go_wp2_with fail
    refine (ik5_any' _ m.kind _).mono ?_
    rintro e w1 ⟨rfl, hb⟩
    rw [HIK.out]
    have B1 : Hid (Below w.heap.size w w1) := B0.out.trans (hb.mono B0.out.size)
    have M1 : Hid (Blk w1 w.heap.size (mgc m (.slice ua uk uc))) := M0.out.on hb
    clear hb M0 B0
    go_wp2_with (first | (refine wpList_load_mid rfl 30 _ rfl w.heap.size 0 rfl (mgc m (.slice ua uk uc)) _ M1.out.range Tryz.underlying30 rfl (by kernel_rfl) ?_) | (refine wpList_load_want (by rfl) 30 _ rfl w.heap.size 0 rfl (mgc m (.slice ua uk uc)) _ M1.out.range Tryz.underlying30 rfl (by kernel_rfl) ?_))
    refine (ex5_any _ m ua uk uc _ HU.out HIK.out).mono ?_
    rintro e w2 ⟨rfl, hb⟩
    rw [HEX.out]
    have B2 : Hid (Below w.heap.size w w2) := B1.out.trans (hb.mono B1.out.size)
    have M2 : Hid (Blk w2 w.heap.size (mgc m (.slice ua uk uc))) := M1.out.on hb
    clear hb M1 B1
    have c_w2_row : w2.cell? ⟨w.heap.size, 1, none⟩ = some (.int .i64 m.row) := M2.out.cell 1 _ rfl
    have c_w2_num : w2.cell? ⟨w.heap.size, 2, none⟩ = some (.int .i64 m.num) := M2.out.cell 2 _ rfl
    clear HEX HIK
    go_wp2_with fail
    refine (ii5_any n m.row m.num _).mono ?_
    rintro e w3 ⟨rfl, hb⟩
    rw [HII.out]
    have B3 : Hid (Below w.heap.size w w3) := B2.out.trans (hb.mono B2.out.size)
    have M3 : Hid (Blk w3 w.heap.size (mgc m (.slice ua uk uc))) := M2.out.on hb
    clear hb M2 B2
    have c_w3_kind : w3.cell? ⟨w.heap.size, 0, none⟩ = some (.int .i64 m.kind) := M3.out.cell 0 _ rfl
    clear HII
    go_wp2_with fail
    refine (hb5_any' m.kind _).mono ?_
    rintro e w4 ⟨rfl, hb⟩
    rw [HKB.out]
    have B4 : Hid (Below w.heap.size w w4) := B3.out.trans (hb.mono B3.out.size)
    have M4 : Hid (Blk w4 w.heap.size (mgc m (.slice ua uk uc))) := M3.out.on hb
    clear hb M3 B3
    have c_w4_kind : w4.cell? ⟨w.heap.size, 0, none⟩ = some (.int .i64 m.kind) := M4.out.cell 0 _ rfl
    have c_w4_row : w4.cell? ⟨w.heap.size, 1, none⟩ = some (.int .i64 m.row) := M4.out.cell 1 _ rfl
    have c_w4_num : w4.cell? ⟨w.heap.size, 2, none⟩ = some (.int .i64 m.num) := M4.out.cell 2 _ rfl
    have c_w4_x : w4.cell? ⟨w.heap.size, 3, none⟩ = some (.int .i64 m.x) := M4.out.cell 3 _ rfl
    have c_w4_y : w4.cell? ⟨w.heap.size, 4, none⟩ = some (.int .i64 m.y) := M4.out.cell 4 _ rfl
    clear HKB
    go_wp2_with fail
    refine (ib5_any n m.row m.num m.x m.y _).mono ?_
    rintro e w5 ⟨rfl, hb⟩
    rw [hb1.out]
    have B5 : Hid (Below w.heap.size w w5) := B4.out.trans (hb.mono B4.out.size)
    have M5 : Hid (Blk w5 w.heap.size (mgc m (.slice ua uk uc))) := M4.out.on hb
    clear hb M4 B4
    have c_w5_kind : w5.cell? ⟨w.heap.size, 0, none⟩ = some (.int .i64 m.kind) := M5.out.cell 0 _ rfl
    clear hb1
    cases b1 with
    | false =>
      have HF : Hid (z = 53) := by show _ = _; rw [HE.out]; simp [orL, unl]
      clear HE
      go_wp2
      go_ret
      exact ⟨by rw [HF.out]; rfl, B5.out⟩
    | true =>
      go_wp2_with fail
      refine (la5_any' m.kind _).mono ?_
      rintro e w6 ⟨rfl, hb⟩
      rw [HLA.out]
      have B6 : Hid (Below w.heap.size w w6) := B5.out.trans (hb.mono B5.out.size)
      have M6 : Hid (Blk w6 w.heap.size (mgc m (.slice ua uk uc))) := M5.out.on hb
      clear hb M5 B5
      have c_w6_kind : w6.cell? ⟨w.heap.size, 0, none⟩ = some (.int .i64 m.kind) := M6.out.cell 0 _ rfl
      have c_w6_x : w6.cell? ⟨w.heap.size, 3, none⟩ = some (.int .i64 m.x) := M6.out.cell 3 _ rfl
      have c_w6_st : w6.cell? ⟨w.heap.size, 7, none⟩ = some (.int .i64 m.st) := M6.out.cell 7 _ rfl
      have c_w6_p : w6.cell? ⟨w.heap.size, 5, none⟩ = some (.int .i64 m.p) := M6.out.cell 5 _ rfl
      have c_w6_q : w6.cell? ⟨w.heap.size, 6, none⟩ = some (.int .i64 m.q) := M6.out.cell 6 _ rfl
      have c_w6_row : w6.cell? ⟨w.heap.size, 1, none⟩ = some (.int .i64 m.row) := M6.out.cell 1 _ rfl
      have c_w6_num : w6.cell? ⟨w.heap.size, 2, none⟩ = some (.int .i64 m.num) := M6.out.cell 2 _ rfl
      clear HLA
      go_wp2_with (first | (refine wpList_load_mid rfl 30 _ rfl w.heap.size 0 rfl (mgc m (.slice ua uk uc)) _ M6.out.range Tryz.underlying30 rfl (by kernel_rfl) ?_) | (refine wpList_load_want (by rfl) 30 _ rfl w.heap.size 0 rfl (mgc m (.slice ua uk uc)) _ M6.out.range Tryz.underlying30 rfl (by kernel_rfl) ?_))
      refine (hc5_any m (.slice ua uk uc) _).mono ?_
      rintro e w7 ⟨rfl, hb⟩
      rw [HHC.out]
      have B7 : Hid (Below w.heap.size w w7) := B6.out.trans (hb.mono B6.out.size)
      have M7 : Hid (Blk w7 w.heap.size (mgc m (.slice ua uk uc))) := M6.out.on hb
      clear hb M6 B6
      clear HHC
      obtain ⟨m_w7_0, m_w7_1, m_w7_2, m_w7_3, m_w7_4, m_w7_5, m_w7_6, m_w7_7⟩ := cells8 M7.out 9 rfl rfl rfl rfl rfl rfl rfl rfl
      by_cases hk0 : m.c.kind = 0
      · have dk : (m.c.kind == 0) = true := by simp [hk0]
        rw [dk] at HE
        clear hk0
        go_wp2_with fail
        refine (rcheck_any _ m.c _).mono ?_
        rintro e w8 ⟨rfl, hb⟩
        rw [hcv.out]
        have B8 : Hid (Below w.heap.size w w8) := B7.out.trans (hb.mono B7.out.size)
        have M8 : Hid (Blk w8 w.heap.size (mgc m (.slice ua uk uc))) := M7.out.on hb
        clear hb M7 B7
        by_cases hc0 : cv = 0
        · have d0 : ((cv : Int) != 0) = false := by simp [hc0]
          subst hc0
          go_wp2_with (first | (refine wpList_load_mid rfl 30 _ rfl w.heap.size 0 rfl (mgc m (.slice ua uk uc)) _ M8.out.range Tryz.underlying30 rfl (by kernel_rfl) ?_) | (refine wpList_load_want (by rfl) 30 _ rfl w.heap.size 0 rfl (mgc m (.slice ua uk uc)) _ M8.out.range Tryz.underlying30 rfl (by kernel_rfl) ?_))
          refine (nb5_any m (.slice ua uk uc) _).mono ?_
          rintro e w9 ⟨rfl, hb⟩
          rw [HNB.out]
          have B9 : Hid (Below w.heap.size w w9) := B8.out.trans (hb.mono B8.out.size)
          have M9 : Hid (Blk w9 w.heap.size (mgc m (.slice ua uk uc))) := M8.out.on hb
          clear hb M8 B8
          have HF : Hid (z = 57) := by show _ = _; rw [HE.out]; simp [orL, unl]
          clear HE
          go_wp2
          go_ret
          exact ⟨by rw [HF.out]; rfl, B9.out⟩
        · have d0 : ((cv : Int) != 0) = true := by simp [hc0]
          have HF : Hid (z = (cv : Int)) := by show _ = _; rw [HE.out]; simp [orL, unl, hc0]
          clear HE hc0 hcv
          go_wp2
          go_ret
          exact ⟨by rw [HF.out]; rfl, B8.out⟩
      · have dk : (m.c.kind == 0) = false := beq_eq_false_iff_ne.2 hk0
        rw [dk] at HE
        clear hk0
        go_wp2_with fail
        refine (rcheck_any _ m.c _).mono ?_
        rintro e w8 ⟨rfl, hb⟩
        rw [hcv.out]
        have B8 : Hid (Below w.heap.size w w8) := B7.out.trans (hb.mono B7.out.size)
        have M8 : Hid (Blk w8 w.heap.size (mgc m (.slice ua uk uc))) := M7.out.on hb
        clear hb M7 B7
        by_cases hc0 : cv = 0
        · have d0 : ((cv : Int) != 0) = false := by simp [hc0]
          subst hc0
          go_wp2_with (first | (refine wpList_load_mid rfl 30 _ rfl w.heap.size 0 rfl (mgc m (.slice ua uk uc)) _ M8.out.range Tryz.underlying30 rfl (by kernel_rfl) ?_) | (refine wpList_load_want (by rfl) 30 _ rfl w.heap.size 0 rfl (mgc m (.slice ua uk uc)) _ M8.out.range Tryz.underlying30 rfl (by kernel_rfl) ?_))
          refine (hs5_any m (.slice ua uk uc) _).mono ?_
          rintro e w9 ⟨rfl, hb⟩
          rw [HHS.out]
          have B9 : Hid (Below w.heap.size w w9) := B8.out.trans (hb.mono B8.out.size)
          have M9 : Hid (Blk w9 w.heap.size (mgc m (.slice ua uk uc))) := M8.out.on hb
          clear hb M8 B8
          have c_w9_sq : w9.cell? ⟨w.heap.size, 17, none⟩ = some (.int .i64 m.sq) := M9.out.cell 17 _ rfl
          obtain ⟨b5, hb5⟩ : ∃ b, Hid (seqB false m.sq = b) := ⟨_, rfl⟩
          obtain ⟨b6, hb6⟩ : ∃ b, Hid (depsB n false m.dl = b) := ⟨_, rfl⟩
          rw [hb5.out, hb6.out] at HE
          go_wp2_with fail
          refine (sf5_any' false m.sq _).mono ?_
          rintro e w10 ⟨rfl, hb⟩
          rw [hb5.out]
          have B10 : Hid (Below w.heap.size w w10) := B9.out.trans (hb.mono B9.out.size)
          have M10 : Hid (Blk w10 w.heap.size (mgc m (.slice ua uk uc))) := M9.out.on hb
          clear hb M9 B9
          have c_w10_u : w10.cell? ⟨w.heap.size, 18, none⟩ = some (.slice ua uk uc) := M10.out.cell 18 _ rfl
          clear hb5
          cases b5 with
          | false =>
            have HF : Hid (z = 55) := by show _ = _; rw [HE.out]; simp [orL, unl]
            clear HE
            go_wp2
            go_ret
            exact ⟨by rw [HF.out]; rfl, B10.out⟩
          | true =>
            go_wp2_with fail
            refine (df5_any' n false ua uk uc m.dl _ (HI.out.below B10.out (Nat.le_refl _))).mono ?_
            rintro e w11 ⟨rfl, hb⟩
            rw [hb6.out]
            have B11 : Hid (Below w.heap.size w w11) := B10.out.trans (hb.mono B10.out.size)
            have M11 : Hid (Blk w11 w.heap.size (mgc m (.slice ua uk uc))) := M10.out.on hb
            clear hb M10 B10
            clear hb6
            cases b6 with
            | false =>
              have HF : Hid (z = 56) := by show _ = _; rw [HE.out]; simp [orL, unl]
              clear HE
              go_wp2
              go_ret
              exact ⟨by rw [HF.out]; rfl, B11.out⟩
            | true =>
              have HF : Hid (z = 0) := by show _ = _; rw [HE.out]; simp [orL, unl]
              clear HE
              go_wp2
              go_ret
              exact ⟨by rw [HF.out]; rfl, B11.out⟩
        · have d0 : ((cv : Int) != 0) = true := by simp [hc0]
          have HF : Hid (z = (cv : Int)) := by show _ = _; rw [HE.out]; simp [orL, unl, hc0]
          clear HE hc0 hcv
          go_wp2
          go_ret
          exact ⟨by rw [HF.out]; rfl, B8.out⟩
set_option maxHeartbeats 4000000 in
set_option maxRecDepth 100000 in
theorem ck5_1b (v n : Int) (m : Ms) (ua : Option Addr) (uk uc : Nat) (w : World) (hv : v = 1 ∨ v = 2) (hn : 1 ≤ n ∧ n ≤ 7) (hik : ik5 v m.kind = true) (hex : extraM m = false) (hii : instB n m.row m.num = true) (h : m.kind = 3) (hI : SegI w ua uk m.dl) : Calls Tryz.prog 8 #[.int .i64 v, .int .i64 n, .agg (mgc m (.slice ua uk uc)).toArray] w fun e w' => e = .returned (.int .i64 (chkM v n m)) ∧ Below w.heap.size w w' := by
  have HT : Hid (chkM v n m = orL [unl (balB n m.row m.x m.y) 53, (chk v m.c : Int), unl (seqB (m.c.kind == 0) m.sq) 55, unl (depsB n (m.c.kind == 0) m.dl) 56]) := tail_1b v n m hv hn hik hex hii h
  have HKB : Hid (hb5 m.kind = true) := by rw [h]; rfl
  have HLA : Hid (la5 m.kind = false) := by rw [h]; rfl
  have HHC : Hid (hc5 m = true) := by show _ = _; unfold hc5; rw [h]; rfl
  have HHS : Hid (hs5 m = true) := by show _ = _; unfold hs5; rw [HHC.out, h]; rfl
  have HNB : Hid (nb5 m = false) := by show _ = _; unfold nb5; rw [h]; rfl
  have k7 : (m.kind == 7) = false := by rw [h]; rfl
  have k8 : (m.kind == 8) = false := by rw [h]; rfl
  have n1 : decide (n < 1) = false := decide_eq_false (by omega)
  have n7 : decide (7 < n) = false := decide_eq_false (by omega)
  have HIK := hide hik
  have HEX := hide hex
  have HII := hide hii
  have HI := hide hI
  have HU := hide (hI.1.symm)
  obtain ⟨z, hz⟩ : ∃ z, Hid (chkM v n m = z) := ⟨_, rfl⟩
  rw [hz.out] at HT ⊢
  clear h hik hex hii hI hn hz
  obtain ⟨b1, hb1⟩ : ∃ b, Hid (balB n m.row m.x m.y = b) := ⟨_, rfl⟩
  obtain ⟨cv, hcv⟩ : ∃ b, Hid (chk v m.c = b) := ⟨_, rfl⟩
  have HE : Hid (z = orL [unl (balB n m.row m.x m.y) 53, (chk v m.c : Int), unl (seqB (m.c.kind == 0) m.sq) 55, unl (depsB n (m.c.kind == 0) m.dl) 56]) := HT
  rw [hb1.out, hcv.out] at HE
  clear HT
  obtain ⟨X, hX⟩ : ∃ X, X = w.alloc (.cells (mgc m (.slice ua uk uc)).toArray 30) := ⟨_, rfl⟩
  have M0 : Hid (Blk X w.heap.size (mgc m (.slice ua uk uc))) := by rw [hX]; exact blk_new w 30 (mgc m (.slice ua uk uc))
  have B0 : Hid (Below w.heap.size w X) := by rw [hX]; exact (Below.refl _ w).alloc (Nat.le_refl _) _
  have c_X_kind : X.cell? ⟨w.heap.size, 0, none⟩ = some (.int .i64 m.kind) := M0.out.cell 0 _ rfl
  rcases hv with rfl | rfl
  all_goals
    go_enter Tryz.func8, Tryz.ntmps8
    go_upto_region 1 with fail
    rw [← hX]
    clear hX
    go_wp2_with fail
    refine (ik5_any' _ m.kind _).mono ?_
    rintro e w1 ⟨rfl, hb⟩
    rw [HIK.out]
    have B1 : Hid (Below w.heap.size w w1) := B0.out.trans (hb.mono B0.out.size)
    have M1 : Hid (Blk w1 w.heap.size (mgc m (.slice ua uk uc))) := M0.out.on hb
    clear hb M0 B0
    go_wp2_with (first | (refine wpList_load_mid rfl 30 _ rfl w.heap.size 0 rfl (mgc m (.slice ua uk uc)) _ M1.out.range Tryz.underlying30 rfl (by kernel_rfl) ?_) | (refine wpList_load_want (by rfl) 30 _ rfl w.heap.size 0 rfl (mgc m (.slice ua uk uc)) _ M1.out.range Tryz.underlying30 rfl (by kernel_rfl) ?_))
    refine (ex5_any _ m ua uk uc _ HU.out HIK.out).mono ?_
    rintro e w2 ⟨rfl, hb⟩
    rw [HEX.out]
    have B2 : Hid (Below w.heap.size w w2) := B1.out.trans (hb.mono B1.out.size)
    have M2 : Hid (Blk w2 w.heap.size (mgc m (.slice ua uk uc))) := M1.out.on hb
    clear hb M1 B1
    have c_w2_row : w2.cell? ⟨w.heap.size, 1, none⟩ = some (.int .i64 m.row) := M2.out.cell 1 _ rfl
    have c_w2_num : w2.cell? ⟨w.heap.size, 2, none⟩ = some (.int .i64 m.num) := M2.out.cell 2 _ rfl
    clear HEX HIK
    go_wp2_with fail
    refine (ii5_any n m.row m.num _).mono ?_
    rintro e w3 ⟨rfl, hb⟩
    rw [HII.out]
    have B3 : Hid (Below w.heap.size w w3) := B2.out.trans (hb.mono B2.out.size)
    have M3 : Hid (Blk w3 w.heap.size (mgc m (.slice ua uk uc))) := M2.out.on hb
    clear hb M2 B2
    have c_w3_kind : w3.cell? ⟨w.heap.size, 0, none⟩ = some (.int .i64 m.kind) := M3.out.cell 0 _ rfl
    clear HII
    go_wp2_with fail
    refine (hb5_any' m.kind _).mono ?_
    rintro e w4 ⟨rfl, hb⟩
    rw [HKB.out]
    have B4 : Hid (Below w.heap.size w w4) := B3.out.trans (hb.mono B3.out.size)
    have M4 : Hid (Blk w4 w.heap.size (mgc m (.slice ua uk uc))) := M3.out.on hb
    clear hb M3 B3
    have c_w4_kind : w4.cell? ⟨w.heap.size, 0, none⟩ = some (.int .i64 m.kind) := M4.out.cell 0 _ rfl
    have c_w4_row : w4.cell? ⟨w.heap.size, 1, none⟩ = some (.int .i64 m.row) := M4.out.cell 1 _ rfl
    have c_w4_num : w4.cell? ⟨w.heap.size, 2, none⟩ = some (.int .i64 m.num) := M4.out.cell 2 _ rfl
    have c_w4_x : w4.cell? ⟨w.heap.size, 3, none⟩ = some (.int .i64 m.x) := M4.out.cell 3 _ rfl
    have c_w4_y : w4.cell? ⟨w.heap.size, 4, none⟩ = some (.int .i64 m.y) := M4.out.cell 4 _ rfl
    clear HKB
    go_wp2_with fail
    refine (ib5_any n m.row m.num m.x m.y _).mono ?_
    rintro e w5 ⟨rfl, hb⟩
    rw [hb1.out]
    have B5 : Hid (Below w.heap.size w w5) := B4.out.trans (hb.mono B4.out.size)
    have M5 : Hid (Blk w5 w.heap.size (mgc m (.slice ua uk uc))) := M4.out.on hb
    clear hb M4 B4
    have c_w5_kind : w5.cell? ⟨w.heap.size, 0, none⟩ = some (.int .i64 m.kind) := M5.out.cell 0 _ rfl
    clear hb1
    cases b1 with
    | false =>
      have HF : Hid (z = 53) := by show _ = _; rw [HE.out]; simp [orL, unl]
      clear HE
      go_wp2
      go_ret
      exact ⟨by rw [HF.out]; rfl, B5.out⟩
    | true =>
      go_wp2_with fail
      refine (la5_any' m.kind _).mono ?_
      rintro e w6 ⟨rfl, hb⟩
      rw [HLA.out]
      have B6 : Hid (Below w.heap.size w w6) := B5.out.trans (hb.mono B5.out.size)
      have M6 : Hid (Blk w6 w.heap.size (mgc m (.slice ua uk uc))) := M5.out.on hb
      clear hb M5 B5
      have c_w6_kind : w6.cell? ⟨w.heap.size, 0, none⟩ = some (.int .i64 m.kind) := M6.out.cell 0 _ rfl
      have c_w6_x : w6.cell? ⟨w.heap.size, 3, none⟩ = some (.int .i64 m.x) := M6.out.cell 3 _ rfl
      have c_w6_st : w6.cell? ⟨w.heap.size, 7, none⟩ = some (.int .i64 m.st) := M6.out.cell 7 _ rfl
      have c_w6_p : w6.cell? ⟨w.heap.size, 5, none⟩ = some (.int .i64 m.p) := M6.out.cell 5 _ rfl
      have c_w6_q : w6.cell? ⟨w.heap.size, 6, none⟩ = some (.int .i64 m.q) := M6.out.cell 6 _ rfl
      have c_w6_row : w6.cell? ⟨w.heap.size, 1, none⟩ = some (.int .i64 m.row) := M6.out.cell 1 _ rfl
      have c_w6_num : w6.cell? ⟨w.heap.size, 2, none⟩ = some (.int .i64 m.num) := M6.out.cell 2 _ rfl
      clear HLA
      go_wp2_with (first | (refine wpList_load_mid rfl 30 _ rfl w.heap.size 0 rfl (mgc m (.slice ua uk uc)) _ M6.out.range Tryz.underlying30 rfl (by kernel_rfl) ?_) | (refine wpList_load_want (by rfl) 30 _ rfl w.heap.size 0 rfl (mgc m (.slice ua uk uc)) _ M6.out.range Tryz.underlying30 rfl (by kernel_rfl) ?_))
      refine (hc5_any m (.slice ua uk uc) _).mono ?_
      rintro e w7 ⟨rfl, hb⟩
      rw [HHC.out]
      have B7 : Hid (Below w.heap.size w w7) := B6.out.trans (hb.mono B6.out.size)
      have M7 : Hid (Blk w7 w.heap.size (mgc m (.slice ua uk uc))) := M6.out.on hb
      clear hb M6 B6
      clear HHC
      obtain ⟨m_w7_0, m_w7_1, m_w7_2, m_w7_3, m_w7_4, m_w7_5, m_w7_6, m_w7_7⟩ := cells8 M7.out 9 rfl rfl rfl rfl rfl rfl rfl rfl
      by_cases hk0 : m.c.kind = 0
      · have dk : (m.c.kind == 0) = true := by simp [hk0]
        rw [dk] at HE
        clear hk0
        go_wp2_with fail
        refine (rcheck_any _ m.c _).mono ?_
        rintro e w8 ⟨rfl, hb⟩
        rw [hcv.out]
        have B8 : Hid (Below w.heap.size w w8) := B7.out.trans (hb.mono B7.out.size)
        have M8 : Hid (Blk w8 w.heap.size (mgc m (.slice ua uk uc))) := M7.out.on hb
        clear hb M7 B7
        by_cases hc0 : cv = 0
        · have d0 : ((cv : Int) != 0) = false := by simp [hc0]
          subst hc0
          go_wp2_with (first | (refine wpList_load_mid rfl 30 _ rfl w.heap.size 0 rfl (mgc m (.slice ua uk uc)) _ M8.out.range Tryz.underlying30 rfl (by kernel_rfl) ?_) | (refine wpList_load_want (by rfl) 30 _ rfl w.heap.size 0 rfl (mgc m (.slice ua uk uc)) _ M8.out.range Tryz.underlying30 rfl (by kernel_rfl) ?_))
          refine (nb5_any m (.slice ua uk uc) _).mono ?_
          rintro e w9 ⟨rfl, hb⟩
          rw [HNB.out]
          have B9 : Hid (Below w.heap.size w w9) := B8.out.trans (hb.mono B8.out.size)
          have M9 : Hid (Blk w9 w.heap.size (mgc m (.slice ua uk uc))) := M8.out.on hb
          clear hb M8 B8
          go_wp2_with (first | (refine wpList_load_mid rfl 30 _ rfl w.heap.size 0 rfl (mgc m (.slice ua uk uc)) _ M9.out.range Tryz.underlying30 rfl (by kernel_rfl) ?_) | (refine wpList_load_want (by rfl) 30 _ rfl w.heap.size 0 rfl (mgc m (.slice ua uk uc)) _ M9.out.range Tryz.underlying30 rfl (by kernel_rfl) ?_))
          refine (hs5_any m (.slice ua uk uc) _).mono ?_
          rintro e w10 ⟨rfl, hb⟩
          rw [HHS.out]
          have B10 : Hid (Below w.heap.size w w10) := B9.out.trans (hb.mono B9.out.size)
          have M10 : Hid (Blk w10 w.heap.size (mgc m (.slice ua uk uc))) := M9.out.on hb
          clear hb M9 B9
          have c_w10_sq : w10.cell? ⟨w.heap.size, 17, none⟩ = some (.int .i64 m.sq) := M10.out.cell 17 _ rfl
          obtain ⟨b5, hb5⟩ : ∃ b, Hid (seqB true m.sq = b) := ⟨_, rfl⟩
          obtain ⟨b6, hb6⟩ : ∃ b, Hid (depsB n true m.dl = b) := ⟨_, rfl⟩
          rw [hb5.out, hb6.out] at HE
          go_wp2_with fail
          refine (sf5_any' true m.sq _).mono ?_
          rintro e w11 ⟨rfl, hb⟩
          rw [hb5.out]
          have B11 : Hid (Below w.heap.size w w11) := B10.out.trans (hb.mono B10.out.size)
          have M11 : Hid (Blk w11 w.heap.size (mgc m (.slice ua uk uc))) := M10.out.on hb
          clear hb M10 B10
          have c_w11_u : w11.cell? ⟨w.heap.size, 18, none⟩ = some (.slice ua uk uc) := M11.out.cell 18 _ rfl
          clear hb5
          cases b5 with
          | false =>
            have HF : Hid (z = 55) := by show _ = _; rw [HE.out]; simp [orL, unl]
            clear HE
            go_wp2
            go_ret
            exact ⟨by rw [HF.out]; rfl, B11.out⟩
          | true =>
            go_wp2_with fail
            refine (df5_any' n true ua uk uc m.dl _ (HI.out.below B11.out (Nat.le_refl _))).mono ?_
            rintro e w12 ⟨rfl, hb⟩
            rw [hb6.out]
            have B12 : Hid (Below w.heap.size w w12) := B11.out.trans (hb.mono B11.out.size)
            have M12 : Hid (Blk w12 w.heap.size (mgc m (.slice ua uk uc))) := M11.out.on hb
            clear hb M11 B11
            clear hb6
            cases b6 with
            | false =>
              have HF : Hid (z = 56) := by show _ = _; rw [HE.out]; simp [orL, unl]
              clear HE
              go_wp2
              go_ret
              exact ⟨by rw [HF.out]; rfl, B12.out⟩
            | true =>
              have HF : Hid (z = 0) := by show _ = _; rw [HE.out]; simp [orL, unl]
              clear HE
              go_wp2
              go_ret
              exact ⟨by rw [HF.out]; rfl, B12.out⟩
        · have d0 : ((cv : Int) != 0) = true := by simp [hc0]
          have HF : Hid (z = (cv : Int)) := by show _ = _; rw [HE.out]; simp [orL, unl, hc0]
          clear HE hc0 hcv
          go_wp2
          go_ret
          exact ⟨by rw [HF.out]; rfl, B8.out⟩
      · have dk : (m.c.kind == 0) = false := beq_eq_false_iff_ne.2 hk0
        rw [dk] at HE
        clear hk0
        go_wp2_with fail
        refine (rcheck_any _ m.c _).mono ?_
        rintro e w8 ⟨rfl, hb⟩
        rw [hcv.out]
        have B8 : Hid (Below w.heap.size w w8) := B7.out.trans (hb.mono B7.out.size)
        have M8 : Hid (Blk w8 w.heap.size (mgc m (.slice ua uk uc))) := M7.out.on hb
        clear hb M7 B7
        by_cases hc0 : cv = 0
        · have d0 : ((cv : Int) != 0) = false := by simp [hc0]
          subst hc0
          go_wp2_with (first | (refine wpList_load_mid rfl 30 _ rfl w.heap.size 0 rfl (mgc m (.slice ua uk uc)) _ M8.out.range Tryz.underlying30 rfl (by kernel_rfl) ?_) | (refine wpList_load_want (by rfl) 30 _ rfl w.heap.size 0 rfl (mgc m (.slice ua uk uc)) _ M8.out.range Tryz.underlying30 rfl (by kernel_rfl) ?_))
          refine (hs5_any m (.slice ua uk uc) _).mono ?_
          rintro e w9 ⟨rfl, hb⟩
          rw [HHS.out]
          have B9 : Hid (Below w.heap.size w w9) := B8.out.trans (hb.mono B8.out.size)
          have M9 : Hid (Blk w9 w.heap.size (mgc m (.slice ua uk uc))) := M8.out.on hb
          clear hb M8 B8
          have c_w9_sq : w9.cell? ⟨w.heap.size, 17, none⟩ = some (.int .i64 m.sq) := M9.out.cell 17 _ rfl
          obtain ⟨b5, hb5⟩ : ∃ b, Hid (seqB false m.sq = b) := ⟨_, rfl⟩
          obtain ⟨b6, hb6⟩ : ∃ b, Hid (depsB n false m.dl = b) := ⟨_, rfl⟩
          rw [hb5.out, hb6.out] at HE
          go_wp2_with fail
          refine (sf5_any' false m.sq _).mono ?_
          rintro e w10 ⟨rfl, hb⟩
          rw [hb5.out]
          have B10 : Hid (Below w.heap.size w w10) := B9.out.trans (hb.mono B9.out.size)
          have M10 : Hid (Blk w10 w.heap.size (mgc m (.slice ua uk uc))) := M9.out.on hb
          clear hb M9 B9
          have c_w10_u : w10.cell? ⟨w.heap.size, 18, none⟩ = some (.slice ua uk uc) := M10.out.cell 18 _ rfl
          clear hb5
          cases b5 with
          | false =>
            have HF : Hid (z = 55) := by show _ = _; rw [HE.out]; simp [orL, unl]
            clear HE
            go_wp2
            go_ret
            exact ⟨by rw [HF.out]; rfl, B10.out⟩
          | true =>
            go_wp2_with fail
            refine (df5_any' n false ua uk uc m.dl _ (HI.out.below B10.out (Nat.le_refl _))).mono ?_
            rintro e w11 ⟨rfl, hb⟩
            rw [hb6.out]
            have B11 : Hid (Below w.heap.size w w11) := B10.out.trans (hb.mono B10.out.size)
            have M11 : Hid (Blk w11 w.heap.size (mgc m (.slice ua uk uc))) := M10.out.on hb
            clear hb M10 B10
            clear hb6
            cases b6 with
            | false =>
              have HF : Hid (z = 56) := by show _ = _; rw [HE.out]; simp [orL, unl]
              clear HE
              go_wp2
              go_ret
              exact ⟨by rw [HF.out]; rfl, B11.out⟩
            | true =>
              have HF : Hid (z = 0) := by show _ = _; rw [HE.out]; simp [orL, unl]
              clear HE
              go_wp2
              go_ret
              exact ⟨by rw [HF.out]; rfl, B11.out⟩
        · have d0 : ((cv : Int) != 0) = true := by simp [hc0]
          have HF : Hid (z = (cv : Int)) := by show _ = _; rw [HE.out]; simp [orL, unl, hc0]
          clear HE hc0 hcv
          go_wp2
          go_ret
          exact ⟨by rw [HF.out]; rfl, B8.out⟩
end Go.Proofs.YtdokagebfeejbaaGreatDoor
