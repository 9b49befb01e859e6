/- Texts of the proof, joined. -/
import Derived.Test.YtlhididcanedhaaGreatDoorJ01
import Derived.Test.YtlhididcanedhaaGreatDoorJ04
import Derived.Test.YtlhididcanedhaaGreatDoorJ05
/- The contract of package record's faultOf. -/
namespace Go.Proofs.YtlhididcanedhaaGreatDoor
open Go.RowKit Go.Wire1

theorem range_cmd {w : World} {b : Nat} {r : Rc} (h : w.rangeAt b 0 (rcs r)) : w.rangeAt b 6 [.int .i64 r.c.kind, .int .i64 r.c.client, .int .i64 r.c.req, .string r.c.key, .string r.c.key2, .string r.c.val, .string r.c.old, .int .i64 r.c.n] := fun j v hj => by
  have := h (6 + j) v (by
    have e : rcs r = [.int .i64 r.kind, .int .i64 r.row, .int .i64 r.num, .int .i64 r.round, .int .i64 r.who, .bool r.same] ++ ([.int .i64 r.c.kind, .int .i64 r.c.client, .int .i64 r.c.req, .string r.c.key, .string r.c.key2, .string r.c.val, .string r.c.old, .int .i64 r.c.n] ++ [.int .i64 r.seq, .slice r.da r.dn r.dc, .int .i64 r.id, .int .i64 r.n]) := rfl
    rw [e, List.getElem?_append_right (by show 6 ≤ 6 + j; omega), show 6 + j - List.length [Value.int .i64 r.kind, .int .i64 r.row, .int .i64 r.num, .int .i64 r.round, .int .i64 r.who, .bool r.same] = j by show 6 + j - 6 = j; omega, List.getElem?_append_left (List.getElem?_eq_some_iff.1 hj).1]
    exact hj)
  rwa [Nat.zero_add] at this
theorem cmdR_or (r : Rc) : cmdR r = orR (chk 2 r.c) (unlR (mayR r || !(noopR r)) 65) := rfl
/-- A record whose Deps lie in memory and whose texts are of a size. -/
structure Rok (w : World) (r : Rc) : Prop where
  seg : SegI w r.da r.dn r.deps
  k1 : r.c.key.size ≤ 140737488351232
  k2 : r.c.key2.size ≤ 140737488351232
theorem Rok.below {w w' : World} {r : Rc} {B : Nat} (h : Rok w r) (hb : Below B w w') (hB : w.heap.size ≤ B) : Rok w' r := ⟨h.seg.below hb hB, h.k1, h.k2⟩
theorem Rok.drewN {w : World} {r : Rc} (h : Rok w r) (q : Nat) : Rok (w.drewN q) r := ⟨h.seg.drewN q, h.k1, h.k2⟩
set_option maxHeartbeats 4000000 in
set_option maxRecDepth 100000 in
theorem rfaultOf_id (k : Nat) (r : Rc) (w : World) :
    Calls Tryz.prog 36 #[.int .i64 (k : Int), .agg (rcs r).toArray, .int .i32 119] w fun e w' => e = .returned (.int .i64 (faultR (k : Int) r 119 : Nat)) ∧ Below w.heap.size w w' := by
  go_enter Tryz.func36, Tryz.ntmps36
  go_wp2
  go_ret
  exact ⟨rfl, (Below.refl _ _).alloc (Nat.le_refl _) _⟩
set_option maxHeartbeats 4000000 in
set_option maxRecDepth 100000 in
theorem rfaultOf_n (k : Nat) (r : Rc) (w : World) :
    Calls Tryz.prog 36 #[.int .i64 (k : Int), .agg (rcs r).toArray, .int .i32 110] w fun e w' => e = .returned (.int .i64 (faultR (k : Int) r 110 : Nat)) ∧ Below w.heap.size w w' := by
  obtain ⟨V, hV⟩ : ∃ V, V = w.alloc (.cells (rcs r).toArray 30) := ⟨_, rfl⟩
  have Q : Hid (Blk V w.heap.size (rcs r)) := by rw [hV]; exact blk_new w 30 (rcs r)
  have BV : Hid (Below w.heap.size w V) := by rw [hV]; exact (Below.refl _ _).alloc (Nat.le_refl _) _
  have hVs : w.heap.size ≤ V.heap.size := BV.out.size
  go_enter Tryz.func36, Tryz.ntmps36
  go_wp2_with (first | (refine wpList_load_mid rfl 30 _ rfl w.heap.size 0 rfl (rcs r) _ (by first | exact Q.out.range | (rw [← hV]; exact Q.out.range)) Tryz.underlying30 rfl (by kernel_rfl) ?_))
  rw [← hV]
  clear hV
  refine (risHead_any r _).mono ?_
  rintro e w1 ⟨rfl, hb1⟩
  have B1 : Hid (Below w.heap.size w w1) := BV.out.trans (hb1.mono hVs)
  clear hb1 Q BV hVs
  go_wp2_with fail
  refine (runless_any _ 66 _).mono ?_
  rintro e w2 ⟨rfl, rfl⟩
  go_wp2
  go_ret
  exact ⟨rfl, B1.out⟩
set_option maxHeartbeats 4000000 in
set_option maxRecDepth 100000 in
theorem rfaultOf_bal (k : Nat) (r : Rc) (w : World) :
    Calls Tryz.prog 36 #[.int .i64 (k : Int), .agg (rcs r).toArray, .int .i32 98] w fun e w' => e = .returned (.int .i64 (faultR (k : Int) r 98 : Nat)) ∧ Below w.heap.size w w' := by
  obtain ⟨V, hV⟩ : ∃ V, V = w.alloc (.cells (rcs r).toArray 30) := ⟨_, rfl⟩
  have Q : Hid (Blk V w.heap.size (rcs r)) := by rw [hV]; exact blk_new w 30 (rcs r)
  have BV : Hid (Below w.heap.size w V) := by rw [hV]; exact (Below.refl _ _).alloc (Nat.le_refl _) _
  have hVs : w.heap.size ≤ V.heap.size := BV.out.size
  go_enter Tryz.func36, Tryz.ntmps36
  go_wp2_with (first | (refine wpList_load_mid rfl 30 _ rfl w.heap.size 0 rfl (rcs r) _ (by first | exact Q.out.range | (rw [← hV]; exact Q.out.range)) Tryz.underlying30 rfl (by kernel_rfl) ?_))
  rw [← hV]
  clear hV
  refine (risBallot_any (k : Int) r _).mono ?_
  rintro e w1 ⟨rfl, hb1⟩
  have B1 : Hid (Below w.heap.size w w1) := BV.out.trans (hb1.mono hVs)
  clear hb1 Q BV hVs
  go_wp2_with fail
  refine (runless_any _ 63 _).mono ?_
  rintro e w2 ⟨rfl, rfl⟩
  go_wp2
  go_ret
  exact ⟨rfl, B1.out⟩
set_option maxHeartbeats 4000000 in
set_option maxRecDepth 100000 in
theorem rfaultOf_seq (k : Nat) (r : Rc) (w : World) :
    Calls Tryz.prog 36 #[.int .i64 (k : Int), .agg (rcs r).toArray, .int .i32 113] w fun e w' => e = .returned (.int .i64 (faultR (k : Int) r 113 : Nat)) ∧ Below w.heap.size w w' := by
  obtain ⟨V, hV⟩ : ∃ V, V = w.alloc (.cells (rcs r).toArray 30) := ⟨_, rfl⟩
  have Q : Hid (Blk V w.heap.size (rcs r)) := by rw [hV]; exact blk_new w 30 (rcs r)
  have BV : Hid (Below w.heap.size w V) := by rw [hV]; exact (Below.refl _ _).alloc (Nat.le_refl _) _
  have hVs : w.heap.size ≤ V.heap.size := BV.out.size
  go_enter Tryz.func36, Tryz.ntmps36
  go_wp2_with (first | (refine wpList_load_mid rfl 30 _ rfl w.heap.size 0 rfl (rcs r) _ (by first | exact Q.out.range | (rw [← hV]; exact Q.out.range)) Tryz.underlying30 rfl (by kernel_rfl) ?_))
  rw [← hV]
  clear hV
  refine (risSeq_any r _).mono ?_
  rintro e w1 ⟨rfl, hb1⟩
  have B1 : Hid (Below w.heap.size w w1) := BV.out.trans (hb1.mono hVs)
  clear hb1 Q BV hVs
  go_wp2_with fail
  refine (runless_any _ 65 _).mono ?_
  rintro e w2 ⟨rfl, rfl⟩
  go_wp2
  go_ret
  exact ⟨rfl, B1.out⟩
set_option maxHeartbeats 4000000 in
set_option maxRecDepth 100000 in
theorem rfaultOf_deps (k : Nat) (r : Rc) (w : World) (h1 : 1 ≤ k) (hk : k ≤ 7) (hr : Rok w r) :
    Calls Tryz.prog 36 #[.int .i64 (k : Int), .agg (rcs r).toArray, .int .i32 100] w fun e w' => e = .returned (.int .i64 (faultR (k : Int) r 100 : Nat)) ∧ Below w.heap.size w w' := by
  obtain ⟨V, hV⟩ : ∃ V, V = w.alloc (.cells (rcs r).toArray 30) := ⟨_, rfl⟩
  have Q : Hid (Blk V w.heap.size (rcs r)) := by rw [hV]; exact blk_new w 30 (rcs r)
  have BV : Hid (Below w.heap.size w V) := by rw [hV]; exact (Below.refl _ _).alloc (Nat.le_refl _) _
  have hVs : w.heap.size ≤ V.heap.size := BV.out.size
  have HD := hide hr
  clear hr
  go_enter Tryz.func36, Tryz.ntmps36
  go_wp2_with (first | (refine wpList_load_mid rfl 30 _ rfl w.heap.size 0 rfl (rcs r) _ (by first | exact Q.out.range | (rw [← hV]; exact Q.out.range)) Tryz.underlying30 rfl (by kernel_rfl) ?_))
  rw [← hV]
  clear hV
  refine (risDeps_any k r _ h1 hk (HD.out.seg.below BV.out (Nat.le_refl _))).mono ?_
  rintro e w1 ⟨rfl, hb1⟩
  have B1 : Hid (Below w.heap.size w w1) := BV.out.trans (hb1.mono hVs)
  clear hb1 Q BV hVs
  go_wp2_with fail
  refine (runless_any _ 65 _).mono ?_
  rintro e w2 ⟨rfl, rfl⟩
  go_wp2
  go_ret
  exact ⟨rfl, B1.out⟩
set_option maxHeartbeats 4000000 in
set_option maxRecDepth 100000 in
theorem rfaultOf_inst (k : Nat) (r : Rc) (w : World) :
    Calls Tryz.prog 36 #[.int .i64 (k : Int), .agg (rcs r).toArray, .int .i32 105] w fun e w' => e = .returned (.int .i64 (faultR (k : Int) r 105 : Nat)) ∧ Below w.heap.size w w' := by
  have g1 := rcs1 r
  have g2 := rcs2 r
  go_enter Tryz.func36, Tryz.ntmps36
  go_wp2_with fail
  refine (risInst_any (k : Int) r.row r.num _).mono ?_
  rintro e w1 ⟨rfl, hb1⟩
  have B1 : Hid (Below w.heap.size w w1) := ((Below.refl w.heap.size w).alloc (Nat.le_refl _) _).trans (hb1.mono (by simp))
  clear hb1 g1 g2
  go_wp2_with fail
  refine (runless_any _ 62 _).mono ?_
  rintro e w2 ⟨rfl, rfl⟩
  go_wp2
  go_ret
  exact ⟨rfl, B1.out⟩
set_option maxHeartbeats 4000000 in
set_option maxRecDepth 100000 in
theorem rfaultOf_same (k : Nat) (r : Rc) (w : World) :
    Calls Tryz.prog 36 #[.int .i64 (k : Int), .agg (rcs r).toArray, .int .i32 115] w fun e w' => e = .returned (.int .i64 (faultR (k : Int) r 115 : Nat)) ∧ Below w.heap.size w w' := by
  have g3 := rcs3 r
  have g5 := rcs5 r
  cases hs : r.same with
  | false =>
    have HQ : Hid (faultR (k : Int) r 115 = unlR (true) 64) := by show _ = _; unfold faultR; rw [hs]; rfl
    rw [hs] at g5
    clear hs
    go_enter Tryz.func36, Tryz.ntmps36
    go_wp2_with fail
    refine (runless_any _ 64 _).mono ?_
    rintro e w2 ⟨rfl, rfl⟩
    go_wp2
    go_ret
    exact ⟨by rw [HQ.out]; rfl, (Below.refl _ _).alloc (Nat.le_refl _) _⟩
  | true =>
    have HQ : Hid (faultR (k : Int) r 115 = unlR (r.round == 0) 64) := by show _ = _; unfold faultR; rw [hs]; rfl
    rw [hs] at g5
    clear hs
    go_enter Tryz.func36, Tryz.ntmps36
    go_wp2_with fail
    refine (runless_any _ 64 _).mono ?_
    rintro e w2 ⟨rfl, rfl⟩
    go_wp2
    go_ret
    exact ⟨by rw [HQ.out]; rfl, (Below.refl _ _).alloc (Nat.le_refl _) _⟩
set_option maxHeartbeats 4000000 in
set_option maxRecDepth 100000 in
theorem rfaultOf_cmd (k : Nat) (r : Rc) (w : World) (hr : Rok w r) (hK : Knd w) :
    Calls Tryz.prog 36 #[.int .i64 (k : Int), .agg (rcs r).toArray, .int .i32 99] w fun e w' => e = .returned (.int .i64 (faultR (k : Int) r 99 : Nat)) ∧ Below w.heap.size w w' := by
  obtain ⟨V, hV⟩ : ∃ V, V = w.alloc (.cells (rcs r).toArray 30) := ⟨_, rfl⟩
  have Q : Hid (Blk V w.heap.size (rcs r)) := by rw [hV]; exact blk_new w 30 (rcs r)
  have BV : Hid (Below w.heap.size w V) := by rw [hV]; exact (Below.refl _ _).alloc (Nat.le_refl _) _
  have hVs : w.heap.size ≤ V.heap.size := BV.out.size
  have HD := hide hr
  have HK := hide hK
  clear hr hK
  cases hm : mayR r with
  | true =>
    have HQ : Hid (faultR (k : Int) r 99 = orR (chk 2 r.c) (unlR true 65)) := by show cmdR r = _; rw [cmdR_or, hm]; rfl
    go_enter Tryz.func36, Tryz.ntmps36
    go_wp2
    rw [← hV]
    clear hV
    refine wp_region_noPanic ?_
    refine wp_region_held_drew (S := (fun w' => w'.rangeAt w.heap.size 0 (rcs r))) (by kernel_rfl) Q.out.range (fun hHeld => ?_)
    refine tk 0 ?_
    refine tq 1 rfl (yieldsIf_load_mid (by rfl) 27 _ rfl w.heap.size 6 rfl [.int .i64 r.c.kind, .int .i64 r.c.client, .int .i64 r.c.req, .string r.c.key, .string r.c.key2, .string r.c.val, .string r.c.old, .int .i64 r.c.n] _ (fun _ h => range_cmd h) Tryz.underlying27 rfl (by kernel_rfl)) ?_
    refine tq 3 rfl (yieldsIf_load_mid (by rfl) 30 _ rfl w.heap.size 0 rfl (rcs r) _ (fun _ h => h) Tryz.underlying30 rfl (by kernel_rfl)) ?_
    refine wpAnyH_ready (rs := [2]) (by kernel_rfl) (by simp) ?_
    refine AllReadyH.cons rfl (fun K hK => ?_) AllReadyH.nil
    rw [if_pos (by rfl)]
    go_wp2_with fail
    refine (check_any 2 r.c _ (HK.out.below (BV.out.drewN' 1) (Nat.le_refl _)) HD.out.k1 HD.out.k2).mono ?_
    rintro e w3 ⟨rfl, hb3⟩
    have B3 : Hid (Below w.heap.size w w3) := (BV.out.drewN' 1).trans (hb3.mono hVs)
    have Q3 : Hid (Blk w3 w.heap.size (rcs r)) := (Q.out.drewN 1).on hb3
    have z3 : w.heap.size ≤ w3.heap.size := B3.out.size
    refine hK.out _ _ Q3.out.range (fun hHeld => ?_)
    clear hK K
    try simp only [Act.put, List.getElem_toArray, List.getElem_cons_succ, List.getElem_cons_zero, List.setIfInBounds_toArray, List.set_cons_zero, List.set_cons_succ]
    refine wpAnyH_ready (rs := [4]) (by kernel_rfl) (by simp) ?_
    refine AllReadyH.cons rfl (fun K hK => ?_) AllReadyH.nil
    rw [if_pos (by rfl)]
    go_wp2_with fail
    refine (rmayNoop_any r _).mono ?_
    rintro e w4 ⟨rfl, hb4⟩
    have B4 : Hid (Below w.heap.size w w4) := B3.out.trans (hb4.mono z3)
    have Q4 : Hid (Blk w4 w.heap.size (rcs r)) := Q3.out.on hb4
    rw [hm]
    refine hK.out _ _ Q4.out.range (fun hHeld => ?_)
    clear hK K
    try simp only [Act.put, List.getElem_toArray, List.getElem_cons_succ, List.getElem_cons_zero, List.setIfInBounds_toArray, List.set_cons_zero, List.set_cons_succ]
    refine tk 5 ?_
    refine wpAnyH_take (i := 6) (v := undef) rfl (by kernel_rfl) (by kernel_rfl) (by kernel_rfl) (fun _ _ _ h => h) (Or.inr ⟨by rfl, rfl⟩) (by assumption) ?_
    try simp only [Act.put, List.getElem_toArray, List.getElem_cons_succ, List.getElem_cons_zero, List.setIfInBounds_toArray, List.set_cons_zero, List.set_cons_succ]
    refine wpAnyH_take (i := 7) (v := undef) rfl (by kernel_rfl) (by kernel_rfl) (by kernel_rfl) (fun _ _ _ h => h) (Or.inr ⟨by rfl, rfl⟩) (by assumption) ?_
    try simp only [Act.put, List.getElem_toArray, List.getElem_cons_succ, List.getElem_cons_zero, List.setIfInBounds_toArray, List.set_cons_zero, List.set_cons_succ]
    refine wpAnyH_take (i := 8) (v := undef) rfl (by kernel_rfl) (by kernel_rfl) (by kernel_rfl) (fun _ _ _ h => h) (Or.inr ⟨by rfl, rfl⟩) (by assumption) ?_
    try simp only [Act.put, List.getElem_toArray, List.getElem_cons_succ, List.getElem_cons_zero, List.setIfInBounds_toArray, List.set_cons_zero, List.set_cons_succ]
    refine tk 9 ?_
    refine wpAnyH_ready (rs := [10]) (by kernel_rfl) (by simp) ?_
    refine AllReadyH.cons rfl (fun K hK => ?_) AllReadyH.nil
    rw [if_pos (by rfl)]
    go_wp2_with fail
    refine (runless_any _ 65 _).mono ?_
    rintro e w5 ⟨rfl, rfl⟩
    refine hK.out _ _ Q4.out.range (fun hHeld => ?_)
    clear hK K
    try simp only [Act.put, List.getElem_toArray, List.getElem_cons_succ, List.getElem_cons_zero, List.setIfInBounds_toArray, List.set_cons_zero, List.set_cons_succ]
    refine wpAnyH_ready (rs := [11]) (by kernel_rfl) (by simp) ?_
    refine AllReadyH.cons rfl (fun K hK => ?_) AllReadyH.nil
    rw [if_pos (by rfl)]
    go_wp2_with fail
    obtain ⟨a1, ha1⟩ : ∃ a1, Hid (chk 2 r.c = a1) := ⟨_, rfl⟩
    obtain ⟨a2, ha2⟩ : ∃ a2, Hid (unlR true 65 = a2) := ⟨_, rfl⟩
    rw [ha1.out, ha2.out]
    obtain ⟨w6, hw6⟩ : ∃ w6, w6 = w4.alloc (.cells #[.int .i64 (a1 : Int), .int .i64 (a2 : Int)] 32) := ⟨_, rfl⟩
    have B6 : Hid (Below w4.heap.size w4 w6) := by rw [hw6]; exact (Below.refl _ _).alloc (Nat.le_refl _) _
    have K6 : Hid (Blk w6 w4.heap.size [.int .i64 (a1 : Int), .int .i64 (a2 : Int)]) := by rw [hw6]; exact blk_new w4 32 [.int .i64 (a1 : Int), .int .i64 (a2 : Int)]
    rw [← hw6]
    clear hw6
    refine hK.out _ _ (Q4.out.on B6.out).range (fun hHeld => ?_)
    clear hK K
    try simp only [Act.put, List.getElem_toArray, List.getElem_cons_succ, List.getElem_cons_zero, List.setIfInBounds_toArray, List.set_cons_zero, List.set_cons_succ]
    refine wpAnyH_ready (rs := [12]) (by kernel_rfl) (by simp) ?_
    refine AllReadyH.cons rfl (fun K hK => ?_) AllReadyH.nil
    rw [if_pos (by rfl)]
    go_wp2_with fail
    refine (cmpOr_any a1 a2 w4.heap.size _ K6.out).mono ?_
    rintro e w7 ⟨rfl, rfl⟩
    refine hK.out _ _ (Q4.out.on B6.out).range (fun hHeld => ?_)
    clear hK K
    try simp only [Act.put, List.getElem_toArray, List.getElem_cons_succ, List.getElem_cons_zero, List.setIfInBounds_toArray, List.set_cons_zero, List.set_cons_succ]
    refine tk 13 ?_
    refine wpAnyH_done (by kernel_rfl) ?_ _
    refine NoPanic.normal ?_
    have z4 : w.heap.size ≤ w4.heap.size := B4.out.size
    go_wp2
    go_ret
    exact ⟨by rw [HQ.out, ha1.out, ha2.out]; rfl, B4.out.trans (B6.out.mono z4)⟩
  | false =>
    cases hn : noopR r with
    | true =>
      have HQ : Hid (faultR (k : Int) r 99 = orR (chk 2 r.c) (unlR false 65)) := by show cmdR r = _; rw [cmdR_or, hm, hn]; rfl
      go_enter Tryz.func36, Tryz.ntmps36
      go_wp2
      rw [← hV]
      clear hV
      refine wp_region_noPanic ?_
      refine wp_region_held_drew (S := (fun w' => w'.rangeAt w.heap.size 0 (rcs r))) (by kernel_rfl) Q.out.range (fun hHeld => ?_)
      refine tk 0 ?_
      refine tq 1 rfl (yieldsIf_load_mid (by rfl) 27 _ rfl w.heap.size 6 rfl [.int .i64 r.c.kind, .int .i64 r.c.client, .int .i64 r.c.req, .string r.c.key, .string r.c.key2, .string r.c.val, .string r.c.old, .int .i64 r.c.n] _ (fun _ h => range_cmd h) Tryz.underlying27 rfl (by kernel_rfl)) ?_
      refine tq 3 rfl (yieldsIf_load_mid (by rfl) 30 _ rfl w.heap.size 0 rfl (rcs r) _ (fun _ h => h) Tryz.underlying30 rfl (by kernel_rfl)) ?_
      refine wpAnyH_ready (rs := [2]) (by kernel_rfl) (by simp) ?_
      refine AllReadyH.cons rfl (fun K hK => ?_) AllReadyH.nil
      rw [if_pos (by rfl)]
      go_wp2_with fail
      refine (check_any 2 r.c _ (HK.out.below (BV.out.drewN' 1) (Nat.le_refl _)) HD.out.k1 HD.out.k2).mono ?_
      rintro e w3 ⟨rfl, hb3⟩
      have B3 : Hid (Below w.heap.size w w3) := (BV.out.drewN' 1).trans (hb3.mono hVs)
      have Q3 : Hid (Blk w3 w.heap.size (rcs r)) := (Q.out.drewN 1).on hb3
      have z3 : w.heap.size ≤ w3.heap.size := B3.out.size
      refine hK.out _ _ Q3.out.range (fun hHeld => ?_)
      clear hK K
      try simp only [Act.put, List.getElem_toArray, List.getElem_cons_succ, List.getElem_cons_zero, List.setIfInBounds_toArray, List.set_cons_zero, List.set_cons_succ]
      refine wpAnyH_ready (rs := [4]) (by kernel_rfl) (by simp) ?_
      refine AllReadyH.cons rfl (fun K hK => ?_) AllReadyH.nil
      rw [if_pos (by rfl)]
      go_wp2_with fail
      refine (rmayNoop_any r _).mono ?_
      rintro e w8 ⟨rfl, hb8⟩
      have B5 : Hid (Below w.heap.size w w8) := B3.out.trans (hb8.mono z3)
      have Q5 : Hid (Blk w8 w.heap.size (rcs r)) := Q3.out.on hb8
      have z5 : w.heap.size ≤ w8.heap.size := B5.out.size
      rw [hm]
      refine hK.out _ _ Q5.out.range (fun hHeld => ?_)
      clear hK K
      try simp only [Act.put, List.getElem_toArray, List.getElem_cons_succ, List.getElem_cons_zero, List.setIfInBounds_toArray, List.set_cons_zero, List.set_cons_succ]
      refine tk 5 ?_
      refine tq 6 rfl (yieldsIf_load_mid (by rfl) 30 _ rfl w.heap.size 0 rfl (rcs r) _ (fun _ h => h) Tryz.underlying30 rfl (by kernel_rfl)) ?_
      refine wpAnyH_ready (rs := [7]) (by kernel_rfl) (by simp) ?_
      refine AllReadyH.cons rfl (fun K hK => ?_) AllReadyH.nil
      rw [if_pos (by rfl)]
      go_wp2_with fail
      refine (risNoop_any r _).mono ?_
      rintro e w4 ⟨rfl, hb4⟩
      have B4 : Hid (Below w.heap.size w w4) := B5.out.trans (hb4.mono z5)
      have Q4 : Hid (Blk w4 w.heap.size (rcs r)) := Q5.out.on hb4
      rw [hn]
      refine hK.out _ _ Q4.out.range (fun hHeld => ?_)
      clear hK K
      try simp only [Act.put, List.getElem_toArray, List.getElem_cons_succ, List.getElem_cons_zero, List.setIfInBounds_toArray, List.set_cons_zero, List.set_cons_succ]
      refine tk 8 ?_
      refine tk 9 ?_
      refine wpAnyH_ready (rs := [10]) (by kernel_rfl) (by simp) ?_
      refine AllReadyH.cons rfl (fun K hK => ?_) AllReadyH.nil
      rw [if_pos (by rfl)]
      go_wp2_with fail
      refine (runless_any _ 65 _).mono ?_
      rintro e w5 ⟨rfl, rfl⟩
      refine hK.out _ _ Q4.out.range (fun hHeld => ?_)
      clear hK K
      try simp only [Act.put, List.getElem_toArray, List.getElem_cons_succ, List.getElem_cons_zero, List.setIfInBounds_toArray, List.set_cons_zero, List.set_cons_succ]
      refine wpAnyH_ready (rs := [11]) (by kernel_rfl) (by simp) ?_
      refine AllReadyH.cons rfl (fun K hK => ?_) AllReadyH.nil
      rw [if_pos (by rfl)]
      go_wp2_with fail
      obtain ⟨a1, ha1⟩ : ∃ a1, Hid (chk 2 r.c = a1) := ⟨_, rfl⟩
      obtain ⟨a2, ha2⟩ : ∃ a2, Hid (unlR false 65 = a2) := ⟨_, rfl⟩
      rw [ha1.out, ha2.out]
      obtain ⟨w6, hw6⟩ : ∃ w6, w6 = w4.alloc (.cells #[.int .i64 (a1 : Int), .int .i64 (a2 : Int)] 32) := ⟨_, rfl⟩
      have B6 : Hid (Below w4.heap.size w4 w6) := by rw [hw6]; exact (Below.refl _ _).alloc (Nat.le_refl _) _
      have K6 : Hid (Blk w6 w4.heap.size [.int .i64 (a1 : Int), .int .i64 (a2 : Int)]) := by rw [hw6]; exact blk_new w4 32 [.int .i64 (a1 : Int), .int .i64 (a2 : Int)]
      rw [← hw6]
      clear hw6
      refine hK.out _ _ (Q4.out.on B6.out).range (fun hHeld => ?_)
      clear hK K
      try simp only [Act.put, List.getElem_toArray, List.getElem_cons_succ, List.getElem_cons_zero, List.setIfInBounds_toArray, List.set_cons_zero, List.set_cons_succ]
      refine wpAnyH_ready (rs := [12]) (by kernel_rfl) (by simp) ?_
      refine AllReadyH.cons rfl (fun K hK => ?_) AllReadyH.nil
      rw [if_pos (by rfl)]
      go_wp2_with fail
      refine (cmpOr_any a1 a2 w4.heap.size _ K6.out).mono ?_
      rintro e w7 ⟨rfl, rfl⟩
      refine hK.out _ _ (Q4.out.on B6.out).range (fun hHeld => ?_)
      clear hK K
      try simp only [Act.put, List.getElem_toArray, List.getElem_cons_succ, List.getElem_cons_zero, List.setIfInBounds_toArray, List.set_cons_zero, List.set_cons_succ]
      refine tk 13 ?_
      refine wpAnyH_done (by kernel_rfl) ?_ _
      refine NoPanic.normal ?_
      have z4 : w.heap.size ≤ w4.heap.size := B4.out.size
      go_wp2
      go_ret
      exact ⟨by rw [HQ.out, ha1.out, ha2.out]; rfl, B4.out.trans (B6.out.mono z4)⟩
    | false =>
      have HQ : Hid (faultR (k : Int) r 99 = orR (chk 2 r.c) (unlR true 65)) := by show cmdR r = _; rw [cmdR_or, hm, hn]; rfl
      go_enter Tryz.func36, Tryz.ntmps36
      go_wp2
      rw [← hV]
      clear hV
      refine wp_region_noPanic ?_
      refine wp_region_held_drew (S := (fun w' => w'.rangeAt w.heap.size 0 (rcs r))) (by kernel_rfl) Q.out.range (fun hHeld => ?_)
      refine tk 0 ?_
      refine tq 1 rfl (yieldsIf_load_mid (by rfl) 27 _ rfl w.heap.size 6 rfl [.int .i64 r.c.kind, .int .i64 r.c.client, .int .i64 r.c.req, .string r.c.key, .string r.c.key2, .string r.c.val, .string r.c.old, .int .i64 r.c.n] _ (fun _ h => range_cmd h) Tryz.underlying27 rfl (by kernel_rfl)) ?_
      refine tq 3 rfl (yieldsIf_load_mid (by rfl) 30 _ rfl w.heap.size 0 rfl (rcs r) _ (fun _ h => h) Tryz.underlying30 rfl (by kernel_rfl)) ?_
      refine wpAnyH_ready (rs := [2]) (by kernel_rfl) (by simp) ?_
      refine AllReadyH.cons rfl (fun K hK => ?_) AllReadyH.nil
      rw [if_pos (by rfl)]
      go_wp2_with fail
      refine (check_any 2 r.c _ (HK.out.below (BV.out.drewN' 1) (Nat.le_refl _)) HD.out.k1 HD.out.k2).mono ?_
      rintro e w3 ⟨rfl, hb3⟩
      have B3 : Hid (Below w.heap.size w w3) := (BV.out.drewN' 1).trans (hb3.mono hVs)
      have Q3 : Hid (Blk w3 w.heap.size (rcs r)) := (Q.out.drewN 1).on hb3
      have z3 : w.heap.size ≤ w3.heap.size := B3.out.size
      refine hK.out _ _ Q3.out.range (fun hHeld => ?_)
      clear hK K
      try simp only [Act.put, List.getElem_toArray, List.getElem_cons_succ, List.getElem_cons_zero, List.setIfInBounds_toArray, List.set_cons_zero, List.set_cons_succ]
      refine wpAnyH_ready (rs := [4]) (by kernel_rfl) (by simp) ?_
      refine AllReadyH.cons rfl (fun K hK => ?_) AllReadyH.nil
      rw [if_pos (by rfl)]
      go_wp2_with fail
      refine (rmayNoop_any r _).mono ?_
      rintro e w8 ⟨rfl, hb8⟩
      have B5 : Hid (Below w.heap.size w w8) := B3.out.trans (hb8.mono z3)
      have Q5 : Hid (Blk w8 w.heap.size (rcs r)) := Q3.out.on hb8
      have z5 : w.heap.size ≤ w8.heap.size := B5.out.size
      rw [hm]
      refine hK.out _ _ Q5.out.range (fun hHeld => ?_)
      clear hK K
      try simp only [Act.put, List.getElem_toArray, List.getElem_cons_succ, List.getElem_cons_zero, List.setIfInBounds_toArray, List.set_cons_zero, List.set_cons_succ]
      refine tk 5 ?_
      refine tq 6 rfl (yieldsIf_load_mid (by rfl) 30 _ rfl w.heap.size 0 rfl (rcs r) _ (fun _ h => h) Tryz.underlying30 rfl (by kernel_rfl)) ?_
      refine wpAnyH_ready (rs := [7]) (by kernel_rfl) (by simp) ?_
      refine AllReadyH.cons rfl (fun K hK => ?_) AllReadyH.nil
      rw [if_pos (by rfl)]
      go_wp2_with fail
      refine (risNoop_any r _).mono ?_
      rintro e w4 ⟨rfl, hb4⟩
      have B4 : Hid (Below w.heap.size w w4) := B5.out.trans (hb4.mono z5)
      have Q4 : Hid (Blk w4 w.heap.size (rcs r)) := Q5.out.on hb4
      rw [hn]
      refine hK.out _ _ Q4.out.range (fun hHeld => ?_)
      clear hK K
      try simp only [Act.put, List.getElem_toArray, List.getElem_cons_succ, List.getElem_cons_zero, List.setIfInBounds_toArray, List.set_cons_zero, List.set_cons_succ]
      refine tk 8 ?_
      refine tk 9 ?_
      refine wpAnyH_ready (rs := [10]) (by kernel_rfl) (by simp) ?_
      refine AllReadyH.cons rfl (fun K hK => ?_) AllReadyH.nil
      rw [if_pos (by rfl)]
      go_wp2_with fail
      refine (runless_any _ 65 _).mono ?_
      rintro e w5 ⟨rfl, rfl⟩
      refine hK.out _ _ Q4.out.range (fun hHeld => ?_)
      clear hK K
      try simp only [Act.put, List.getElem_toArray, List.getElem_cons_succ, List.getElem_cons_zero, List.setIfInBounds_toArray, List.set_cons_zero, List.set_cons_succ]
      refine wpAnyH_ready (rs := [11]) (by kernel_rfl) (by simp) ?_
      refine AllReadyH.cons rfl (fun K hK => ?_) AllReadyH.nil
      rw [if_pos (by rfl)]
      go_wp2_with fail
      obtain ⟨a1, ha1⟩ : ∃ a1, Hid (chk 2 r.c = a1) := ⟨_, rfl⟩
      obtain ⟨a2, ha2⟩ : ∃ a2, Hid (unlR true 65 = a2) := ⟨_, rfl⟩
      rw [ha1.out, ha2.out]
      obtain ⟨w6, hw6⟩ : ∃ w6, w6 = w4.alloc (.cells #[.int .i64 (a1 : Int), .int .i64 (a2 : Int)] 32) := ⟨_, rfl⟩
      have B6 : Hid (Below w4.heap.size w4 w6) := by rw [hw6]; exact (Below.refl _ _).alloc (Nat.le_refl _) _
      have K6 : Hid (Blk w6 w4.heap.size [.int .i64 (a1 : Int), .int .i64 (a2 : Int)]) := by rw [hw6]; exact blk_new w4 32 [.int .i64 (a1 : Int), .int .i64 (a2 : Int)]
      rw [← hw6]
      clear hw6
      refine hK.out _ _ (Q4.out.on B6.out).range (fun hHeld => ?_)
      clear hK K
      try simp only [Act.put, List.getElem_toArray, List.getElem_cons_succ, List.getElem_cons_zero, List.setIfInBounds_toArray, List.set_cons_zero, List.set_cons_succ]
      refine wpAnyH_ready (rs := [12]) (by kernel_rfl) (by simp) ?_
      refine AllReadyH.cons rfl (fun K hK => ?_) AllReadyH.nil
      rw [if_pos (by rfl)]
      go_wp2_with fail
      refine (cmpOr_any a1 a2 w4.heap.size _ K6.out).mono ?_
      rintro e w7 ⟨rfl, rfl⟩
      refine hK.out _ _ (Q4.out.on B6.out).range (fun hHeld => ?_)
      clear hK K
      try simp only [Act.put, List.getElem_toArray, List.getElem_cons_succ, List.getElem_cons_zero, List.setIfInBounds_toArray, List.set_cons_zero, List.set_cons_succ]
      refine tk 13 ?_
      refine wpAnyH_done (by kernel_rfl) ?_ _
      refine NoPanic.normal ?_
      have z4 : w.heap.size ≤ w4.heap.size := B4.out.size
      go_wp2
      go_ret
      exact ⟨by rw [HQ.out, ha1.out, ha2.out]; rfl, B4.out.trans (B6.out.mono z4)⟩
theorem rfaultOf_any (k : Nat) (r : Rc) (x : Nat) (w : World) (hx : Ltr x) (h1 : 1 ≤ k) (hk : k ≤ 7) (hr : Rok w r) (hK : Knd w) :
    Calls Tryz.prog 36 #[.int .i64 (k : Int), .agg (rcs r).toArray, .int .i32 (x : Int)] w fun e w' => e = .returned (.int .i64 (faultR (k : Int) r x : Nat)) ∧ Below w.heap.size w w' := by
  rcases hx with rfl | rfl | rfl | rfl | rfl | rfl | rfl | rfl
  · exact rfaultOf_id k r w
  · exact rfaultOf_n k r w
  · exact rfaultOf_inst k r w
  · exact rfaultOf_bal k r w
  · exact rfaultOf_same k r w
  · exact rfaultOf_cmd k r w hr hK
  · exact rfaultOf_seq k r w
  · exact rfaultOf_deps k r w h1 hk hr
end Go.Proofs.YtlhididcanedhaaGreatDoor
