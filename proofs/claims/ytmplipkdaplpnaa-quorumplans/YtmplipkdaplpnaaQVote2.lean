/- What a vote is taken for: voteOf; who may lead. -/
import Derived.Test.YtmplipkdaplpnaaQVote
import Derived.Deep.Cut
namespace Go.Proofs.Ytmplipkdaplpnaa
open Go.RowKit Go.Wire1

def zv : List Value := [.int .i64 0, .int .i64 0, .bool false, .int .i64 0, .int .i64 0, .int .i64 0, .int .i64 0, .int .i64 0, .string ⟨#[]⟩, .string ⟨#[]⟩, .string ⟨#[]⟩, .string ⟨#[]⟩, .int .i64 0, .int .i64 0, .slice none 0 0]
/-- Does a vote count in a recovery? -/
def okV (n : Int) (v : Vt) : Bool := if votedQ v.st then sndQ n v.seq v.deps else v.st == 0
set_option maxHeartbeats 2000000 in
set_option maxRecDepth 100000 in
theorem qvoteOf_any (n : Int) (v : Vt) (w : World) (h : Vok w v) :
    Calls Try.prog 28 #[.int .i64 n, .agg (vcs v).toArray] w fun e w' => e = .returned (.tuple #[.agg (vcs v).toArray, .bool (okV n v)]) ∧ Below w.heap.size w w' := by
  obtain ⟨U, hU⟩ : ∃ U, U = (w.alloc (.cells (vcs v).toArray 33)).alloc (.cells #[.int .i64 0, .int .i64 0, .bool false, .int .i64 0, .int .i64 0, .int .i64 0, .int .i64 0, .int .i64 0, .string ⟨#[]⟩, .string ⟨#[]⟩, .string ⟨#[]⟩, .string ⟨#[]⟩, .int .i64 0, .int .i64 0, .slice none 0 0] 33) := ⟨_, rfl⟩
  have BU : Hid (Below w.heap.size w U) := by rw [hU]; exact ((Below.refl _ w).alloc (Nat.le_refl _) _).alloc (by simp) _
  have QU : Hid (Blk U w.heap.size (vcs v)) := by rw [hU]; exact (blk_new w 33 (vcs v)).on ((Below.refl _ _).alloc (Nat.le_refl _) _)
  have ZU : Hid (Blk U (w.heap.size + 1) zv) := by
    have := blk_new (w.alloc (.cells (vcs v).toArray 33)) 33 zv
    rw [World.size_alloc] at this
    rw [hU]; exact this
  have HV : Hid (Vok U v) := h.below BU.out (Nat.le_refl _)
  have g1 := vcs1 v
  have HO := hide (vcs_one v)
  clear h
  cases hv : votedQ v.st with
  | true =>
    have HQ : Hid (okV n v = sndQ n v.seq v.deps) := by show _ = _; unfold okV; rw [hv]; rfl
    go_enter Try.func28, Try.ntmps28
    go_upto_region 1 with fail
    rw [← hU]
    clear hU
    go_wp2_with (first | (refine wpList_load_mid rfl 33 _ rfl w.heap.size 0 rfl (vcs v) _ QU.out.range Try.underlying33 rfl (by kernel_rfl) ?_))
    refine (qvoted_any v _).mono ?_
    rintro e w1 ⟨rfl, hb1⟩
    have Q1 : Hid (Blk w1 w.heap.size (vcs v)) := QU.out.on hb1
    have Z1 : Hid (Blk w1 (w.heap.size + 1) zv) := ZU.out.on hb1
    have V1 : Hid (Vok w1 v) := HV.out.below hb1 (Nat.le_refl _)
    have B1 : Hid (Below w.heap.size w w1) := BU.out.trans (hb1.mono BU.out.size)
    rw [hv]
    clear hb1 QU ZU HV BU hv
    go_wp2_with (first | (refine wpList_load_mid rfl 33 _ rfl w.heap.size 0 rfl (vcs v) _ Q1.out.range Try.underlying33 rfl (by kernel_rfl) ?_))
    refine (qattr_any n v _ V1.out).mono ?_
    rintro e w2 ⟨rfl, hb2⟩
    have Q2 : Hid (Blk w2 w.heap.size (vcs v)) := Q1.out.on hb2
    have Z2 : Hid (Blk w2 (w.heap.size + 1) zv) := Z1.out.on hb2
    have B2 : Hid (Below w.heap.size w w2) := B1.out.trans (hb2.mono B1.out.size)
    clear hb2 Q1 Z1 V1 B1
    go_upto_region 3 with fail
    obtain ⟨W3, hW3⟩ : ∃ W3, W3 = w2.alloc (.cells #[.int .i64 v.seq, .slice v.da v.dn v.dc] 24) := ⟨_, rfl⟩
    have B3 : Hid (Below w.heap.size w W3) := by rw [hW3]; exact B2.out.alloc B2.out.size _
    have Q3 : Hid (Blk W3 w.heap.size (vcs v)) := by rw [hW3]; exact Q2.out.on ((Below.refl _ _).alloc (Nat.le_refl _) _)
    have Z3 : Hid (Blk W3 (w.heap.size + 1) zv) := by rw [hW3]; exact Z2.out.on ((Below.refl _ _).alloc (Nat.le_refl _) _)
    have T3 : Hid (W3.there (w.heap.size + 1) 0 15) := Z3.out.there
    rw [← hW3]
    clear hW3 Q2 Z2 B2
    go_wp2_with (first | (refine wpList_load_mid rfl 33 _ rfl w.heap.size 0 rfl (vcs v) _ Q3.out.range Try.underlying33 rfl (by kernel_rfl) ?_) | (refine wpList_store_mid rfl 33 _ _ rfl (w.heap.size + 1) 0 (vcs v).toArray rfl rfl T3.out (by kernel_rfl) (all_oneCell_toArray HO.out) ?_))
    obtain ⟨Y, hY⟩ : ∃ Y, Y = W3.setCells (w.heap.size + 1) 0 (vcs v) := ⟨_, rfl⟩
    have HY : Hid (Blk Y (w.heap.size + 1) (vcs v)) := by rw [hY]; exact blk_cells Z3.out rfl
    have BY : Hid (Below w.heap.size w Y) := by rw [hY]; exact below_cells (by omega) _ _ _ B3.out
    rw [← hY]
    clear hY
    refine bodyPost_ret (qresults_cell_tmp Try.results28 _ _ (w.heap.size + 1) (vcs v) _ _ rfl rfl HY.out.range Try.underlying33 rfl (by kernel_rfl)) rfl ⟨by rw [HQ.out]; rfl, BY.out⟩
  | false =>
    have HQ : Hid (okV n v = (v.st == 0)) := by show _ = _; unfold okV; rw [hv]; rfl
    go_enter Try.func28, Try.ntmps28
    go_upto_region 1 with fail
    rw [← hU]
    clear hU
    go_wp2_with (first | (refine wpList_load_mid rfl 33 _ rfl w.heap.size 0 rfl (vcs v) _ QU.out.range Try.underlying33 rfl (by kernel_rfl) ?_))
    refine (qvoted_any v _).mono ?_
    rintro e w1 ⟨rfl, hb1⟩
    have Q1 : Hid (Blk w1 w.heap.size (vcs v)) := QU.out.on hb1
    have Z1 : Hid (Blk w1 (w.heap.size + 1) zv) := ZU.out.on hb1
    have B1 : Hid (Below w.heap.size w w1) := BU.out.trans (hb1.mono BU.out.size)
    have T1 : Hid (w1.drew.there (w.heap.size + 1) 0 15) := (Z1.out.drewN 1).there
    have R1 : Hid (w1.rangeAt w.heap.size 0 (vcs v)) := Q1.out.range
    rw [hv]
    clear hb1 QU ZU HV BU hv
    go_wp2
    refine wp_region_held_drew (S := (fun W' => W'.rangeAt w.heap.size 0 (vcs v))) (by kernel_rfl) R1.out (fun hHeld => ?_)
    refine wpAnyH_take (i := 0) rfl (by kernel_rfl) (by kernel_rfl) (by kernel_rfl) (fun _ _ _ h => h) (yieldsIf_load_mid (by rfl) 33 _ rfl w.heap.size 0 rfl (vcs v) _ (fun _ h => h) Try.underlying33 rfl (by kernel_rfl)) (by assumption) ?_
    try simp only [Act.put, List.getElem_toArray, List.getElem_cons_zero, List.setIfInBounds_toArray, List.set_cons_zero, List.set_cons_succ]
    refine wpAnyH_take (i := 1) (v := ?_) rfl (by kernel_rfl) (by kernel_rfl) (by kernel_rfl) (fun _ _ _ h => h) (Or.inl ⟨by rfl, ?_⟩) (by assumption) ?_
    rotate_left
    · intro w hSw
      try dsimp only at hSw
      go_simp
      try with_reducible rfl
    try simp only [Act.put, List.getElem_toArray, List.getElem_cons_succ, List.getElem_cons_zero, List.setIfInBounds_toArray, List.set_cons_zero, List.set_cons_succ]
    refine wpAnyH_take (i := 2) (v := ?_) rfl (by kernel_rfl) (by kernel_rfl) (by kernel_rfl) (fun _ _ _ h => h) (Or.inl ⟨by rfl, ?_⟩) (by assumption) ?_
    rotate_left
    · intro w hSw
      try dsimp only at hSw
      have c1 := hSw 1 _ g1
      rw [Nat.zero_add] at c1
      go_simp
      try with_reducible rfl
    try simp only [Act.put, List.getElem_toArray, List.getElem_cons_succ, List.getElem_cons_zero, List.setIfInBounds_toArray, List.set_cons_zero, List.set_cons_succ]
    refine wpAnyH_take (i := 3) (v := ?_) rfl (by kernel_rfl) (by kernel_rfl) (by kernel_rfl) (fun _ _ _ h => h) (Or.inl ⟨by rfl, ?_⟩) (by assumption) ?_
    rotate_left
    · intro w hSw
      try dsimp only at hSw
      go_simp
      try with_reducible rfl
    try simp only [Act.put, List.getElem_toArray, List.getElem_cons_succ, List.getElem_cons_zero, List.setIfInBounds_toArray, List.set_cons_zero, List.set_cons_succ]
    refine wpAnyH_ready (rs := [4]) (by kernel_rfl) (by simp) ?_
    refine AllReadyH.cons rfl (fun K hK => ?_) AllReadyH.nil
    rw [if_pos (by rfl)]
    refine wp_store_mid 33 _ _ rfl (w.heap.size + 1) 0 (vcs v).toArray rfl rfl T1.out (by kernel_rfl) (all_oneCell_toArray HO.out) ?_
    refine hK.out _ _ (World.rangeAt_setCells_apart (Q1.out.drewN 1).range _ _ _ (.inl (by omega))) (fun hHeld => ?_)
    clear hK K
    try simp only [Act.put, List.getElem_toArray, List.getElem_cons_succ, List.getElem_cons_zero]
    refine wpAnyH_take (i := 5) (v := ?_) rfl (by kernel_rfl) (by kernel_rfl) (by kernel_rfl) (fun _ _ _ h => h) (Or.inl ⟨by rfl, ?_⟩) (by assumption) ?_
    rotate_left
    · intro w hSw
      try dsimp only at hSw
      go_simp
      try with_reducible rfl
    try simp only [Act.put, List.getElem_toArray, List.getElem_cons_succ, List.getElem_cons_zero, List.setIfInBounds_toArray, List.set_cons_zero, List.set_cons_succ]
    refine wpAnyH_done (by kernel_rfl) ?_ _
    obtain ⟨Y, hY⟩ : ∃ Y, Y = w1.drew.setCells (w.heap.size + 1) 0 (vcs v) := ⟨_, rfl⟩
    have HY : Hid (Blk Y (w.heap.size + 1) (vcs v)) := by rw [hY]; exact blk_cells (Z1.out.drewN 1) rfl
    have BY : Hid (Below w.heap.size w Y) := by rw [hY]; exact below_cells (by omega) _ _ _ B1.out.drew
    rw [← hY]
    clear hY
    go_wp2
    refine bodyPost_ret (qresults_cell_tmp Try.results28 _ _ (w.heap.size + 1) (vcs v) _ _ rfl rfl HY.out.range Try.underlying33 rfl (by kernel_rfl)) rfl ⟨by rw [HQ.out]; rfl, BY.out⟩
end Go.Proofs.Ytmplipkdaplpnaa
