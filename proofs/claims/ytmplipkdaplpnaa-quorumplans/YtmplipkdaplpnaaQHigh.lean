/- The contracts of the library's MaxFunc by ballots, of highest. -/
import Derived.Test.YtmplipkdaplpnaaQOnly
import Derived.Shelf.Abstract
namespace Go.Proofs.Ytmplipkdaplpnaa
open Go.RowKit Go.Wire1

def vZ : Vt := ⟨0, 0, false, 0, 0, ⟨0, 0, 0, ⟨#[]⟩, ⟨#[]⟩, ⟨#[]⟩, ⟨#[]⟩, 0⟩, 0, none, 0, 0, []⟩
def mxS (m v : Vt) : Vt := if 0 < byB v m then v else m
def mxQ (vs : List Vt) : Vt := vs.tail.foldl mxS (vs.headD vZ)
theorem mxQ_snoc {vs : List Vt} (h : 0 < vs.length) (v : Vt) : mxQ (vs ++ [v]) = mxS (mxQ vs) v := by
  cases vs with
  | nil => simp at h
  | cons x r => simp [mxQ, List.foldl_append]
set_option maxHeartbeats 4000000 in
set_option maxRecDepth 100000 in
theorem maxF_any (a : Option Addr) (c : Nat) (vs : List Vt) (w : World) (hr : RowS w 15 a vs.length (vs.map vcs)) (h7 : vs.length ≤ 7) (h1 : 0 < vs.length) :
    Calls Try.prog 58 #[.slice a vs.length c, .func (.func 59) #[] #[]] w fun e w' => e = .returned (.agg (vcs (mxQ vs)).toArray) ∧ Below w.heap.size w w' := by
  have HR := hide hr
  obtain ⟨b, off, rfl, hat⟩ := hr.at_ h1
  obtain ⟨v0, hk0⟩ : ∃ v, vs[0]? = some v := ⟨_, List.getElem?_eq_getElem h1⟩
  have HR0 : Hid (w.rangeAt b off (vcs v0)) := by have := hat 0 (vcs v0) (by rw [List.getElem?_map, hk0]; rfl); rw [Nat.zero_mul, Nat.add_zero] at this; exact this
  have HMX : Hid (mxQ (vs.take 1) = v0) := by
    show _ = _
    cases vs with
    | nil => simp at h1
    | cons x r => simp only [List.getElem?_cons_zero, Option.some.injEq] at hk0; subst hk0; rfl
  obtain ⟨N, hN⟩ : ∃ N, vs.length = N := ⟨_, rfl⟩
  have HN := hide hN
  rw [hN] at HR h7 h1 ⊢
  have HO0 := hide (vcs_one v0)
  obtain ⟨U, hU⟩ : ∃ U, U = w.alloc (.cells zv.toArray 33) := ⟨_, rfl⟩
  have HZU : Hid (Blk U w.heap.size zv) := by rw [hU]; exact blk_new w 33 zv
  have BU : Hid (Below w.heap.size w U) := by rw [hU]; exact (Below.refl _ _).alloc (Nat.le_refl _) _
  have HUS : Hid (U.heap.size = w.heap.size + 1) := by show _ = _; rw [hU]; simp
  obtain ⟨X, hX⟩ : ∃ X, X = U.alloc (.cells zv.toArray 33) := ⟨_, rfl⟩
  have HZX : Hid (Blk X w.heap.size zv) := by rw [hX]; exact HZU.out.on ((Below.refl _ _).alloc (Nat.le_refl _) _)
  have HX0 : Hid (Blk X (w.heap.size + 1) zv) := by rw [hX, ← HUS.out]; exact blk_new U 33 zv
  have TX : Hid (X.there (w.heap.size + 1) 0 15) := HX0.out.there
  have BX : Hid (Below w.heap.size w X) := by rw [hX]; exact BU.out.alloc BU.out.size _
  obtain ⟨Y, hY⟩ : ∃ Y, Y = X.setCells (w.heap.size + 1) 0 (vcs v0) := ⟨_, rfl⟩
  have HQ0 : Hid (Blk Y (w.heap.size + 1) (vcs v0)) := by rw [hY]; exact blk_cells HX0.out rfl
  have BY : Hid (Below w.heap.size w Y) := by rw [hY]; exact below_cells (by omega) _ _ _ BX.out
  have HZY : Hid (Blk Y w.heap.size zv) := by rw [hY]; exact HZX.out.below (below_cells (Nat.le_refl _) _ _ _ (Below.refl (w.heap.size + 1) X)) (Nat.lt_succ_self _)
  have HZ0 : Hid (w.heap.size < Y.heap.size) := by have := HQ0.out.lt; show _ < _; omega
  have HUU : Hid (w.alloc (.cells #[.int .i64 0, .int .i64 0, .bool false, .int .i64 0, .int .i64 0, .int .i64 0, .int .i64 0, .int .i64 0, .string ⟨#[]⟩, .string ⟨#[]⟩, .string ⟨#[]⟩, .string ⟨#[]⟩, .int .i64 0, .int .i64 0, .slice none 0 0] 33) = U) := hU.symm
  have HXX : Hid (U.alloc (.cells #[.int .i64 0, .int .i64 0, .bool false, .int .i64 0, .int .i64 0, .int .i64 0, .int .i64 0, .int .i64 0, .string ⟨#[]⟩, .string ⟨#[]⟩, .string ⟨#[]⟩, .string ⟨#[]⟩, .int .i64 0, .int .i64 0, .slice none 0 0] 33) = X) := hX.symm
  have HR1 : Hid (U.rangeAt b off (vcs v0)) := rangeAt_below HR0.out BU.out (rangeAt_lt HR0.out (by rw [vcs_len]; decide))
  have HY := hide hY
  clear hU hX hY hat hk0 hN hr
  go_enter Try.func58, Try.ntmps58
  go_upto_region 1 with fail
  rw [HUU.out]
  have hd1 : decide ((N : Int) < 1) = false := decide_eq_false (by omega)
  have hUs := HUS.out
  go_upto_region 4 with (first | (refine wpList_load_mid rfl 33 _ rfl b off rfl (vcs v0) _ HR1.out Try.underlying33 rfl (by kernel_rfl) ?_) | (rw [HXX.out]; refine wpList_store_mid rfl 33 _ _ rfl (w.heap.size + 1) 0 (vcs v0).toArray (by rw [← HUS.out]; rfl) rfl TX.out (by kernel_rfl) (all_oneCell_toArray HO0.out) ?_; rw [← HY.out]))
  go_wp2
  clear TX HUU HXX HR1 HY HX0 HZX HZU HUS HO0 hUs hd1
  go_loopw [6] (fun i wr => ∃ q : Nat, i = .int .i64 (q : Int) ∧ 1 ≤ q ∧ q ≤ N ∧ Hid (Blk wr (w.heap.size + 1) (vcs (mxQ (vs.take q)))) ∧ Hid (Below (w.heap.size + 1) Y wr)) (fun i _ => N - (intOf i).toNat)
  case atStart => exact ⟨1, rfl, Nat.le_refl _, by omega, by rw [HMX.out]; exact HQ0, Below.refl _ _⟩
  case round =>
    obtain ⟨q, rfl, hq1, hq, HQ, HB⟩ := hrel
    have BW : Hid (Below w.heap.size w wr) := BY.out.trans (HB.out.mono (by omega))
    by_cases hlt : q < N
    · obtain ⟨v, hkv⟩ : ∃ v, vs[q]? = some v := ⟨_, List.getElem?_eq_getElem (by have := HN.out; omega)⟩
      have HNX : Hid (mxQ (vs.take (q + 1)) = mxS (mxQ (vs.take q)) v) := by show _ = _; rw [List.take_add_one, hkv]; exact mxQ_snoc (by have := HN.out; simp; omega) v
      have HRG : Hid (wr.rangeAt b (off + q * 15) (vcs v)) := by
        obtain ⟨b', off', e, hat⟩ := (HR.out.below BW.out (Nat.le_refl _) (by decide)).at_ (by omega)
        injection e with e
        injection e with e1 e2
        subst e1 e2
        exact hat q (vcs v) (by rw [List.getElem?_map, hkv]; rfl)
      have HO := hide (vcs_one v)
      have TQ : Hid (wr.there (w.heap.size + 1) 0 15) := HQ.out.there
      have hmb : w.heap.size + 1 < wr.heap.size := HQ.out.lt
      clear hkv
      obtain ⟨m, hm⟩ : ∃ m, mxQ (vs.take q) = m := ⟨_, rfl⟩
      rw [hm] at HQ HNX
      clear hm
      have hqN : (q : Int) < (N : Int) := by omega
      obtain ⟨d, hd⟩ : ∃ d, Hid (byB v m = d) := ⟨_, rfl⟩
      by_cases hgt : 0 < d
      · have HE : Hid (mxQ (vs.take (q + 1)) = v) := by show _ = _; rw [HNX.out]; unfold mxS; rw [if_pos (by rw [hd.out]; exact hgt)]
        have hdg : decide (0 < d) = true := decide_eq_true hgt
        clear hgt
        go_upto_region 7 with fail
        refine wp_region_noPanic ?_
        refine wp_region_held_drew (S := (fun W' => W'.rangeAt b (off + q * 15) (vcs v) ∧ W'.rangeAt (w.heap.size + 1) 0 (vcs m))) (by kernel_rfl) ⟨HRG.out, HQ.out.range⟩ (fun hHeld => ?_)
        refine wpAnyH_take (i := 0) (v := ?_) rfl (by kernel_rfl) (by kernel_rfl) (by kernel_rfl) (fun _ _ _ h => h) (Or.inl ⟨by rfl, ?_⟩) (by assumption) ?_
        rotate_left
        · intro w hSw
          try dsimp only at hSw
          go_simp
          try with_reducible rfl
        try simp only [Act.put, List.getElem_toArray, List.getElem_cons_zero, List.setIfInBounds_toArray, List.set_cons_zero, List.set_cons_succ]
        refine wpAnyH_take (i := 1) (v := ?_) rfl (by kernel_rfl) (by kernel_rfl) (by kernel_rfl) (fun _ _ _ h => h) (Or.inl ⟨by rfl, ?_⟩) (by assumption) ?_
        rotate_left
        · intro w hSw
          try dsimp only at hSw
          go_simp
          try with_reducible rfl
        try simp only [Act.put, List.getElem_toArray, List.getElem_cons_succ, List.getElem_cons_zero, List.setIfInBounds_toArray, List.set_cons_zero, List.set_cons_succ]
        refine wpAnyH_take (i := 2) (v := ?_) rfl (by kernel_rfl) (by kernel_rfl) (by kernel_rfl) (fun _ _ _ h => h) (Or.inl ⟨by rfl, ?_⟩) (by assumption) ?_
        rotate_left
        · intro w hSw
          try dsimp only at hSw
          go_simp
          try with_reducible rfl
        try simp only [Act.put, List.getElem_toArray, List.getElem_cons_succ, List.getElem_cons_zero, List.setIfInBounds_toArray, List.set_cons_zero, List.set_cons_succ]
        refine wpAnyH_take (i := 3) (v := ?_) rfl (by kernel_rfl) (by kernel_rfl) (by kernel_rfl) (fun _ _ _ h => h) (Or.inl ⟨by rfl, ?_⟩) (by assumption) ?_
        rotate_left
        · intro w hSw
          try dsimp only at hSw
          go_simp
          try with_reducible rfl
        try simp only [Act.put, List.getElem_toArray, List.getElem_cons_succ, List.getElem_cons_zero, List.setIfInBounds_toArray, List.set_cons_zero, List.set_cons_succ]
        refine wpAnyH_take (i := 4) rfl (by kernel_rfl) (by kernel_rfl) (by kernel_rfl) (fun _ _ _ h => h) (yieldsIf_load_mid (by rfl) 33 _ rfl b (off + q * 15) rfl (vcs v) _ (fun _ h => h.1) Try.underlying33 rfl (by kernel_rfl)) (by assumption) ?_
        try simp only [Act.put, List.getElem_toArray, List.getElem_cons_succ, List.getElem_cons_zero, List.setIfInBounds_toArray, List.set_cons_zero, List.set_cons_succ]
        refine wpAnyH_take (i := 5) rfl (by kernel_rfl) (by kernel_rfl) (by kernel_rfl) (fun _ _ _ h => h) (yieldsIf_load_mid (by rfl) 33 _ rfl (w.heap.size + 1) 0 rfl (vcs m) _ (fun _ h => h.2) Try.underlying33 rfl (by kernel_rfl)) (by assumption) ?_
        try simp only [Act.put, List.getElem_toArray, List.getElem_cons_succ, List.getElem_cons_zero, List.setIfInBounds_toArray, List.set_cons_zero, List.set_cons_succ]
        refine wpAnyH_ready (rs := [6]) (by kernel_rfl) (by simp) ?_
        refine AllReadyH.cons rfl (fun K hK => ?_) AllReadyH.nil
        rw [if_pos (by rfl)]
        go_wp2_with fail
        refine (byBallot_any v m _).mono ?_
        rintro e w2 ⟨rfl, hb2⟩
        rw [hd.out]
        have B2 : Hid (Below wr.heap.size wr w2) := (Below.refl wr.heap.size wr).drew.trans hb2
        clear hb2
        refine hK.out _ _ ⟨rangeAt_below HRG.out B2.out (rangeAt_lt HRG.out (by rw [vcs_len]; decide)), (HQ.out.on B2.out).range⟩ (fun hHeld => ?_)
        clear hK K
        try simp only [Act.put, List.getElem_toArray, List.getElem_cons_succ, List.getElem_cons_zero, List.setIfInBounds_toArray, List.set_cons_zero, List.set_cons_succ]
        refine wpAnyH_take (i := 7) (v := ?_) rfl (by kernel_rfl) (by kernel_rfl) (by kernel_rfl) (fun _ _ _ h => h) (Or.inl ⟨by rfl, ?_⟩) (by assumption) ?_
        rotate_left
        · intro w hSw
          try dsimp only at hSw
          go_simp
          try with_reducible rfl
        try simp only [Act.put, List.getElem_toArray, List.getElem_cons_succ, List.getElem_cons_zero, List.setIfInBounds_toArray, List.set_cons_zero, List.set_cons_succ]
        refine wpAnyH_done (by kernel_rfl) ?_ _
        refine NoPanic.normal ?_
        have HQ2 : Hid (Blk w2 (w.heap.size + 1) (vcs m)) := HQ.out.on B2.out
        have TQ2 : Hid (w2.there (w.heap.size + 1) 0 15) := HQ2.out.there
        have HRG2 : Hid (w2.rangeAt b (off + q * 15) (vcs v)) := rangeAt_below HRG.out B2.out (rangeAt_lt HRG.out (by rw [vcs_len]; decide))
        have HB2 : Hid (Below (w.heap.size + 1) Y w2) := HB.out.trans (B2.out.mono (by omega))
        obtain ⟨Z, hZ⟩ : ∃ Z, Z = w2.setCells (w.heap.size + 1) 0 (vcs v) := ⟨_, rfl⟩
        have HQZ : Hid (Blk Z (w.heap.size + 1) (vcs (mxQ (vs.take (q + 1))))) := by rw [HE.out, hZ]; exact blk_cells HQ2.out rfl
        have HBZ : Hid (Below (w.heap.size + 1) Y Z) := by rw [hZ]; exact below_cells (Nat.le_refl _) _ _ _ HB2.out
        have hZs := hide hZ
        clear hZ
        go_wp2_with (first | (refine wpList_load_mid rfl 33 _ rfl b (off + q * 15) rfl (vcs v) _ HRG2.out Try.underlying33 rfl (by kernel_rfl) ?_) | (refine wpList_store_mid rfl 33 _ _ rfl (w.heap.size + 1) 0 (vcs v).toArray rfl rfl TQ2.out (by kernel_rfl) (all_oneCell_toArray HO.out) ?_; rw [← hZs.out]))
        go_roundw
        case rel => exact ⟨q + 1, by go_num, by omega, by omega, HQZ, HBZ⟩
        case measure => simp [intOf]; omega
      · have HE : Hid (mxQ (vs.take (q + 1)) = m) := by show _ = _; rw [HNX.out]; unfold mxS; rw [if_neg (by rw [hd.out]; exact hgt)]
        have hdg : decide (0 < d) = false := decide_eq_false hgt
        clear hgt
        go_upto_region 7 with fail
        refine wp_region_noPanic ?_
        refine wp_region_held_drew (S := (fun W' => W'.rangeAt b (off + q * 15) (vcs v) ∧ W'.rangeAt (w.heap.size + 1) 0 (vcs m))) (by kernel_rfl) ⟨HRG.out, HQ.out.range⟩ (fun hHeld => ?_)
        refine wpAnyH_take (i := 0) (v := ?_) rfl (by kernel_rfl) (by kernel_rfl) (by kernel_rfl) (fun _ _ _ h => h) (Or.inl ⟨by rfl, ?_⟩) (by assumption) ?_
        rotate_left
        · intro w hSw
          try dsimp only at hSw
          go_simp
          try with_reducible rfl
        try simp only [Act.put, List.getElem_toArray, List.getElem_cons_zero, List.setIfInBounds_toArray, List.set_cons_zero, List.set_cons_succ]
        refine wpAnyH_take (i := 1) (v := ?_) rfl (by kernel_rfl) (by kernel_rfl) (by kernel_rfl) (fun _ _ _ h => h) (Or.inl ⟨by rfl, ?_⟩) (by assumption) ?_
        rotate_left
        · intro w hSw
          try dsimp only at hSw
          go_simp
          try with_reducible rfl
        try simp only [Act.put, List.getElem_toArray, List.getElem_cons_succ, List.getElem_cons_zero, List.setIfInBounds_toArray, List.set_cons_zero, List.set_cons_succ]
        refine wpAnyH_take (i := 2) (v := ?_) rfl (by kernel_rfl) (by kernel_rfl) (by kernel_rfl) (fun _ _ _ h => h) (Or.inl ⟨by rfl, ?_⟩) (by assumption) ?_
        rotate_left
        · intro w hSw
          try dsimp only at hSw
          go_simp
          try with_reducible rfl
        try simp only [Act.put, List.getElem_toArray, List.getElem_cons_succ, List.getElem_cons_zero, List.setIfInBounds_toArray, List.set_cons_zero, List.set_cons_succ]
        refine wpAnyH_take (i := 3) (v := ?_) rfl (by kernel_rfl) (by kernel_rfl) (by kernel_rfl) (fun _ _ _ h => h) (Or.inl ⟨by rfl, ?_⟩) (by assumption) ?_
        rotate_left
        · intro w hSw
          try dsimp only at hSw
          go_simp
          try with_reducible rfl
        try simp only [Act.put, List.getElem_toArray, List.getElem_cons_succ, List.getElem_cons_zero, List.setIfInBounds_toArray, List.set_cons_zero, List.set_cons_succ]
        refine wpAnyH_take (i := 4) rfl (by kernel_rfl) (by kernel_rfl) (by kernel_rfl) (fun _ _ _ h => h) (yieldsIf_load_mid (by rfl) 33 _ rfl b (off + q * 15) rfl (vcs v) _ (fun _ h => h.1) Try.underlying33 rfl (by kernel_rfl)) (by assumption) ?_
        try simp only [Act.put, List.getElem_toArray, List.getElem_cons_succ, List.getElem_cons_zero, List.setIfInBounds_toArray, List.set_cons_zero, List.set_cons_succ]
        refine wpAnyH_take (i := 5) rfl (by kernel_rfl) (by kernel_rfl) (by kernel_rfl) (fun _ _ _ h => h) (yieldsIf_load_mid (by rfl) 33 _ rfl (w.heap.size + 1) 0 rfl (vcs m) _ (fun _ h => h.2) Try.underlying33 rfl (by kernel_rfl)) (by assumption) ?_
        try simp only [Act.put, List.getElem_toArray, List.getElem_cons_succ, List.getElem_cons_zero, List.setIfInBounds_toArray, List.set_cons_zero, List.set_cons_succ]
        refine wpAnyH_ready (rs := [6]) (by kernel_rfl) (by simp) ?_
        refine AllReadyH.cons rfl (fun K hK => ?_) AllReadyH.nil
        rw [if_pos (by rfl)]
        go_wp2_with fail
        refine (byBallot_any v m _).mono ?_
        rintro e w2 ⟨rfl, hb2⟩
        rw [hd.out]
        have B2 : Hid (Below wr.heap.size wr w2) := (Below.refl wr.heap.size wr).drew.trans hb2
        clear hb2
        refine hK.out _ _ ⟨rangeAt_below HRG.out B2.out (rangeAt_lt HRG.out (by rw [vcs_len]; decide)), (HQ.out.on B2.out).range⟩ (fun hHeld => ?_)
        clear hK K
        try simp only [Act.put, List.getElem_toArray, List.getElem_cons_succ, List.getElem_cons_zero, List.setIfInBounds_toArray, List.set_cons_zero, List.set_cons_succ]
        refine wpAnyH_take (i := 7) (v := ?_) rfl (by kernel_rfl) (by kernel_rfl) (by kernel_rfl) (fun _ _ _ h => h) (Or.inl ⟨by rfl, ?_⟩) (by assumption) ?_
        rotate_left
        · intro w hSw
          try dsimp only at hSw
          go_simp
          try with_reducible rfl
        try simp only [Act.put, List.getElem_toArray, List.getElem_cons_succ, List.getElem_cons_zero, List.setIfInBounds_toArray, List.set_cons_zero, List.set_cons_succ]
        refine wpAnyH_done (by kernel_rfl) ?_ _
        refine NoPanic.normal ?_
        have HQ2 : Hid (Blk w2 (w.heap.size + 1) (vcs m)) := HQ.out.on B2.out
        have HB2 : Hid (Below (w.heap.size + 1) Y w2) := HB.out.trans (B2.out.mono (by omega))
        have HQZ : Hid (Blk w2 (w.heap.size + 1) (vcs (mxQ (vs.take (q + 1))))) := by rw [HE.out]; exact HQ2.out
        go_wp2
        go_roundw
        case rel => exact ⟨q + 1, by go_num, by omega, by omega, HQZ, HB2⟩
        case measure => simp [intOf]; omega
    · have HE : Hid (mxQ (vs.take q) = mxQ vs) := by show _ = _; rw [List.take_of_length_le (by have := HN.out; omega)]
      have HZW : Hid (Blk wr w.heap.size zv) := HZY.out.below HB.out (by omega)
      have TW : Hid (wr.there w.heap.size 0 15) := HZW.out.there
      rw [HE.out] at HQ
      have HOM := hide (vcs_one (mxQ vs))
      obtain ⟨Z, hZ⟩ : ∃ Z, Z = wr.setCells w.heap.size 0 (vcs (mxQ vs)) := ⟨_, rfl⟩
      have HQZ : Hid (Blk Z w.heap.size (vcs (mxQ vs))) := by rw [hZ]; exact blk_cells HZW.out rfl
      have HBZ : Hid (Below w.heap.size w Z) := by rw [hZ]; exact below_cells (Nat.le_refl _) _ _ _ BW.out
      have hZs := hide hZ
      clear hZ HE
      obtain ⟨m, hm⟩ : ∃ m, mxQ vs = m := ⟨_, rfl⟩
      have HMM := hide hm
      rw [hm] at HQ HQZ HOM hZs
      clear hm
      go_wp2_with (first | (refine wpList_load_mid rfl 33 _ rfl (w.heap.size + 1) 0 rfl (vcs m) _ HQ.out.range Try.underlying33 rfl (by kernel_rfl) ?_) | (refine wpList_store_mid rfl 33 _ _ rfl w.heap.size 0 (vcs m).toArray rfl rfl TW.out (by kernel_rfl) (all_oneCell_toArray HOM.out) ?_; rw [← hZs.out]))
      refine bodyPost_ret (results_cell_mid Try.results58 _ _ w.heap.size (vcs m) _ rfl HQZ.out.range Try.underlying33 rfl (by kernel_rfl)) rfl ⟨by rw [HMM.out], HBZ.out⟩
/-- The votes at one ballot. -/
def atB (m v : Vt) : Bool := (v.rd == m.rd) && (v.who == m.who)
theorem high1_any (tb : Nat) (m v : Vt) (w : World) (c0 : w.cell? ⟨tb, 0, none⟩ = some (.int .i64 m.rd)) (c1 : w.cell? ⟨tb, 1, none⟩ = some (.int .i64 m.who)) :
    Calls Try.prog 60 #[.agg (vcs v).toArray, .pointer (some ⟨tb, 0, none⟩)] w fun e w' => e = .returned (.bool (atB m v)) ∧ Below w.heap.size w w' := by
  have hlt := cell_lt c0
  obtain ⟨U, hU⟩ : ∃ U, U = w.alloc (.cells (vcs v).toArray 33) := ⟨_, rfl⟩
  have BU : Hid (Below w.heap.size w U) := by rw [hU]; exact (Below.refl _ _).alloc (Nat.le_refl _) _
  have QU : Hid (Blk U w.heap.size (vcs v)) := by rw [hU]; exact blk_new w 33 (vcs v)
  have d0 : U.cell? ⟨tb, 0, none⟩ = some (.int .i64 m.rd) := by rw [BU.out.cell (p := ⟨tb, 0, none⟩) hlt]; exact c0
  have d1 : U.cell? ⟨tb, 1, none⟩ = some (.int .i64 m.who) := by rw [BU.out.cell (p := ⟨tb, 1, none⟩) hlt]; exact c1
  have e3 := QU.out.cell 3 _ rfl
  have e4 := QU.out.cell 4 _ rfl
  clear c0 c1 hlt
  obtain ⟨x, hx⟩ : ∃ x, v.rd = x := ⟨_, rfl⟩
  obtain ⟨y, hy⟩ : ∃ y, v.who = y := ⟨_, rfl⟩
  obtain ⟨p, hp⟩ : ∃ p, m.rd = p := ⟨_, rfl⟩
  obtain ⟨r, hr⟩ : ∃ r, m.who = r := ⟨_, rfl⟩
  have HQ : Hid (atB m v = ((x == p) && (y == r))) := by show _ = _; unfold atB; rw [hx, hy, hp, hr]
  rw [hp] at d0
  rw [hr] at d1
  rw [hx] at e3
  rw [hy] at e4
  clear hx hy hp hr QU
  by_cases h1 : x = p
  · by_cases h2 : y = r
    · subst h1 h2
      go_enter Try.func60, Try.ntmps60
      go_upto_region 1 with fail
      rw [← hU]
      clear hU
      go_wp2
      go_ret
      exact ⟨by rw [HQ.out]; simp, BU.out⟩
    · have b2 : (y == r) = false := by simp [h2]
      subst h1
      clear h2
      go_enter Try.func60, Try.ntmps60
      go_upto_region 1 with fail
      rw [← hU]
      clear hU
      go_wp2
      go_ret
      exact ⟨by rw [HQ.out, b2]; simp, BU.out⟩
  · have b1 : (x == p) = false := by simp [h1]
    clear h1
    go_enter Try.func60, Try.ntmps60
    go_upto_region 1 with fail
    rw [← hU]
    clear hU
    go_wp2
    go_ret
    exact ⟨by rw [HQ.out, b1]; simp, BU.out⟩
/-- Those who have voted at the greatest ballot of all. -/
def highQ (vs : List Vt) : List Vt := if (vs.filter fun v => votedQ v.st) = [] then [] else (vs.filter fun v => votedQ v.st).filter (atB (mxQ (vs.filter fun v => votedQ v.st)))
theorem fieldVB (m : Vt) (w : World) : (Instr.field 33 (.agg (vcs m).toArray) 3).run Try.prog w = .ok (.agg #[.int .i64 m.rd, .int .i64 m.who]) w := by kernel_rfl
theorem highQ_mem {vs : List Vt} {v : Vt} (h : v ∈ highQ vs) : v ∈ vs ∧ votedQ v.st = true := by
  unfold highQ at h
  split at h
  · cases h
  · have h1 := List.mem_filter.1 (List.mem_filter.1 h).1
    exact h1
set_option maxHeartbeats 4000000 in
set_option maxRecDepth 100000 in
theorem high_any (a : Option Addr) (c : Nat) (vs : List Vt) (w : World) (hr : RowS w 15 a vs.length (vs.map vcs)) (h7 : vs.length ≤ 7) :
    Calls Try.prog 30 #[.slice a vs.length c] w fun e w' => ∃ a' c', e = .returned (.slice a' (highQ vs).length c') ∧ RowS w' 15 a' (highQ vs).length ((highQ vs).map vcs) ∧ Below w.heap.size w w' := by
  have HR := hide hr
  clear hr
  go_enter Try.func30, Try.ntmps30
  go_wp2_with fail
  refine (only_any 57 #[] (fun v => votedQ v.st) a c vs w HR.out h7 (enters_of Try.func57 (by kernel_rfl) rfl) (fun W _ v => qvoted_any v W)).mono ?_
  rintro e w1 ⟨a1, c1, rfl, -, hr1, hb1⟩
  obtain ⟨vo, hvo⟩ : ∃ vo, (vs.filter fun v => votedQ v.st) = vo := ⟨_, rfl⟩
  rw [hvo] at hr1 ⊢
  have HR1 := hide hr1
  have B1 := hide hb1
  have HV7 : vo.length ≤ 7 := by rw [← hvo]; exact Nat.le_trans (List.length_filter_le _ _) h7
  have HVO := hide hvo
  clear hr1 hb1 hvo
  by_cases h0 : vo = []
  · have HQ : Hid (highQ vs = []) := by show _ = _; unfold highQ; rw [HVO.out, if_pos h0]
    have hl : vo.length = 0 := by rw [h0]; rfl
    rw [hl]
    clear h0 hl
    go_wp2
    go_ret
    rw [HQ.out]
    exact ⟨none, 0, rfl, rows_nil _ _ _, B1.out⟩
  · have HQ : Hid (highQ vs = vo.filter (atB (mxQ vo))) := by show _ = _; unfold highQ; rw [HVO.out, if_neg h0]
    have hl : 0 < vo.length := List.length_pos_iff.2 h0
    have hne : ((vo.length : Int) == 0) = false := by rw [beq_eq_false_iff_ne]; omega
    clear h0
    obtain ⟨N, hN⟩ : ∃ N, vo.length = N := ⟨_, rfl⟩
    have HN := hide hN
    have hMF := maxF_any a1 c1 vo w1 HR1.out HV7 hl
    rw [hN] at hl hne hMF ⊢
    have HMF := hide hMF
    clear hN hMF
    have hfi := fieldVB (mxQ vo)
    obtain ⟨m, hm⟩ : ∃ m, Hid (mxQ vo = m) := ⟨_, rfl⟩
    rw [hm.out] at HMF hfi
    go_wp2_with fail
    refine HMF.out.mono ?_
    rintro e w2 ⟨rfl, hb2⟩
    have HR2 : Hid (RowS w2 15 a1 vo.length (vo.map vcs)) := HR1.out.below hb2 (Nat.le_refl _) (by decide)
    have B2 : Hid (Below w.heap.size w w2) := B1.out.trans (hb2.mono B1.out.size)
    clear hb2 HMF HR1 B1
    go_upto_region 5 with fail
    obtain ⟨X, hX⟩ : ∃ X, X = w2.alloc (.cells #[.int .i64 m.rd, .int .i64 m.who] 29) := ⟨_, rfl⟩
    have HX : Hid (Blk X w2.heap.size [.int .i64 m.rd, .int .i64 m.who]) := by rw [hX]; exact blk_new w2 29 [.int .i64 m.rd, .int .i64 m.who]
    have BX : Hid (Below w2.heap.size w2 X) := by rw [hX]; exact (Below.refl _ _).alloc (Nat.le_refl _) _
    have HR3 : Hid (RowS X 15 a1 vo.length (vo.map vcs)) := HR2.out.below BX.out (Nat.le_refl _) (by decide)
    have BW : Hid (Below w.heap.size w X) := B2.out.trans (BX.out.mono B2.out.size)
    rw [← hX]
    have HXS := hide HX.out.lt
    clear hX
    have hOC := only_any 60 #[.pointer (some ⟨w2.heap.size, 0, none⟩)] (atB m) a1 c1 vo X HR3.out HV7 (enters_of Try.func60 (by kernel_rfl) rfl) (fun W hW v => high1_any w2.heap.size m v W ((HX.out.on hW).cell 0 _ rfl) ((HX.out.on hW).cell 1 _ rfl))
    rw [HN.out] at hOC
    have HOC := hide hOC
    clear hOC
    go_wp2_with fail
    refine HOC.out.mono ?_
    rintro e w5 ⟨a5, c5, rfl, -, hr5, hb5⟩
    have HR5 := hide hr5
    have B5 : Hid (Below w.heap.size w w5) := BW.out.trans (hb5.mono BW.out.size)
    clear hr5 hb5
    go_wp2
    go_ret
    rw [HQ.out, hm.out]
    exact ⟨a5, c5, rfl, HR5.out, B5.out⟩
end Go.Proofs.Ytmplipkdaplpnaa
