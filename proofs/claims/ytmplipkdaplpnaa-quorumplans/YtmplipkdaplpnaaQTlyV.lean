/- The contracts of a tally's methods, its answers of type moot/api.Vote. -/
import Derived.Test.YtmplipkdaplpnaaQTly0
import Derived.Test.YtmplipkdaplpnaaQVote2
import Derived.Deep.Cut
import Derived.Carry
import Derived.OwnWalk
import Derived.Maps.AppendAt
namespace Go.Proofs.Ytmplipkdaplpnaa
open Go.RowKit Go.Wire1

theorem infoV : (Try.prog.info? 33).map (fun i => (i.zero, i.size, i.bytes)) = some (some (.agg (zv : List Value).toArray), 15, 168) := by kernel_rfl
theorem zeroV (w : World) : (zeroValue 33).run Try.prog w = .ok (.agg (zv : List Value).toArray) w := by kernel_rfl
def zcV : List Value := zv
set_option maxHeartbeats 1000000 in
set_option maxRecDepth 100000 in
theorem newV_any (n slf : Int) (w : World) (hn : n ≤ 7) :
    Calls Try.prog 55 #[.int .i64 n, .int .i64 slf] w fun e w' => e = .returned (.pointer (some ⟨w.heap.size + 1, 0, none⟩)) ∧ Tly w' 15 (w.heap.size + 1) w.heap.size n slf [] ∧ Below w.heap.size w w' := by
  have hmm := @run_makeMap Try.prog
  go_enter Try.func55, Try.ntmps55
  go_wp2
  go_ret
  refine ⟨rfl, ⟨?_, ?_, by simp, by simp, hn⟩, ((Below.refl _ _).alloc (Nat.le_refl _) _).alloc (by simp) _⟩
  · have := (blk_new (w.alloc (.map #[] 0)) 97 [.int .i64 n, .int .i64 slf, .map (some w.heap.size)]).range
    rw [World.size_alloc] at this
    exact this
  · exact (im_new w).on ((Below.refl _ _).alloc (Nat.le_refl _) _)
set_option maxHeartbeats 1000000 in
set_option maxRecDepth 100000 in
theorem countV_any {tb mb : Nat} {n slf : Int} {m : List (Int × List Value)} {w : World} (h : Tly w 15 tb mb n slf m) :
    Calls Try.prog 29 #[.pointer (some ⟨tb, 0, none⟩)] w fun e w' => e = .returned (.int .i64 (m.length : Int)) ∧ w = w' := by
  have c2 := h.box 2 _ rfl
  rw [Nat.zero_add] at c2
  have HI := hide h.im
  have hl : (mapV (fun cs => Value.agg cs.toArray) m).length = m.length := by simp [mapV]
  clear h
  go_enter Try.func29, Try.ntmps29
  go_wp2_with (first | (refine wpList_len_im rfl _ 95 rfl 3 33 Try.underlying95 rfl HI.out ?_))
  go_ret
  exact ⟨rfl, rfl⟩
theorem lkmV {m : List (Int × List Value)} {fr : Int} (h : lkm m fr = none) : (lkm (mapV (fun cs => Value.agg cs.toArray) m) fr).getD (.agg (zv : List Value).toArray) = .agg zcV.toArray ∧ (lkm (mapV (fun cs => Value.agg cs.toArray) m) fr).isSome = false := by
  rw [lkm_mapV, h]; exact ⟨rfl, rfl⟩
theorem lksV {m : List (Int × List Value)} {fr : Int} {cs : List Value} (h : lkm m fr = some cs) : (lkm (mapV (fun cs => Value.agg cs.toArray) m) fr).getD (.agg (zv : List Value).toArray) = .agg cs.toArray ∧ (lkm (mapV (fun cs => Value.agg cs.toArray) m) fr).isSome = true := by
  rw [lkm_mapV, h]; exact ⟨rfl, rfl⟩
set_option maxHeartbeats 2000000 in
set_option maxRecDepth 100000 in
theorem addV_any {tb mb : Nat} {n slf : Int} {m : List (Int × List Value)} {w : World} (h : Tly w 15 tb mb n slf m) (fr : Int) (cs : List Value) (hl : cs.length = 15) (h1 : ∀ u ∈ cs, u.oneCell' = true) (hf : -9223372036854775808 ≤ fr ∧ fr ≤ 9223372036854775807) :
    Calls Try.prog 56 #[.pointer (some ⟨tb, 0, none⟩), .int .i64 fr, .agg cs.toArray] w fun e w' => e = .returned (.bool (okT n slf m fr)) ∧ Tly w' 15 tb mb n slf (addM n slf m fr cs) ∧ w.grownBy w' (some mb) := by
  obtain ⟨U, hU⟩ : ∃ U, U = w.alloc (.cells cs.toArray 33) := ⟨_, rfl⟩
  have HG : Hid (w.grownBy U (some mb)) := by rw [hU]; exact World.grownBy_alloc w _ _
  have HT : Hid (Tly U 15 tb mb n slf m) := by rw [hU]; exact h.on ((Below.refl _ _).alloc (Nat.le_refl _) _)
  have HB : Hid (Blk U w.heap.size cs) := by rw [hU]; exact blk_new w 33 cs
  have HL := hide hl
  have H1 := hide h1
  have HF := hide hf
  have HL0 : Hid (0 < cs.length) := by show _ < _; omega
  have HK : Hid ((Try.prog.info? 33).map (·.size) = some cs.length) := by show _ = _; rw [hl]; kernel_rfl
  have HNE : Hid (w.heap.size ≠ mb) := by have := h.im.lt; show _ ≠ _; omega
  have hlt := h.im.lt
  have hltb := h.lt
  have c0 := HT.out.box 0 _ rfl
  have c1 := HT.out.box 1 _ rfl
  have c2 := HT.out.box 2 _ rfl
  rw [Nat.zero_add] at c0 c1 c2
  have hUs : U.heap.size = w.heap.size + 1 := by rw [hU]; simp
  have HUS := hide hUs
  clear h hl h1 hf hUs
  by_cases hr : 0 ≤ fr ∧ fr < n
  · have hr' : repQ n fr = true := by unfold repQ; rw [decide_eq_true hr.1, decide_eq_true hr.2]; rfl
    by_cases hs : fr = slf
    · have HQ : Hid (okT n slf m fr = false ∧ addM n slf m fr cs = m) := addM_no (by unfold okT; simp [hs])
      have bs : (fr == slf) = true := by simp [hs]
      clear hs
      go_enter Try.func56, Try.ntmps56
      go_upto_region 1 with fail
      rw [← hU]
      clear hU
      go_wp2_with (first | (go_at_call 26; refine (qrep_any n fr _).mono ?_; rintro e w1 ⟨rfl, rfl⟩))
      go_ret
      rw [HQ.out.1, HQ.out.2]
      exact ⟨rfl, HT.out, HG.out⟩
    · have bs : (fr == slf) = false := by simp [hs]
      cases hlk : lkm m fr with
      | some cs' =>
        have HQ : Hid (okT n slf m fr = false ∧ addM n slf m fr cs = m) := addM_no (by unfold okT; simp [hlk])
        have HM := hide <| lksV hlk
        have HF2 := hide (HT.out.fit _ (lkm_some hlk))
        have HS2 : Hid ((Try.prog.info? 33).map (·.size) = some cs'.toArray.size) := by show _ = _; rw [List.size_toArray, HF2.out.1]; kernel_rfl
        clear hs hlk
        go_enter Try.func56, Try.ntmps56
        go_upto_region 1 with fail
        rw [← hU]
        clear hU
        go_upto_region 3 with (first | (go_at_call 26; refine (qrep_any n fr _).mono ?_; rintro e w1 ⟨rfl, rfl⟩))
        obtain ⟨W2, hW2⟩ : ∃ W2, W2 = U.alloc (.cells (zv : List Value).toArray 33) := ⟨_, rfl⟩
        have HB2 : Hid (Blk W2 U.heap.size zv) := by rw [hW2]; exact blk_new U 33 zv
        have hsz : cs'.toArray.size = 15 := by rw [List.size_toArray]; exact HF2.out.1
        have TH : Hid (W2.there U.heap.size 0 cs'.toArray.size) := by show World.there _ _ _ _; rw [hsz]; exact HB2.out.there
        clear hsz
        have hW2' : Hid (U.alloc (.cells #[.int .i64 0, .int .i64 0, .bool false, .int .i64 0, .int .i64 0, .int .i64 0, .int .i64 0, .int .i64 0, .string ⟨#[]⟩, .string ⟨#[]⟩, .string ⟨#[]⟩, .string ⟨#[]⟩, .int .i64 0, .int .i64 0, .slice none 0 0] 33) = W2) := hW2.symm
        obtain ⟨W3, hW3⟩ : ∃ W3, W3 = W2.setCells U.heap.size 0 cs'.toArray.toList := ⟨_, rfl⟩
        have BE : Hid (Below U.heap.size U W3) := by rw [hW3]; exact below_cells (Nat.le_refl _) _ _ _ (by rw [hW2]; exact (Below.refl _ _).alloc (Nat.le_refl _) _)
        have HW3 := hide hW3
        clear hW3 hW2
        go_wp2_with (first | (refine wpList_lookup_im rfl _ _ 95 true rfl 3 33 Try.underlying95 Try.underlying3 _ (zeroV _) rfl HT.out.im fr rfl HF.out ?_; rw [HM.out.1, HM.out.2]) | (rw [hW2'.out]; refine wpList_store_mid rfl 33 _ _ rfl U.heap.size 0 cs'.toArray rfl rfl TH.out HS2.out (all_oneCell_toArray HF2.out.2) ?_; rw [← HW3.out]))
        go_ret
        rw [HQ.out.1, HQ.out.2]
        exact ⟨rfl, HT.out.on BE.out, HG.out.andThen (row' := none) ⟨BE.out.os, BE.out.tape, BE.out.output, BE.out.size, fun i hi _ => BE.out.block i hi⟩ (fun j hj => by cases hj)⟩
      | none =>
        have HN : Hid (lkm (mapV (fun cs => Value.agg cs.toArray) m) fr = none) := by show _ = _; rw [lkm_mapV, hlk]; rfl
        have HQ : Hid (okT n slf m fr = true ∧ addM n slf m fr cs = m ++ [(fr, cs)]) := addM_yes (by unfold okT; simp [hlk, hr, hs])
        have HM := hide <| lkmV hlk
        have HR := hide hr
        clear hs hlk hr
        go_enter Try.func56, Try.ntmps56
        go_upto_region 1 with fail
        rw [← hU]
        clear hU
        go_upto_region 3 with (first | (go_at_call 26; refine (qrep_any n fr _).mono ?_; rintro e w1 ⟨rfl, rfl⟩))
        obtain ⟨W2, hW2⟩ : ∃ W2, W2 = U.alloc (.cells (zv : List Value).toArray 33) := ⟨_, rfl⟩
        have HB2 : Hid (Blk W2 U.heap.size zv) := by rw [hW2]; exact blk_new U 33 zv
        have TH : Hid (W2.there U.heap.size 0 zcV.toArray.size) := HB2.out.there
        have hW2' : Hid (U.alloc (.cells #[.int .i64 0, .int .i64 0, .bool false, .int .i64 0, .int .i64 0, .int .i64 0, .int .i64 0, .int .i64 0, .string ⟨#[]⟩, .string ⟨#[]⟩, .string ⟨#[]⟩, .string ⟨#[]⟩, .int .i64 0, .int .i64 0, .slice none 0 0] 33) = W2) := hW2.symm
        obtain ⟨W3, hW3⟩ : ∃ W3, W3 = W2.setCells U.heap.size 0 zcV.toArray.toList := ⟨_, rfl⟩
        have BE : Hid (Below U.heap.size U W3) := by rw [hW3]; exact below_cells (Nat.le_refl _) _ _ _ (by rw [hW2]; exact (Below.refl _ _).alloc (Nat.le_refl _) _)
        have HT3 : Hid (Tly W3 15 tb mb n slf m) := HT.out.on BE.out
        have HC3 : Hid (W3.rangeAt w.heap.size 0 cs) := (HB.out.on BE.out).range
        have HW3 := hide hW3
        clear hW3 hW2
        go_upto_region 6 with (first | (refine wpList_lookup_im rfl _ _ 95 true rfl 3 33 Try.underlying95 Try.underlying3 _ (zeroV _) rfl HT.out.im fr rfl HF.out ?_; rw [HM.out.1, HM.out.2]) | (rw [hW2'.out]; refine wpList_store_mid rfl 33 _ _ rfl U.heap.size 0 zcV.toArray rfl rfl TH.out (by kernel_rfl) (by kernel_rfl) ?_; rw [← HW3.out]))
        clear HW3 hW2' HB2 TH
        refine wp_region_noPanic ?_
        refine wp_region_held_drew (S := (fun W' => W'.rangeAt tb 0 [.int .i64 n, .int .i64 slf, .map (some mb)] ∧ W'.rangeAt w.heap.size 0 cs)) (by kernel_rfl) ⟨HT3.out.box, HC3.out⟩ (fun hHeld => ?_)
        refine wpAnyH_take (i := 0) (v := ?_) rfl (by kernel_rfl) (by kernel_rfl) (by kernel_rfl) (fun _ _ _ h => h) (Or.inl ⟨by rfl, ?_⟩) (by assumption) ?_
        rotate_left
        · intro w hSw
          try dsimp only at hSw
          go_simp
          try with_reducible rfl
        try simp only [Act.put, List.getElem_toArray, List.getElem_cons_zero, List.setIfInBounds_toArray, List.set_cons_zero, List.set_cons_succ]
        refine wpAnyH_take (i := 1) (v := ?_) rfl (by kernel_rfl) (by kernel_rfl) (by kernel_rfl) (fun _ _ _ h => h) (Or.inl ⟨by rfl, ?_⟩) (by assumption) ?_
        rotate_left
        · intro w hSw
          try dsimp only at hSw
          go_simp
          try with_reducible rfl
        try simp only [Act.put, List.getElem_toArray, List.getElem_cons_succ, List.getElem_cons_zero, List.setIfInBounds_toArray, List.set_cons_zero, List.set_cons_succ]
        refine wpAnyH_take (i := 2) (v := ?_) rfl (by kernel_rfl) (by kernel_rfl) (by kernel_rfl) (fun _ _ _ h => h) (Or.inl ⟨by rfl, ?_⟩) (by assumption) ?_
        rotate_left
        · intro w hSw
          try dsimp only at hSw
          go_simp
          try with_reducible rfl
        try simp only [Act.put, List.getElem_toArray, List.getElem_cons_succ, List.getElem_cons_zero, List.setIfInBounds_toArray, List.set_cons_zero, List.set_cons_succ]
        refine wpAnyH_take (i := 3) (v := ?_) rfl (by kernel_rfl) (by kernel_rfl) (by kernel_rfl) (fun _ _ _ h => h) (Or.inl ⟨by rfl, ?_⟩) (by assumption) ?_
        rotate_left
        · intro w hSw
          try dsimp only at hSw
          have c2 := hSw.1 2 _ rfl
          rw [Nat.zero_add] at c2
          go_simp
          try with_reducible rfl
        try simp only [Act.put, List.getElem_toArray, List.getElem_cons_succ, List.getElem_cons_zero, List.setIfInBounds_toArray, List.set_cons_zero, List.set_cons_succ]
        refine wpAnyH_take (i := 4) (v := ?_) rfl (by kernel_rfl) (by kernel_rfl) (by kernel_rfl) (fun _ _ _ h => h) (Or.inl ⟨by rfl, ?_⟩) (by assumption) ?_
        rotate_left
        · intro w hSw
          try dsimp only at hSw
          go_simp
          try with_reducible rfl
        try simp only [Act.put, List.getElem_toArray, List.getElem_cons_succ, List.getElem_cons_zero, List.setIfInBounds_toArray, List.set_cons_zero, List.set_cons_succ]
        refine wpAnyH_take (i := 5) rfl (by kernel_rfl) (by kernel_rfl) (by kernel_rfl) (fun _ _ _ h => h) (yieldsIf_load_mid (by rfl) 33 _ rfl w.heap.size 0 rfl cs _ (fun _ h => h.2) Try.underlying33 rfl HK.out) (by assumption) ?_
        try simp only [Act.put, List.getElem_toArray, List.getElem_cons_succ, List.getElem_cons_zero, List.setIfInBounds_toArray, List.set_cons_zero, List.set_cons_succ]
        refine wpAnyH_ready (rs := [6]) (by kernel_rfl) (by simp) ?_
        refine AllReadyH.cons rfl (fun K hK => ?_) AllReadyH.nil
        rw [if_pos (by rfl)]
        refine wp_put_im _ _ _ 95 rfl 3 33 Try.underlying95 Try.underlying3 rfl (HT3.out.im.drewN 1) fr rfl HF.out HN.out (.agg cs.toArray) rfl ?_
        intro w4 hi4 hg4 hs4
        have HI4 := hide hi4
        have HG4 : Hid (W3.grownBy w4 (some mb)) := ⟨hg4.os, hg4.tape, hg4.output, hg4.size, hg4.block⟩
        clear hi4 hg4 hs4
        refine hK.out _ _ ⟨range_grown HT3.out.box HG4.out (by have := HT3.out.ne; omega) (by simp), range_grown HC3.out HG4.out HNE.out HL0.out⟩ (fun hHeld => ?_)
        clear hK K
        try simp only [Act.put, List.getElem_toArray, List.getElem_cons_succ, List.getElem_cons_zero]
        refine wpAnyH_done (by kernel_rfl) ?_ _
        refine NoPanic.normal ?_
        go_wp2
        go_ret
        rw [HQ.out.1, HQ.out.2]
        exact ⟨rfl, HT3.out.more HI4.out HG4.out HL.out H1.out HR.out, (HG.out.andThen (row' := none) ⟨BE.out.os, BE.out.tape, BE.out.output, BE.out.size, fun i hi _ => BE.out.block i hi⟩ (fun j hj => by cases hj)).andThen HG4.out (fun j hj => .inr hj)⟩
  · have hr' : repQ n fr = false := by
      unfold repQ
      rw [Bool.eq_false_iff]
      intro e
      simp only [Bool.and_eq_true, decide_eq_true_eq] at e
      exact hr e
    have HQ : Hid (okT n slf m fr = false ∧ addM n slf m fr cs = m) := addM_no (by unfold okT; rw [decide_eq_false hr]; rfl)
    clear hr
    go_enter Try.func56, Try.ntmps56
    go_upto_region 1 with fail
    rw [← hU]
    clear hU
    go_wp2_with (first | (go_at_call 26; refine (qrep_any n fr _).mono ?_; rintro e w1 ⟨rfl, rfl⟩))
    go_ret
    rw [HQ.out.1, HQ.out.2]
    exact ⟨rfl, HT.out, HG.out⟩
set_option maxHeartbeats 2000000 in
set_option maxRecDepth 100000 in
theorem fromV_any {tb mb : Nat} {n slf : Int} {m : List (Int × List Value)} {w : World} (h : Tly w 15 tb mb n slf m) :
    Calls Try.prog 61 #[.pointer (some ⟨tb, 0, none⟩)] w fun e w' => ∃ g cap, e = .returned (.slice (some ⟨g, 0, none⟩) m.length cap) ∧ MineI w' w.heap.size g m.length cap (idsQ m) ∧ Below w.heap.size w w' := by
  obtain ⟨i0, hi, hz0, hz1, hz2⟩ := info_parts Try.info3
  have c2 := h.box 2 _ rfl
  rw [Nat.zero_add] at c2
  have HT := hide h
  have HI := hide h.im
  have hl : (mapV (fun cs => Value.agg cs.toArray) m).length = m.length := by simp [mapV]
  have h7 : m.length ≤ 7 := len_le7 h.keys h.r7
  have hmb := h.im.lt
  have htb := h.lt
  clear h
  go_enter Try.func61, Try.ntmps61
  go_wp2_with (first | (refine wpList_len_im rfl _ 95 rfl 3 33 Try.underlying95 rfl HI.out ?_; rw [hl]) | (at_make; refine wpList_make_own _ rfl _ _ 22 rfl w.heap.size 3 i0 (.int .i64 0) 1 Try.underlying22 hi hz0 hz1 .i64 .i64 _ m.length rfl rfl rfl (by rw [hz2]; omega) (by unfold maxLen; omega) (Nat.le_refl _) ?_; intro w1 hown1 hg1; have hsz1 := hide hg1.size; have c2' : w1.cell? ⟨tb, 2, none⟩ = some (.map (some mb)) := hg1.cell c2 (by simp)) | (at_range; refine wpList_range_im rfl _ 95 rfl 3 33 Try.underlying95 rfl (HI.out.of_block (hg1.block mb hmb (by simp))) ?_; intro w2 hrg2 hg2 hs2; have hsz2 := hide hs2; clear hs2))
  go_frame
  generalize hit : w1.heap.size = it at *
  have HOW := hide (hown1.kept hg2 (.inr (by simp [Value.ownBlock])))
  have HB2 : Hid (Below w.heap.size w w2) := ((Below.refl _ w).grown hg1 (Nat.le_refl _) (fun j hj => by cases hj)).grown hg2 (by have := hsz1.out; omega) (fun j hj => by cases hj)
  have HRG := hide hrg2
  have hit2 : w.heap.size ≤ it := by have := hsz1.out; omega
  clear hown1 hg1 hg2 hrg2 c2' c2 hsz1 hit
  go_loopw [3] (fun x wr => ∃ L : List Int, Hid (wr.ownsRow w.heap.size 3 1 x L.length (L.map (Value.int .i64))) ∧ Hid (x ≠ .slice none 0 0) ∧ Hid (Rng wr mb it (mapV (fun cs => Value.agg cs.toArray) m) L) ∧ Hid (Below w.heap.size w wr)) (fun _ wr => wr.rangeLeft mb it)
  case atStart => exact ⟨[], HOW, (by intro e; cases e), HRG, HB2⟩
  case round =>
    obtain ⟨L, HO, HX, HR, HB⟩ := hrel
    have hL7 : L.length ≤ 7 := by
      have h1 := HR.out.nodup.length_le_of_subset HR.out.sub
      rw [List.length_map, hl] at h1
      omega
    go_wp2_with (first | (at_next; refine wpList_next_im rfl _ rfl rfl HR.out ?_ ?_))
    · intro hall
      have HP : Hid (L.Perm (m.map (·.1))) := by
        have h1 := HR.out.perm (fun k hk => by obtain ⟨p, hp, rfl⟩ := List.mem_map.1 hk; exact hall p.1 p.2 hp)
        rwa [mapV_keys] at h1
      have HLn : Hid (L.length = m.length) := by have := HP.out.length_eq; rw [List.length_map] at this; exact this
      obtain ⟨g, cap, rfl, hM⟩ : ∃ g cap, u3 = .slice (some ⟨g, 0, none⟩) L.length cap ∧ MineI wr w.heap.size g L.length cap L := by
        rcases HO.out.2 with ⟨e, _⟩ | ⟨g, cap, cur, e, hB, hh, h3, h4, h5, h6⟩
        · exact absurd e HX.out
        · exact ⟨g, cap, e, by rw [← e]; exact HO.out, rfl, h3, h4, hB⟩
      have HM := hide hM
      clear hM hall HR HO HX
      go_wp2_with fail
      refine (sort_any HM.out (by omega)).mono ?_
      rintro e w4 ⟨rfl, L', hm', hp', hs', hb'⟩
      have HE : Hid (L' = idsQ m) := sorted_ids HT.out.keys HT.out.r7 (hp'.trans HP.out) hs'
      have HM' := hide hm'
      have HB4 : Hid (Below w.heap.size w w4) := HB.out.trans hb'
      clear hm' hp' hs' hb'
      go_wp2
      go_ret
      exact ⟨g, cap, by rw [HLn.out]; rfl, by rw [← HLn.out, ← HE.out]; exact HM'.out, HB4.out⟩
    · intro k v w3 hm hk hrg3 hlt3 hg3 hs3 hen
      have HLT := hide hlt3
      obtain ⟨g, hg⟩ : ∃ g, u3.ownBlock = some g := by
        rcases HO.out.2 with ⟨e, _⟩ | ⟨g, cap, cur, e, _⟩
        · exact absurd e HX.out
        · exact ⟨g, by rw [e]; rfl⟩
      have hgl := HO.out.lt g hg
      have hgi : g ≠ it := by
        rcases HO.out.2 with ⟨e, _⟩ | ⟨g', cap, cur, e, hB, hh, _⟩
        · exact absurd e HX.out
        · obtain rfl : g = g' := by rw [e] at hg; simpa [Value.ownBlock] using hg.symm
          intro e2
          subst e2
          obtain ⟨es, clock, since, seen, c0, _, hr, _⟩ := HR.out.ex
          rw [hh] at hr
          cases hr
      have HO3 := hide (HO.out.kept hg3 (.inr (by rw [hg]; intro e; injection e with e; exact hgi e)))
      have HB3 : Hid (Below w.heap.size w w3) := HB.out.grown hg3 HB.out.size (fun j hj => by cases hj; exact hit2)
      have HR3 := hide hrg3
      have hgm : g ≠ mb := by omega
      have HG := hide hg
      have hws : w.heap.size ≤ w3.heap.size := HB3.out.size
      clear hrg3 hlt3 hg3 hs3 hm hk HO HR hg
      go_wp2_with (first | (at_builtin; refine wpList_append_own_at _ rfl _ _ 22 rfl w.heap.size 3 i0 (.int .i64 0) 1 8 Try.underlying22 hi hz0 hz1 hz2 rfl (by decide) u3 _ _ rfl (HO3.out.alloc _) ⟨w3.heap.size, 0, none⟩ 1 1 [.int .i64 k] rfl rfl (cell_one_new _ _ _) (ints_oneCell .i64 [k]) (by unfold maxLen; omega) (by omega) (by simp; omega) ?_; intro v' w4 hown4 hgrow4 hnil4 hloc4))
      have HR4 : Hid (Rng w4 mb it (mapV (fun cs => Value.agg cs.toArray) m) (L ++ [k])) := by
        refine (HR3.out.alloc _).kept hgrow4 ?_ ?_
        · rw [HG.out]; intro e; injection e with e; exact hgm e.symm
        · rw [HG.out]; intro e; injection e with e; exact hgi e.symm
      have HB4 : Hid (Below w.heap.size w w4) := (HB3.out.alloc hws _).grown hgrow4 (by simp; omega) (fun j hj => by rw [HG.out] at hj; cases hj; exact hgl.1)
      have HO4 : Hid (w4.ownsRow w.heap.size 3 1 v' (L ++ [k]).length ((L ++ [k]).map (Value.int .i64))) := by
        show World.ownsRow _ _ _ _ _ _ _
        rw [List.length_append, List.map_append]; exact hown4
      have HX4 : Hid (v' ≠ .slice none 0 0) := fun e => by have := (hnil4.1 e).2; omega
      have HLT4 : Hid (w4.rangeLeft mb it < wr.rangeLeft mb it) := by
        have e : w4.rangeLeft mb it = w3.rangeLeft mb it := by
          unfold World.rangeLeft
          rw [hgrow4.block mb (by have := HR3.out.im.lt; simp; omega) (by rw [HG.out]; intro e; injection e with e; exact hgm e.symm), hgrow4.block it (by have := HR3.out.lt; simp; omega) (by rw [HG.out]; intro e; injection e with e; exact hgi e.symm), (MapKept.heap_alloc w3 _).2 mb HR3.out.im.lt, (MapKept.heap_alloc w3 _).2 it HR3.out.lt]
        show _ < _
        rw [e]; exact HLT.out
      clear hown4 hgrow4 hnil4 hloc4
      go_roundw
      case rel => exact ⟨L ++ [k], HO4, HX4, HR4, HB4⟩
      case measure => exact HLT4.out
theorem rowV_new (w : World) (cs : List Value) : ∀ j u, cs[j]? = some u → (w.alloc (.cells cs.toArray 33)).cell? ((⟨w.heap.size, 0, none⟩ : Addr).add j) = some u := fun j u hj => by
  rw [Addr.add_mid, Nat.zero_add]; exact (blk_new w 33 cs).cell j u hj
set_option maxHeartbeats 2000000 in
set_option maxRecDepth 100000 in
theorem ansV_any {tb mb : Nat} {n slf : Int} {m : List (Int × List Value)} {w : World} (h : Tly w 15 tb mb n slf m) :
    Calls Try.prog 31 #[.pointer (some ⟨tb, 0, none⟩)] w fun e w' => ∃ a c, e = .returned (.slice a (ansQ m).length c) ∧ (ansQ m).length ≤ c ∧ RowS w' 15 a (ansQ m).length (ansQ m) ∧ Below w.heap.size w w' := by
  obtain ⟨i0, hi, hz0, hz1, hz2⟩ := info_parts infoV
  have HT := hide h
  have h7 : m.length ≤ 7 := len_le7 h.keys h.r7
  have HA : Hid ((ansQ m).length = m.length) := by show _ = _; rw [ans_len, ids_len h.keys h.r7]
  have HI : Hid ((idsQ m).length = m.length) := ids_len h.keys h.r7
  have HFA : Hid (∀ cs ∈ ansQ m, cs.length = 15 ∧ ∀ u ∈ cs, u.oneCell' = true) := fun cs hc => by
    unfold ansQ at hc
    obtain ⟨i, _, hl⟩ := List.mem_filterMap.1 hc
    exact h.fit _ (lkm_some hl)
  clear h
  go_enter Try.func31, Try.ntmps31
  go_wp2_with fail
  refine (fromV_any HT.out).mono ?_
  rintro e w1 ⟨g, cap, rfl, hM, hB⟩
  have HT1 : Hid (Tly w1 15 tb mb n slf m) := HT.out.on hB
  have HM := hide hM
  have HB := hide hB
  have hws : w.heap.size ≤ w1.heap.size := hB.size
  clear hM hB
  generalize hN : m.length = N at *
  go_wp2
  go_loopw [9, 3] (fun i x wr => ∃ k : Nat, i = .int .i64 (k : Int) ∧ k ≤ N ∧ Hid (wr.ownsRow w1.heap.size 33 15 x k ((ansQ m).take k).flatten) ∧ Hid (Below w1.heap.size w1 wr)) (fun i _ _ => N - (intOf i).toNat)
  case atStart => exact ⟨0, rfl, Nat.zero_le _, by show World.ownsRow _ _ _ _ _ _ _; exact World.ownsRow_nil _ _ _ _, Below.refl _ _⟩
  case round =>
    obtain ⟨k, rfl, hk, HO, HBW⟩ := hrel
    by_cases hlt : k < N
    · have ck : wr.cell? ⟨g, k, none⟩ = some (.int .i64 ((idsQ m).getD k 0)) := by
        rw [HBW.out.cell (p := ⟨g, k, none⟩) HM.out.lt]; exact HM.out.cell hlt
      have HTr : Hid (Tly wr 15 tb mb n slf m) := HT1.out.on HBW.out
      have c2 := HTr.out.box 2 _ rfl
      rw [Nat.zero_add] at c2
      obtain ⟨cs, hcs⟩ : ∃ cs, Hid ((ansQ m)[k]? = some cs) := ⟨_, List.getElem?_eq_getElem (by have := HA.out; omega)⟩
      have HLK : Hid (lkm m ((idsQ m).getD k 0) = some cs) := by
        show _ = _
        rw [ans_at (by have := HI.out; omega)]
        have := hcs.out
        rw [List.getElem?_eq_getElem (by have := HA.out; omega)] at this
        exact this
      have HF := hide (HFA.out cs (List.mem_of_getElem? hcs.out))
      have hbnd : -9223372036854775808 ≤ (idsQ m).getD k 0 ∧ (idsQ m).getD k 0 ≤ 9223372036854775807 := by
        have := HT1.out.r7 _ (lkm_some HLK.out)
        simp only at this
        omega
      have HM2 := hide (lksV HLK.out)
      have HBD := hide hbnd
      have HNX : Hid (((ansQ m).take k).flatten ++ cs = ((ansQ m).take (k + 1)).flatten) := by
        show _ = _
        rw [List.take_add_one, hcs.out, List.flatten_append]
        simp
      clear HLK hbnd hcs
      generalize (idsQ m).getD k 0 = y at *
      have hwr : w1.heap.size ≤ wr.heap.size := HBW.out.size
      obtain ⟨ob, hob⟩ : ∃ ob, Hid (u3.ownBlock = ob) := ⟨_, rfl⟩
      have HOB : Hid (∀ j, ob = some j → w1.heap.size ≤ j) := fun j hj => by rw [← hob.out] at hj; exact (HO.out.lt j hj).1
      go_wp2_with (first | (refine wpList_lookup_im rfl _ _ 95 false rfl 3 33 Try.underlying95 Try.underlying3 _ (zeroV _) rfl HTr.out.im y rfl HBD.out ?_; simp only [Bool.false_eq_true, if_false]; rw [HM2.out.1]) | (refine wpList_buildOne rfl 25 33 _ rfl 15 cs HF.out.1 rfl i0 _ Try.underlying25 hi hz0 hz1 (by omega) (by omega) ?_) | (at_builtin; refine wpList_append_own_at _ rfl _ _ 25 rfl w1.heap.size 33 i0 _ 15 168 Try.underlying25 hi hz0 hz1 hz2 (by kernel_rfl) (by decide) u3 _ _ rfl (HO.out.alloc _) ⟨wr.heap.size, 0, none⟩ 1 1 cs rfl (by rw [HF.out.1]) (rowV_new _ _) HF.out.2 (by unfold maxLen; omega) (by omega) (by simp; omega) ?_; intro v' w4 hown4 hgrow4 hnil4 hloc4; have HO4 := hide hown4; have HG4 := hide hgrow4; clear hown4 hgrow4 hnil4 hloc4))
      rw [HNX.out] at HO4
      have HB4 : Hid (Below w1.heap.size w1 w4) := (HBW.out.alloc hwr _).grown HG4.out (by simp; omega) (fun j hj => HOB.out j (by rw [← hob.out]; exact hj))
      go_roundw
      case rel => exact ⟨k + 1, by go_num, by omega, HO4, HB4⟩
      case measure => simp [intOf]; omega
    · have HO2 : Hid (wr.ownsRow w1.heap.size 33 15 u3 N (ansQ m).flatten) := by
        obtain rfl : k = N := by omega
        have := HO.out
        rw [List.take_of_length_le (by have := HA.out; omega)] at this
        exact this
      obtain ⟨a, c, rfl, hc, hrow⟩ := rowS_of HO2.out HA.out (by decide) HFA.out
      have HRW := hide hrow
      have hc' := hide hc
      clear hrow hc HO HO2
      go_wp2
      go_ret
      rw [HA.out]
      exact ⟨a, c, rfl, hc'.out, HRW.out, HB.out.trans (HBW.out.mono hws)⟩
set_option maxHeartbeats 2000000 in
set_option maxRecDepth 100000 in
theorem getV_any {tb mb : Nat} {n slf : Int} {m : List (Int × List Value)} {w : World} (h : Tly w 15 tb mb n slf m) (fr : Int) (hf : -9223372036854775808 ≤ fr ∧ fr ≤ 9223372036854775807) :
    Calls Try.prog 35 #[.pointer (some ⟨tb, 0, none⟩), .int .i64 fr] w fun e w' => e = .returned (.tuple #[.agg ((lkm m fr).getD zv).toArray, .bool (lkm m fr).isSome]) ∧ Below w.heap.size w w' := by
  obtain ⟨cs, HC, HLK⟩ : ∃ cs : List Value, (cs.length = 15 ∧ ∀ u ∈ cs, u.oneCell' = true) ∧ (lkm m fr).getD zv = cs ∧ (lkm (mapV (fun cs => Value.agg cs.toArray) m) fr).getD (.agg (zv : List Value).toArray) = .agg cs.toArray ∧ (lkm (mapV (fun cs => Value.agg cs.toArray) m) fr).isSome = (lkm m fr).isSome := by
    rw [lkm_mapV]
    cases hl : lkm m fr with
    | none => exact ⟨zv, ⟨rfl, by decide⟩, rfl, rfl, rfl⟩
    | some cs => exact ⟨cs, h.fit _ (lkm_some hl), rfl, rfl, rfl⟩
  obtain ⟨HLA, HLB, HLC⟩ := HLK
  rw [HLA]
  have HLK : Hid ((lkm (mapV (fun cs => Value.agg cs.toArray) m) fr).getD (.agg (zv : List Value).toArray) = .agg cs.toArray ∧ (lkm (mapV (fun cs => Value.agg cs.toArray) m) fr).isSome = (lkm m fr).isSome) := ⟨HLB, HLC⟩
  clear HLA HLB HLC
  generalize (lkm m fr).isSome = ok at *
  have HL := hide HC.1
  have H1 := hide HC.2
  have hsz : cs.toArray.size = 15 := by rw [List.size_toArray]; exact HC.1
  have HS2 : Hid ((Try.prog.info? 33).map (·.size) = some cs.toArray.size) := by show _ = _; rw [hsz]; kernel_rfl
  have HS3 : Hid ((Try.prog.info? 33).map (·.size) = some cs.length) := by show _ = _; rw [HC.1]; kernel_rfl
  obtain ⟨U, hU⟩ : ∃ U, U = w.alloc (.cells zv.toArray 33) := ⟨_, rfl⟩
  have HT : Hid (Tly U 15 tb mb n slf m) := by rw [hU]; exact h.on ((Below.refl _ _).alloc (Nat.le_refl _) _)
  have HZ : Hid (Blk U w.heap.size zv) := by rw [hU]; exact blk_new w 33 zv
  have BU : Hid (Below w.heap.size w U) := by rw [hU]; exact (Below.refl _ _).alloc (Nat.le_refl _) _
  obtain ⟨V, hV⟩ : ∃ V, V = U.alloc (.cells zv.toArray 33) := ⟨_, rfl⟩
  have HZV : Hid (Blk V w.heap.size zv) := by rw [hV]; exact HZ.out.on ((Below.refl _ _).alloc (Nat.le_refl _) _)
  have HZ2 : Hid (Blk V U.heap.size zv) := by rw [hV]; exact blk_new U 33 zv
  have BV : Hid (Below w.heap.size w V) := by rw [hV]; exact BU.out.alloc BU.out.size _
  obtain ⟨X, hX⟩ : ∃ X, X = V.setCells U.heap.size 0 cs.toArray.toList := ⟨_, rfl⟩
  have hne : w.heap.size < U.heap.size := HZ.out.lt
  have HX2 : Hid (Blk X U.heap.size cs) := by rw [hX]; exact blk_cells HZ2.out (by simp [HC.1, zv])
  have HXB : Hid (X.there w.heap.size 0 cs.toArray.size) := by show World.there _ _ _ _; rw [hX, hsz]; exact World.there_setCells HZV.out.there _ _ _
  have BX : Hid (Below w.heap.size w X) := by rw [hX]; exact below_cells (by omega) _ _ _ BV.out
  obtain ⟨Y, hY⟩ : ∃ Y, Y = X.setCells w.heap.size 0 cs.toArray.toList := ⟨_, rfl⟩
  have HYR : Hid (Y.rangeAt w.heap.size 0 cs) := by
    rw [hY]
    exact World.rangeAt_setCells_same _ _ _ _ (by have := HXB.out; rwa [hsz, ← HC.1] at this)
  have BY : Hid (Below w.heap.size w Y) := by rw [hY]; exact below_cells (Nat.le_refl _) _ _ _ BX.out
  have HUU : Hid (w.alloc (.cells #[.int .i64 0, .int .i64 0, .bool false, .int .i64 0, .int .i64 0, .int .i64 0, .int .i64 0, .int .i64 0, .string ⟨#[]⟩, .string ⟨#[]⟩, .string ⟨#[]⟩, .string ⟨#[]⟩, .int .i64 0, .int .i64 0, .slice none 0 0] 33) = U) := hU.symm
  have HVV : Hid (U.alloc (.cells #[.int .i64 0, .int .i64 0, .bool false, .int .i64 0, .int .i64 0, .int .i64 0, .int .i64 0, .int .i64 0, .string ⟨#[]⟩, .string ⟨#[]⟩, .string ⟨#[]⟩, .string ⟨#[]⟩, .int .i64 0, .int .i64 0, .slice none 0 0] 33) = V) := hV.symm
  have TH : Hid (V.there U.heap.size 0 cs.toArray.size) := by show World.there _ _ _ _; rw [hsz]; exact HZ2.out.there
  have HX := hide hX
  have HY := hide hY
  have hfr := hide hf
  have c2 := HT.out.box 2 _ rfl
  rw [Nat.zero_add] at c2
  clear hU hV hX hY hsz HC hf h
  go_enter Try.func35, Try.ntmps35
  go_upto_region 1 with fail
  rw [HUU.out]
  go_wp2_with (first | (refine wpList_lookup_im rfl _ _ 95 true rfl 3 33 Try.underlying95 Try.underlying3 _ (zeroV _) rfl HT.out.im fr rfl hfr.out ?_; simp only [if_true]; rw [HLK.out.1, HLK.out.2]) | (rw [HVV.out]; refine wpList_store_mid rfl 33 _ _ rfl U.heap.size 0 cs.toArray rfl rfl TH.out HS2.out (all_oneCell_toArray H1.out) ?_; rw [← HX.out]) | (refine wpList_load_mid rfl 33 _ rfl U.heap.size 0 rfl cs _ HX2.out.range Try.underlying33 rfl HS3.out ?_) | (refine wpList_store_mid rfl 33 _ _ rfl w.heap.size 0 cs.toArray rfl rfl HXB.out HS2.out (all_oneCell_toArray H1.out) ?_; rw [← HY.out]))
  refine bodyPost_ret (qresults_cell_tmp Try.results35 _ _ w.heap.size cs _ _ rfl rfl HYR.out Try.underlying33 rfl HS3.out) rfl ⟨rfl, BY.out⟩
end Go.Proofs.Ytmplipkdaplpnaa
