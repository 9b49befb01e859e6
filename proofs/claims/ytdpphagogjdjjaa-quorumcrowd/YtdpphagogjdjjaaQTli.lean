/- A tally of numbers in memory, and the contracts of its methods. -/
import Derived.Test.YtdpphagogjdjjaaQTly0
import Derived.Test.YtdpphagogjdjjaaQVote2
import Derived.Deep.Cut
import Derived.Carry
import Derived.OwnWalk
import Derived.Maps.AppendAt
namespace Go.Proofs.Ytdpphagogjdjjaa
open Go.RowKit Go.Wire1

/-- A tally of numbers: its three cells at tb, its map at mb. -/
structure Tli (w : World) (tb mb : Nat) (n slf : Int) (m : List (Int × Int)) : Prop where
  box : w.rangeAt tb 0 [.int .i64 n, .int .i64 slf, .map (some mb)]
  im : IM w mb (mapV (Value.int .i64) m)
  row : ∀ p ∈ m, 0 ≤ p.1 ∧ p.1 < n
  size : n ≤ 7
section
variable {w : World} {tb mb : Nat} {n slf : Int} {m : List (Int × Int)}
theorem Tli.keys (h : Tli w tb mb n slf m) : (m.map (·.1)).Nodup := by
  have := h.im.keys
  rwa [mapV_keys] at this
theorem Tli.r7 (h : Tli w tb mb n slf m) : ∀ p ∈ m, 0 ≤ p.1 ∧ p.1 < 7 := fun p hp => by
  have := h.row p hp
  have := h.size
  omega
theorem Tli.ne (h : Tli w tb mb n slf m) : tb ≠ mb := by
  intro e
  subst e
  obtain ⟨es, clock, hb, _⟩ := h.im.ex
  have := h.box 0 _ rfl
  simp [World.cell?, hb] at this
theorem Tli.lt (h : Tli w tb mb n slf m) : tb < w.heap.size := rangeAt_lt h.box (by simp)
theorem Tli.below {w' : World} {B : Nat} (h : Tli w tb mb n slf m) (hb : Below B w w') (h1 : tb < B) (h2 : mb < B) : Tli w' tb mb n slf m := ⟨rangeAt_below h.box hb h1, h.im.below hb h2, h.row, h.size⟩
theorem Tli.on {w' : World} (h : Tli w tb mb n slf m) (hb : Below w.heap.size w w') : Tli w' tb mb n slf m := h.below hb h.lt h.im.lt
/-- What turns another block leaves it. -/
theorem Tli.far {w' : World} {r : Nat} (h : Tli w tb mb n slf m) (hg : w.grownBy w' (some r)) (h1 : tb ≠ r) (h2 : mb ≠ r) : Tli w' tb mb n slf m :=
  ⟨range_grown h.box hg h1 (by simp), h.im.of_block (hg.block mb h.im.lt (by intro e; injection e with e; exact h2 e)), h.row, h.size⟩
theorem Tli.more {w' : World} (h : Tli w tb mb n slf m) {fr v : Int} (hi : IM w' mb (mapV (Value.int .i64) m ++ [(fr, .int .i64 v)])) (hg : w.grownBy w' (some mb)) (hr : 0 ≤ fr ∧ fr < n) : Tli w' tb mb n slf (m ++ [(fr, v)]) := by
  refine ⟨fun j v hv => ?_, by rw [mapV_append]; exact hi, fun p hp => ?_, h.size⟩
  · have := h.box j v hv
    rw [World.cell?_of_block (a := ⟨tb, 0 + j, none⟩) (hg.block tb h.lt (by intro e; injection e with e; exact h.ne e))]
    exact this
  · rcases List.mem_append.1 hp with hp | hp
    · exact h.row p hp
    · simp only [List.mem_singleton] at hp
      subst hp
      exact hr
end
theorem zeroI (w : World) : (zeroValue 3).run Try.prog w = .ok (.int .i64 0) w := by kernel_rfl
set_option maxHeartbeats 1000000 in
set_option maxRecDepth 100000 in
theorem newI_any (n slf : Int) (w : World) (hn : n ≤ 7) :
    Calls Try.prog 15 #[.int .i64 n, .int .i64 slf] w fun e w' => e = .returned (.pointer (some ⟨w.heap.size + 1, 0, none⟩)) ∧ Tli w' (w.heap.size + 1) w.heap.size n slf [] ∧ Below w.heap.size w w' := by
  have hmm := @run_makeMap Try.prog
  go_enter Try.func15, Try.ntmps15
  go_wp2
  go_ret
  refine ⟨rfl, ⟨?_, ?_, by simp, hn⟩, ((Below.refl _ _).alloc (Nat.le_refl _) _).alloc (by simp) _⟩
  · have := (blk_new (w.alloc (.map #[] 0)) 49 [.int .i64 n, .int .i64 slf, .map (some w.heap.size)]).range
    rw [World.size_alloc] at this
    exact this
  · exact (im_new w).on ((Below.refl _ _).alloc (Nat.le_refl _) _)
set_option maxHeartbeats 1000000 in
set_option maxRecDepth 100000 in
theorem newT7_any (w : World) :
    Calls Try.prog 5 #[.int .i64 7, .int .i64 0] w fun e w' => e = .returned (.pointer (some ⟨w.heap.size + 1, 0, none⟩)) ∧ Tli w' (w.heap.size + 1) w.heap.size 7 0 [] ∧ Below w.heap.size w w' := by
  go_enter Try.func5, Try.ntmps5
  go_wp2_with fail
  refine (qsize_any 7 _).mono ?_
  rintro e w1 ⟨rfl, rfl⟩
  rw [show szQ 7 = true from rfl]
  go_wp2_with fail
  refine (qrep_any 7 0 _).mono ?_
  rintro e w1 ⟨rfl, rfl⟩
  rw [show repQ 7 0 = true from rfl]
  go_wp2_with fail
  refine (newI_any 7 0 _ (by decide)).mono ?_
  rintro e w2 ⟨rfl, ht, hb⟩
  have HT := hide ht
  have HB := hide hb
  clear ht hb
  go_wp2
  go_ret
  exact ⟨rfl, HT.out, HB.out⟩
set_option maxHeartbeats 2000000 in
set_option maxRecDepth 100000 in
theorem addI_any {tb mb : Nat} {n slf : Int} {m : List (Int × Int)} {w : World} (h : Tli w tb mb n slf m) (fr v : Int) (hf : -9223372036854775808 ≤ fr ∧ fr ≤ 9223372036854775807) :
    Calls Try.prog 6 #[.pointer (some ⟨tb, 0, none⟩), .int .i64 fr, .int .i64 v] w fun e w' => e = .returned (.bool (okT n slf m fr)) ∧ Tli w' tb mb n slf (addM n slf m fr v) ∧ w.grownBy w' (some mb) := by
  have HT := hide h
  have HF := hide hf
  have c0 := h.box 0 _ rfl
  have c1 := h.box 1 _ rfl
  have c2 := h.box 2 _ rfl
  rw [Nat.zero_add] at c0 c1 c2
  have HG : Hid (w.grownBy w (some mb)) := ⟨rfl, rfl, rfl, Nat.le_refl _, fun _ _ _ => rfl⟩
  clear h hf
  by_cases hr : 0 ≤ fr ∧ fr < n
  · have hr' : repQ n fr = true := by unfold repQ; rw [decide_eq_true hr.1, decide_eq_true hr.2]; rfl
    by_cases hs : fr = slf
    · have HQ : Hid (okT n slf m fr = false ∧ addM n slf m fr v = m) := addM_no (by unfold okT; simp [hs])
      have bs : (fr == slf) = true := by simp [hs]
      clear hs
      go_enter Try.func6, Try.ntmps6
      go_wp2_with (first | (go_at_call 14; refine (qrep_any n fr _).mono ?_; rintro e w1 ⟨rfl, rfl⟩))
      go_ret
      rw [HQ.out.1, HQ.out.2]
      exact ⟨rfl, HT.out, HG.out⟩
    · have bs : (fr == slf) = false := by simp [hs]
      cases hlk : lkm m fr with
      | some u =>
        have HQ : Hid (okT n slf m fr = false ∧ addM n slf m fr v = m) := addM_no (by unfold okT; simp [hlk])
        have HM : Hid ((lkm (mapV (Value.int .i64) m) fr).getD (.int .i64 0) = .int .i64 u ∧ (lkm (mapV (Value.int .i64) m) fr).isSome = true) := by show _ ∧ _; rw [lkm_mapV, hlk]; exact ⟨rfl, rfl⟩
        clear hs hlk
        go_enter Try.func6, Try.ntmps6
        go_wp2_with (first | (go_at_call 14; refine (qrep_any n fr _).mono ?_; rintro e w1 ⟨rfl, rfl⟩) | (refine wpList_lookup_im rfl _ _ 47 true rfl 3 3 Try.underlying47 Try.underlying3 _ (zeroI _) rfl HT.out.im fr rfl HF.out ?_; rw [HM.out.1, HM.out.2]))
        go_ret
        rw [HQ.out.1, HQ.out.2]
        exact ⟨rfl, HT.out, HG.out⟩
      | none =>
        have HN : Hid (lkm (mapV (Value.int .i64) m) fr = none) := by show _ = _; rw [lkm_mapV, hlk]; rfl
        have HQ : Hid (okT n slf m fr = true ∧ addM n slf m fr v = m ++ [(fr, v)]) := addM_yes (by unfold okT; simp [hlk, hr, hs])
        have HM : Hid ((lkm (mapV (Value.int .i64) m) fr).getD (.int .i64 0) = .int .i64 0 ∧ (lkm (mapV (Value.int .i64) m) fr).isSome = false) := by show _ ∧ _; rw [lkm_mapV, hlk]; exact ⟨rfl, rfl⟩
        have HR := hide hr
        clear hs hlk hr
        go_enter Try.func6, Try.ntmps6
        go_upto_region 6 with (first | (go_at_call 14; refine (qrep_any n fr _).mono ?_; rintro e w1 ⟨rfl, rfl⟩) | (refine wpList_lookup_im rfl _ _ 47 true rfl 3 3 Try.underlying47 Try.underlying3 _ (zeroI _) rfl HT.out.im fr rfl HF.out ?_; rw [HM.out.1, HM.out.2]))
        go_wp2_with (first | (refine wpList_plain rfl fun K hK => ?_; refine wp_put_im _ _ _ 47 rfl 3 3 Try.underlying47 Try.underlying3 rfl HT.out.im fr rfl HF.out HN.out (.int .i64 v) rfl ?_; intro w4 hi4 hg4 hs4; have HI4 := hide hi4; have HG4 : Hid (w.grownBy w4 (some mb)) := hg4; clear hi4 hg4 hs4; refine hK _ _ ?_))
        go_ret
        rw [HQ.out.1, HQ.out.2]
        exact ⟨rfl, HT.out.more HI4.out HG4.out HR.out, HG4.out⟩
  · have hr' : repQ n fr = false := by
      unfold repQ
      rw [Bool.eq_false_iff]
      intro e
      simp only [Bool.and_eq_true, decide_eq_true_eq] at e
      exact hr e
    have HQ : Hid (okT n slf m fr = false ∧ addM n slf m fr v = m) := addM_no (by unfold okT; rw [decide_eq_false hr]; rfl)
    clear hr
    go_enter Try.func6, Try.ntmps6
    go_wp2_with (first | (go_at_call 14; refine (qrep_any n fr _).mono ?_; rintro e w1 ⟨rfl, rfl⟩))
    go_ret
    rw [HQ.out.1, HQ.out.2]
    exact ⟨rfl, HT.out, HG.out⟩
set_option maxHeartbeats 1000000 in
set_option maxRecDepth 100000 in
theorem getI_any {tb mb : Nat} {n slf : Int} {m : List (Int × Int)} {w : World} (h : Tli w tb mb n slf m) (fr : Int) (hf : -9223372036854775808 ≤ fr ∧ fr ≤ 9223372036854775807) :
    Calls Try.prog 7 #[.pointer (some ⟨tb, 0, none⟩), .int .i64 fr] w fun e w' => e = .returned (.tuple #[.int .i64 ((lkm m fr).getD 0), .bool (lkm m fr).isSome]) ∧ w = w' := by
  have HT := hide h
  have HF := hide hf
  have c2 := h.box 2 _ rfl
  rw [Nat.zero_add] at c2
  have HM : Hid ((lkm (mapV (Value.int .i64) m) fr).getD (.int .i64 0) = .int .i64 ((lkm m fr).getD 0) ∧ (lkm (mapV (Value.int .i64) m) fr).isSome = (lkm m fr).isSome) := by
    show _ ∧ _
    rw [lkm_mapV]
    cases lkm m fr <;> exact ⟨rfl, rfl⟩
  clear h hf
  go_enter Try.func7, Try.ntmps7
  go_wp2_with (first | (refine wpList_lookup_im rfl _ _ 47 true rfl 3 3 Try.underlying47 Try.underlying3 _ (zeroI _) rfl HT.out.im fr rfl HF.out ?_; rw [HM.out.1, HM.out.2]))
  go_ret2
  exact ⟨rfl, rfl⟩
set_option maxHeartbeats 2000000 in
set_option maxRecDepth 100000 in
theorem fromI_any {tb mb : Nat} {n slf : Int} {m : List (Int × Int)} {w : World} (h : Tli w tb mb n slf m) :
    Calls Try.prog 8 #[.pointer (some ⟨tb, 0, none⟩)] w fun e w' => ∃ g cap, e = .returned (.slice (some ⟨g, 0, none⟩) m.length cap) ∧ MineI w' w.heap.size g m.length cap (idsQ m) ∧ Below w.heap.size w w' := by
  obtain ⟨i0, hi, hz0, hz1, hz2⟩ := info_parts Try.info3
  have c2 := h.box 2 _ rfl
  rw [Nat.zero_add] at c2
  have HT := hide h
  have HI := hide h.im
  have hl : (mapV (Value.int .i64) m).length = m.length := by simp [mapV]
  have h7 : m.length ≤ 7 := len_le7 h.keys h.r7
  have hmb := h.im.lt
  have htb := h.lt
  clear h
  go_enter Try.func8, Try.ntmps8
  go_wp2_with (first | (refine wpList_len_im rfl _ 47 rfl 3 3 Try.underlying47 rfl HI.out ?_; rw [hl]) | (at_make; refine wpList_make_own _ rfl _ _ 22 rfl w.heap.size 3 i0 (.int .i64 0) 1 Try.underlying22 hi hz0 hz1 .i64 .i64 _ m.length rfl rfl rfl (by rw [hz2]; omega) (by unfold maxLen; omega) (Nat.le_refl _) ?_; intro w1 hown1 hg1; have hsz1 := hide hg1.size; have c2' : w1.cell? ⟨tb, 2, none⟩ = some (.map (some mb)) := hg1.cell c2 (by simp)) | (at_range; refine wpList_range_im rfl _ 47 rfl 3 3 Try.underlying47 rfl (HI.out.of_block (hg1.block mb hmb (by simp))) ?_; intro w2 hrg2 hg2 hs2; have hsz2 := hide hs2; clear hs2))
  go_frame
  generalize hit : w1.heap.size = it at *
  have HOW := hide (hown1.kept hg2 (.inr (by simp [Value.ownBlock])))
  have HB2 : Hid (Below w.heap.size w w2) := ((Below.refl _ w).grown hg1 (Nat.le_refl _) (fun j hj => by cases hj)).grown hg2 (by have := hsz1.out; omega) (fun j hj => by cases hj)
  have HRG := hide hrg2
  have hit2 : w.heap.size ≤ it := by have := hsz1.out; omega
  clear hown1 hg1 hg2 hrg2 c2' c2 hsz1 hit
  go_loopw [3] (fun x wr => ∃ L : List Int, Hid (wr.ownsRow w.heap.size 3 1 x L.length (L.map (Value.int .i64))) ∧ Hid (x ≠ .slice none 0 0) ∧ Hid (Rng wr mb it (mapV (Value.int .i64) m) L) ∧ Hid (Below w.heap.size w wr)) (fun _ wr => wr.rangeLeft mb it)
  case atStart => exact ⟨[], HOW, (by intro e; cases e), HRG, HB2⟩
  case round =>
    obtain ⟨L, HO, HX, HR, HB⟩ := hrel
    have hL7 : L.length ≤ 7 := by
      have h1 := HR.out.nodup.length_le_of_subset HR.out.sub
      rw [List.length_map, hl] at h1
      omega
    go_wp2_with (first | (at_next; refine wpList_next_im rfl _ rfl rfl HR.out ?_ ?_))
    · intro hall
      have HP : Hid (L.Perm (m.map (·.1))) := by
        have h1 := HR.out.perm (fun k hk => by obtain ⟨p, hp, rfl⟩ := List.mem_map.1 hk; exact hall p.1 p.2 hp)
        rwa [mapV_keys] at h1
      have HLn : Hid (L.length = m.length) := by have := HP.out.length_eq; rw [List.length_map] at this; exact this
      obtain ⟨g, cap, rfl, hM⟩ : ∃ g cap, u3 = .slice (some ⟨g, 0, none⟩) L.length cap ∧ MineI wr w.heap.size g L.length cap L := by
        rcases HO.out.2 with ⟨e, _⟩ | ⟨g, cap, cur, e, hB, hh, h3, h4, h5, h6⟩
        · exact absurd e HX.out
        · exact ⟨g, cap, e, by rw [← e]; exact HO.out, rfl, h3, h4, hB⟩
      have HM := hide hM
      clear hM hall HR HO HX
      go_wp2_with fail
      refine (sort_any HM.out (by omega)).mono ?_
      rintro e w4 ⟨rfl, L', hm', hp', hs', hb'⟩
      have HE : Hid (L' = idsQ m) := sorted_ids HT.out.keys HT.out.r7 (hp'.trans HP.out) hs'
      have HM' := hide hm'
      have HB4 : Hid (Below w.heap.size w w4) := HB.out.trans hb'
      clear hm' hp' hs' hb'
      go_wp2
      go_ret
      exact ⟨g, cap, by rw [HLn.out]; rfl, by rw [← HLn.out, ← HE.out]; exact HM'.out, HB4.out⟩
    · intro k v w3 hm hk hrg3 hlt3 hg3 hs3 hen
      have HLT := hide hlt3
      obtain ⟨g, hg⟩ : ∃ g, u3.ownBlock = some g := by
        rcases HO.out.2 with ⟨e, _⟩ | ⟨g, cap, cur, e, _⟩
        · exact absurd e HX.out
        · exact ⟨g, by rw [e]; rfl⟩
      have hgl := HO.out.lt g hg
      have hgi : g ≠ it := by
        rcases HO.out.2 with ⟨e, _⟩ | ⟨g', cap, cur, e, hB, hh, _⟩
        · exact absurd e HX.out
        · obtain rfl : g = g' := by rw [e] at hg; simpa [Value.ownBlock] using hg.symm
          intro e2
          subst e2
          obtain ⟨es, clock, since, seen, c0, _, hr, _⟩ := HR.out.ex
          rw [hh] at hr
          cases hr
      have HO3 := hide (HO.out.kept hg3 (.inr (by rw [hg]; intro e; injection e with e; exact hgi e)))
      have HB3 : Hid (Below w.heap.size w w3) := HB.out.grown hg3 HB.out.size (fun j hj => by cases hj; exact hit2)
      have HR3 := hide hrg3
      have hgm : g ≠ mb := by omega
      have HG := hide hg
      have hws : w.heap.size ≤ w3.heap.size := HB3.out.size
      clear hrg3 hlt3 hg3 hs3 hm hk HO HR hg
      go_wp2_with (first | (at_builtin; refine wpList_append_own_at _ rfl _ _ 22 rfl w.heap.size 3 i0 (.int .i64 0) 1 8 Try.underlying22 hi hz0 hz1 hz2 rfl (by decide) u3 _ _ rfl (HO3.out.alloc _) ⟨w3.heap.size, 0, none⟩ 1 1 [.int .i64 k] rfl rfl (cell_one_new _ _ _) (ints_oneCell .i64 [k]) (by unfold maxLen; omega) (by omega) (by simp; omega) ?_; intro v' w4 hown4 hgrow4 hnil4 hloc4))
      have HR4 : Hid (Rng w4 mb it (mapV (Value.int .i64) m) (L ++ [k])) := by
        refine (HR3.out.alloc _).kept hgrow4 ?_ ?_
        · rw [HG.out]; intro e; injection e with e; exact hgm e.symm
        · rw [HG.out]; intro e; injection e with e; exact hgi e.symm
      have HB4 : Hid (Below w.heap.size w w4) := (HB3.out.alloc hws _).grown hgrow4 (by simp; omega) (fun j hj => by rw [HG.out] at hj; cases hj; exact hgl.1)
      have HO4 : Hid (w4.ownsRow w.heap.size 3 1 v' (L ++ [k]).length ((L ++ [k]).map (Value.int .i64))) := by
        show World.ownsRow _ _ _ _ _ _ _
        rw [List.length_append, List.map_append]; exact hown4
      have HX4 : Hid (v' ≠ .slice none 0 0) := fun e => by have := (hnil4.1 e).2; omega
      have HLT4 : Hid (w4.rangeLeft mb it < wr.rangeLeft mb it) := by
        have e : w4.rangeLeft mb it = w3.rangeLeft mb it := by
          unfold World.rangeLeft
          rw [hgrow4.block mb (by have := HR3.out.im.lt; simp; omega) (by rw [HG.out]; intro e; injection e with e; exact hgm e.symm), hgrow4.block it (by have := HR3.out.lt; simp; omega) (by rw [HG.out]; intro e; injection e with e; exact hgi e.symm), (MapKept.heap_alloc w3 _).2 mb HR3.out.im.lt, (MapKept.heap_alloc w3 _).2 it HR3.out.lt]
        show _ < _
        rw [e]; exact HLT.out
      clear hown4 hgrow4 hnil4 hloc4
      go_roundw
      case rel => exact ⟨L ++ [k], HO4, HX4, HR4, HB4⟩
      case measure => exact HLT4.out
end Go.Proofs.Ytdpphagogjdjjaa
