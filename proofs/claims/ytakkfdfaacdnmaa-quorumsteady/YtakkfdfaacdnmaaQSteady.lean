/- Proved: for every n, self, own attributes and votes QuorumSteady answers true: what Fast decides over the first votes it decides over more of them. No condition. -/
import Derived.Test.YtakkfdfaacdnmaaQLaw
import Derived.Test.YtakkfdfaacdnmaaQStM
import Derived.Test.YtakkfdfaacdnmaaQAcc
namespace Go.Proofs.Ytakkfdfaacdnmaa
open Go.ChangeShapes Go.WideShapes Go.ChangeAt Go.RowKit Go.Wire1

namespace quorumSteady
theorem range_alloc {w : World} {b o : Nat} {cs : List Value} {ob : Obj} (h : w.rangeAt b o cs) : (w.alloc ob).rangeAt b o cs := fun j v hv => Lib.cell?_alloc_some _ (h j v hv)
set_option maxHeartbeats 8000000 in
set_option maxRecDepth 100000 in
theorem walk (n slf seq : Int) (a : Option Addr) (k c : Nat) (l : List Int) (va : Option Addr) (N vc : Nat) (vs : List Vt) (w : World) (h : SegI w a k l) (hkc : k ≤ c) (hv : VRow w va N vs) (hcap : N ≤ vc) :
    Calls Try.prog 4 #[.int .i64 n, .int .i64 slf, .agg #[.int .i64 seq, .slice a k c], .slice va N vc] w fun e w' => e = .returned (.bool true) ∧ Below w.heap.size w w' := by
  obtain ⟨U, hU⟩ : ∃ U, U = w.alloc (.cells #[.int .i64 seq, .slice a k c] 38) := ⟨_, rfl⟩
  have BU0 : Hid (Below w.heap.size w U) := by rw [hU]; exact (Below.refl _ w).alloc (Nat.le_refl _) _
  have QU0 : Hid (Blk U w.heap.size [.int .i64 seq, .slice a k c]) := by rw [hU]; exact blk_new w 38 [.int .i64 seq, .slice a k c]
  have HS0 := hide (h.below BU0.out (Nat.le_refl _))
  have HV0 := hide (hv.below BU0.out (Nat.le_refl _))
  have HKC := hide hkc
  have hN := hv.len
  have htop := hv.top
  have HN := hide hN
  clear h hkc hv hN
  go_enter Try.func4, Try.ntmps4
  go_upto_region 1 with fail
  rw [← hU]
  clear hU
  go_wp2_with fail
  refine (goes_any _).mono ?_
  rintro e w1 ⟨rfl, hb1⟩
  have BU : Hid (Below w.heap.size w w1) := BU0.out.trans (hb1.mono BU0.out.size)
  have QU : Hid (Blk w1 w.heap.size [.int .i64 seq, .slice a k c]) := QU0.out.on hb1
  have HS := hide (HS0.out.below hb1 (Nat.le_refl _))
  have HV := hide (HV0.out.below hb1 (Nat.le_refl _))
  clear hb1 BU0 QU0 HS0 HV0
  generalize w1 = U at *
  have HST : Hid (∀ q, q ≤ N → wasN n slf seq l vs q ≠ 0 → (fastQ n slf seq l (vs.take q)).1 = wasN n slf seq l vs q) := fun q _ => steady_was n slf seq l vs q
  go_wp2
  go_loopw [10, 11] (fun x i wr => ∃ q : Nat, i = .int .i64 (q : Int) ∧ q ≤ N + 1 ∧ x = .int .i64 (wasN n slf seq l vs q) ∧ Hid (Below U.heap.size U wr)) (fun _ i _ => N + 1 - (intOf i).toNat)
  case atStart => exact ⟨0, rfl, Nat.zero_le _, rfl, Below.refl _ _⟩
  case round =>
    obtain ⟨q, rfl, hq, hx, HB⟩ := hrel
    subst hx
    by_cases hlt : q ≤ N
    · have HQ : Hid (Blk wr w.heap.size [.int .i64 seq, .slice a k c]) := QU.out.on HB.out
      have HBW : Hid (Below U.heap.size U wr) := HB.out
      have HBD : Hid (Below U.heap.size U wr.drew) := HB.out.drew
      have HDB : Hid (Below wr.heap.size wr wr.drew) := (Below.refl _ _).drew
      have HQK : Hid (∀ W : World, Below wr.heap.size wr.drew W → W.rangeAt w.heap.size 0 [.int .i64 seq, .slice a k c]) := fun W hW => rangeAt_below HQ.out.range (HDB.out.trans hW) HQ.out.lt
      have HFA : Hid (∀ W : World, Below U.heap.size U W → Calls Try.prog 12 #[.int .i64 n, .int .i64 slf, .agg #[.int .i64 seq, .slice a k c], .slice va q vc] W fun e w' => AnsP W (fastQ n slf seq l (vs.take q)) e w') := fun W hW => by
        have := fast_any n slf seq a k c l va vc (vs.take q) W (HS.out.below hW (Nat.le_refl _)) HKC.out (rowS_take (HV.out.below hW (Nat.le_refl _)).row (by have := HN.out; omega)) (fun v hv => (HV.out.ok v (List.mem_of_mem_take hv)).below hW (Nat.le_refl _))
        rwa [List.length_take, Nat.min_eq_left (by have := HN.out; omega)] at this
      have HON : Hid ((fastQ n slf seq l (vs.take q)).1 = 1 → (fastQ n slf seq l (vs.take q)).2.1 = seq ∧ (fastQ n slf seq l (vs.take q)).2.2 = l) := fast_one n slf seq l (vs.take q)
      obtain ⟨kq, hgq⟩ : ∃ x, Hid ((fastQ n slf seq l (vs.take q)).1 = x) := ⟨_, rfl⟩
      obtain ⟨sq, hr2⟩ : ∃ x, Hid ((fastQ n slf seq l (vs.take q)).2.1 = x) := ⟨_, rfl⟩
      obtain ⟨dq, hr3⟩ : ∃ x, Hid ((fastQ n slf seq l (vs.take q)).2.2 = x) := ⟨_, rfl⟩
      obtain ⟨wq, hwq⟩ : ∃ x, Hid (wasN n slf seq l vs q = x) := ⟨_, rfl⟩
      have hr1 := hgq
      rw [hgq.out, hr2.out, hr3.out] at HON
      rw [hwq.out]
      have hqc : (q : Int) ≤ (vc : Int) := by omega
      go_upto_region 8 with fail
      refine wp_region_noPanic ?_
      refine wp_region_held_drew (S := (fun W' => W'.rangeAt w.heap.size 0 [.int .i64 seq, .slice a k c])) (by kernel_rfl) HQ.out.range (fun hHeld => ?_)
      refine wpAnyH_take (i := 0) (v := ?_) rfl (by kernel_rfl) (by kernel_rfl) (by kernel_rfl) (fun _ _ _ h => h) (Or.inl ⟨by rfl, ?_⟩) (by assumption) ?_
      rotate_left
      · intro w hSw
        try dsimp only at hSw
        go_simp
        try with_reducible rfl
      try simp only [Act.put, List.getElem_toArray, List.getElem_cons_zero, List.setIfInBounds_toArray, List.set_cons_zero, List.set_cons_succ]
      refine wpAnyH_take (i := 1) (v := ?_) rfl (by kernel_rfl) (by kernel_rfl) (by kernel_rfl) (fun _ _ _ h => h) (Or.inl ⟨by rfl, ?_⟩) (by assumption) ?_
      rotate_left
      · intro w hSw
        try dsimp only at hSw
        go_simp
        try with_reducible rfl
      try simp only [Act.put, List.getElem_toArray, List.getElem_cons_succ, List.getElem_cons_zero, List.setIfInBounds_toArray, List.set_cons_zero, List.set_cons_succ]
      refine wpAnyH_take (i := 2) rfl (by kernel_rfl) (by kernel_rfl) (by kernel_rfl) (fun _ _ _ h => h) (yieldsIf_load_mid (by rfl) 38 _ rfl w.heap.size 0 rfl [.int .i64 seq, .slice a k c] _ (fun _ h => h) Try.underlying38 rfl (by kernel_rfl)) (by assumption) ?_
      try simp only [Act.put, List.getElem_toArray, List.getElem_cons_succ, List.getElem_cons_zero, List.setIfInBounds_toArray, List.set_cons_zero, List.set_cons_succ]
      refine wpAnyH_take (i := 3) (v := ?_) rfl (by kernel_rfl) (by kernel_rfl) (by kernel_rfl) (fun _ _ _ h => h) (Or.inl ⟨by rfl, ?_⟩) (by assumption) ?_
      rotate_left
      · intro w hSw
        try dsimp only at hSw
        go_simp
        try with_reducible rfl
      try simp only [Act.put, List.getElem_toArray, List.getElem_cons_succ, List.getElem_cons_zero, List.setIfInBounds_toArray, List.set_cons_zero, List.set_cons_succ]
      refine wpAnyH_take (i := 4) (v := ?_) rfl (by kernel_rfl) (by kernel_rfl) (by kernel_rfl) (fun _ _ _ h => h) (Or.inl ⟨by rfl, ?_⟩) (by assumption) ?_
      rotate_left
      · intro w hSw
        try dsimp only at hSw
        go_simp
        try with_reducible rfl
      try simp only [Act.put, List.getElem_toArray, List.getElem_cons_succ, List.getElem_cons_zero, List.setIfInBounds_toArray, List.set_cons_zero, List.set_cons_succ]
      refine wpAnyH_take (i := 5) (v := ?_) rfl (by kernel_rfl) (by kernel_rfl) (by kernel_rfl) (fun _ _ _ h => h) (Or.inl ⟨by rfl, ?_⟩) (by assumption) ?_
      rotate_left
      · intro w hSw
        try dsimp only at hSw
        go_simp
        try with_reducible rfl
      try simp only [Act.put, List.getElem_toArray, List.getElem_cons_succ, List.getElem_cons_zero, List.setIfInBounds_toArray, List.set_cons_zero, List.set_cons_succ]
      refine wpAnyH_ready (rs := [6, 10]) (by kernel_rfl) (by simp) ?_
      refine AllReadyH.cons rfl (fun K hK => ?_) (AllReadyH.cons rfl (fun K hK => ?_) AllReadyH.nil)
      · rw [if_pos (by rfl)]
        go_wp2_with fail
        refine (HFA.out _ HBD.out).mono ?_
        rintro e w4 ⟨ua, uc, rfl, ho4, hb4⟩
        have HO4 := hide ho4
        have HB4 := hide hb4
        clear ho4 hb4
        rw [hr3.out] at HO4
        rw [hr1.out, hr2.out, hr3.out]
        refine hK.out _ _ (HQK.out _ HB4.out) (fun hHeld => ?_)
        clear hK K
        try simp only [Act.put, List.getElem_toArray, List.getElem_cons_succ, List.getElem_cons_zero, List.setIfInBounds_toArray, List.set_cons_zero, List.set_cons_succ]
        refine wpAnyH_take (i := 7) (v := ?_) rfl (by kernel_rfl) (by kernel_rfl) (by kernel_rfl) (fun _ _ _ h => h) (Or.inl ⟨by rfl, ?_⟩) (by assumption) ?_
        rotate_left
        · intro w hSw
          try dsimp only at hSw
          go_simp
          try with_reducible rfl
        try simp only [Act.put, List.getElem_toArray, List.getElem_cons_succ, List.getElem_cons_zero, List.setIfInBounds_toArray, List.set_cons_zero, List.set_cons_succ]
        refine wpAnyH_take (i := 8) (v := ?_) rfl (by kernel_rfl) (by kernel_rfl) (by kernel_rfl) (fun _ _ _ h => h) (Or.inl ⟨by rfl, ?_⟩) (by assumption) ?_
        rotate_left
        · intro w hSw
          try dsimp only at hSw
          go_simp
          try with_reducible rfl
        try simp only [Act.put, List.getElem_toArray, List.getElem_cons_succ, List.getElem_cons_zero, List.setIfInBounds_toArray, List.set_cons_zero, List.set_cons_succ]
        refine wpAnyH_take (i := 9) (v := ?_) rfl (by kernel_rfl) (by kernel_rfl) (by kernel_rfl) (fun _ _ _ h => h) (Or.inl ⟨by rfl, ?_⟩) (by assumption) ?_
        rotate_left
        · intro w hSw
          try dsimp only at hSw
          go_simp
          try with_reducible rfl
        try simp only [Act.put, List.getElem_toArray, List.getElem_cons_succ, List.getElem_cons_zero, List.setIfInBounds_toArray, List.set_cons_zero, List.set_cons_succ]
        refine wpAnyH_ready (rs := [10]) (by kernel_rfl) (by simp) ?_
        refine AllReadyH.cons rfl (fun K hK => ?_) AllReadyH.nil
        rw [if_pos (by rfl)]
        go_wp2_with fail
        refine hK.out _ _ (range_alloc (HQK.out _ HB4.out)) (fun hHeld => ?_)
        clear hK K
        try simp only [Act.put, List.getElem_toArray, List.getElem_cons_succ, List.getElem_cons_zero, List.setIfInBounds_toArray, List.set_cons_zero, List.set_cons_succ]
        refine wpAnyH_take (i := 11) (v := ?_) rfl (by kernel_rfl) (by kernel_rfl) (by kernel_rfl) (fun _ _ _ h => h) (Or.inl ⟨by rfl, ?_⟩) (by assumption) ?_
        rotate_left
        · intro w hSw
          try dsimp only at hSw
          go_simp
          try with_reducible rfl
        try simp only [Act.put, List.getElem_toArray, List.getElem_cons_succ, List.getElem_cons_zero, List.setIfInBounds_toArray, List.set_cons_zero, List.set_cons_succ]
        refine wpAnyH_ready (rs := [12]) (by kernel_rfl) (by simp) ?_
        refine AllReadyH.cons rfl (fun K hK => ?_) AllReadyH.nil
        rw [if_pos (by rfl)]
        obtain ⟨X5, hX5⟩ : ∃ X5, X5 = w4.alloc (.cells #[.int .i64 0, .slice none 0 0] 38) := ⟨_, rfl⟩
        have ZX5 : Hid (Blk X5 w4.heap.size [.int .i64 0, .slice none 0 0]) := by rw [hX5]; exact blk_new w4 38 [.int .i64 0, .slice none 0 0]
        have BX5 : Hid (Below wr.heap.size wr X5) := by rw [hX5]; exact (HDB.out.trans HB4.out).alloc (HDB.out.trans HB4.out).size _
        have TX5 := hide ZX5.out.there
        have HQ5 : Hid (X5.rangeAt w.heap.size 0 [.int .i64 seq, .slice a k c]) := by rw [hX5]; exact range_alloc (HQK.out _ HB4.out)
        have HO5 : Hid (X5.ownsRow wr.heap.size 3 1 (.slice ua dq.length uc) dq.length (dq.map (Value.int .i64))) := by show World.ownsRow _ _ _ _ _ _ _; rw [hX5]; exact World.ownsRow.alloc HO4.out _
        have hw4 : wr.heap.size ≤ w4.heap.size := HB4.out.size
        rw [← hX5]
        refine wp_store_mid 38 _ _ rfl w4.heap.size 0 #[.int .i64 sq, .slice ua dq.length uc] rfl rfl TX5.out (by kernel_rfl) (by kernel_rfl) ?_
        clear hX5
        refine hK.out _ _ (World.rangeAt_setCells_apart HQ5.out _ _ _ (.inl (by have := HQ.out.lt; omega))) (fun hHeld => ?_)
        clear hK K
        try simp only [Act.put, List.getElem_toArray, List.getElem_cons_succ, List.getElem_cons_zero]
        refine wpAnyH_done (by kernel_rfl) ?_ _
        refine NoPanic.normal ?_
        obtain ⟨Y, hY⟩ : ∃ Y, Y = X5.setCells w4.heap.size 0 [.int .i64 sq, .slice ua dq.length uc] := ⟨_, rfl⟩
        have HYB : Hid (Blk Y w4.heap.size [.int .i64 sq, .slice ua dq.length uc]) := by rw [hY]; exact blk_cells ZX5.out rfl
        have HYW : Hid (Below wr.heap.size wr Y) := by rw [hY]; exact below_cells (by omega) _ _ _ BX5.out
        have HYO : Hid (Y.ownsRow wr.heap.size 3 1 (.slice ua dq.length uc) dq.length (dq.map (Value.int .i64))) := by
          show World.ownsRow _ _ _ _ _ _ _
          refine World.ownsRow.kept (row := some w4.heap.size) HO5.out (by rw [hY]; exact grown_cells _ _ _ _) ?_
          rcases HO4.out.2 with ⟨e, _⟩ | ⟨g', cap', cur, e, hB', hh, _⟩
          · rw [e]; exact .inl rfl
          · rw [e]; refine .inr ?_; intro e2; simp only [Value.ownBlock, Option.some.injEq] at e2; subst e2
            have := (Array.getElem?_eq_some_iff.1 hh).1
            omega
        rw [← hY]
        clear hY
        have y0 := HYB.out.cell 0 _ rfl
        have y1 := HYB.out.cell 1 _ rfl
        have HQY : Hid (Blk Y w.heap.size [.int .i64 seq, .slice a k c]) := HQ.out.on HYW.out
        have z0 := HQY.out.cell 0 _ rfl
        have z1 := HQY.out.cell 1 _ rfl
        have HBY : Hid (Below U.heap.size U Y) := HB.out.trans (HYW.out.mono (by have := HB.out.size; omega))
        have hst := HST.out q (by omega)
        rw [hwq.out, hgq.out] at hst
        by_cases h1 : kq = 1
        · have hsd := HON.out h1
          have HS9 : Hid (SegI Y a k l) := HS.out.below HBY.out (Nat.le_refl _)
          have HS8 : Hid (SegI Y ua l.length l) := by
            have h := HYO.out
            rw [hsd.2] at h
            obtain ⟨ua', uc', he, -, hseg⟩ := own_segI h HS.out.2.2.2
            injection he with e1 e2 e3
            rw [e1]; exact hseg
          have hsq := hsd.1
          have hdq := hsd.2
          subst hsq
          rw [hdq] at y1
          rw [hdq]
          subst h1
          have HN2 : Hid (wasN n slf sq l vs (q + 1) = 1) := by show _ = _; rw [← hgq.out]; rfl
          by_cases h0 : wq = 0
          · subst h0
            clear hst
            go_wp2_with fail
            refine (sameAttr_any sq sq _ _ _ _ _ _ l l _ HS8.out HS9.out (b := true) (by simp [sameB])).mono ?_
            rintro e w9 ⟨rfl, hb9⟩
            have HB9 : Hid (Below U.heap.size U w9) := HBY.out.trans (hb9.mono HBY.out.size)
            clear hb9
            go_wp2
            go_roundw
            case rel => exact ⟨q + 1, by go_num, by omega, by rw [HN2.out], HB9⟩
            case measure => simp [intOf]; omega
          · obtain rfl : (1 : Int) = wq := hst h0
            clear hst
            go_wp2_with fail
            refine (sameAttr_any sq sq _ _ _ _ _ _ l l _ HS8.out HS9.out (b := true) (by simp [sameB])).mono ?_
            rintro e w9 ⟨rfl, hb9⟩
            have HB9 : Hid (Below U.heap.size U w9) := HBY.out.trans (hb9.mono HBY.out.size)
            clear hb9
            go_wp2
            go_roundw
            case rel => exact ⟨q + 1, by go_num, by omega, by rw [HN2.out], HB9⟩
            case measure => simp [intOf]; omega
        · have HN2 : Hid (wasN n slf seq l vs (q + 1) = kq) := by show _ = _; rw [← hgq.out]; rfl
          have b1 : (kq == 1) = false := beq_eq_false_iff_ne.2 h1
          by_cases h0 : wq = 0
          · subst h0
            clear hst h1
            go_wp2
            go_roundw
            case rel => exact ⟨q + 1, by go_num, by omega, by rw [HN2.out], HBY⟩
            case measure => simp [intOf]; omega
          · obtain rfl : kq = wq := hst h0
            have b2 : (kq != 0) = true := by simp [h0]
            have b3 : (kq != kq) = false := by simp
            clear hst h1 h0
            go_wp2
            go_roundw
            case rel => exact ⟨q + 1, by go_num, by omega, by rw [HN2.out], HBY⟩
            case measure => simp [intOf]; omega
      · rw [if_pos (by rfl)]
        go_wp2_with fail
        refine hK.out _ _ (range_alloc HQ.out.range) (fun hHeld => ?_)
        clear hK K
        try simp only [Act.put, List.getElem_toArray, List.getElem_cons_succ, List.getElem_cons_zero, List.setIfInBounds_toArray, List.set_cons_zero, List.set_cons_succ]
        refine wpAnyH_ready (rs := [6]) (by kernel_rfl) (by simp) ?_
        refine AllReadyH.cons rfl (fun K hK => ?_) AllReadyH.nil
        rw [if_pos (by rfl)]
        obtain ⟨X3, hX3⟩ : ∃ X3, X3 = (wr.alloc (.cells #[.int .i64 0, .slice none 0 0] 38)).drew := ⟨_, rfl⟩
        have ZX3 : Hid (Blk X3 wr.heap.size [.int .i64 0, .slice none 0 0]) := by rw [hX3]; exact (blk_new wr 38 [.int .i64 0, .slice none 0 0]).drewN 1
        have BX3 : Hid (Below wr.heap.size wr X3) := by rw [hX3]; exact ((Below.refl _ _).alloc (Nat.le_refl _) _).drew
        rw [← hX3]
        clear hX3
        go_wp2_with fail
        refine (HFA.out _ (HBW.out.trans (BX3.out.mono HBW.out.size))).mono ?_
        rintro e w4 ⟨ua, uc, rfl, ho4, hb4⟩
        have HO4 := hide ho4
        have HB4 := hide hb4
        clear ho4 hb4
        rw [hr3.out] at HO4
        rw [hr1.out, hr2.out, hr3.out]
        have Z4 : Hid (Blk w4 wr.heap.size [.int .i64 0, .slice none 0 0]) := ZX3.out.on HB4.out
        have TX4 := hide Z4.out.there
        have hz3 := ZX3.out.lt
        have B4 : Hid (Below wr.heap.size wr w4) := BX3.out.trans (HB4.out.mono (by omega))
        have Q4 : Hid (w4.rangeAt w.heap.size 0 [.int .i64 seq, .slice a k c]) := rangeAt_below HQ.out.range B4.out HQ.out.lt
        have hw4 := HB4.out.size
        have HO4b : Hid (w4.ownsRow wr.heap.size 3 1 (.slice ua dq.length uc) dq.length (dq.map (Value.int .i64))) := own_base HO4.out (B' := wr.heap.size) (by have := BX3.out.size; omega)
        refine hK.out _ _ Q4.out (fun hHeld => ?_)
        clear hK K
        try simp only [Act.put, List.getElem_toArray, List.getElem_cons_succ, List.getElem_cons_zero, List.setIfInBounds_toArray, List.set_cons_zero, List.set_cons_succ]
        refine wpAnyH_take (i := 7) (v := ?_) rfl (by kernel_rfl) (by kernel_rfl) (by kernel_rfl) (fun _ _ _ h => h) (Or.inl ⟨by rfl, ?_⟩) (by assumption) ?_
        rotate_left
        · intro w hSw
          try dsimp only at hSw
          go_simp
          try with_reducible rfl
        try simp only [Act.put, List.getElem_toArray, List.getElem_cons_succ, List.getElem_cons_zero, List.setIfInBounds_toArray, List.set_cons_zero, List.set_cons_succ]
        refine wpAnyH_take (i := 8) (v := ?_) rfl (by kernel_rfl) (by kernel_rfl) (by kernel_rfl) (fun _ _ _ h => h) (Or.inl ⟨by rfl, ?_⟩) (by assumption) ?_
        rotate_left
        · intro w hSw
          try dsimp only at hSw
          go_simp
          try with_reducible rfl
        try simp only [Act.put, List.getElem_toArray, List.getElem_cons_succ, List.getElem_cons_zero, List.setIfInBounds_toArray, List.set_cons_zero, List.set_cons_succ]
        refine wpAnyH_take (i := 9) (v := ?_) rfl (by kernel_rfl) (by kernel_rfl) (by kernel_rfl) (fun _ _ _ h => h) (Or.inl ⟨by rfl, ?_⟩) (by assumption) ?_
        rotate_left
        · intro w hSw
          try dsimp only at hSw
          go_simp
          try with_reducible rfl
        try simp only [Act.put, List.getElem_toArray, List.getElem_cons_succ, List.getElem_cons_zero, List.setIfInBounds_toArray, List.set_cons_zero, List.set_cons_succ]
        refine wpAnyH_take (i := 11) (v := ?_) rfl (by kernel_rfl) (by kernel_rfl) (by kernel_rfl) (fun _ _ _ h => h) (Or.inl ⟨by rfl, ?_⟩) (by assumption) ?_
        rotate_left
        · intro w hSw
          try dsimp only at hSw
          go_simp
          try with_reducible rfl
        try simp only [Act.put, List.getElem_toArray, List.getElem_cons_succ, List.getElem_cons_zero, List.setIfInBounds_toArray, List.set_cons_zero, List.set_cons_succ]
        refine wpAnyH_ready (rs := [12]) (by kernel_rfl) (by simp) ?_
        refine AllReadyH.cons rfl (fun K hK => ?_) AllReadyH.nil
        rw [if_pos (by rfl)]
        refine wp_store_mid 38 _ _ rfl wr.heap.size 0 #[.int .i64 sq, .slice ua dq.length uc] rfl rfl TX4.out (by kernel_rfl) (by kernel_rfl) ?_
        refine hK.out _ _ (World.rangeAt_setCells_apart Q4.out _ _ _ (.inl (by have := HQ.out.lt; omega))) (fun hHeld => ?_)
        clear hK K
        try simp only [Act.put, List.getElem_toArray, List.getElem_cons_succ, List.getElem_cons_zero]
        refine wpAnyH_done (by kernel_rfl) ?_ _
        refine NoPanic.normal ?_
        obtain ⟨Y, hY⟩ : ∃ Y, Y = w4.setCells wr.heap.size 0 [.int .i64 sq, .slice ua dq.length uc] := ⟨_, rfl⟩
        have HYB : Hid (Blk Y wr.heap.size [.int .i64 sq, .slice ua dq.length uc]) := by rw [hY]; exact blk_cells Z4.out rfl
        have HYW : Hid (Below wr.heap.size wr Y) := by rw [hY]; exact below_cells (by omega) _ _ _ B4.out
        have HYO : Hid (Y.ownsRow wr.heap.size 3 1 (.slice ua dq.length uc) dq.length (dq.map (Value.int .i64))) := by
          show World.ownsRow _ _ _ _ _ _ _
          refine World.ownsRow.kept (row := some wr.heap.size) HO4b.out (by rw [hY]; exact grown_cells _ _ _ _) ?_
          rcases HO4.out.2 with ⟨e, _⟩ | ⟨g', cap', cur, e, hB', hh, _⟩
          · rw [e]; exact .inl rfl
          · rw [e]; refine .inr ?_; intro e2; simp only [Value.ownBlock, Option.some.injEq] at e2; subst e2
            have : X3.heap.size ≤ wr.heap.size := hB'
            omega
        rw [← hY]
        clear hY
        have y0 := HYB.out.cell 0 _ rfl
        have y1 := HYB.out.cell 1 _ rfl
        have HQY : Hid (Blk Y w.heap.size [.int .i64 seq, .slice a k c]) := HQ.out.on HYW.out
        have z0 := HQY.out.cell 0 _ rfl
        have z1 := HQY.out.cell 1 _ rfl
        have HBY : Hid (Below U.heap.size U Y) := HB.out.trans (HYW.out.mono (by have := HB.out.size; omega))
        have hst := HST.out q (by omega)
        rw [hwq.out, hgq.out] at hst
        by_cases h1 : kq = 1
        · have hsd := HON.out h1
          have HS9 : Hid (SegI Y a k l) := HS.out.below HBY.out (Nat.le_refl _)
          have HS8 : Hid (SegI Y ua l.length l) := by
            have h := HYO.out
            rw [hsd.2] at h
            obtain ⟨ua', uc', he, -, hseg⟩ := own_segI h HS.out.2.2.2
            injection he with e1 e2 e3
            rw [e1]; exact hseg
          have hsq := hsd.1
          have hdq := hsd.2
          subst hsq
          rw [hdq] at y1
          rw [hdq]
          subst h1
          have HN2 : Hid (wasN n slf sq l vs (q + 1) = 1) := by show _ = _; rw [← hgq.out]; rfl
          by_cases h0 : wq = 0
          · subst h0
            clear hst
            go_wp2_with fail
            refine (sameAttr_any sq sq _ _ _ _ _ _ l l _ HS8.out HS9.out (b := true) (by simp [sameB])).mono ?_
            rintro e w9 ⟨rfl, hb9⟩
            have HB9 : Hid (Below U.heap.size U w9) := HBY.out.trans (hb9.mono HBY.out.size)
            clear hb9
            go_wp2
            go_roundw
            case rel => exact ⟨q + 1, by go_num, by omega, by rw [HN2.out], HB9⟩
            case measure => simp [intOf]; omega
          · obtain rfl : (1 : Int) = wq := hst h0
            clear hst
            go_wp2_with fail
            refine (sameAttr_any sq sq _ _ _ _ _ _ l l _ HS8.out HS9.out (b := true) (by simp [sameB])).mono ?_
            rintro e w9 ⟨rfl, hb9⟩
            have HB9 : Hid (Below U.heap.size U w9) := HBY.out.trans (hb9.mono HBY.out.size)
            clear hb9
            go_wp2
            go_roundw
            case rel => exact ⟨q + 1, by go_num, by omega, by rw [HN2.out], HB9⟩
            case measure => simp [intOf]; omega
        · have HN2 : Hid (wasN n slf seq l vs (q + 1) = kq) := by show _ = _; rw [← hgq.out]; rfl
          have b1 : (kq == 1) = false := beq_eq_false_iff_ne.2 h1
          by_cases h0 : wq = 0
          · subst h0
            clear hst h1
            go_wp2
            go_roundw
            case rel => exact ⟨q + 1, by go_num, by omega, by rw [HN2.out], HBY⟩
            case measure => simp [intOf]; omega
          · obtain rfl : kq = wq := hst h0
            have b2 : (kq != 0) = true := by simp [h0]
            have b3 : (kq != kq) = false := by simp
            clear hst h1 h0
            go_wp2
            go_roundw
            case rel => exact ⟨q + 1, by go_num, by omega, by rw [HN2.out], HBY⟩
            case measure => simp [intOf]; omega
    · go_wp2
      go_ret
      exact ⟨rfl, BU.out.trans (HB.out.mono BU.out.size)⟩

set_option maxRecDepth 100000 in
/-- For every argument and every world. -/
theorem contract (H : Type) (enc : TypeId × Value → H) (W : World) (base : Nat) (args : Array Value) (ds gs : List (DataW H)) (before : List MemPlace)
    (hval : ∀ (j : Nat) t v, Try.f4.params[j]? = some t → args[j]? = some v → Value.okWide Try.prog W .any base t v)
    (hW : DataW.Whole enc Try.prog Try.f4.params.toList Rows.quorumSteadySpec.vars false W args.toList ds gs before)
    (hsz : (DataW.weightsEach Try.prog (Try.f4.params.toList ++ Rows.quorumSteadySpec.plain.varTypes Try.prog) (ds ++ gs)).all (· ≤ reachBytes) = true) :
    Calls Try.prog 4 args W fun e W' => ∃ v, e = .returned v ∧ Rows.quorumSteadySpec.post enc Try.prog Try.f4 false true false false W args v W' := by
  have hW' := hW
  obtain ⟨p, q, hA0, hV, rfl, hfz, hnd⟩ := hW
  have hA : DataW.TrodAll enc Try.prog W 0 (fun _ => true) true Try.f4.params.toList args.toList ds p := hA0
  rw [Try.params4] at hA hval hsz
  obtain ⟨v0, vs0, d0, ds0, p0, q0, hargs, rfl, rfl, h0, tr0⟩ := trodAll_cons hA
  obtain ⟨v1, vs1, d1, ds1, p1, q1, rfl, rfl, rfl, h1, tr1⟩ := trodAll_cons tr0
  obtain ⟨v2, vs2, d2, ds2, p2, q2, rfl, rfl, rfl, h2, tr2⟩ := trodAll_cons tr1
  obtain ⟨v3, vs3, d3, ds3, p3, q3, rfl, rfl, rfl, h3, tr3⟩ := trodAll_cons tr2
  obtain ⟨rfl, rfl, rfl⟩ := trodAll_nil tr3
  obtain rfl : args = #[v0, v1, v2, v3] := by cases args; simp_all
  obtain ⟨rfl, rfl⟩ := trodVars_none hV
  obtain ⟨y0, rfl, rfl, rfl, w0⟩ := open_int Try.underlying3 (hval 0 3 v0 rfl rfl) h0
  have b0 := bounds_i64 w0
  obtain ⟨y1, rfl, rfl, rfl, w1⟩ := open_int Try.underlying3 (hval 1 3 v1 rfl rfl) h1
  have b1 := bounds_i64 w1
  have k2 := h2
  have lt2 : ∀ x ∈ p2, x.block < W.heap.size := by obtain ⟨m, hm⟩ := k2; exact DataW.trod_lt m _ _ _ hm
  obtain ⟨sq2, a2, n2, cap2, l2, rfl, hseg2, hcap2, b2⟩ := qopen_attr (hval 2 38 v2 rfl rfl) h2
  obtain ⟨a3, n3, cap3, rfl⟩ := okWide_slice Try.underlying22 (hval 3 22 v3 rfl rfl)
  have k3 := h3
  have lt3 : ∀ x ∈ p3, x.block < W.heap.size := by obtain ⟨m, hm⟩ := k3; exact DataW.trod_lt m _ _ _ hm
  obtain ⟨fuel3, hf3⟩ := h3
  obtain ⟨l3, hseg3, hcap3⟩ := qopen_votes hf3 (fun m hm => of_decide_eq_true (List.all_eq_true.1 hsz _ (DataW.weights_mem_each (j := 3) rfl rfl m hm)))
  clear hA0
  refine (walk y0 y1 sq2 a2 n2 cap2 l2 a3 n3 cap3 l3 W hseg2 hcap2 hseg3 hcap3).mono fun e W' ⟨he, bel⟩ => ?_
  subst he
  exact ⟨_, rfl, _, _, _, [], _, [], hW', trodAll_mk1 (shut_bool Try.underlying4 _), (trodAll_cons_mk (shut_int Try.underlying3 w0) (trodAll_cons_mk (shut_int Try.underlying3 w1) (trodAll_cons_mk (Below.trod vlaid (by kernel_rfl) (of_decide_eq_true (by kernel_rfl)) k2 bel lt2) (trodAll_cons_mk (Below.trod vlaid (by kernel_rfl) (of_decide_eq_true (by kernel_rfl)) k3 bel lt3) trodAll_mk0)))), rfl, bel.frame _, fun h => by cases h⟩

set_option maxRecDepth 100000 in
theorem lifted (os : Os) (started : os.Started) (H : Type) (enc : TypeId × Value → H) :
    ReturnsInHanded {} Try.checked os 4 .any (Rows.quorumSteadySpec.pre6 enc Try.prog Try.f4 Rows.quorumSteadyRow.domain false) (Rows.quorumSteadySpec.post enc Try.prog Try.f4 false true false false) := by
  refine returnsInHanded_of_change_sized (C := Try.checked) vown started (by kernel_rfl) Try.func4
    (ChangeSpec.witness6 (enc := enc) (C := Try.checked) false ⟨#[], #[.int .i64 0, .int .i64 0, .agg #[.int .i64 0, .slice none 0 0], .slice none 0 0], []⟩ 8 (by kernel_rfl) (by kernel_rfl) (by kernel_rfl) (by kernel_rfl)) ?_
  intro W base args ds gs before hval hW _ hsz _
  exact contract H enc W base args ds gs before hval hW hsz

end quorumSteady
theorem quorumSteady_proved : Rows.QuorumSteadySaid :=
  OpenClaim.holds_of_wide 4 Try.f4 rfl rfl rfl rfl rfl rfl rfl ⟨rfl, rfl, rfl, rfl, rfl⟩ rfl rfl rfl rfl rfl (by kernel_rfl) Try.func4 (by kernel_rfl)
    (of_decide_eq_true (by kernel_rfl)) (by unfold Func.isWrapper; first | (rw [if_pos (by decide +kernel)]; kernel_rfl) | (rw [if_neg (by decide +kernel)]; exact ⟨rfl, rfl⟩))
    (fun os started H enc _ => quorumSteady.lifted os started H enc)
#print axioms quorumSteady_proved
end Go.Proofs.Ytakkfdfaacdnmaa
