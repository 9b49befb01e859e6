/- The contract of the statements' keep: a list is written full with its mark, goes on behind its end, and comes into the book. -/
import Derived.Test.YtibdgnegdnapoacDoorKBook
namespace Go.Proofs.YtibdgnegdnapoacDoor
open Go.RowKit Go.Wire1

theorem infoK : (Tryd.prog.info? 48).map (fun i => (i.zero, i.size, i.bytes)) = some (some (.agg #[.slice none 0 0, .int .u8 0, .int .i64 0]), 3, 40) := by kernel_rfl

theorem grown_set (w : World) (g i : Nat) (z : Value) : w.grownBy (w.setCell ⟨g, i, none⟩ z) (some g) :=
  ⟨rfl, rfl, rfl, by simp, fun k _ hne => Below.heap_setCell w ⟨g, i, none⟩ z k (fun e => hne (by rw [e]))⟩
theorem Mine.tag {w : World} {B g N cap : Nat} {L : List Int} (h : Mine w B g N cap L) : ∃ cur, w.heap[g]? = some (.cells cur 5 (0, 0)) := own_tag h.1 rfl
theorem Book.set {w : World} {B g : Nat} {v : Value} {ks : List K5} (h : Book w B v ks) {C N cap : Nat} {L : List Int} (hm : Mine w C g N cap L) (hap : ∀ k ∈ ks, k.g ≠ g) (i : Nat) (z : Value) : Book (w.setCell ⟨g, i, none⟩ z) B v ks := by
  refine ⟨h.1.kept (grown_set w g i z) (.inr ?_), fun k hk => (h.2 k hk).of_block (Below.heap_setCell w ⟨g, i, none⟩ z k.g (hap k hk))⟩
  intro e
  obtain ⟨cur, h1⟩ := own_tag h.1 e
  obtain ⟨cur', h2⟩ := hm.tag
  rw [h1] at h2
  injection h2 with h2
  injection h2 with _ h3
  exact absurd h3 (by decide)
theorem own_piece {w : World} {B g n cap : Nat} {L : List Int} {mark : Int} (h : w.ownsRow B 5 1 (.slice (some ⟨g, 0, none⟩) n cap) n (L.map (Value.int .u8))) (hl : L.length = n) (hL : ∀ j, j < n → L.getD j 0 = mark) (hn : n ≤ 1000) (h0 : 0 ≤ mark) (h1 : mark < 256) : Piece w ⟨g, n, cap, mark⟩ := by
  obtain ⟨cur, hc⟩ := own_tag h rfl
  refine ⟨cur, hc, hn, ⟨h0, h1⟩, fun j hj => ?_⟩
  have hj' : j < n := hj
  have e := h.cellAt j (by omega)
  simp only [World.cell?, hc] at e
  have e2 : (L.map (Value.int .u8))[j]? = some (.int .u8 mark) := by
    have := hL j hj'
    rw [List.getD, List.getElem?_eq_getElem (by omega)] at this
    rw [List.getElem?_map, List.getElem?_eq_getElem (by omega)]
    simp only [Option.getD_some] at this
    simp [this]
  rw [e2] at e
  simpa using e
theorem marks_more {L : List Int} {n : Nat} {mark : Int} (hl : L.length = n) (hL : ∀ j, j < n → L.getD j 0 = mark) (m : Nat) : (L ++ List.replicate m mark).length = n + m ∧ ∀ j, j < n + m → (L ++ List.replicate m mark).getD j 0 = mark := by
  refine ⟨by simp [hl], fun j hj => ?_⟩
  by_cases h : j < n
  · rw [List.getD, List.getElem?_append_left (by omega)]; exact hL j h
  · rw [List.getD, List.getElem?_append_right (by omega), List.getElem?_replicate, if_pos (by omega)]; rfl
theorem map_more (L : List Int) (m : Nat) (mark : Int) : L.map (Value.int .u8) ++ List.replicate m (Value.int .u8 mark) = (L ++ List.replicate m mark).map (Value.int .u8) := by simp
theorem app_one (L : List Int) (m : Nat) (mark : Int) : (L ++ List.replicate m mark).map (Value.int .u8) ++ [Value.int .u8 mark] = (L ++ List.replicate (m + 1) mark).map (Value.int .u8) := by simp [List.replicate_succ']

theorem own_some {w : World} {B : Nat} {e : TypeId} {s : Nat} {v : Value} {n : Nat} {xs : List Value} (h : w.ownsRow B e s v n xs) (hn : 0 < n) : ∃ g cap, v = .slice (some ⟨g, 0, none⟩) n cap := by
  rcases h.2 with ⟨_, h2⟩ | ⟨g, cap, cur, rfl, _⟩
  · omega
  · exact ⟨g, cap, rfl⟩

set_option maxHeartbeats 4000000 in
set_option maxRecDepth 100000 in
theorem keep_any (v : Value) (ks : List K5) (B g : Nat) (L : List Int) (mark : Int) (w : World) (hBw : B ≤ w.heap.size) (hb : Book w B v ks) (hm : Mine w B g 4 4 L) (h0 : 0 ≤ mark) (h1 : mark < 256)
    (hap : ∀ k ∈ ks, k.g ≠ g) (hks : (ks.length + 5) * 40 ≤ 140737488355328) :
    Calls Tryd.prog 12 #[v, .slice (some ⟨g, 0, none⟩) 4 4, .int .u8 mark] w fun e w' => ∃ v' ks', e = .returned v' ∧ Book w' B v' (ks ++ ks') ∧ ks'.length = 5 ∧ Below B w w' := by
  obtain ⟨i0, hi, hz0, hz1, hz2⟩ := info_parts Tryd.info5
  obtain ⟨k0, hk0, hkz, hks3, hkb⟩ := info_parts infoK
  have HB := hide hb
  have HM := hide hm
  have HAP := hide hap
  have hBg := hm.2.2.2.2
  obtain ⟨a, cap, rfl⟩ := hb.shape
  clear hb hm hap
  obtain ⟨kn, hkn⟩ : ∃ n, Hid (ks.length = n) := ⟨_, hide rfl⟩
  rw [hkn.out] at hks HB ⊢
  go_enter Tryd.func12, Tryd.ntmps12
  go_wp2_with fail
  go_loopw [8] (fun x wr => ∃ (i : Nat) (L' : List Int), x = .int .i64 (i : Int) ∧ i ≤ 4 ∧ Hid (Mine wr B g 4 4 L') ∧ Hid (∀ j, j < i → L'.getD j 0 = mark) ∧ Hid (Book wr B (.slice a kn cap) ks) ∧ Hid (Below B w wr)) (fun x _ => 4 - (intOf x).toNat)
  case atStart => exact ⟨0, L, rfl, by omega, HM, fun j hj => by omega, HB, Below.refl _ _⟩
  case round =>
    clear HM HB
    obtain ⟨i, L', rfl, hi4, HM, HL, HB, HW⟩ := hrel
    by_cases hlt : i < 4
    · have ci : wr.cell? ⟨g, i, none⟩ = some (.int .u8 (L'.getD i 0)) := by
        obtain ⟨b', o', e', hc'⟩ := HM.out.seg.2.2 (by omega)
        cases e'
        have := hc' i hlt
        rwa [Nat.zero_add] at this
      have fi := HM.out.1.frozenAt i
      have HM1 : Hid (Mine (wr.setCell ⟨g, i, none⟩ (.int .u8 mark)) B g 4 4 (L'.set i mark)) := HM.out.store i mark
      have HB1 : Hid (Book (wr.setCell ⟨g, i, none⟩ (.int .u8 mark)) B (.slice a kn cap) ks) := HB.out.set HM.out HAP.out i _
      have HW1 : Hid (Below B w (wr.setCell ⟨g, i, none⟩ (.int .u8 mark))) := HW.out.setCell (p := ⟨g, i, none⟩) hBg _
      have HL1 : Hid (∀ j, j < i + 1 → (L'.set i mark).getD j 0 = mark) := fun j hj => by
        have hl := HM.out.2.1
        rw [List.getD, List.getElem?_set]
        by_cases e : i = j
        · rw [if_pos e, if_pos (by omega)]; rfl
        · rw [if_neg e]; exact HL.out j (by omega)
      clear HM HL HB HW
      generalize L'.getD i 0 = zi at *
      generalize L'.set i mark = L2 at *
      go_wp2
      go_roundw
      case rel => exact ⟨i + 1, L2, by go_num, by omega, HM1, HL1, HB1, HW1⟩
      case measure => simp [intOf]; omega
    · have hL4 : ∀ j, j < 4 → L'.getD j 0 = mark := fun j hj => HL.out j (by omega)
      have HL4 := hide hL4
      have hlen := hide HM.out.2.1
      clear HL hL4
      go_wp2_with (first
        | (at_builtin; refine wpList_append_full rfl _ _ 30 rfl B 5 i0 (.int .u8 0) 1 1 Tryd.underlying30 hi hz0 hz1 hz2 rfl g 4 _ rfl (HM.out.1.alloc _) ⟨wr.heap.size, 0, none⟩ 1 1 [.int .u8 mark] rfl rfl ?c1 (by omega) (by unfold maxLen; omega) (by omega) ?_))
      case c1 =>
        intro j u hj
        match j, hj with
        | 0, hj => simp at hj; subst hj; simp [Addr.add]
      intro c1 w1 hown hbel
      try simp only [World.size_alloc] at hown
      try simp only [World.size_alloc] at hbel
      try simp only [World.size_alloc]
      have hbn : Below wr.heap.size wr w1 := ((Below.refl _ _).alloc (Nat.le_refl _) _).trans (hbel.mono (by omega))
      have P1 : Hid (Piece w1 ⟨wr.heap.size + 1, 5, c1, mark⟩) := by
        have hq := marks_more hlen.out HL4.out 1
        refine own_piece (B := wr.heap.size + 1) (L := L' ++ List.replicate 1 mark) ?_ hq.1 hq.2 (by omega) h0 h1
        rw [← map_more]; exact hown
      replace HM := hide (HM.out.below hbn (Nat.le_refl _))
      replace HB := hide (HB.out.below hbn (Nat.le_refl _))
      replace HW := hide (HW.out.trans (hbn.mono (by have := HW.out.size; omega)))
      clear hown hbel hbn
      generalize wr.heap.size + 1 = q1 at *
      go_wp2_with (first
        | (at_builtin; refine wpList_append_full rfl _ _ 30 rfl B 5 i0 (.int .u8 0) 1 1 Tryd.underlying30 hi hz0 hz1 hz2 rfl g 4 _ rfl (HM.out.1.alloc _) ⟨w1.heap.size, 0, none⟩ 2 2 [.int .u8 mark, .int .u8 mark] rfl rfl ?c1 (by omega) (by unfold maxLen; omega) (by omega) ?_))
      case c1 =>
        intro j u hj
        match j, hj with
        | 0, hj => simp at hj; subst hj; simp [Addr.add]
        | 1, hj => simp at hj; subst hj; simp [Addr.add]
      intro c2 w2 hown hbel
      try simp only [World.size_alloc] at hown
      try simp only [World.size_alloc] at hbel
      try simp only [World.size_alloc]
      have hbn : Below w1.heap.size w1 w2 := ((Below.refl _ _).alloc (Nat.le_refl _) _).trans (hbel.mono (by omega))
      have P2 : Hid (Piece w2 ⟨w1.heap.size + 1, 6, c2, mark⟩) := by
        have hq := marks_more hlen.out HL4.out 2
        refine own_piece (B := w1.heap.size + 1) (L := L' ++ List.replicate 2 mark) ?_ hq.1 hq.2 (by omega) h0 h1
        rw [← map_more]; exact hown
      replace P1 := hide (P1.out.below hbn (Nat.le_refl _))
      replace HM := hide (HM.out.below hbn (Nat.le_refl _))
      replace HB := hide (HB.out.below hbn (Nat.le_refl _))
      replace HW := hide (HW.out.trans (hbn.mono (by have := HW.out.size; omega)))
      clear hown hbel hbn
      generalize w1.heap.size + 1 = q2 at *
      go_wp2_with (first
        | (at_builtin; refine wpList_append_full rfl _ _ 30 rfl B 5 i0 (.int .u8 0) 1 1 Tryd.underlying30 hi hz0 hz1 hz2 rfl g 4 _ rfl (HM.out.1.alloc _) ⟨w2.heap.size, 0, none⟩ 3 3 [.int .u8 mark, .int .u8 mark, .int .u8 mark] rfl rfl ?c1 (by omega) (by unfold maxLen; omega) (by omega) ?_))
      case c1 =>
        intro j u hj
        match j, hj with
        | 0, hj => simp at hj; subst hj; simp [Addr.add]
        | 1, hj => simp at hj; subst hj; simp [Addr.add]
        | 2, hj => simp at hj; subst hj; simp [Addr.add]
      intro c3 w3 hown hbel
      try simp only [World.size_alloc] at hown
      try simp only [World.size_alloc] at hbel
      try simp only [World.size_alloc]
      have hbn : Below w2.heap.size w2 w3 := ((Below.refl _ _).alloc (Nat.le_refl _) _).trans (hbel.mono (by omega))
      have P3 : Hid (Piece w3 ⟨w2.heap.size + 1, 7, c3, mark⟩) := by
        have hq := marks_more hlen.out HL4.out 3
        refine own_piece (B := w2.heap.size + 1) (L := L' ++ List.replicate 3 mark) ?_ hq.1 hq.2 (by omega) h0 h1
        rw [← map_more]; exact hown
      replace P1 := hide (P1.out.below hbn (Nat.le_refl _))
      replace P2 := hide (P2.out.below hbn (Nat.le_refl _))
      replace HM := hide (HM.out.below hbn (Nat.le_refl _))
      replace HB := hide (HB.out.below hbn (Nat.le_refl _))
      replace HW := hide (HW.out.trans (hbn.mono (by have := HW.out.size; omega)))
      clear hown hbel hbn
      generalize w2.heap.size + 1 = q3 at *
      go_wp2_with fail
      go_loopw [12, 13] (fun y x wr => ∃ m : Nat, x = .int .i64 (m : Int) ∧ m ≤ 64 ∧ ((m = 0 ∧ y = .slice (some ⟨g, 0, none⟩) 4 4 ∧ wr = w3) ∨ (∃ g4 c4 : Nat, 0 < m ∧ y = .slice (some ⟨g4, 0, none⟩) (4 + m) c4 ∧ Hid (wr.ownsRow w3.heap.size 5 1 (.slice (some ⟨g4, 0, none⟩) (4 + m) c4) (4 + m) ((L' ++ List.replicate m mark).map (Value.int .u8))))) ∧ Hid (Below w3.heap.size w3 wr)) (fun _ x _ => 64 - (intOf x).toNat)
      case atStart => exact ⟨0, rfl, by omega, .inl ⟨rfl, rfl, rfl⟩, Below.refl _ _⟩
      case round =>
        obtain ⟨m, rfl, hm64, hor, HV⟩ := hrel
        have hsz := HV.out.size
        by_cases hmt : m < 64
        · rcases hor with ⟨rfl, rfl, rfl⟩ | ⟨g4, c4, hm0, rfl, HO⟩
          · go_wp2_with (first
              | (at_builtin; refine wpList_append_full rfl _ _ 30 rfl B 5 i0 (.int .u8 0) 1 1 Tryd.underlying30 hi hz0 hz1 hz2 rfl g 4 _ rfl (HM.out.1.alloc _) ⟨wr.heap.size, 0, none⟩ 1 1 [.int .u8 mark] rfl rfl ?c1 (by omega) (by unfold maxLen; omega) (by omega) ?_))
            case c1 =>
              intro j u hj
              match j, hj with
              | 0, hj => simp at hj; subst hj; simp [Addr.add]
            intro c4 w4 hown hbel
            try simp only [World.size_alloc] at hown
            try simp only [World.size_alloc] at hbel
            try simp only [World.size_alloc]
            have HO1 : Hid (w4.ownsRow wr.heap.size 5 1 (.slice (some ⟨wr.heap.size + 1, 0, none⟩) (4 + 1) c4) (4 + 1) ((L' ++ List.replicate 1 mark).map (Value.int .u8))) := by
              rw [← map_more]
              rcases hown with ⟨e1, e2⟩
              refine ⟨e1, .inr ?_⟩
              rcases e2 with ⟨e, _⟩ | ⟨g', cap', cur, e3, e4, e5⟩
              · cases e
              · exact ⟨g', cap', cur, e3, by omega, e5⟩
            have HV1 : Hid (Below wr.heap.size wr w4) := ((Below.refl _ _).alloc (Nat.le_refl _) _).trans (hbel.mono (by omega))
            clear hown hbel
            go_wp2
            go_roundw
            case rel => exact ⟨1, by go_num, by omega, .inr ⟨_, _, by omega, rfl, HO1⟩, HV1⟩
            case measure => simp [intOf]
          · obtain ⟨XL, hXL⟩ : ∃ X, Hid (L' ++ List.replicate m mark = X) := ⟨_, hide rfl⟩
            rw [hXL.out] at HO
            have HOA := hide (HO.out.alloc (.cells #[.int .u8 mark] 5))
            go_wp2_with (first
              | (at_builtin; refine wpList_append_own _ rfl _ _ 30 rfl w3.heap.size 5 i0 (.int .u8 0) 1 1 Tryd.underlying30 hi hz0 hz1 hz2 rfl (by decide) _ _ _ rfl HOA.out ⟨wr.heap.size, 0, none⟩ 1 1 [.int .u8 mark] rfl rfl ?c1 ?c2 ?c3 ?c4 ?c5 ?_))
            case c1 =>
              intro j u hj
              match j, hj with
              | 0, hj => simp at hj; subst hj; simp [Addr.add]
            case c2 => intro u hu; simp at hu; subst hu; rfl
            case c3 => unfold maxLen; omega
            case c4 => omega
            case c5 => simp; omega
            intro v' w1 hown' hgrow _
            obtain ⟨g5, c5, rfl⟩ := own_some hown' (by omega)
            have HO1 : Hid (w1.ownsRow w3.heap.size 5 1 (.slice (some ⟨g5, 0, none⟩) (4 + (m + 1)) c5) (4 + (m + 1)) ((L' ++ List.replicate (m + 1) mark).map (Value.int .u8))) := by
              have e : L' ++ List.replicate (m + 1) mark = XL ++ [mark] := by rw [← hXL.out]; simp [List.replicate_succ']
              rw [e, List.map_append]; exact hown'
            have HV1 : Hid (Below w3.heap.size w3 w1) := by
              refine Below.grown (HV.out.alloc hsz _) hgrow (by simp; omega) (fun k hk => ?_)
              exact (HO.out.lt k hk).1
            clear hown' hgrow HOA HO HV
            go_wp2
            go_roundw
            case rel => exact ⟨m + 1, by go_num, by omega, .inr ⟨_, _, by omega, rfl, HO1⟩, HV1⟩
            case measure => simp [intOf]; omega
        · rcases hor with ⟨e, _⟩ | ⟨g4, c4, hm0, rfl, HO⟩
          · omega
          · obtain rfl : m = 64 := by omega
            have P4' : Hid (Piece wr ⟨g4, 68, c4, mark⟩) := by
              have hq := marks_more hlen.out HL4.out 64
              exact own_piece HO.out hq.1 hq.2 (by omega) h0 h1
            have P1' := hide (P1.out.below HV.out (Nat.le_refl _))
            have P2' := hide (P2.out.below HV.out (Nat.le_refl _))
            have P3' := hide (P3.out.below HV.out (Nat.le_refl _))
            have HB' := hide (HB.out.below HV.out (Nat.le_refl _))
            have P0' : Hid (Piece wr ⟨g, 4, 4, mark⟩) := own_piece (HM.out.below HV.out (Nat.le_refl _)).1 hlen.out HL4.out (by omega) h0 h1
            have HW' := hide (HW.out.trans (HV.out.mono (by have := HW.out.size; omega)))
            clear P1 P2 P3 HB HM HW HV HO hlen HL4
            have hkn0 := hkn
            have HOA := hide (HB'.out.1.alloc (.cells #[.slice (some ⟨g, 0, none⟩) 4 4, .int .u8 mark, .int .i64 4] 48))
            rw [hkn0.out] at HOA
            go_wp2_with (first
              | (at_builtin; refine wpList_append_own _ rfl _ _ 27 rfl B 48 k0 (.agg #[.slice none 0 0, .int .u8 0, .int .i64 0]) 3 40 Tryd.underlying27 hk0 hkz hks3 hkb rfl (by decide) _ _ _ rfl HOA.out ⟨wr.heap.size, 0, none⟩ 1 1 [.slice (some ⟨g, 0, none⟩) 4 4, .int .u8 mark, .int .i64 4] rfl rfl ?c1 ?c2 ?c3 ?c4 ?c5 ?_))
            case c1 =>
              intro j u hj
              match j, hj with
              | 0, hj => simp at hj; subst hj; simp [Addr.add]
              | 1, hj => simp at hj; subst hj; simp [Addr.add]
              | 2, hj => simp at hj; subst hj; simp [Addr.add]
            case c2 => intro u hu; simp at hu; rcases hu with rfl | rfl | rfl <;> rfl
            case c3 => unfold maxLen; omega
            case c4 => omega
            case c5 => have := HW'.out.size; simp; omega
            intro vn wn0 hown' hgrow _
            have hgr : wr.grownBy wn0 (Value.ownBlock (.slice a kn cap)) := ⟨hgrow.os, hgrow.tape, hgrow.output, by have := hgrow.size; simp at this; omega, fun k hk hne => by rw [hgrow.block k (by simp; omega) hne]; exact Below.heap_alloc wr _ k hk⟩
            have HBn : Hid (Book wn0 B vn (ks ++ [⟨g, 4, 4, mark⟩])) := by
              refine Book.more HB'.out P0'.out ?_ hgr
              rw [hkn0.out]; exact hown'
            replace P1' := hide (P1'.out.of_block (hgr.block _ P1'.out.lt (P1'.out.apart HB'.out.1 (by decide))))
            replace P2' := hide (P2'.out.of_block (hgr.block _ P2'.out.lt (P2'.out.apart HB'.out.1 (by decide))))
            replace P3' := hide (P3'.out.of_block (hgr.block _ P3'.out.lt (P3'.out.apart HB'.out.1 (by decide))))
            replace P4' := hide (P4'.out.of_block (hgr.block _ P4'.out.lt (P4'.out.apart HB'.out.1 (by decide))))
            replace HW' : Hid (Below B w wn0) := by
              refine Below.grown HW'.out hgr (by have := HW'.out.size; omega) (fun k hk => ?_)
              exact (HB'.out.1.lt k hk).1
            clear HOA hown' hgrow hgr HB'
            have HB' := HBn
            clear HBn
            obtain ⟨a1, cap1, rfl⟩ := HB'.out.shape
            have hkn1 : Hid ((ks ++ [(⟨g, 4, 4, mark⟩ : K5)]).length = kn + 1) := by show _ = _; rw [List.length_append, hkn0.out]; rfl
            rw [hkn1.out] at HB' ⊢
            have happ1 : Hid (∃ t : List K5, t.length = 1 ∧ ks ++ [(⟨g, 4, 4, mark⟩ : K5)] = ks ++ t) := by
              exact ⟨[_], rfl, rfl⟩
            generalize ks ++ [(⟨g, 4, 4, mark⟩ : K5)] = ks1 at *
            generalize hn1 : kn + 1 = n1 at *
            have hle1 : n1 ≤ kn + 1 := by omega
            clear hn1
            have HOA := hide (HB'.out.1.alloc (.cells #[.slice (some ⟨q1, 0, none⟩) 5 c1, .int .u8 mark, .int .i64 5] 48))
            rw [hkn1.out] at HOA
            go_wp2_with (first
              | (at_builtin; refine wpList_append_own _ rfl _ _ 27 rfl B 48 k0 (.agg #[.slice none 0 0, .int .u8 0, .int .i64 0]) 3 40 Tryd.underlying27 hk0 hkz hks3 hkb rfl (by decide) _ _ _ rfl HOA.out ⟨wn0.heap.size, 0, none⟩ 1 1 [.slice (some ⟨q1, 0, none⟩) 5 c1, .int .u8 mark, .int .i64 5] rfl rfl ?c1 ?c2 ?c3 ?c4 ?c5 ?_))
            case c1 =>
              intro j u hj
              match j, hj with
              | 0, hj => simp at hj; subst hj; simp [Addr.add]
              | 1, hj => simp at hj; subst hj; simp [Addr.add]
              | 2, hj => simp at hj; subst hj; simp [Addr.add]
            case c2 => intro u hu; simp at hu; rcases hu with rfl | rfl | rfl <;> rfl
            case c3 => unfold maxLen; omega
            case c4 => omega
            case c5 => have := HW'.out.size; simp; omega
            intro vn wn1 hown' hgrow _
            have hgr : wn0.grownBy wn1 (Value.ownBlock (.slice a1 n1 cap1)) := ⟨hgrow.os, hgrow.tape, hgrow.output, by have := hgrow.size; simp at this; omega, fun k hk hne => by rw [hgrow.block k (by simp; omega) hne]; exact Below.heap_alloc wn0 _ k hk⟩
            have HBn : Hid (Book wn1 B vn (ks1 ++ [⟨q1, 5, c1, mark⟩])) := by
              refine Book.more HB'.out P1'.out ?_ hgr
              rw [hkn1.out]; exact hown'
            replace P2' := hide (P2'.out.of_block (hgr.block _ P2'.out.lt (P2'.out.apart HB'.out.1 (by decide))))
            replace P3' := hide (P3'.out.of_block (hgr.block _ P3'.out.lt (P3'.out.apart HB'.out.1 (by decide))))
            replace P4' := hide (P4'.out.of_block (hgr.block _ P4'.out.lt (P4'.out.apart HB'.out.1 (by decide))))
            replace HW' : Hid (Below B w wn1) := by
              refine Below.grown HW'.out hgr (by have := HW'.out.size; omega) (fun k hk => ?_)
              exact (HB'.out.1.lt k hk).1
            clear HOA hown' hgrow hgr HB'
            have HB' := HBn
            clear HBn
            obtain ⟨a2, cap2, rfl⟩ := HB'.out.shape
            have hkn2 : Hid ((ks1 ++ [(⟨q1, 5, c1, mark⟩ : K5)]).length = n1 + 1) := by show _ = _; rw [List.length_append, hkn1.out]; rfl
            rw [hkn2.out] at HB' ⊢
            have happ2 : Hid (∃ t : List K5, t.length = 2 ∧ ks1 ++ [(⟨q1, 5, c1, mark⟩ : K5)] = ks ++ t) := by
              obtain ⟨t, ht, e⟩ := happ1.out; exact ⟨t ++ [_], by rw [List.length_append, ht]; rfl, by rw [e, List.append_assoc]⟩
            generalize ks1 ++ [(⟨q1, 5, c1, mark⟩ : K5)] = ks2 at *
            generalize hn2 : n1 + 1 = n2 at *
            have hle2 : n2 ≤ n1 + 1 := by omega
            clear hn2
            have HOA := hide (HB'.out.1.alloc (.cells #[.slice (some ⟨q2, 0, none⟩) 6 c2, .int .u8 mark, .int .i64 6] 48))
            rw [hkn2.out] at HOA
            go_wp2_with (first
              | (at_builtin; refine wpList_append_own _ rfl _ _ 27 rfl B 48 k0 (.agg #[.slice none 0 0, .int .u8 0, .int .i64 0]) 3 40 Tryd.underlying27 hk0 hkz hks3 hkb rfl (by decide) _ _ _ rfl HOA.out ⟨wn1.heap.size, 0, none⟩ 1 1 [.slice (some ⟨q2, 0, none⟩) 6 c2, .int .u8 mark, .int .i64 6] rfl rfl ?c1 ?c2 ?c3 ?c4 ?c5 ?_))
            case c1 =>
              intro j u hj
              match j, hj with
              | 0, hj => simp at hj; subst hj; simp [Addr.add]
              | 1, hj => simp at hj; subst hj; simp [Addr.add]
              | 2, hj => simp at hj; subst hj; simp [Addr.add]
            case c2 => intro u hu; simp at hu; rcases hu with rfl | rfl | rfl <;> rfl
            case c3 => unfold maxLen; omega
            case c4 => omega
            case c5 => have := HW'.out.size; simp; omega
            intro vn wn2 hown' hgrow _
            have hgr : wn1.grownBy wn2 (Value.ownBlock (.slice a2 n2 cap2)) := ⟨hgrow.os, hgrow.tape, hgrow.output, by have := hgrow.size; simp at this; omega, fun k hk hne => by rw [hgrow.block k (by simp; omega) hne]; exact Below.heap_alloc wn1 _ k hk⟩
            have HBn : Hid (Book wn2 B vn (ks2 ++ [⟨q2, 6, c2, mark⟩])) := by
              refine Book.more HB'.out P2'.out ?_ hgr
              rw [hkn2.out]; exact hown'
            replace P3' := hide (P3'.out.of_block (hgr.block _ P3'.out.lt (P3'.out.apart HB'.out.1 (by decide))))
            replace P4' := hide (P4'.out.of_block (hgr.block _ P4'.out.lt (P4'.out.apart HB'.out.1 (by decide))))
            replace HW' : Hid (Below B w wn2) := by
              refine Below.grown HW'.out hgr (by have := HW'.out.size; omega) (fun k hk => ?_)
              exact (HB'.out.1.lt k hk).1
            clear HOA hown' hgrow hgr HB'
            have HB' := HBn
            clear HBn
            obtain ⟨a3, cap3, rfl⟩ := HB'.out.shape
            have hkn3 : Hid ((ks2 ++ [(⟨q2, 6, c2, mark⟩ : K5)]).length = n2 + 1) := by show _ = _; rw [List.length_append, hkn2.out]; rfl
            rw [hkn3.out] at HB' ⊢
            have happ3 : Hid (∃ t : List K5, t.length = 3 ∧ ks2 ++ [(⟨q2, 6, c2, mark⟩ : K5)] = ks ++ t) := by
              obtain ⟨t, ht, e⟩ := happ2.out; exact ⟨t ++ [_], by rw [List.length_append, ht]; rfl, by rw [e, List.append_assoc]⟩
            generalize ks2 ++ [(⟨q2, 6, c2, mark⟩ : K5)] = ks3 at *
            generalize hn3 : n2 + 1 = n3 at *
            have hle3 : n3 ≤ n2 + 1 := by omega
            clear hn3
            have HOA := hide (HB'.out.1.alloc (.cells #[.slice (some ⟨q3, 0, none⟩) 7 c3, .int .u8 mark, .int .i64 7] 48))
            rw [hkn3.out] at HOA
            go_wp2_with (first
              | (at_builtin; refine wpList_append_own _ rfl _ _ 27 rfl B 48 k0 (.agg #[.slice none 0 0, .int .u8 0, .int .i64 0]) 3 40 Tryd.underlying27 hk0 hkz hks3 hkb rfl (by decide) _ _ _ rfl HOA.out ⟨wn2.heap.size, 0, none⟩ 1 1 [.slice (some ⟨q3, 0, none⟩) 7 c3, .int .u8 mark, .int .i64 7] rfl rfl ?c1 ?c2 ?c3 ?c4 ?c5 ?_))
            case c1 =>
              intro j u hj
              match j, hj with
              | 0, hj => simp at hj; subst hj; simp [Addr.add]
              | 1, hj => simp at hj; subst hj; simp [Addr.add]
              | 2, hj => simp at hj; subst hj; simp [Addr.add]
            case c2 => intro u hu; simp at hu; rcases hu with rfl | rfl | rfl <;> rfl
            case c3 => unfold maxLen; omega
            case c4 => omega
            case c5 => have := HW'.out.size; simp; omega
            intro vn wn3 hown' hgrow _
            have hgr : wn2.grownBy wn3 (Value.ownBlock (.slice a3 n3 cap3)) := ⟨hgrow.os, hgrow.tape, hgrow.output, by have := hgrow.size; simp at this; omega, fun k hk hne => by rw [hgrow.block k (by simp; omega) hne]; exact Below.heap_alloc wn2 _ k hk⟩
            have HBn : Hid (Book wn3 B vn (ks3 ++ [⟨q3, 7, c3, mark⟩])) := by
              refine Book.more HB'.out P3'.out ?_ hgr
              rw [hkn3.out]; exact hown'
            replace P4' := hide (P4'.out.of_block (hgr.block _ P4'.out.lt (P4'.out.apart HB'.out.1 (by decide))))
            replace HW' : Hid (Below B w wn3) := by
              refine Below.grown HW'.out hgr (by have := HW'.out.size; omega) (fun k hk => ?_)
              exact (HB'.out.1.lt k hk).1
            clear HOA hown' hgrow hgr HB'
            have HB' := HBn
            clear HBn
            obtain ⟨a4, cap4, rfl⟩ := HB'.out.shape
            have hkn4 : Hid ((ks3 ++ [(⟨q3, 7, c3, mark⟩ : K5)]).length = n3 + 1) := by show _ = _; rw [List.length_append, hkn3.out]; rfl
            rw [hkn4.out] at HB' ⊢
            have happ4 : Hid (∃ t : List K5, t.length = 4 ∧ ks3 ++ [(⟨q3, 7, c3, mark⟩ : K5)] = ks ++ t) := by
              obtain ⟨t, ht, e⟩ := happ3.out; exact ⟨t ++ [_], by rw [List.length_append, ht]; rfl, by rw [e, List.append_assoc]⟩
            generalize ks3 ++ [(⟨q3, 7, c3, mark⟩ : K5)] = ks4 at *
            generalize hn4 : n3 + 1 = n4 at *
            have hle4 : n4 ≤ n3 + 1 := by omega
            clear hn4
            have HOA := hide (HB'.out.1.alloc (.cells #[.slice (some ⟨g4, 0, none⟩) 68 c4, .int .u8 mark, .int .i64 68] 48))
            rw [hkn4.out] at HOA
            go_wp2_with (first
              | (at_builtin; refine wpList_append_own _ rfl _ _ 27 rfl B 48 k0 (.agg #[.slice none 0 0, .int .u8 0, .int .i64 0]) 3 40 Tryd.underlying27 hk0 hkz hks3 hkb rfl (by decide) _ _ _ rfl HOA.out ⟨wn3.heap.size, 0, none⟩ 1 1 [.slice (some ⟨g4, 0, none⟩) 68 c4, .int .u8 mark, .int .i64 68] rfl rfl ?c1 ?c2 ?c3 ?c4 ?c5 ?_))
            case c1 =>
              intro j u hj
              match j, hj with
              | 0, hj => simp at hj; subst hj; simp [Addr.add]
              | 1, hj => simp at hj; subst hj; simp [Addr.add]
              | 2, hj => simp at hj; subst hj; simp [Addr.add]
            case c2 => intro u hu; simp at hu; rcases hu with rfl | rfl | rfl <;> rfl
            case c3 => unfold maxLen; omega
            case c4 => omega
            case c5 => have := HW'.out.size; simp; omega
            intro vn wn4 hown' hgrow _
            have hgr : wn3.grownBy wn4 (Value.ownBlock (.slice a4 n4 cap4)) := ⟨hgrow.os, hgrow.tape, hgrow.output, by have := hgrow.size; simp at this; omega, fun k hk hne => by rw [hgrow.block k (by simp; omega) hne]; exact Below.heap_alloc wn3 _ k hk⟩
            have HBn : Hid (Book wn4 B vn (ks4 ++ [⟨g4, 68, c4, mark⟩])) := by
              refine Book.more HB'.out P4'.out ?_ hgr
              rw [hkn4.out]; exact hown'
            replace HW' : Hid (Below B w wn4) := by
              refine Below.grown HW'.out hgr (by have := HW'.out.size; omega) (fun k hk => ?_)
              exact (HB'.out.1.lt k hk).1
            clear HOA hown' hgrow hgr HB'
            have HB' := HBn
            clear HBn
            obtain ⟨a5, cap5, rfl⟩ := HB'.out.shape
            have hkn5 : Hid ((ks4 ++ [(⟨g4, 68, c4, mark⟩ : K5)]).length = n4 + 1) := by show _ = _; rw [List.length_append, hkn4.out]; rfl
            rw [hkn5.out] at HB' ⊢
            have happ5 : Hid (∃ t : List K5, t.length = 5 ∧ ks4 ++ [(⟨g4, 68, c4, mark⟩ : K5)] = ks ++ t) := by
              obtain ⟨t, ht, e⟩ := happ4.out; exact ⟨t ++ [_], by rw [List.length_append, ht]; rfl, by rw [e, List.append_assoc]⟩
            generalize ks4 ++ [(⟨g4, 68, c4, mark⟩ : K5)] = ks5 at *
            generalize hn5 : n4 + 1 = n5 at *
            have hle5 : n5 ≤ n4 + 1 := by omega
            clear hn5
            go_wp2
            go_ret
            obtain ⟨t, ht, e⟩ := happ5.out
            exact ⟨_, t, rfl, by rw [← e]; exact HB'.out, ht, HW'.out⟩
end Go.Proofs.YtibdgnegdnapoacDoor
