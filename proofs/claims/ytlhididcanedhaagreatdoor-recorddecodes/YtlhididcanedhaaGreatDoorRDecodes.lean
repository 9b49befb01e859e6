/- Proved: for every n and all bytes RecordDecodes answers true: the program's Decode gives what the document's own gives, and the bytes and the spare room behind them stay. Conditions: the tables of kinds and of rows and the five sentinels of package wire start as the program's text lays them (the card ties them). -/
import Derived.Test.YtlhididcanedhaaGreatDoorJ01
import Derived.Test.YtlhididcanedhaaGreatDoorJ42
import Derived.Test.YtlhididcanedhaaGreatDoorJ43
import Derived.Test.YtlhididcanedhaaGreatDoorJ45
import Derived.Test.YtlhididcanedhaaGreatDoorTie
import Derived.Test.YtlhididcanedhaaGreatDoorCards
import Derived.Deep.DeepHandedRow
import Derived.Deep.DeepWitnessRowRef
namespace Go.Proofs.YtlhididcanedhaaGreatDoor
namespace recordDecodes
open Go.ChangeShapes Go.WideShapes Go.ChangeAt Go.RowKit Go.Wire1

theorem recB_plainD (b : Nat) : recB (plainR b) = [5, 8, 1, 0, 0, 1, 107, 3, 2, 10] := by kernel_rfl
set_option maxHeartbeats 1000000 in
set_option maxRecDepth 100000 in
theorem form6d_any (w : World) :
    Calls Tryz.prog 8 #[] w fun e w' => e = .returned (.slice (some ⟨w.heap.size, 0, none⟩) 10 10) ∧ Seg w' (some ⟨w.heap.size, 0, none⟩) 10 [5, 8, 1, 0, 0, 1, 107, 3, 2, 10] ∧ Below w.heap.size w w' := by
  go_enter Tryz.func8, Tryz.ntmps8
  go_wp2
  go_ret
  exact ⟨rfl, seg_lit [5, 8, 1, 0, 0, 1, 107, 3, 2, 10] (by unfold maxLen; decide) rfl rfl rfl, (Below.refl _ _).alloc (Nat.le_refl _) _⟩
theorem push3d {B : Nat} {w wr w1 : World} {v v' : Value} {o : Obj} {pre : List Int} {x y z : Int} (hB : B ≤ wr.heap.size) (hown : wr.ownsRow B 5 1 v pre.length (pre.map (Value.int .u8))) (hbel : Below B w wr)
    (hown' : w1.ownsRow B 5 1 v' (pre.length + 3) (pre.map (Value.int .u8) ++ [.int .u8 x, .int .u8 y, .int .u8 z])) (hgrow : (wr.alloc o).grownBy w1 v.ownBlock) :
    w1.ownsRow B 5 1 v' (pre ++ [x, y, z]).length ((pre ++ [x, y, z]).map (Value.int .u8)) ∧ Below B w w1 :=
  ⟨by simpa using hown', (hbel.alloc hB o).grown hgrow (by simp; omega) (fun j hj => (hown.lt j hj).1)⟩
theorem mine_sm {w : World} {B : Nat} {v : Value} {l : List Int} {m : Nat} (hl : l.length = m) (hm : 0 < m) (h : w.ownsRow B 5 1 v l.length (l.map (Value.int .u8))) : ∃ g cap, v = .slice (some ⟨g, 0, none⟩) m cap ∧ Mine w B g m cap l := by
  subst hl
  exact mine_of h hm

set_option maxHeartbeats 8000000 in
set_option maxRecDepth 100000 in
theorem walk (n : Int) (ta : Option Addr) (tn tcap : Nat) (tl : List Int) (a : Nat → Addr) (w : World) (ht : Seg w ta tn tl) (hsrc : Src ta tn tcap) (hty : Byt tl) (hR : Rws w) (hK : Knd w) (he : Errs w a) (hc : tn ≤ tcap) (hcm : tcap ≤ 140737488351232) :
    Calls Tryz.prog 4 #[.int .i64 n, .slice ta tn tcap] w fun e w' => e = .returned (.bool true) ∧ Below w.heap.size w w' := by
  have FB : Hid (er (decR 3 [5, 8, 1, 0, 0, 1, 107, 3, 2, 10]).1 = er (plainR 0) ∧ (decR 3 [5, 8, 1, 0, 0, 1, 107, 3, 2, 10]).2 = 0) := by
    have := decR_back (plain_chk 0) (by show _ ≤ (0 : Int); omega) (by show (0 : Int) ≤ _; omega)
    rwa [recB_plainD] at this
  have HLen : Hid ((tl ++ [91, 92, 93]).length = tn + 3) := by show _ = _; rw [List.length_append, ht.1]; rfl
  have HTk : Hid ((tl ++ [91, 92, 93]).take tn = tl) := by show _ = _; rw [← ht.1]; exact List.take_left
  obtain ⟨D, hD⟩ : ∃ D, Hid (decR n tl = D) := ⟨_, rfl⟩
  have hD6 : Hid (rD6 n tl = D) := by rw [← hD.out]; exact rD6_decR n tl hty
  obtain ⟨i0, hi, hz0, hz1, hz2⟩ := info_parts Tryz.info5
  have htl := hide ht.1
  have HT := hide ht
  have HC := hide hsrc
  have HY := hide hty
  have HE := hide he
  have HK := hide hK
  have HW := hide hR
  have hxl : tl.length ≤ 140737488351232 := by have := ht.1; omega
  have YL : Hid (Byt [5, 8, 1, 0, 0, 1, 107, 3, 2, 10]) := by intro z hz; simp at hz; omega
  clear ht hsrc hty he hK hR
  go_enter Tryz.func4, Tryz.ntmps4
  go_wp2_with fail
  refine (form6d_any _).mono ?_
  rintro e w1 ⟨rfl, hs, hb⟩
  have S1 := hide hs
  have B1 : Hid (Below w.heap.size w w1) := hb
  obtain ⟨fb, hfb⟩ : ∃ fb, w.heap.size = fb := ⟨_, rfl⟩
  have S1' : Hid (Seg w1 (some ⟨fb, 0, none⟩) 10 [5, 8, 1, 0, 0, 1, 107, 3, 2, 10]) := by rw [← hfb]; exact S1.out
  rw [hfb]
  rw [hfb] at B1
  clear hs hb S1
  go_wp2_with fail
  refine (rdec_any 3 _ 10 10 [5, 8, 1, 0, 0, 1, 107, 3, 2, 10] a _ S1'.out (.inr ⟨⟨fb, 0, rfl⟩, by omega, by unfold maxLen; omega⟩) YL.out (HE.out.below B1.out (Nat.le_of_eq hfb)) (HK.out.below B1.out (Nat.le_of_eq hfb)) (HW.out.below B1.out (Nat.le_of_eq hfb))).mono ?_
  rw [← hfb] at B1
  rintro e w2 ⟨rr, rfl, her, hsg, hb⟩
  rw [FB.out.2]
  have ER : Hid (er rr = er (plainR 0)) := her.trans FB.out.1
  have SG2 : Hid (SegI w2 rr.da rr.dn rr.deps) := hsg
  have B2 : Hid (Below w.heap.size w w2) := B1.out.trans (hb.mono B1.out.size)
  clear her hsg hb B1 S1' hfb
  obtain ⟨U, hU⟩ : ∃ U, U = w2.alloc (.cells #[.int .i64 0, .int .i64 0, .int .i64 0, .int .i64 0, .int .i64 0, .bool false, .int .i64 0, .int .i64 0, .int .i64 0, .string ⟨#[]⟩, .string ⟨#[]⟩, .string ⟨#[]⟩, .string ⟨#[]⟩, .int .i64 0, .int .i64 0, .slice none 0 0, .int .i64 0, .int .i64 0] 30) := ⟨_, rfl⟩
  have BU : Hid (Below w2.heap.size w2 U) := by rw [hU]; exact (Below.refl _ _).alloc (Nat.le_refl _) _
  have QU : Hid (Blk U w2.heap.size [.int .i64 0, .int .i64 0, .int .i64 0, .int .i64 0, .int .i64 0, .bool false, .int .i64 0, .int .i64 0, .int .i64 0, .string ⟨#[]⟩, .string ⟨#[]⟩, .string ⟨#[]⟩, .string ⟨#[]⟩, .int .i64 0, .int .i64 0, .slice none 0 0, .int .i64 0, .int .i64 0]) := by rw [hU]; exact blk_new w2 30 [.int .i64 0, .int .i64 0, .int .i64 0, .int .i64 0, .int .i64 0, .bool false, .int .i64 0, .int .i64 0, .int .i64 0, .string ⟨#[]⟩, .string ⟨#[]⟩, .string ⟨#[]⟩, .string ⟨#[]⟩, .int .i64 0, .int .i64 0, .slice none 0 0, .int .i64 0, .int .i64 0]
  have TU : Hid (U.there w2.heap.size 0 18) := QU.out.there
  obtain ⟨X, hX⟩ : ∃ X, X = U.setCells w2.heap.size 0 (rcs rr) := ⟨_, rfl⟩
  have RX := hide (box_stored (w := w2) QU.out (by rfl) BU.out (Nat.le_refl _) hX)
  have eU : Hid (w2.alloc (.cells #[.int .i64 0, .int .i64 0, .int .i64 0, .int .i64 0, .int .i64 0, .bool false, .int .i64 0, .int .i64 0, .int .i64 0, .string ⟨#[]⟩, .string ⟨#[]⟩, .string ⟨#[]⟩, .string ⟨#[]⟩, .int .i64 0, .int .i64 0, .slice none 0 0, .int .i64 0, .int .i64 0] 30) = U) := hU.symm
  have eX := hide hX
  clear hU hX
  have BX : Hid (Below w.heap.size w X) := B2.out.trans (RX.out.2.mono B2.out.size)
  have SX : Hid (SegI X rr.da rr.dn rr.deps) := SG2.out.below RX.out.2 (Nat.le_refl _)
  go_upto_region 2 with (first | (refine wpList_store_mid rfl 30 _ _ rfl w2.heap.size 0 (rcs rr).toArray rfl rfl (by first | exact TU.out | (rw [eU.out]; exact TU.out)) (by kernel_rfl) (by kernel_rfl) ?_; first | rw [← eX.out] | (rw [eU.out, ← eX.out])))
  clear TU eU eX BU QU SG2 B2
  have P0 : Below X.heap.size X X.drew := ⟨rfl, rfl, rfl, Nat.le_refl _, fun _ _ => rfl⟩
  refine wp_region_noPanic ?_
  refine wp_region_held_drew (S := (fun w' => Below X.heap.size X w')) (by kernel_rfl) P0 (fun hHeld => ?_)
  refine tq 0 rfl (yieldsIf_load_mid (by rfl) 30 _ rfl w2.heap.size 0 rfl (rcs rr) _ (fun _ h => (RX.out.1.on h).range) Tryz.underlying30 rfl (by kernel_rfl)) ?_
  refine wpAnyH_ready (rs := [1]) (by kernel_rfl) (by simp) ?_
  refine AllReadyH.cons rfl (fun K hK => ?_) AllReadyH.nil
  rw [if_pos (by rfl)]
  go_wp2_with fail
  refine (plain6_any _).mono ?_
  rintro e V1 ⟨rfl, hs1, hb1⟩
  have P1 := P0.trans (hb1.mono P0.size)
  have SP := hide hs1
  clear hb1 hs1
  refine hK.out _ _ P1 (fun hHeld => ?_)
  clear hK K
  try simp only [Act.put, List.getElem_toArray, List.getElem_cons_succ, List.getElem_cons_zero, List.setIfInBounds_toArray, List.set_cons_zero, List.set_cons_succ]
  refine wpAnyH_ready (rs := [2]) (by kernel_rfl) (by simp) ?_
  refine AllReadyH.cons rfl (fun K hK => ?_) AllReadyH.nil
  rw [if_pos (by rfl)]
  go_wp2_with fail
  refine (sameRec_same rr (plainR _) _ (by exact ER.out.trans rfl) (SX.out.below P1 (Nat.le_refl _)) SP.out).mono ?_
  rintro e V2 ⟨rfl, hb2⟩
  have P2 := P1.trans (hb2.mono P1.size)
  clear hb2
  refine hK.out _ _ P2 (fun hHeld => ?_)
  clear hK K
  try simp only [Act.put, List.getElem_toArray, List.getElem_cons_succ, List.getElem_cons_zero, List.setIfInBounds_toArray, List.set_cons_zero, List.set_cons_succ]
  refine tk 3 ?_
  refine wpAnyH_done (by kernel_rfl) ?_ _
  refine NoPanic.normal ?_
  have B3 : Hid (Below w.heap.size w V2) := BX.out.trans (P2.mono BX.out.size)
  clear P0 P1 P2 SP SX RX BX ER
  go_wp2_with fail
  refine (num6_any _ _).mono ?_
  rintro e w3 ⟨rfl, rfl⟩
  go_wp2_with fail
  refine (bytes_any ta tn tcap tl _ (HT.out.below B3.out (Nat.le_refl _)) (by omega)).mono ?_
  rintro e w4 ⟨v, rfl, hown, hbel⟩
  have hsz := hbel.size
  have B3s := B3.out.size
  go_wp2_with (first
    | (at_builtin; refine wpList_append_own _ rfl _ _ 31 rfl V2.heap.size 5 i0 (.int .u8 0) 1 1 Tryz.underlying31 hi hz0 hz1 hz2 rfl (by decide) _ _ _ rfl (hown.alloc _) ⟨w4.heap.size, 0, none⟩ 3 3 [.int .u8 91, .int .u8 92, .int .u8 93] rfl rfl ?c1 ?c2 ?c3 ?c4 ?c5 ?_))
  case c1 =>
    intro j u hj
    match j, hj with
    | 0, hj => simp at hj; subst hj; simp [Addr.add]
    | 1, hj => simp at hj; subst hj; simp [Addr.add]
    | 2, hj => simp at hj; subst hj; simp [Addr.add]
  case c2 => intro u hu; simp at hu; rcases hu with rfl | rfl | rfl <;> rfl
  case c3 => unfold maxLen; omega
  case c4 => omega
  case c5 => simp; omega
  intro v' w5 hown' hgrow _
  have R := push3d hsz hown hbel hown' hgrow
  obtain ⟨XL, hXL⟩ : ∃ XL : List Int, Hid (tl ++ [91, 92, 93] = XL) := ⟨tl ++ [91, 92, 93], rfl⟩
  rw [hXL.out] at HLen HTk R
  obtain ⟨g, gc, rfl, M5⟩ := mine_sm HLen.out (by omega) R.1
  have B5 : Hid (Below w.heap.size w w5) := B3.out.trans (R.2.mono B3s)
  have HM5 := hide M5
  have hgc : tn + 3 ≤ gc := M5.2.2.1
  have hgm : gc ≤ 9223372036854775807 := by have := M5.2.2.2.1; unfold maxLen at this; omega
  clear hown hbel hown' hgrow R M5 hsz B3s B3 hi hz0 hz1 hz2
  go_wp2_with fail
  refine (bytes_any (some ⟨g, 0, none⟩) (tn + 3) gc XL _ HM5.out.seg (by omega)).mono ?_
  rintro e w6 ⟨v6, rfl, o6, hb⟩
  obtain ⟨h6, hc6, rfl, M6⟩ := mine_sm HLen.out (by omega) o6
  have B6 : Hid (Below w.heap.size w w6) := B5.out.trans (hb.mono B5.out.size)
  have HM6 := hide (HM5.out.below hb (Nat.le_refl _))
  have HN6 := hide M6
  have SG6 : Hid (Seg w6 (some ⟨g, 0, none⟩) tn tl) := by have := HM6.out.seg.take (k := tn) (by omega); rw [HTk.out] at this; exact this
  clear o6 hb M6 B5 HM5
  go_wp2_with fail
  refine (rdec_any n _ tn gc tl a _ SG6.out (.inr ⟨⟨g, 0, rfl⟩, by omega, by unfold maxLen; omega⟩) HY.out (HE.out.below B6.out (Nat.le_refl _)) (HK.out.below B6.out (Nat.le_refl _)) (HW.out.below B6.out (Nat.le_refl _))).mono ?_
  rintro e w7 ⟨r1, rfl, her1, hsg1, hb⟩
  rw [hD.out] at her1 ⊢
  have ER1 : Hid (er r1 = er D.1) := her1
  have SG7 : Hid (SegI w7 r1.da r1.dn r1.deps) := hsg1
  have B7 : Hid (Below w.heap.size w w7) := B6.out.trans (hb.mono B6.out.size)
  have HM7 := hide (HM6.out.below hb (Nat.le_refl _))
  have HN7 := hide (HN6.out.below hb (Nat.le_refl _))
  clear her1 hsg1 hb B6 HM6 HN6 SG6
  obtain ⟨U8, hU8⟩ : ∃ U8, U8 = w7.alloc (.cells #[.int .i64 0, .int .i64 0, .int .i64 0, .int .i64 0, .int .i64 0, .bool false, .int .i64 0, .int .i64 0, .int .i64 0, .string ⟨#[]⟩, .string ⟨#[]⟩, .string ⟨#[]⟩, .string ⟨#[]⟩, .int .i64 0, .int .i64 0, .slice none 0 0, .int .i64 0, .int .i64 0] 30) := ⟨_, rfl⟩
  have BU8 : Hid (Below w7.heap.size w7 U8) := by rw [hU8]; exact (Below.refl _ _).alloc (Nat.le_refl _) _
  have QU8 : Hid (Blk U8 w7.heap.size [.int .i64 0, .int .i64 0, .int .i64 0, .int .i64 0, .int .i64 0, .bool false, .int .i64 0, .int .i64 0, .int .i64 0, .string ⟨#[]⟩, .string ⟨#[]⟩, .string ⟨#[]⟩, .string ⟨#[]⟩, .int .i64 0, .int .i64 0, .slice none 0 0, .int .i64 0, .int .i64 0]) := by rw [hU8]; exact blk_new w7 30 [.int .i64 0, .int .i64 0, .int .i64 0, .int .i64 0, .int .i64 0, .bool false, .int .i64 0, .int .i64 0, .int .i64 0, .string ⟨#[]⟩, .string ⟨#[]⟩, .string ⟨#[]⟩, .string ⟨#[]⟩, .int .i64 0, .int .i64 0, .slice none 0 0, .int .i64 0, .int .i64 0]
  have TU8 : Hid (U8.there w7.heap.size 0 18) := QU8.out.there
  obtain ⟨X8, hX8⟩ : ∃ X8, X8 = U8.setCells w7.heap.size 0 (rcs r1) := ⟨_, rfl⟩
  have RX8 := hide (box_stored (w := w7) QU8.out (by rfl) BU8.out (Nat.le_refl _) hX8)
  have eU8 : Hid (w7.alloc (.cells #[.int .i64 0, .int .i64 0, .int .i64 0, .int .i64 0, .int .i64 0, .bool false, .int .i64 0, .int .i64 0, .int .i64 0, .string ⟨#[]⟩, .string ⟨#[]⟩, .string ⟨#[]⟩, .string ⟨#[]⟩, .int .i64 0, .int .i64 0, .slice none 0 0, .int .i64 0, .int .i64 0] 30) = U8) := hU8.symm
  have eX8 := hide hX8
  clear hU8 hX8
  have B8 : Hid (Below w.heap.size w X8) := B7.out.trans (RX8.out.2.mono B7.out.size)
  have S8 : Hid (SegI X8 r1.da r1.dn r1.deps) := SG7.out.below RX8.out.2 (Nat.le_refl _)
  have HM8 := hide (HM7.out.below RX8.out.2 (Nat.le_refl _))
  have HN8 := hide (HN7.out.below RX8.out.2 (Nat.le_refl _))
  go_upto_region 9 with (first | (refine wpList_store_mid rfl 30 _ _ rfl w7.heap.size 0 (rcs r1).toArray rfl rfl (by first | exact TU8.out | (rw [eU8.out]; exact TU8.out)) (by kernel_rfl) (by kernel_rfl) ?_; first | rw [← eX8.out] | (rw [eU8.out, ← eX8.out])))
  clear TU8 eU8 eX8 BU8 QU8 SG7 B7 HM7 HN7
  go_wp2_with fail
  refine (ref6dec_any n ta tn tcap tl a _ (HT.out.below B8.out (Nat.le_refl _)) HC.out HY.out (HE.out.below B8.out (Nat.le_refl _))).mono ?_
  rintro e w9 ⟨r2, rfl, her2, hsg2, hb⟩
  rw [hD6.out] at her2 ⊢
  have ER2 : Hid (er r1 = er r2) := ER1.out.trans her2.symm
  have SG9 : Hid (SegI w9 r2.da r2.dn r2.deps) := hsg2
  have B9 : Hid (Below w.heap.size w w9) := B8.out.trans (hb.mono B8.out.size)
  have HM9 := hide (HM8.out.below hb (Nat.le_refl _))
  have HN9 := hide (HN8.out.below hb (Nat.le_refl _))
  have Q9 : Hid (Blk w9 w7.heap.size (rcs r1)) := RX8.out.1.on hb
  have S9 : Hid (SegI w9 r1.da r1.dn r1.deps) := S8.out.below hb (Nat.le_refl _)
  clear her2 hsg2 hb B8 HM8 HN8 S8 RX8 ER1
  obtain ⟨UA, hUA⟩ : ∃ UA, UA = w9.alloc (.cells #[.int .i64 0, .int .i64 0, .int .i64 0, .int .i64 0, .int .i64 0, .bool false, .int .i64 0, .int .i64 0, .int .i64 0, .string ⟨#[]⟩, .string ⟨#[]⟩, .string ⟨#[]⟩, .string ⟨#[]⟩, .int .i64 0, .int .i64 0, .slice none 0 0, .int .i64 0, .int .i64 0] 30) := ⟨_, rfl⟩
  have BUA : Hid (Below w9.heap.size w9 UA) := by rw [hUA]; exact (Below.refl _ _).alloc (Nat.le_refl _) _
  have QUA : Hid (Blk UA w9.heap.size [.int .i64 0, .int .i64 0, .int .i64 0, .int .i64 0, .int .i64 0, .bool false, .int .i64 0, .int .i64 0, .int .i64 0, .string ⟨#[]⟩, .string ⟨#[]⟩, .string ⟨#[]⟩, .string ⟨#[]⟩, .int .i64 0, .int .i64 0, .slice none 0 0, .int .i64 0, .int .i64 0]) := by rw [hUA]; exact blk_new w9 30 [.int .i64 0, .int .i64 0, .int .i64 0, .int .i64 0, .int .i64 0, .bool false, .int .i64 0, .int .i64 0, .int .i64 0, .string ⟨#[]⟩, .string ⟨#[]⟩, .string ⟨#[]⟩, .string ⟨#[]⟩, .int .i64 0, .int .i64 0, .slice none 0 0, .int .i64 0, .int .i64 0]
  have TUA : Hid (UA.there w9.heap.size 0 18) := QUA.out.there
  obtain ⟨XA, hXA⟩ : ∃ XA, XA = UA.setCells w9.heap.size 0 (rcs r2) := ⟨_, rfl⟩
  have RXA := hide (box_stored (w := w9) QUA.out (by rfl) BUA.out (Nat.le_refl _) hXA)
  have eUA : Hid (w9.alloc (.cells #[.int .i64 0, .int .i64 0, .int .i64 0, .int .i64 0, .int .i64 0, .bool false, .int .i64 0, .int .i64 0, .int .i64 0, .string ⟨#[]⟩, .string ⟨#[]⟩, .string ⟨#[]⟩, .string ⟨#[]⟩, .int .i64 0, .int .i64 0, .slice none 0 0, .int .i64 0, .int .i64 0] 30) = UA) := hUA.symm
  have eXA := hide hXA
  clear hUA hXA
  have BA : Hid (Below w.heap.size w XA) := B9.out.trans (RXA.out.2.mono B9.out.size)
  have S1A : Hid (SegI XA r1.da r1.dn r1.deps) := S9.out.below RXA.out.2 (Nat.le_refl _)
  have S2A : Hid (SegI XA r2.da r2.dn r2.deps) := SG9.out.below RXA.out.2 (Nat.le_refl _)
  have QA : Hid (Blk XA w7.heap.size (rcs r1)) := Q9.out.on RXA.out.2
  have HMA := hide (HM9.out.below RXA.out.2 (Nat.le_refl _))
  have HNA := hide (HN9.out.below RXA.out.2 (Nat.le_refl _))
  go_upto_region 10 with (first | (refine wpList_store_mid rfl 30 _ _ rfl w9.heap.size 0 (rcs r2).toArray rfl rfl (by first | exact TUA.out | (rw [eUA.out]; exact TUA.out)) (by kernel_rfl) (by kernel_rfl) ?_; first | rw [← eXA.out] | (rw [eUA.out, ← eXA.out])))
  clear TUA eUA eXA BUA QUA SG9 B9 HM9 HN9 Q9 S9
  go_wp2_with (first | (refine wpList_load_mid rfl 30 _ rfl w7.heap.size 0 rfl (rcs r1) _ QA.out.range Tryz.underlying30 rfl (by kernel_rfl) ?_) | (refine wpList_load_mid rfl 30 _ rfl w9.heap.size 0 rfl (rcs r2) _ RXA.out.1.range Tryz.underlying30 rfl (by kernel_rfl) ?_))
  refine (sameRec_same r1 r2 _ ER2.out S1A.out S2A.out).mono ?_
  rintro e wB ⟨rfl, hb⟩
  have BB : Hid (Below w.heap.size w wB) := BA.out.trans (hb.mono BA.out.size)
  have SMB := hide (HMA.out.below hb (Nat.le_refl _)).seg
  have SNB := hide (HNA.out.below hb (Nat.le_refl _)).seg
  clear hb BA S1A S2A QA HMA HNA RXA ER2
  go_wp2_with fail
  refine (same_any _ _ _ _ _ _ XL XL _ SMB.out SNB.out).mono ?_
  rintro e wC ⟨rfl, qC, hqC⟩
  rw [same_yes rfl]
  have BC : Hid (Below w.heap.size w wC) := by rw [hqC]; exact ⟨BB.out.os, BB.out.tape, BB.out.output, BB.out.size, BB.out.block⟩
  clear hqC BB SMB SNB
  go_wp2_with fail
  refine (num6_any _ _).mono ?_
  rintro e wC' ⟨rfl, rfl⟩
  have hdd : (D.2 == D.2) = true := by simp
  go_wp2
  go_ret
  exact ⟨rfl, BC.out⟩

set_option maxRecDepth 100000 in
/-- For every argument and every world. -/
theorem contract (H : Type) (enc : TypeId × Value → H) (W : World) (base : Nat) (args : Array Value) (ds gs : List (DataW H)) (before : List MemPlace)
    (hval : ∀ (j : Nat) t v, Tryz.f4.params[j]? = some t → args[j]? = some v → Value.okWide Tryz.prog W .any base t v)
    (hW : DataW.Whole enc Tryz.prog Tryz.f4.params.toList Rows.recordDecodesSpec.vars false W args.toList ds gs before)
    (hsz : (DataW.weightsEach Tryz.prog (Tryz.f4.params.toList ++ (OpenSpec.ofChange Rows.recordDecodesSpec).bare.plain.varTypes Tryz.prog) (ds ++ gs)).all (· ≤ reachBytes) = true)
    (hL : laidMetH Tryz.prog Rows.recordDecodesRow.laid W) :
    Calls Tryz.prog 4 args W fun e W' => ∃ v, e = .returned v ∧ Rows.recordDecodesSpec.post enc Tryz.prog Tryz.f4 false true false false W args v W' := by
  have hW' := hW
  obtain ⟨p, q, hA0, hV, rfl, hfz, hnd⟩ := hW
  have hA : DataW.TrodAll enc Tryz.prog W 0 (fun _ => true) true Tryz.f4.params.toList args.toList ds p := hA0
  rw [Tryz.params4] at hA hval hsz
  obtain ⟨v0, vs0, d0, ds0, p0, q0, hargs, rfl, rfl, h0, tr0⟩ := trodAll_cons hA
  obtain ⟨v1, vs1, d1, ds1, p1, q1, rfl, rfl, rfl, h1, tr1⟩ := trodAll_cons tr0
  obtain ⟨rfl, rfl, rfl⟩ := trodAll_nil tr1
  obtain rfl : args = #[v0, v1] := by cases args; simp_all
  obtain ⟨rfl, rfl⟩ := trodVars_none hV
  obtain ⟨y0, rfl, rfl, rfl, w0⟩ := open_int Tryz.underlying3 (hval 0 3 v0 rfl rfl) h0
  have b0 := bounds_i64 w0
  obtain ⟨a1, n1, cap1, rfl⟩ := okWide_slice Tryz.underlying31 (hval 1 31 v1 rfl rfl)
  have k1 := h1
  have lt1 : ∀ x ∈ p1, x.block < W.heap.size := by obtain ⟨m, hm⟩ := k1; exact DataW.trod_lt m _ _ _ hm
  obtain ⟨fuel1, hf1⟩ := h1
  obtain ⟨l1, hseg1, hbyt1, hcap1, hdat1⟩ := open_bytes hf1
  have hreach1 : cap1 ≤ 140737488351232 := by
    rcases hdat1 with ⟨_, _, h⟩ | ⟨elems, spare, hd, he, hc⟩
    · omega
    · have hs := sized_slice hsz (j := 1) (t := 31) (e := 5) (elems := elems) (spare := spare) rfl (by rw [show d1 = _ from hd]; rfl) Tryz.underlying31
      rw [bytes5] at hs
      simp only [reachBytes] at hs
      omega
  have hE := errs_of_laid hL
  clear hA0
  obtain ⟨aa, haa⟩ := hE
  refine (walk y0 a1 n1 cap1 l1 aa W hseg1 (src_of hf1) hbyt1 (rws_of_laid hL) (knd_of_laid hL) haa hcap1 hreach1).mono fun e W' ⟨he, bel⟩ => ?_
  subst he
  exact ⟨_, rfl, _, _, _, [], _, [], hW', trodAll_mk1 (shut_bool Tryz.underlying4 _), (trodAll_cons_mk (shut_int Tryz.underlying3 w0) (trodAll_cons_mk (Below.trod claid (by kernel_rfl) (of_decide_eq_true (by kernel_rfl)) k1 bel lt1) trodAll_mk0)), rfl, bel.frame _, fun h => by cases h⟩

theorem reads (os : Os) {H : Type} (enc : TypeId × Value → H) : ∃ places, DataW.whole enc Tryz.prog ((World.doorLaid Tryz.prog 400 os).forCall (fun _ _ => 0) ⟨#[], #[.int .i64 0, .slice none 0 0], []⟩).memory Tryz.f4.params.toList Rows.recordDecodesSpec.vars false (#[Value.int .i64 0, .slice none 0 0] : Array Value).toList 8 = some ([.lit (.int .i64 0), .nil], [], places) :=
  ⟨[], by kernel_rfl⟩

set_option maxRecDepth 100000 in
theorem lifted (os : Os) (started : os.Started) (H : Type) (enc : TypeId × Value → H) (F : Stop.Interp) :
    ReturnsInHanded {} Tryz.checked os 4 .any ((OpenSpec.ofChange Rows.recordDecodesSpec).preRow enc Tryz.prog Tryz.f4 Rows.recordDecodesRow.domain false Rows.recordDecodesRow.laid) (((OpenSpec.ofChange Rows.recordDecodesSpec).at F).post enc Tryz.prog Tryz.f4 false true false false) := by
  obtain ⟨places, hx⟩ := reads os enc
  refine returnsInHanded_of_row (C := Tryz.checked) (s := (OpenSpec.ofChange Rows.recordDecodesSpec)) cown started (by kernel_rfl) Tryz.func4
    (witness_row_atRef (enc := enc) (C := Tryz.checked) false (World.doorLaid Tryz.prog 400 os) #[.int .i64 0, .slice none 0 0] rfl (by kernel_rfl) (by kernel_rfl) (by kernel_rfl)
      (OpenSpec.preRow_of_cond 8 hx (by kernel_rfl) (fun k hk => by cases hk) (by kernel_rfl) (door_met os _))) ?_
  intro W base args ds gs before hval hW _ hcond hsz hL _ _
  exact contract H enc W base args ds gs before hval hW hsz hL

theorem said : Rows.RecordDecodesSaid :=
  OpenClaim.holds_of_cond 4 Tryz.f4 rfl rfl rfl rfl rfl rfl rfl ⟨rfl, rfl, rfl, rfl, rfl⟩ rfl rfl rfl rfl rfl (by kernel_rfl) Tryz.func4 (by kernel_rfl)
    (of_decide_eq_true (by kernel_rfl)) (by unfold Func.isWrapper; first | (rw [if_pos (by decide +kernel)]; kernel_rfl) | (rw [if_neg (by decide +kernel)]; exact ⟨rfl, rfl⟩))
    (fun os started H enc _ F => by rw [OpenClaim.pre_eq_preRow]; exact lifted os started H enc F)

theorem plain (f : FuncId) (fn : Func) (hf : Tryz.pinned.checked.prog.funcNamed "moot/mootlaw6.RecordDecodes" = some f) (hfn : Tryz.pinned.checked.prog.funcs[f]? = some fn) :
    true = Tryz.pinned.checked.prog.looks [] ∧ ∀ (j : Nat) t, fn.params[j]? = some t → Tryz.pinned.checked.prog.wantsStandIn t = false := by
  obtain rfl : f = 4 := Option.some.inj ((show Tryz.prog.funcNamed "moot/mootlaw6.RecordDecodes" = some 4 by kernel_rfl).symm.trans hf) |>.symm
  obtain rfl : fn = Tryz.f4 := (Option.some.inj (Tryz.func4.symm.trans hfn)).symm
  refine ⟨by kernel_rfl, fun j t ht => ?_⟩
  rw [Tryz.params4] at ht
  have hm : t ∈ [3, 31] := by simpa using Array.mem_of_getElem? ht
  have hall : ([3, 31].all fun u => !Tryz.prog.wantsStandIn u) = true := by kernel_rfl
  exact (show Tryz.prog.wantsStandIn t = false by simpa using List.all_eq_true.1 hall t hm)

end recordDecodes
theorem recordDecodes_proved : Rows.RecordDecodesCardSaid :=
  Claim7.holds_tied_plain_at .later [] _ _ _ _ recordDecodes.said (fun _ h => by cases h) (by kernel_rfl) (fun _ h => by cases h) recordDecodes_row_tie rfl ⟨rfl, rfl⟩ (by kernel_rfl) rfl recordDecodes.plain (by kernel_rfl)
#print axioms recordDecodes_proved
end Go.Proofs.YtlhididcanedhaaGreatDoor
