/- Proved: for every version, n and message MsgChecks answers true: the program's Check is the document's own, of the message and of a copy of it, and what was handed in stays. Conditions: the two tables of kinds and the five sentinels of package wire start as the program's text lays them (the card ties them). -/
import Derived.Test.YtdokagebfeejbaaGreatDoorJ01
import Derived.Test.YtdokagebfeejbaaGreatDoorJ35
import Derived.Test.YtdokagebfeejbaaGreatDoorJ45
import Derived.Test.YtdokagebfeejbaaGreatDoorJ42
import Derived.Test.YtdokagebfeejbaaGreatDoorJ41
import Derived.Test.YtdokagebfeejbaaGreatDoorTie
import Derived.Test.YtdokagebfeejbaaGreatDoorCards
import Derived.Deep.DeepHandedRow
import Derived.Deep.DeepWitnessRowRef
namespace Go.Proofs.YtdokagebfeejbaaGreatDoor
namespace msgChecks
open Go.ChangeShapes Go.WideShapes Go.ChangeAt Go.RowKit Go.Wire1

set_option maxHeartbeats 8000000 in
set_option maxRecDepth 100000 in
theorem walk (v n : Int) (m : Ms) (ua : Option Addr) (uk uc : Nat) (a : Nat → Addr) (w : World) (hKc : Knd w) (hK : Kmd w) (he : Errs w a) (hk1 : m.c.key.size ≤ 140737488351232) (hk2 : m.c.key2.size ≤ 140737488351232) (hI : SegI w ua uk m.dl) (huc : uk ≤ uc) (hlen : uc * 8 ≤ 140737488351232) :
    Calls Tryz.prog 3 #[.int .i64 v, .int .i64 n, .agg (mgc m (.slice ua uk uc)).toArray] w fun e w' => e = .returned (.bool true) ∧ Below w.heap.size w w' := by
  obtain ⟨X, hX⟩ : ∃ X, X = w.alloc (.cells (mgc m (.slice ua uk uc)).toArray 30) := ⟨_, rfl⟩
  have M0 : Hid (Blk X w.heap.size (mgc m (.slice ua uk uc))) := by rw [hX]; exact blk_new w 30 (mgc m (.slice ua uk uc))
  have B0 : Hid (Below w.heap.size w X) := by rw [hX]; exact (Below.refl _ w).alloc (Nat.le_refl _) _
  have HI := hide hI
  have HKc := hide hKc
  have HK := hide hK
  have HE := hide he
  have HK1 := hide hk1
  have HK2 := hide hk2
  have HL : Hid ((uk + 3) * 8 ≤ 140737488355200) := by show _ ≤ _; omega
  have FIT : Hid (Fit (m.dl ++ [11, 12, 13])) := fit_append hI.2.2.2 (fit_of (fun x hx => by simp only [List.mem_cons, List.not_mem_nil, or_false] at hx; omega))
  obtain ⟨L3, hL3⟩ : ∃ L3 : List Int, Hid (m.dl ++ [11, 12, 13] = L3) := ⟨m.dl ++ [11, 12, 13], rfl⟩
  rw [hL3.out] at FIT
  have GET : Hid (∀ j, j < uk → L3.getD j 0 = m.dl.getD j 0) := fun j hj => by rw [← hL3.out, List.getD, List.getD, List.getElem?_append_left (by have := HI.out.1; omega)]
  obtain ⟨z, hz⟩ : ∃ z, Hid (chkM v n m = z) := ⟨_, rfl⟩
  clear hI hKc hK he hk1 hk2 hlen huc
  go_enter Tryz.func3, Tryz.ntmps3
  go_upto_region 1 with fail
  rw [← hX]
  clear hX
  go_wp2_with fail
  refine (known5_any a _ (HKc.out.below B0.out (Nat.le_refl _)) (HK.out.below B0.out (Nat.le_refl _)) (HE.out.below B0.out (Nat.le_refl _))).mono ?_
  rintro e w1 ⟨rfl, hb⟩
  have B1 : Hid (Below w.heap.size w w1) := B0.out.trans (hb.mono B0.out.size)
  have M1 : Hid (Blk w1 w.heap.size (mgc m (.slice ua uk uc))) := M0.out.on hb
  clear hb M0 B0
  go_wp2_with (refine wpList_load_mid rfl 30 _ rfl w.heap.size 0 rfl (mgc m (.slice ua uk uc)) _ M1.out.range Tryz.underlying30 rfl (by kernel_rfl) ?_)
  refine (twin5_any m ua uk uc _ (HI.out.below B1.out (Nat.le_refl _)) HL.out).mono ?_
  rintro e w2 ⟨g, gc, GB, rfl, hM, hb⟩
  rw [hL3.out] at hM
  have B2 : Hid (Below w.heap.size w w2) := B1.out.trans (hb.mono B1.out.size)
  have M2 : Hid (Blk w2 w.heap.size (mgc m (.slice ua uk uc))) := M1.out.on hb
  have G2 := hide hM
  have g1 := hide hM.2.2.1
  have g2 : Hid (gc ≤ 9223372036854775807) := by have := hM.2.2.2.1; unfold maxLen at this; exact hide this
  clear hb hM M1 B1
  obtain ⟨U, hU⟩ : ∃ U, U = w2.alloc (.cells #[.int .i64 0, .int .i64 0, .int .i64 0, .int .i64 0, .int .i64 0, .int .i64 0, .int .i64 0, .int .i64 0, .bool false, .int .i64 0, .int .i64 0, .int .i64 0, .string ⟨#[]⟩, .string ⟨#[]⟩, .string ⟨#[]⟩, .string ⟨#[]⟩, .int .i64 0, .int .i64 0, .slice none 0 0] 30) := ⟨_, rfl⟩
  have BU : Hid (Below w2.heap.size w2 U) := by rw [hU]; exact (Below.refl _ _).alloc (Nat.le_refl _) _
  have QU : Hid (Blk U w2.heap.size [.int .i64 0, .int .i64 0, .int .i64 0, .int .i64 0, .int .i64 0, .int .i64 0, .int .i64 0, .int .i64 0, .bool false, .int .i64 0, .int .i64 0, .int .i64 0, .string ⟨#[]⟩, .string ⟨#[]⟩, .string ⟨#[]⟩, .string ⟨#[]⟩, .int .i64 0, .int .i64 0, .slice none 0 0]) := by rw [hU]; exact blk_new w2 30 [.int .i64 0, .int .i64 0, .int .i64 0, .int .i64 0, .int .i64 0, .int .i64 0, .int .i64 0, .int .i64 0, .bool false, .int .i64 0, .int .i64 0, .int .i64 0, .string ⟨#[]⟩, .string ⟨#[]⟩, .string ⟨#[]⟩, .string ⟨#[]⟩, .int .i64 0, .int .i64 0, .slice none 0 0]
  have TU : Hid (U.there w2.heap.size 0 19) := QU.out.there
  obtain ⟨Y, hY⟩ : ∃ Y, Y = U.setCells w2.heap.size 0 (mgc m (.slice (some ⟨g, 0, none⟩) uk gc)) := ⟨_, rfl⟩
  have RY := hide (mbox_stored (w := w2) QU.out (by rfl) BU.out (Nat.le_refl _) hY)
  have eU : Hid (w2.alloc (.cells #[.int .i64 0, .int .i64 0, .int .i64 0, .int .i64 0, .int .i64 0, .int .i64 0, .int .i64 0, .int .i64 0, .bool false, .int .i64 0, .int .i64 0, .int .i64 0, .string ⟨#[]⟩, .string ⟨#[]⟩, .string ⟨#[]⟩, .string ⟨#[]⟩, .int .i64 0, .int .i64 0, .slice none 0 0] 30) = U) := hU.symm
  have eY := hide hY
  clear hU hY
  have BY : Hid (Below w.heap.size w Y) := B2.out.trans (RY.out.2.mono B2.out.size)
  have MY : Hid (Blk Y w.heap.size (mgc m (.slice ua uk uc))) := M2.out.on RY.out.2
  have GY := hide (G2.out.below RY.out.2 (Nat.le_refl _))
  obtain ⟨q2, hq2⟩ : ∃ q, Hid (w2.heap.size = q) := ⟨_, rfl⟩
  go_upto_region 4 with (first | (refine wpList_store_mid rfl 30 _ _ rfl w2.heap.size 0 (mgc m (.slice (some ⟨g, 0, none⟩) uk gc)).toArray rfl rfl (by first | exact TU.out | (rw [eU.out]; exact TU.out)) (by kernel_rfl) (by kernel_rfl) ?_; first | rw [← eY.out] | (rw [eU.out, ← eY.out])))
  have QY : Hid (Blk Y q2 (mgc m (.slice (some ⟨g, 0, none⟩) uk gc))) := by rw [← hq2.out]; exact RY.out.1
  rw [hq2.out]
  clear TU eU eY BU QU B2 M2 G2 RY hq2
  go_wp2_with (refine wpList_load_mid rfl 30 _ rfl w.heap.size 0 rfl (mgc m (.slice ua uk uc)) _ MY.out.range Tryz.underlying30 rfl (by kernel_rfl) ?_)
  refine (twin5_any m ua uk uc _ (HI.out.below BY.out (Nat.le_refl _)) HL.out).mono ?_
  rintro e w3 ⟨h, hc, HB, rfl, hM, hb⟩
  rw [hL3.out] at hM
  have B3 : Hid (Below w.heap.size w w3) := BY.out.trans (hb.mono BY.out.size)
  have M3 : Hid (Blk w3 w.heap.size (mgc m (.slice ua uk uc))) := MY.out.on hb
  have Q3 : Hid (Blk w3 q2 (mgc m (.slice (some ⟨g, 0, none⟩) uk gc))) := QY.out.on hb
  have G3 := hide (GY.out.below hb (Nat.le_refl _))
  have H3 := hide hM
  have h1 := hide hM.2.2.1
  have h2 : Hid (hc ≤ 9223372036854775807) := by have := hM.2.2.2.1; unfold maxLen at this; exact hide this
  clear hb hM MY BY QY GY
  obtain ⟨V, hV⟩ : ∃ V, V = w3.alloc (.cells #[.int .i64 0, .int .i64 0, .int .i64 0, .int .i64 0, .int .i64 0, .int .i64 0, .int .i64 0, .int .i64 0, .bool false, .int .i64 0, .int .i64 0, .int .i64 0, .string ⟨#[]⟩, .string ⟨#[]⟩, .string ⟨#[]⟩, .string ⟨#[]⟩, .int .i64 0, .int .i64 0, .slice none 0 0] 30) := ⟨_, rfl⟩
  have BV : Hid (Below w3.heap.size w3 V) := by rw [hV]; exact (Below.refl _ _).alloc (Nat.le_refl _) _
  have QV : Hid (Blk V w3.heap.size [.int .i64 0, .int .i64 0, .int .i64 0, .int .i64 0, .int .i64 0, .int .i64 0, .int .i64 0, .int .i64 0, .bool false, .int .i64 0, .int .i64 0, .int .i64 0, .string ⟨#[]⟩, .string ⟨#[]⟩, .string ⟨#[]⟩, .string ⟨#[]⟩, .int .i64 0, .int .i64 0, .slice none 0 0]) := by rw [hV]; exact blk_new w3 30 [.int .i64 0, .int .i64 0, .int .i64 0, .int .i64 0, .int .i64 0, .int .i64 0, .int .i64 0, .int .i64 0, .bool false, .int .i64 0, .int .i64 0, .int .i64 0, .string ⟨#[]⟩, .string ⟨#[]⟩, .string ⟨#[]⟩, .string ⟨#[]⟩, .int .i64 0, .int .i64 0, .slice none 0 0]
  have TV : Hid (V.there w3.heap.size 0 19) := QV.out.there
  obtain ⟨Z, hZ⟩ : ∃ Z, Z = V.setCells w3.heap.size 0 (mgc m (.slice (some ⟨h, 0, none⟩) uk hc)) := ⟨_, rfl⟩
  have RZ := hide (mbox_stored (w := w3) QV.out (by rfl) BV.out (Nat.le_refl _) hZ)
  have eV : Hid (w3.alloc (.cells #[.int .i64 0, .int .i64 0, .int .i64 0, .int .i64 0, .int .i64 0, .int .i64 0, .int .i64 0, .int .i64 0, .bool false, .int .i64 0, .int .i64 0, .int .i64 0, .string ⟨#[]⟩, .string ⟨#[]⟩, .string ⟨#[]⟩, .string ⟨#[]⟩, .int .i64 0, .int .i64 0, .slice none 0 0] 30) = V) := hV.symm
  have eZ := hide hZ
  clear hV hZ
  have BZ : Hid (Below w.heap.size w Z) := B3.out.trans (RZ.out.2.mono B3.out.size)
  have MZ : Hid (Blk Z w.heap.size (mgc m (.slice ua uk uc))) := M3.out.on RZ.out.2
  have QZ : Hid (Blk Z q2 (mgc m (.slice (some ⟨g, 0, none⟩) uk gc))) := Q3.out.on RZ.out.2
  have GZ := hide (G3.out.below RZ.out.2 (Nat.le_refl _))
  have HZ := hide (H3.out.below RZ.out.2 (Nat.le_refl _))
  obtain ⟨q3, hq3⟩ : ∃ q, Hid (w3.heap.size = q) := ⟨_, rfl⟩
  go_upto_region 5 with (first | (refine wpList_store_mid rfl 30 _ _ rfl w3.heap.size 0 (mgc m (.slice (some ⟨h, 0, none⟩) uk hc)).toArray rfl rfl (by first | exact TV.out | (rw [eV.out]; exact TV.out)) (by kernel_rfl) (by kernel_rfl) ?_; first | rw [← eZ.out] | (rw [eV.out, ← eZ.out])))
  have PZ : Hid (Blk Z q3 (mgc m (.slice (some ⟨h, 0, none⟩) uk hc))) := by rw [← hq3.out]; exact RZ.out.1
  rw [hq3.out]
  clear TV eV eZ BV QV B3 M3 Q3 G3 H3 RZ hq3
  have SGZ : Hid (SegI Z (some ⟨g, 0, none⟩) uk m.dl) := ⟨HI.out.1, HI.out.2.1, fun _ => ⟨g, 0, rfl, fun j hj => by rw [Nat.zero_add, GZ.out.cell (by omega), GET.out j hj]⟩, HI.out.2.2.2⟩
  go_wp2_with (refine wpList_load_mid rfl 30 _ rfl q2 0 rfl (mgc m (.slice (some ⟨g, 0, none⟩) uk gc)) _ QZ.out.range Tryz.underlying30 rfl (by kernel_rfl) ?_)
  refine (mcheck_any v n m _ uk gc _ (HKc.out.below BZ.out (Nat.le_refl _)) (HK.out.below BZ.out (Nat.le_refl _)) HK1.out HK2.out SGZ.out).mono ?_
  rintro e w4 ⟨rfl, hb⟩
  rw [hz.out]
  have B4 : Hid (Below w.heap.size w w4) := BZ.out.trans (hb.mono BZ.out.size)
  have M4 : Hid (Blk w4 w.heap.size (mgc m (.slice ua uk uc))) := MZ.out.on hb
  have Q4 : Hid (Blk w4 q2 (mgc m (.slice (some ⟨g, 0, none⟩) uk gc))) := QZ.out.on hb
  have P4 : Hid (Blk w4 q3 (mgc m (.slice (some ⟨h, 0, none⟩) uk hc))) := PZ.out.on hb
  have G4 := hide (GZ.out.below hb (Nat.le_refl _))
  have H4 := hide (HZ.out.below hb (Nat.le_refl _))
  clear hb BZ MZ QZ PZ GZ HZ SGZ
  go_wp2_with (refine wpList_load_mid rfl 30 _ rfl w.heap.size 0 rfl (mgc m (.slice ua uk uc)) _ M4.out.range Tryz.underlying30 rfl (by kernel_rfl) ?_)
  refine (refCheck5_any v n m ua uk uc _ (HI.out.below B4.out (Nat.le_refl _))).mono ?_
  rintro e w5 ⟨rfl, hb⟩
  rw [hz.out]
  have B5 : Hid (Below w.heap.size w w5) := B4.out.trans (hb.mono B4.out.size)
  have M5 : Hid (Blk w5 w.heap.size (mgc m (.slice ua uk uc))) := M4.out.on hb
  have Q5 : Hid (Blk w5 q2 (mgc m (.slice (some ⟨g, 0, none⟩) uk gc))) := Q4.out.on hb
  have P5 : Hid (Blk w5 q3 (mgc m (.slice (some ⟨h, 0, none⟩) uk hc))) := P4.out.on hb
  have G5 := hide (G4.out.below hb (Nat.le_refl _))
  have H5 := hide (H4.out.below hb (Nat.le_refl _))
  clear hb B4 M4 Q4 P4 G4 H4
  go_wp2_with (refine wpList_load_mid rfl 30 _ rfl w.heap.size 0 rfl (mgc m (.slice ua uk uc)) _ M5.out.range Tryz.underlying30 rfl (by kernel_rfl) ?_)
  refine (mcheck_any v n m ua uk uc _ (HKc.out.below B5.out (Nat.le_refl _)) (HK.out.below B5.out (Nat.le_refl _)) HK1.out HK2.out (HI.out.below B5.out (Nat.le_refl _))).mono ?_
  rintro e w6 ⟨rfl, hb⟩
  rw [hz.out]
  have B6 : Hid (Below w.heap.size w w6) := B5.out.trans (hb.mono B5.out.size)
  have Q6 : Hid (Blk w6 q2 (mgc m (.slice (some ⟨g, 0, none⟩) uk gc))) := Q5.out.on hb
  have P6 : Hid (Blk w6 q3 (mgc m (.slice (some ⟨h, 0, none⟩) uk hc))) := P5.out.on hb
  have SG6 : Hid (SegI w6 (some ⟨g, 0, none⟩) (uk + 3) L3) := (G5.out.below hb (Nat.le_refl _)).seg FIT.out
  have SH6 : Hid (SegI w6 (some ⟨h, 0, none⟩) (uk + 3) L3) := (H5.out.below hb (Nat.le_refl _)).seg FIT.out
  clear hb B5 M5 Q5 P5 G5 H5
  have dz : (z == z) = true := by simp
  have S0 : Below w6.heap.size w6 w6.drew := ⟨rfl, rfl, rfl, Nat.le_refl _, fun _ _ => rfl⟩
  go_upto_region 8 with fail
  refine wp_region_noPanic ?_
  refine wp_region_held_drew (S := (fun w' => Below w6.heap.size w6 w')) (by kernel_rfl) S0 (fun hHeld => ?_)
  refine tk 0 ?_
  refine tk 2 ?_
  refine wpAnyH_ready (rs := [1]) (by kernel_rfl) (by simp) ?_
  refine AllReadyH.cons rfl (fun K hK => ?_) AllReadyH.nil
  rw [if_pos (by rfl)]
  go_wp2_with fail
  refine (num5_any _ _).mono ?_
  rintro e V0 ⟨rfl, rfl⟩
  refine hK.out _ _ S0 (fun hHeld => ?_)
  clear hK K
  try simp only [Act.put, List.getElem_toArray, List.getElem_cons_succ, List.getElem_cons_zero, List.setIfInBounds_toArray, List.set_cons_zero, List.set_cons_succ]
  refine tk 3 ?_
  refine tk 4 ?_
  refine tk 5 ?_
  refine tk 7 ?_
  refine wpAnyH_ready (rs := [6]) (by kernel_rfl) (by simp) ?_
  refine AllReadyH.cons rfl (fun K hK => ?_) AllReadyH.nil
  rw [if_pos (by rfl)]
  go_wp2_with fail
  refine (num5_any _ _).mono ?_
  rintro e V0b ⟨rfl, rfl⟩
  refine hK.out _ _ S0 (fun hHeld => ?_)
  clear hK K
  try simp only [Act.put, List.getElem_toArray, List.getElem_cons_succ, List.getElem_cons_zero, List.setIfInBounds_toArray, List.set_cons_zero, List.set_cons_succ]
  refine tk 8 ?_
  refine tk 9 ?_
  refine tk 10 ?_
  refine tq 11 rfl (yieldsIf_load_mid (by rfl) 30 _ rfl q2 0 rfl (mgc m (.slice (some ⟨g, 0, none⟩) uk gc)) _ (fun _ h => (Q6.out.on h).range) Tryz.underlying30 rfl (by kernel_rfl)) ?_
  refine tq 13 rfl (yieldsIf_load_mid (by rfl) 30 _ rfl q3 0 rfl (mgc m (.slice (some ⟨h, 0, none⟩) uk hc)) _ (fun _ h => (P6.out.on h).range) Tryz.underlying30 rfl (by kernel_rfl)) ?_
  refine wpAnyH_ready (rs := [12]) (by kernel_rfl) (by simp) ?_
  refine AllReadyH.cons rfl (fun K hK => ?_) AllReadyH.nil
  rw [if_pos (by rfl)]
  go_wp2_with fail
  refine (whole5_any m g uk gc _ g1.out g2.out).mono ?_
  rintro e V1 ⟨rfl, hbV1⟩
  have P1 := S0.trans (hbV1.mono S0.size)
  clear hbV1
  refine hK.out _ _ P1 (fun hHeld => ?_)
  clear hK K
  try simp only [Act.put, List.getElem_toArray, List.getElem_cons_succ, List.getElem_cons_zero, List.setIfInBounds_toArray, List.set_cons_zero, List.set_cons_succ]
  refine wpAnyH_ready (rs := [14]) (by kernel_rfl) (by simp) ?_
  refine AllReadyH.cons rfl (fun K hK => ?_) AllReadyH.nil
  rw [if_pos (by rfl)]
  go_wp2_with fail
  refine (whole5_any m h uk hc _ h1.out h2.out).mono ?_
  rintro e V2 ⟨rfl, hbV2⟩
  have P2 := P1.trans (hbV2.mono P1.size)
  clear hbV2
  refine hK.out _ _ P2 (fun hHeld => ?_)
  clear hK K
  try simp only [Act.put, List.getElem_toArray, List.getElem_cons_succ, List.getElem_cons_zero, List.setIfInBounds_toArray, List.set_cons_zero, List.set_cons_succ]
  refine wpAnyH_ready (rs := [15]) (by kernel_rfl) (by simp) ?_
  refine AllReadyH.cons rfl (fun K hK => ?_) AllReadyH.nil
  rw [if_pos (by rfl)]
  go_wp2_with fail
  refine (sameI_any _ _ _ _ _ _ L3 L3 _ (SG6.out.below P2 (Nat.le_refl _)) (SH6.out.below P2 (Nat.le_refl _))).mono ?_
  rintro e V9 ⟨rfl, q9, hq9⟩
  rw [show sameB L3 L3 = true by simp [sameB]]
  have P9 : Below w6.heap.size w6 V9 := by rw [hq9]; exact P2.drewN' q9
  clear hq9
  refine hK.out _ _ P9 (fun hHeld => ?_)
  clear hK K
  try simp only [Act.put, List.getElem_toArray, List.getElem_cons_succ, List.getElem_cons_zero, List.setIfInBounds_toArray, List.set_cons_zero, List.set_cons_succ]
  refine tk 16 ?_
  refine tk 17 ?_
  refine wpAnyH_done (by kernel_rfl) ?_ _
  refine NoPanic.normal ?_
  go_wp2
  go_ret
  exact ⟨rfl, B6.out.trans (P9.mono B6.out.size)⟩

set_option maxRecDepth 100000 in
/-- For every argument and every world. -/
theorem contract (H : Type) (enc : TypeId × Value → H) (W : World) (base : Nat) (args : Array Value) (ds gs : List (DataW H)) (before : List MemPlace)
    (hval : ∀ (j : Nat) t v, Tryz.f3.params[j]? = some t → args[j]? = some v → Value.okWide Tryz.prog W .any base t v)
    (hW : DataW.Whole enc Tryz.prog Tryz.f3.params.toList Rows.msgChecksSpec.vars false W args.toList ds gs before)
    (hsz : (DataW.weightsEach Tryz.prog (Tryz.f3.params.toList ++ (OpenSpec.ofChange Rows.msgChecksSpec).bare.plain.varTypes Tryz.prog) (ds ++ gs)).all (· ≤ reachBytes) = true)
    (hL : laidMetH Tryz.prog Rows.msgChecksRow.laid W) :
    Calls Tryz.prog 3 args W fun e W' => ∃ v, e = .returned v ∧ Rows.msgChecksSpec.post enc Tryz.prog Tryz.f3 false true false false W args v W' := by
  have hW' := hW
  obtain ⟨p, q, hA0, hV, rfl, hfz, hnd⟩ := hW
  have hA : DataW.TrodAll enc Tryz.prog W 0 (fun _ => true) true Tryz.f3.params.toList args.toList ds p := hA0
  rw [Tryz.params3] at hA hval hsz
  obtain ⟨v0, vs0, d0, ds0, p0, q0, hargs, rfl, rfl, h0, tr0⟩ := trodAll_cons hA
  obtain ⟨v1, vs1, d1, ds1, p1, q1, rfl, rfl, rfl, h1, tr1⟩ := trodAll_cons tr0
  obtain ⟨v2, vs2, d2, ds2, p2, q2, rfl, rfl, rfl, h2, tr2⟩ := trodAll_cons tr1
  obtain ⟨rfl, rfl, rfl⟩ := trodAll_nil tr2
  obtain rfl : args = #[v0, v1, v2] := by cases args; simp_all
  obtain ⟨rfl, rfl⟩ := trodVars_none hV
  obtain ⟨y0, rfl, rfl, rfl, w0⟩ := open_int Tryz.underlying3 (hval 0 3 v0 rfl rfl) h0
  have b0 := bounds_i64 w0
  obtain ⟨y1, rfl, rfl, rfl, w1⟩ := open_int Tryz.underlying3 (hval 1 3 v1 rfl rfl) h1
  have b1 := bounds_i64 w1
  have k2 := h2
  have lt2 : ∀ x ∈ p2, x.block < W.heap.size := by obtain ⟨m, hm⟩ := k2; exact DataW.trod_lt m _ _ _ hm
  obtain ⟨m2, ua2, uk2, uc2, dI2, dB2, dV2, dd2, rfl, hd2, hseg2, hcap2, b2⟩ := mopen_msg (hval 2 30 v2 rfl rfl) h2
  have sz2 := msized hsz (j := 2) (m := m2) (dI := dI2) (dB := dB2) (dV := dV2) (dd := dd2) rfl (by rw [show d2 = _ from hd2]; rfl)
  have hE := errs_of_laid hL
  clear hA0
  obtain ⟨aa, haa⟩ := hE
  have dl2 := mdep_len hsz (j := 2) (m := m2) (dI := dI2) (dB := dB2) (dV := dV2) (dd := dd2) (uk := uk2) (uc := uc2) rfl (by rw [show d2 = _ from hd2]; rfl) (mdat_msg (enc := enc) (W := W) (p := p2) (m := m2) (ua := ua2) (dI := dI2) (dB := dB2) (dV := dV2) (by rw [← hd2]; exact k2))
  refine (walk y0 y1 m2 ua2 uk2 uc2 aa W (knd_of_laid hL) (kmd_of_laid hL) haa sz2.1 sz2.2 hseg2 hcap2 dl2).mono fun e W' ⟨he, bel⟩ => ?_
  subst he
  exact ⟨_, rfl, _, _, _, [], _, [], hW', trodAll_mk1 (shut_bool Tryz.underlying4 _), (trodAll_cons_mk (shut_int Tryz.underlying3 w0) (trodAll_cons_mk (shut_int Tryz.underlying3 w1) (trodAll_cons_mk (Below.trod claid (by kernel_rfl) (of_decide_eq_true (by kernel_rfl)) k2 bel lt2) trodAll_mk0))), rfl, bel.frame _, fun h => by cases h⟩

theorem reads (os : Os) {H : Type} (enc : TypeId × Value → H) : ∃ places, DataW.whole enc Tryz.prog ((World.doorLaid Tryz.prog 400 os).forCall (fun _ _ => 0) ⟨#[], #[.int .i64 0, .int .i64 0, .agg #[.int .i64 0, .int .i64 0, .int .i64 0, .int .i64 0, .int .i64 0, .int .i64 0, .int .i64 0, .int .i64 0, .bool false, .int .i64 0, .int .i64 0, .int .i64 0, .string ⟨#[]⟩, .string ⟨#[]⟩, .string ⟨#[]⟩, .string ⟨#[]⟩, .int .i64 0, .int .i64 0, .slice none 0 0]], []⟩).memory Tryz.f3.params.toList Rows.msgChecksSpec.vars false (#[Value.int .i64 0, .int .i64 0, .agg #[.int .i64 0, .int .i64 0, .int .i64 0, .int .i64 0, .int .i64 0, .int .i64 0, .int .i64 0, .int .i64 0, .bool false, .int .i64 0, .int .i64 0, .int .i64 0, .string ⟨#[]⟩, .string ⟨#[]⟩, .string ⟨#[]⟩, .string ⟨#[]⟩, .int .i64 0, .int .i64 0, .slice none 0 0]] : Array Value).toList 8 = some ([.lit (.int .i64 0), .lit (.int .i64 0), .agg [.lit (.int .i64 0), .agg [.lit (.int .i64 0), .lit (.int .i64 0)], .agg [.lit (.int .i64 0), .lit (.int .i64 0)], .agg [.lit (.int .i64 0), .lit (.int .i64 0)], .lit (.int .i64 0), .lit (.bool false), .agg [.lit (.int .i64 0), .lit (.int .i64 0), .lit (.int .i64 0), .lit (.string []), .lit (.string []), .lit (.string []), .lit (.string []), .lit (.int .i64 0)], .lit (.int .i64 0), .nil]], [], places) :=
  ⟨[], by kernel_rfl⟩

set_option maxRecDepth 100000 in
theorem lifted (os : Os) (started : os.Started) (H : Type) (enc : TypeId × Value → H) (F : Stop.Interp) :
    ReturnsInHanded {} Tryz.checked os 3 .any ((OpenSpec.ofChange Rows.msgChecksSpec).preRow enc Tryz.prog Tryz.f3 Rows.msgChecksRow.domain false Rows.msgChecksRow.laid) (((OpenSpec.ofChange Rows.msgChecksSpec).at F).post enc Tryz.prog Tryz.f3 false true false false) := by
  obtain ⟨places, hx⟩ := reads os enc
  refine returnsInHanded_of_row (C := Tryz.checked) (s := (OpenSpec.ofChange Rows.msgChecksSpec)) cown started (by kernel_rfl) Tryz.func3
    (witness_row_atRef (enc := enc) (C := Tryz.checked) false (World.doorLaid Tryz.prog 400 os) #[.int .i64 0, .int .i64 0, .agg #[.int .i64 0, .int .i64 0, .int .i64 0, .int .i64 0, .int .i64 0, .int .i64 0, .int .i64 0, .int .i64 0, .bool false, .int .i64 0, .int .i64 0, .int .i64 0, .string ⟨#[]⟩, .string ⟨#[]⟩, .string ⟨#[]⟩, .string ⟨#[]⟩, .int .i64 0, .int .i64 0, .slice none 0 0]] rfl (by kernel_rfl) (by kernel_rfl) (by kernel_rfl)
      (OpenSpec.preRow_of_cond 8 hx (by kernel_rfl) (fun k hk => by cases hk) (by kernel_rfl) (door_met os _))) ?_
  intro W base args ds gs before hval hW _ hcond hsz hL _ _
  exact contract H enc W base args ds gs before hval hW hsz hL

theorem said : Rows.MsgChecksSaid :=
  OpenClaim.holds_of_cond 3 Tryz.f3 rfl rfl rfl rfl rfl rfl rfl ⟨rfl, rfl, rfl, rfl, rfl⟩ rfl rfl rfl rfl rfl (by kernel_rfl) Tryz.func3 (by kernel_rfl)
    (of_decide_eq_true (by kernel_rfl)) (by unfold Func.isWrapper; first | (rw [if_pos (by decide +kernel)]; kernel_rfl) | (rw [if_neg (by decide +kernel)]; exact ⟨rfl, rfl⟩))
    (fun os started H enc _ F => by rw [OpenClaim.pre_eq_preRow]; exact lifted os started H enc F)

theorem plain (f : FuncId) (fn : Func) (hf : Tryz.pinned.checked.prog.funcNamed "moot/mootlaw5.MsgChecks" = some f) (hfn : Tryz.pinned.checked.prog.funcs[f]? = some fn) :
    true = Tryz.pinned.checked.prog.looks [] ∧ ∀ (j : Nat) t, fn.params[j]? = some t → Tryz.pinned.checked.prog.wantsStandIn t = false := by
  obtain rfl : f = 3 := Option.some.inj ((show Tryz.prog.funcNamed "moot/mootlaw5.MsgChecks" = some 3 by kernel_rfl).symm.trans hf) |>.symm
  obtain rfl : fn = Tryz.f3 := (Option.some.inj (Tryz.func3.symm.trans hfn)).symm
  refine ⟨by kernel_rfl, fun j t ht => ?_⟩
  rw [Tryz.params3] at ht
  have hm : t ∈ [3, 3, 30] := by simpa using Array.mem_of_getElem? ht
  have hall : ([3, 3, 30].all fun u => !Tryz.prog.wantsStandIn u) = true := by kernel_rfl
  exact (show Tryz.prog.wantsStandIn t = false by simpa using List.all_eq_true.1 hall t hm)

end msgChecks
theorem msgChecks_proved : Rows.MsgChecksCardSaid :=
  Claim7.holds_tied_plain_at .later [] _ _ _ _ msgChecks.said (fun _ h => by cases h) (by kernel_rfl) (fun _ h => by cases h) msgChecks_row_tie rfl ⟨rfl, rfl⟩ (by kernel_rfl) rfl msgChecks.plain (by kernel_rfl)
#print axioms msgChecks_proved
end Go.Proofs.YtdokagebfeejbaaGreatDoor
