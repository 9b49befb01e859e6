/- The contract of the statements' own known. -/
import Derived.Test.YtooejihnifphkaaGreatDoorMBack3
import Derived.Test.YtooejihnifphkaaGreatDoorSame
import Derived.Test.YtooejihnifphkaaGreatDoorVLit
namespace Go.Proofs.YtooejihnifphkaaGreatDoor
open Go.RowKit Go.Wire1

set_option maxHeartbeats 1000000 in
set_option maxRecDepth 100000 in
theorem num5_any (e : Int) (w : World) :
    Calls Tryz.prog 12 #[.int .i64 e] w fun e' w' => e' = .returned (.int .i64 e) ∧ w = w' := by
  go_enter Tryz.func12, Tryz.ntmps12
  go_wp2
  go_ret
  exact ⟨rfl, rfl⟩
def zeroL : List Value := [.int .i64 0, .int .i64 0, .int .i64 0, .int .i64 0, .int .i64 0, .int .i64 0, .int .i64 0, .int .i64 0, .bool false, .int .i64 0, .int .i64 0, .int .i64 0, .string ⟨#[]⟩, .string ⟨#[]⟩, .string ⟨#[]⟩, .string ⟨#[]⟩, .int .i64 0, .int .i64 0, .slice none 0 0]
/-- A message whose bytes the document tells. -/
def setM : Ms := ⟨4, 1, 5, 2, 0, 0, 0, 0, false, zeroC, 0, []⟩
def tenM : Ms := ⟨10, 0, 0, 0, 0, 0, 0, 0, false, zeroC, 0, []⟩
theorem set_chk : chkM 2 3 setM = 0 := by kernel_rfl
theorem ten_chk : chkM 2 3 tenM = 51 := by kernel_rfl
theorem set_bytes : msB 2 setM = [4, 41, 16] := by kernel_rfl
theorem set_dec : decM 2 3 [4, 41, 16] = (setM, 0) := by
  have := decM_back set_chk (by show _ ≤ (0 : Int); omega) (by show (0 : Int) ≤ _; omega)
  rwa [set_bytes] at this
theorem segI_nil (w : World) : SegI w none 0 [] := ⟨rfl, by unfold maxLen; omega, fun h => by omega, fun j => by simp⟩
theorem mbox_stored {w U W : World} {q : Nat} {cs vs : List Value} (h : Blk U q cs) (hl : vs.length = cs.length) (hb : Below w.heap.size w U) (hq : w.heap.size ≤ q) (e : W = U.setCells q 0 vs) : Blk W q vs ∧ Below w.heap.size w W := by
  subst e
  exact ⟨blk_cells h hl, below_cells hq _ _ _ hb⟩
theorem mown_src {w : World} {B : Nat} {v : Value} {l : List Int} (h : w.ownsRow B 5 1 v l.length (l.map (Value.int .u8))) : ∃ a cap, v = .slice a l.length cap ∧ Src a l.length cap ∧ Seg w a l.length l := by
  obtain ⟨a, cap, hv, h1, h2, h3⟩ := seg_own h
  subst hv
  refine ⟨a, cap, rfl, ?_, h3⟩
  rcases h.2 with ⟨e, h0⟩ | ⟨g, cp, cur, e, _⟩
  · injection e with e1 e2 e3
    exact .inl ⟨h0, e3⟩
  · injection e with e1 e2 e3
    exact .inr ⟨⟨g, 0, e1⟩, h1, h2⟩
set_option maxHeartbeats 4000000 in
set_option maxRecDepth 100000 in
theorem settled5_any (w : World) :
    Calls Tryz.prog 19 #[] w fun e w' => e = .returned (.agg (mgc setM (.slice none 0 0)).toArray) ∧ Below w.heap.size w w' := by
  obtain ⟨U, hU⟩ : ∃ U, U = w.alloc (.cells zeroL.toArray 30) := ⟨_, rfl⟩
  have BU : Hid (Below w.heap.size w U) := by rw [hU]; exact (Below.refl _ w).alloc (Nat.le_refl _) _
  have QM : Hid (Blk U w.heap.size zeroL) := by rw [hU]; exact blk_new w 30 zeroL
  have TH : Hid (U.there w.heap.size 0 19) := QM.out.there
  obtain ⟨X, hX⟩ : ∃ X, X = U.setCells w.heap.size 0 (mgc setM (.slice none 0 0)) := ⟨_, rfl⟩
  have R := hide (mbox_stored QM.out (by rfl) BU.out (Nat.le_refl _) hX)
  go_enter Tryz.func19, Tryz.ntmps19
  go_upto_region 1 with fail
  have eU : w.alloc (.cells #[.int .i64 0, .int .i64 0, .int .i64 0, .int .i64 0, .int .i64 0, .int .i64 0, .int .i64 0, .int .i64 0, .bool false, .int .i64 0, .int .i64 0, .int .i64 0, .string ⟨#[]⟩, .string ⟨#[]⟩, .string ⟨#[]⟩, .string ⟨#[]⟩, .int .i64 0, .int .i64 0, .slice none 0 0] 30) = U := hU.symm
  rw [eU]
  have HX := hide hX
  clear hU eU hX
  go_wp2_with (first | (refine wpList_store_mid rfl 30 _ _ rfl w.heap.size 0 (mgc setM (.slice none 0 0)).toArray rfl rfl TH.out (by kernel_rfl) (by kernel_rfl) ?_))
  rw [← HX.out]
  refine bodyPost_ret (results_cell_mid Tryz.results19 _ _ w.heap.size (mgc setM (.slice none 0 0)) _ rfl R.out.1.range Tryz.underlying30 rfl (by kernel_rfl)) rfl ⟨rfl, R.out.2⟩
set_option maxHeartbeats 8000000 in
set_option maxRecDepth 100000 in
theorem known5_any (a : Nat → Addr) (w : World) (hKc : Knd w) (hK : Kmd w) (he : Errs w a) :
    Calls Tryz.prog 9 #[] w fun e w' => e = .returned (.bool true) ∧ Below w.heap.size w w' := by
  have HK := hide hKc
  have HM := hide hK
  have HE := hide he
  clear hKc hK he
  go_enter Tryz.func9, Tryz.ntmps9
  go_wp2_with fail
  refine (settled5_any _).mono ?_
  rintro e w1 ⟨rfl, hb⟩
  have B1 : Hid (Below w.heap.size w w1) := hb
  have z1 : w.heap.size ≤ w1.heap.size := B1.out.size
  clear hb
  go_wp2_with fail
  refine (mencode_any 2 3 setM none 0 0 _ (HK.out.below B1.out (Nat.le_refl _)) (HM.out.below B1.out (Nat.le_refl _)) (by show (0 : Nat) ≤ _; omega) (by show (0 : Nat) ≤ _; omega) (by show _ ≤ (0 : Int); omega) (by show (0 : Int) ≤ _; omega) (segI_nil _)).mono ?_
  rintro e w2 ⟨u, rfl, ho, hb⟩
  rw [set_chk, if_pos rfl, set_bytes] at ho
  rw [set_chk]
  obtain ⟨sa, cap, rfl, hsrc, hseg⟩ := mown_src ho
  have B2 : Hid (Below w.heap.size w w2) := B1.out.trans (hb.mono (by omega))
  have z2 : w.heap.size ≤ w2.heap.size := B2.out.size
  have SEG := hide hseg
  clear hb ho hsrc hseg
  obtain ⟨Y, hY⟩ : ∃ Y, Hid (Y = w2.alloc (.cells #[.int .u8 4, .int .u8 41, .int .u8 16] 5)) := ⟨_, rfl⟩
  have BY : Hid (Below w2.heap.size w2 Y) := by rw [hY.out]; exact (Below.refl _ _).alloc (Nat.le_refl _) _
  have SY : Hid (Seg Y (some ⟨w2.heap.size, 0, none⟩) 3 [4, 41, 16]) := by rw [hY.out]; exact seg_lit [4, 41, 16] (by unfold maxLen; decide) rfl rfl rfl
  have SY1 : Hid (Seg Y sa 3 [4, 41, 16]) := SEG.out.below BY.out (Nat.le_refl _)
  go_wp2_with (first | (go_at_call 12; refine (num5_any _ _).mono ?_; rintro e w' ⟨rfl, rfl⟩))
  rw [← hY.out]
  refine (same_any sa _ 3 3 _ _ [4, 41, 16] [4, 41, 16] _ SY1.out SY.out).mono ?_
  rintro e w' ⟨rfl, q, rfl⟩
  rw [show sameB [4, 41, 16] [4, 41, 16] = true by decide]
  obtain ⟨w3, h3⟩ : ∃ w3, w3 = Y.drewN q := ⟨_, rfl⟩
  have B3 : Hid (Below w.heap.size w w3) := by
    have h := B2.out.trans (BY.out.mono (by omega))
    rw [h3]; exact ⟨h.1, h.2, h.3, h.4, h.5⟩
  rw [← h3]
  have z3 : w.heap.size ≤ w3.heap.size := B3.out.size
  clear h3 SY SY1 BY hY SEG
  obtain ⟨w4, hY⟩ : ∃ Y, Hid (Y = w3.alloc (.cells #[.int .u8 4, .int .u8 41, .int .u8 16] 5)) := ⟨_, rfl⟩
  have B4 : Hid (Below w.heap.size w w4) := by rw [hY.out]; exact B3.out.alloc (by omega) _
  have SY : Hid (Seg w4 (some ⟨w3.heap.size, 0, none⟩) 3 [4, 41, 16]) := by rw [hY.out]; exact seg_lit [4, 41, 16] (by unfold maxLen; decide) rfl rfl rfl
  have z4 : w.heap.size ≤ w4.heap.size := B4.out.size
  go_wp2_with fail
  rw [← hY.out]
  refine (mdecode_any 2 3 _ 3 3 [4, 41, 16] a _ SY.out (.inr ⟨⟨_, 0, rfl⟩, by omega, by unfold maxLen; decide⟩) (by intro z hz; simp at hz; omega) (HE.out.below B4.out (Nat.le_refl _)) (HK.out.below B4.out (Nat.le_refl _)) (HM.out.below B4.out (Nat.le_refl _))).mono ?_
  rintro e w5 ⟨u, rfl, D, hb⟩
  rw [set_dec] at D ⊢
  obtain ⟨ua, uk, uc, rfl, hI, -⟩ := D
  have S5 : Hid (SegI w5 ua uk setM.dl) := hI
  have B5 : Hid (Below w.heap.size w w5) := B4.out.trans (hb.mono (by omega))
  have z5 : w.heap.size ≤ w5.heap.size := B5.out.size
  clear hb hI hY SY
  obtain ⟨U, hU⟩ : ∃ U, U = w5.alloc (.cells zeroL.toArray 30) := ⟨_, rfl⟩
  have BU : Hid (Below w5.heap.size w5 U) := by rw [hU]; exact (Below.refl _ _).alloc (Nat.le_refl _) _
  have QU : Hid (Blk U w5.heap.size zeroL) := by rw [hU]; exact blk_new w5 30 zeroL
  have TH : Hid (U.there w5.heap.size 0 19) := QU.out.there
  obtain ⟨w6, hX⟩ : ∃ X, X = U.setCells w5.heap.size 0 (mgc setM (.slice ua uk uc)) := ⟨_, rfl⟩
  have RX := hide (mbox_stored (w := w5) QU.out (by rfl) BU.out (Nat.le_refl _) hX)
  have B6 : Hid (Below w.heap.size w w6) := B5.out.trans (RX.out.2.mono (by omega))
  have Q6 : Hid (Blk w6 w5.heap.size (mgc setM (.slice ua uk uc))) := RX.out.1
  have S6 : Hid (SegI w6 ua uk setM.dl) := S5.out.below RX.out.2 (Nat.le_refl _)
  have z6 : w.heap.size ≤ w6.heap.size := B6.out.size
  have HU := hide hU
  have HX := hide hX
  clear hU hX
  have eU : w5.alloc (.cells #[.int .i64 0, .int .i64 0, .int .i64 0, .int .i64 0, .int .i64 0, .int .i64 0, .int .i64 0, .int .i64 0, .bool false, .int .i64 0, .int .i64 0, .int .i64 0, .string ⟨#[]⟩, .string ⟨#[]⟩, .string ⟨#[]⟩, .string ⟨#[]⟩, .int .i64 0, .int .i64 0, .slice none 0 0] 30) = U := HU.out.symm
  go_upto_region 5 with (first | (refine wpList_store_mid rfl 30 _ _ rfl w5.heap.size 0 (mgc setM (.slice ua uk uc)).toArray rfl rfl (by first | exact TH.out | (rw [eU]; exact TH.out)) (by kernel_rfl) (by kernel_rfl) ?_; first | rw [← HX.out] | (rw [eU, ← HX.out])))
  clear eU HU HX TH QU BU RX
  go_wp2_with fail
  refine (settled5_any _).mono ?_
  rintro e w7 ⟨rfl, hb⟩
  have B7 : Hid (Below w.heap.size w w7) := B6.out.trans (hb.mono (by omega))
  have Q7 : Hid (Blk w7 w5.heap.size (mgc setM (.slice ua uk uc))) := Q6.out.on hb
  have S7 : Hid (SegI w7 ua uk setM.dl) := S6.out.below hb (Nat.le_refl _)
  have z7 : w.heap.size ≤ w7.heap.size := B7.out.size
  clear hb
  go_wp2_with fail
  refine (mcheck_any 2 3 setM none 0 0 _ (HK.out.below B7.out (Nat.le_refl _)) (HM.out.below B7.out (Nat.le_refl _)) (by show (0 : Nat) ≤ _; omega) (by show (0 : Nat) ≤ _; omega) (segI_nil _)).mono ?_
  rintro e w8 ⟨rfl, hb⟩
  rw [set_chk]
  have B8 : Hid (Below w.heap.size w w8) := B7.out.trans (hb.mono (by omega))
  have Q8 : Hid (Blk w8 w5.heap.size (mgc setM (.slice ua uk uc))) := Q7.out.on hb
  have S8 : Hid (SegI w8 ua uk setM.dl) := S7.out.below hb (Nat.le_refl _)
  have z8 : w.heap.size ≤ w8.heap.size := B8.out.size
  clear hb
  go_wp2_with fail
  refine (mcheck_any 2 3 tenM none 0 0 _ (HK.out.below B8.out (Nat.le_refl _)) (HM.out.below B8.out (Nat.le_refl _)) (by show (0 : Nat) ≤ _; omega) (by show (0 : Nat) ≤ _; omega) (segI_nil _)).mono ?_
  rintro e X ⟨rfl, hb⟩
  rw [ten_chk]
  have BX : Hid (Below w.heap.size w X) := B8.out.trans (hb.mono (by omega))
  have QX : Hid (Blk X w5.heap.size (mgc setM (.slice ua uk uc))) := Q8.out.on hb
  have SX : Hid (SegI X ua uk setM.dl) := S8.out.below hb (Nat.le_refl _)
  clear hb Q8 Q7 Q6 S8 S7 S6 S5 B1 B2 B3 B4 B5 B6 B7 B8
  go_upto_region 7 with fail
  have S0 := belX X
  refine wp_region_held_drew (S := (fun w' => Below X.heap.size X w')) (by kernel_rfl) S0 (fun hHeld => ?_)
  refine wpAnyH_take (i := 0) (v := ?_) rfl (by kernel_rfl) (by kernel_rfl) (by kernel_rfl) (fun _ _ _ h => h) (Or.inl ⟨by rfl, ?_⟩) (by assumption) ?_
  rotate_left
  · intro w hSw
    try dsimp only at hSw
    go_simp
    try with_reducible rfl
  try simp only [Act.put, List.getElem_toArray, List.getElem_cons_zero, List.setIfInBounds_toArray, List.set_cons_zero, List.set_cons_succ]
  refine wpAnyH_ready (rs := [1]) (by kernel_rfl) (by simp) ?_
  refine AllReadyH.cons rfl (fun K hK => ?_) AllReadyH.nil
  rw [if_pos (by rfl)]
  go_wp2_with fail
  refine (num5_any _ _).mono ?_
  rintro e V1 ⟨rfl, rfl⟩
  refine hK.out _ _ S0 (fun hHeld => ?_)
  clear hK K
  try simp only [Act.put, List.getElem_toArray, List.getElem_cons_succ, List.getElem_cons_zero, List.setIfInBounds_toArray, List.set_cons_zero, List.set_cons_succ]
  refine wpAnyH_take (i := 2) (v := ?_) rfl (by kernel_rfl) (by kernel_rfl) (by kernel_rfl) (fun _ _ _ h => h) (Or.inl ⟨by rfl, ?_⟩) (by assumption) ?_
  rotate_left
  · intro w hSw
    try dsimp only at hSw
    go_simp
    try with_reducible rfl
  try simp only [Act.put, List.getElem_toArray, List.getElem_cons_succ, List.getElem_cons_zero, List.setIfInBounds_toArray, List.set_cons_zero, List.set_cons_succ]
  refine wpAnyH_take (i := 3) (v := ?_) rfl (by kernel_rfl) (by kernel_rfl) (by kernel_rfl) (fun _ _ _ h => h) (Or.inl ⟨by rfl, ?_⟩) (by assumption) ?_
  rotate_left
  · intro w hSw
    try dsimp only at hSw
    go_simp
    try with_reducible rfl
  try simp only [Act.put, List.getElem_toArray, List.getElem_cons_succ, List.getElem_cons_zero, List.setIfInBounds_toArray, List.set_cons_zero, List.set_cons_succ]
  refine wpAnyH_take (i := 4) rfl (by kernel_rfl) (by kernel_rfl) (by kernel_rfl) (fun _ _ _ h => h) (yieldsIf_load_mid (by rfl) 30 _ rfl w5.heap.size 0 rfl (mgc setM (.slice ua uk uc)) _ (fun _ h => QX.out.sub h 0 (mgc setM (.slice ua uk uc)) rfl) Tryz.underlying30 rfl (by kernel_rfl)) (by assumption) ?_
  try simp only [Act.put, List.getElem_toArray, List.getElem_cons_succ, List.getElem_cons_zero, List.setIfInBounds_toArray, List.set_cons_zero, List.set_cons_succ]
  refine wpAnyH_ready (rs := [5]) (by kernel_rfl) (by simp) ?_
  refine AllReadyH.cons rfl (fun K hK => ?_) AllReadyH.nil
  rw [if_pos (by rfl)]
  go_wp2_with fail
  refine (settled5_any _).mono ?_
  rintro e V5 ⟨rfl, hb5⟩
  have P5 := S0.trans (hb5.mono S0.size)
  clear hb5
  refine hK.out _ _ P5 (fun hHeld => ?_)
  clear hK K
  try simp only [Act.put, List.getElem_toArray, List.getElem_cons_succ, List.getElem_cons_zero, List.setIfInBounds_toArray, List.set_cons_zero, List.set_cons_succ]
  refine wpAnyH_ready (rs := [6]) (by kernel_rfl) (by simp) ?_
  refine AllReadyH.cons rfl (fun K hK => ?_) AllReadyH.nil
  rw [if_pos (by rfl)]
  go_wp2_with fail
  refine (sameMsg_same setM ua none uk uc 0 0 _ (SX.out.below P5 (Nat.le_refl _)) (segI_nil _)).mono ?_
  rintro e V6 ⟨rfl, hb6⟩
  have P6 := P5.trans (hb6.mono P5.size)
  clear hb6
  refine hK.out _ _ P6 (fun hHeld => ?_)
  clear hK K
  try simp only [Act.put, List.getElem_toArray, List.getElem_cons_succ, List.getElem_cons_zero, List.setIfInBounds_toArray, List.set_cons_zero, List.set_cons_succ]
  refine wpAnyH_take (i := 7) (v := ?_) rfl (by kernel_rfl) (by kernel_rfl) (by kernel_rfl) (fun _ _ _ h => h) (Or.inl ⟨by rfl, ?_⟩) (by assumption) ?_
  rotate_left
  · intro w hSw
    try dsimp only at hSw
    go_simp
    try with_reducible rfl
  try simp only [Act.put, List.getElem_toArray, List.getElem_cons_succ, List.getElem_cons_zero, List.setIfInBounds_toArray, List.set_cons_zero, List.set_cons_succ]
  refine wpAnyH_take (i := 8) (v := ?_) rfl (by kernel_rfl) (by kernel_rfl) (by kernel_rfl) (fun _ _ _ h => h) (Or.inl ⟨by rfl, ?_⟩) (by assumption) ?_
  rotate_left
  · intro w hSw
    try dsimp only at hSw
    go_simp
    try with_reducible rfl
  try simp only [Act.put, List.getElem_toArray, List.getElem_cons_succ, List.getElem_cons_zero, List.setIfInBounds_toArray, List.set_cons_zero, List.set_cons_succ]
  refine wpAnyH_take (i := 9) (v := ?_) rfl (by kernel_rfl) (by kernel_rfl) (by kernel_rfl) (fun _ _ _ h => h) (Or.inl ⟨by rfl, ?_⟩) (by assumption) ?_
  rotate_left
  · intro w hSw
    try dsimp only at hSw
    go_simp
    try with_reducible rfl
  try simp only [Act.put, List.getElem_toArray, List.getElem_cons_succ, List.getElem_cons_zero, List.setIfInBounds_toArray, List.set_cons_zero, List.set_cons_succ]
  refine wpAnyH_ready (rs := [10]) (by kernel_rfl) (by simp) ?_
  refine AllReadyH.cons rfl (fun K hK => ?_) AllReadyH.nil
  rw [if_pos (by rfl)]
  go_wp2_with fail
  refine (num5_any _ _).mono ?_
  rintro e V10 ⟨rfl, rfl⟩
  refine hK.out _ _ P6 (fun hHeld => ?_)
  clear hK K
  try simp only [Act.put, List.getElem_toArray, List.getElem_cons_succ, List.getElem_cons_zero, List.setIfInBounds_toArray, List.set_cons_zero, List.set_cons_succ]
  refine wpAnyH_take (i := 11) (v := ?_) rfl (by kernel_rfl) (by kernel_rfl) (by kernel_rfl) (fun _ _ _ h => h) (Or.inl ⟨by rfl, ?_⟩) (by assumption) ?_
  rotate_left
  · intro w hSw
    try dsimp only at hSw
    go_simp
    try with_reducible rfl
  try simp only [Act.put, List.getElem_toArray, List.getElem_cons_succ, List.getElem_cons_zero, List.setIfInBounds_toArray, List.set_cons_zero, List.set_cons_succ]
  refine wpAnyH_take (i := 12) (v := ?_) rfl (by kernel_rfl) (by kernel_rfl) (by kernel_rfl) (fun _ _ _ h => h) (Or.inl ⟨by rfl, ?_⟩) (by assumption) ?_
  rotate_left
  · intro w hSw
    try dsimp only at hSw
    go_simp
    try with_reducible rfl
  try simp only [Act.put, List.getElem_toArray, List.getElem_cons_succ, List.getElem_cons_zero, List.setIfInBounds_toArray, List.set_cons_zero, List.set_cons_succ]
  refine wpAnyH_take (i := 13) (v := ?_) rfl (by kernel_rfl) (by kernel_rfl) (by kernel_rfl) (fun _ _ _ h => h) (Or.inl ⟨by rfl, ?_⟩) (by assumption) ?_
  rotate_left
  · intro w hSw
    try dsimp only at hSw
    go_simp
    try with_reducible rfl
  try simp only [Act.put, List.getElem_toArray, List.getElem_cons_succ, List.getElem_cons_zero, List.setIfInBounds_toArray, List.set_cons_zero, List.set_cons_succ]
  refine wpAnyH_take (i := 14) (v := ?_) rfl (by kernel_rfl) (by kernel_rfl) (by kernel_rfl) (fun _ _ _ h => h) (Or.inl ⟨by rfl, ?_⟩) (by assumption) ?_
  rotate_left
  · intro w hSw
    try dsimp only at hSw
    go_simp
    try with_reducible rfl
  try simp only [Act.put, List.getElem_toArray, List.getElem_cons_succ, List.getElem_cons_zero, List.setIfInBounds_toArray, List.set_cons_zero, List.set_cons_succ]
  refine wpAnyH_ready (rs := [15]) (by kernel_rfl) (by simp) ?_
  refine AllReadyH.cons rfl (fun K hK => ?_) AllReadyH.nil
  rw [if_pos (by rfl)]
  go_wp2_with fail
  refine (num5_any _ _).mono ?_
  rintro e V15 ⟨rfl, rfl⟩
  refine hK.out _ _ P6 (fun hHeld => ?_)
  clear hK K
  try simp only [Act.put, List.getElem_toArray, List.getElem_cons_succ, List.getElem_cons_zero, List.setIfInBounds_toArray, List.set_cons_zero, List.set_cons_succ]
  refine wpAnyH_take (i := 16) (v := ?_) rfl (by kernel_rfl) (by kernel_rfl) (by kernel_rfl) (fun _ _ _ h => h) (Or.inl ⟨by rfl, ?_⟩) (by assumption) ?_
  rotate_left
  · intro w hSw
    try dsimp only at hSw
    go_simp
    try with_reducible rfl
  try simp only [Act.put, List.getElem_toArray, List.getElem_cons_succ, List.getElem_cons_zero, List.setIfInBounds_toArray, List.set_cons_zero, List.set_cons_succ]
  refine wpAnyH_take (i := 17) (v := ?_) rfl (by kernel_rfl) (by kernel_rfl) (by kernel_rfl) (fun _ _ _ h => h) (Or.inl ⟨by rfl, ?_⟩) (by assumption) ?_
  rotate_left
  · intro w hSw
    try dsimp only at hSw
    go_simp
    try with_reducible rfl
  try simp only [Act.put, List.getElem_toArray, List.getElem_cons_succ, List.getElem_cons_zero, List.setIfInBounds_toArray, List.set_cons_zero, List.set_cons_succ]
  refine wpAnyH_take (i := 18) (v := ?_) rfl (by kernel_rfl) (by kernel_rfl) (by kernel_rfl) (fun _ _ _ h => h) (Or.inl ⟨by rfl, ?_⟩) (by assumption) ?_
  rotate_left
  · intro w hSw
    try dsimp only at hSw
    go_simp
    try with_reducible rfl
  try simp only [Act.put, List.getElem_toArray, List.getElem_cons_succ, List.getElem_cons_zero, List.setIfInBounds_toArray, List.set_cons_zero]
  refine wpAnyH_done (by kernel_rfl) ?_ _
  go_wp2
  go_ret
  exact ⟨rfl, (BX.out.trans (P6.mono BX.out.size))⟩
end Go.Proofs.YtooejihnifphkaaGreatDoor
