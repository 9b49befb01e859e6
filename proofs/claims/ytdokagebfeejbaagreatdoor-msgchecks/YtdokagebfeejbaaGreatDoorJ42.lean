/- Texts of the proof, joined. -/
import Derived.Test.YtdokagebfeejbaaGreatDoorJ01
import Derived.Test.YtdokagebfeejbaaGreatDoorJ36
import Derived.Test.YtdokagebfeejbaaGreatDoorJ41
import Derived.Test.YtdokagebfeejbaaGreatDoorJ20
import Derived.Test.YtdokagebfeejbaaGreatDoorJ04
import Derived.Test.YtdokagebfeejbaaGreatDoorRows
import Derived.Test.YtdokagebfeejbaaGreatDoorJ02
import Derived.Test.YtdokagebfeejbaaGreatDoorJ07
import Derived.Test.YtdokagebfeejbaaGreatDoorJ09
import Derived.ProofKit
import Derived.LaidMore
import Derived.OpenShut
import Derived.Stop.Joined
import Derived.Stop.LaidErr
import Derived.MakeChecks
/- The contract of the statements' own known. -/
namespace Go.Proofs.YtdokagebfeejbaaGreatDoor
open Go.RowKit Go.Wire1

set_option maxHeartbeats 1000000 in
set_option maxRecDepth 100000 in
theorem num5_any (e : Int) (w : World) :
    Calls Tryz.prog 9 #[.int .i64 e] w fun e' w' => e' = .returned (.int .i64 e) ∧ w = w' := by
  go_enter Tryz.func9, Tryz.ntmps9
  go_wp2
  go_ret
  exact ⟨rfl, rfl⟩
def zeroL : List Value := [.int .i64 0, .int .i64 0, .int .i64 0, .int .i64 0, .int .i64 0, .int .i64 0, .int .i64 0, .int .i64 0, .bool false, .int .i64 0, .int .i64 0, .int .i64 0, .string ⟨#[]⟩, .string ⟨#[]⟩, .string ⟨#[]⟩, .string ⟨#[]⟩, .int .i64 0, .int .i64 0, .slice none 0 0]
/-- A message whose bytes the document tells. -/
def setM : Ms := ⟨4, 1, 5, 2, 0, 0, 0, 0, false, zeroC, 0, []⟩
def tenM : Ms := ⟨10, 0, 0, 0, 0, 0, 0, 0, false, zeroC, 0, []⟩
theorem set_chk : chkM 2 3 setM = 0 := by kernel_rfl
theorem ten_chk : chkM 2 3 tenM = 51 := by kernel_rfl
theorem set_dec : decM 2 3 [4, 41, 16] = (setM, 0) := by kernel_rfl
theorem segI_nil (w : World) : SegI w none 0 [] := ⟨rfl, by unfold maxLen; omega, fun h => by omega, fun j => by simp⟩
theorem mbox_stored {w U W : World} {q : Nat} {cs vs : List Value} (h : Blk U q cs) (hl : vs.length = cs.length) (hb : Below w.heap.size w U) (hq : w.heap.size ≤ q) (e : W = U.setCells q 0 vs) : Blk W q vs ∧ Below w.heap.size w W := by
  subst e
  exact ⟨blk_cells h hl, below_cells hq _ _ _ hb⟩
theorem mown_src {w : World} {B : Nat} {v : Value} {l : List Int} (h : w.ownsRow B 5 1 v l.length (l.map (Value.int .u8))) : ∃ a cap, v = .slice a l.length cap ∧ Src a l.length cap ∧ Seg w a l.length l := by
  obtain ⟨a, cap, hv, h1, h2, h3⟩ := seg_own h
  subst hv
  refine ⟨a, cap, rfl, ?_, h3⟩
  rcases h.2 with ⟨e, h0⟩ | ⟨g, cp, cur, e, _⟩
  · injection e with e1 e2 e3
    exact .inl ⟨h0, e3⟩
  · injection e with e1 e2 e3
    exact .inr ⟨⟨g, 0, e1⟩, h1, h2⟩
set_option maxHeartbeats 4000000 in
set_option maxRecDepth 100000 in
theorem settled5_any (w : World) :
    Calls Tryz.prog 15 #[] w fun e w' => e = .returned (.agg (mgc setM (.slice none 0 0)).toArray) ∧ Below w.heap.size w w' := by
  obtain ⟨U, hU⟩ : ∃ U, U = w.alloc (.cells zeroL.toArray 30) := ⟨_, rfl⟩
  have BU : Hid (Below w.heap.size w U) := by rw [hU]; exact (Below.refl _ w).alloc (Nat.le_refl _) _
  have QM : Hid (Blk U w.heap.size zeroL) := by rw [hU]; exact blk_new w 30 zeroL
  have TH : Hid (U.there w.heap.size 0 19) := QM.out.there
  obtain ⟨X, hX⟩ : ∃ X, X = U.setCells w.heap.size 0 (mgc setM (.slice none 0 0)) := ⟨_, rfl⟩
  have R := hide (mbox_stored QM.out (by rfl) BU.out (Nat.le_refl _) hX)
  go_enter Tryz.func15, Tryz.ntmps15
  go_upto_region 1 with fail
  have eU : w.alloc (.cells #[.int .i64 0, .int .i64 0, .int .i64 0, .int .i64 0, .int .i64 0, .int .i64 0, .int .i64 0, .int .i64 0, .bool false, .int .i64 0, .int .i64 0, .int .i64 0, .string ⟨#[]⟩, .string ⟨#[]⟩, .string ⟨#[]⟩, .string ⟨#[]⟩, .int .i64 0, .int .i64 0, .slice none 0 0] 30) = U := hU.symm
  rw [eU]
  have HX := hide hX
  clear hU eU hX
  go_wp2_with (first | (refine wpList_store_mid rfl 30 _ _ rfl w.heap.size 0 (mgc setM (.slice none 0 0)).toArray rfl rfl TH.out (by kernel_rfl) (by kernel_rfl) ?_))
  rw [← HX.out]
  refine bodyPost_ret (results_cell_mid Tryz.results15 _ _ w.heap.size (mgc setM (.slice none 0 0)) _ rfl R.out.1.range Tryz.underlying30 rfl (by kernel_rfl)) rfl ⟨rfl, R.out.2⟩
theorem set_laid : ([staP 2 4 1 5, balP 2 2 0] : List (List Int)).flatten = [4, 41, 16] := by kernel_rfl
/-- Encode, at the one message that every statement asks first. -/
theorem menc_set (w : World) (hKc : Knd w) (hK : Kmd w) :
    Calls Tryz.prog 14 #[.int .i64 2, .int .i64 3, .agg (mgc setM (.slice none 0 0)).toArray] w fun r w' => ∃ u, r = .returned (.tuple #[u, .int .i64 0]) ∧ w'.ownsRow w.heap.size 5 1 u [4, 41, 16].length (([4, 41, 16] : List Int).map (Value.int .u8)) ∧ Below w.heap.size w w' := by
  have hCk : Hid (∀ W, Below w.heap.size w W → Calls Tryz.prog 7 #[.int .i64 2, .int .i64 3, .agg (mgc setM (.slice none 0 0)).toArray] W fun r w' => r = .returned (.int .i64 0) ∧ Below W.heap.size W w') := fun W hW => by
    have := mcheck_any 2 3 setM none 0 0 W (hKc.below hW (Nat.le_refl _)) (hK.below hW (Nat.le_refl _)) (by show (0 : Nat) ≤ _; omega) (by show (0 : Nat) ≤ _; omega) (segI_nil _)
    rwa [set_chk] at this
  have hSO := fun W => shapeOf_any setM none 0 0 W
  rw [← set_laid]
  exact menc_balloted 2 3 4 1 5 2 0 0 0 0 false zeroC 0 none 0 0 w _ _ _ hCk (fun W => hSO W) (fun W => layout2 2 (by decide) W) (fun W h => bytes_balloted lc2 4 1 5 2 0 W (by omega) (by omega) (by omega) (by omega) (by omega))

set_option maxHeartbeats 8000000 in
set_option maxRecDepth 100000 in
theorem known5_any (a : Nat → Addr) (w : World) (hKc : Knd w) (hK : Kmd w) (he : Errs w a) :
    Calls Tryz.prog 5 #[] w fun e w' => e = .returned (.bool true) ∧ Below w.heap.size w w' := by
  have HK := hide hKc
  have HM := hide hK
  have HE := hide he
  clear hKc hK he
  go_enter Tryz.func5, Tryz.ntmps5
  go_wp2_with fail
  refine (settled5_any _).mono ?_
  rintro e w1 ⟨rfl, hb⟩
  have B1 : Hid (Below w.heap.size w w1) := hb
  have z1 : w.heap.size ≤ w1.heap.size := B1.out.size
  clear hb
  go_wp2_with fail
  refine (menc_set _ (HK.out.below B1.out (Nat.le_refl _)) (HM.out.below B1.out (Nat.le_refl _))).mono ?_
  rintro e w2 ⟨u, rfl, ho, hb⟩
  obtain ⟨sa, cap, rfl, hsrc, hseg⟩ := mown_src ho
  have B2 : Hid (Below w.heap.size w w2) := B1.out.trans (hb.mono (by omega))
  have z2 : w.heap.size ≤ w2.heap.size := B2.out.size
  have SEG := hide hseg
  clear hb ho hsrc hseg
  obtain ⟨Y, hY⟩ : ∃ Y, Hid (Y = w2.alloc (.cells #[.int .u8 4, .int .u8 41, .int .u8 16] 5)) := ⟨_, rfl⟩
  have BY : Hid (Below w2.heap.size w2 Y) := by rw [hY.out]; exact (Below.refl _ _).alloc (Nat.le_refl _) _
  have SY : Hid (Seg Y (some ⟨w2.heap.size, 0, none⟩) 3 [4, 41, 16]) := by rw [hY.out]; exact seg_lit [4, 41, 16] (by unfold maxLen; decide) rfl rfl rfl
  have SY1 : Hid (Seg Y sa 3 [4, 41, 16]) := SEG.out.below BY.out (Nat.le_refl _)
  go_wp2_with (first | (go_at_call 9; refine (num5_any _ _).mono ?_; rintro e w' ⟨rfl, rfl⟩))
  rw [← hY.out]
  refine (same_any sa _ 3 3 _ _ [4, 41, 16] [4, 41, 16] _ SY1.out SY.out).mono ?_
  rintro e w' ⟨rfl, q, rfl⟩
  rw [show sameB [4, 41, 16] [4, 41, 16] = true by decide]
  obtain ⟨w3, h3⟩ : ∃ w3, w3 = Y.drewN q := ⟨_, rfl⟩
  have B3 : Hid (Below w.heap.size w w3) := by
    have h := B2.out.trans (BY.out.mono (by omega))
    rw [h3]; exact ⟨h.1, h.2, h.3, h.4, h.5⟩
  rw [← h3]
  have z3 : w.heap.size ≤ w3.heap.size := B3.out.size
  clear h3 SY SY1 BY hY SEG
  obtain ⟨w4, hY⟩ : ∃ Y, Hid (Y = w3.alloc (.cells #[.int .u8 4, .int .u8 41, .int .u8 16] 5)) := ⟨_, rfl⟩
  have B4 : Hid (Below w.heap.size w w4) := by rw [hY.out]; exact B3.out.alloc (by omega) _
  have SY : Hid (Seg w4 (some ⟨w3.heap.size, 0, none⟩) 3 [4, 41, 16]) := by rw [hY.out]; exact seg_lit [4, 41, 16] (by unfold maxLen; decide) rfl rfl rfl
  have z4 : w.heap.size ≤ w4.heap.size := B4.out.size
  go_wp2_with fail
  rw [← hY.out]
  refine (dec_set _ 3 a _ SY.out (.inr ⟨⟨_, 0, rfl⟩, by omega, by unfold maxLen; decide⟩) (by intro z hz; simp at hz; omega) (HE.out.below B4.out (Nat.le_refl _)) (HK.out.below B4.out (Nat.le_refl _)) (HM.out.below B4.out (Nat.le_refl _))).mono ?_
  rintro e w5 ⟨u, rfl, D, hb⟩
  rw [set_dec] at D ⊢
  obtain ⟨ua, uk, uc, rfl, hI, -⟩ := D
  have S5 : Hid (SegI w5 ua uk setM.dl) := hI
  have B5 : Hid (Below w.heap.size w w5) := B4.out.trans (hb.mono (by omega))
  have z5 : w.heap.size ≤ w5.heap.size := B5.out.size
  clear hb hI hY SY
  obtain ⟨U, hU⟩ : ∃ U, U = w5.alloc (.cells zeroL.toArray 30) := ⟨_, rfl⟩
  have BU : Hid (Below w5.heap.size w5 U) := by rw [hU]; exact (Below.refl _ _).alloc (Nat.le_refl _) _
  have QU : Hid (Blk U w5.heap.size zeroL) := by rw [hU]; exact blk_new w5 30 zeroL
  have TH : Hid (U.there w5.heap.size 0 19) := QU.out.there
  obtain ⟨w6, hX⟩ : ∃ X, X = U.setCells w5.heap.size 0 (mgc setM (.slice ua uk uc)) := ⟨_, rfl⟩
  have RX := hide (mbox_stored (w := w5) QU.out (by rfl) BU.out (Nat.le_refl _) hX)
  have B6 : Hid (Below w.heap.size w w6) := B5.out.trans (RX.out.2.mono (by omega))
  have Q6 : Hid (Blk w6 w5.heap.size (mgc setM (.slice ua uk uc))) := RX.out.1
  have S6 : Hid (SegI w6 ua uk setM.dl) := S5.out.below RX.out.2 (Nat.le_refl _)
  have z6 : w.heap.size ≤ w6.heap.size := B6.out.size
  have HU := hide hU
  have HX := hide hX
  clear hU hX
  have eU : w5.alloc (.cells #[.int .i64 0, .int .i64 0, .int .i64 0, .int .i64 0, .int .i64 0, .int .i64 0, .int .i64 0, .int .i64 0, .bool false, .int .i64 0, .int .i64 0, .int .i64 0, .string ⟨#[]⟩, .string ⟨#[]⟩, .string ⟨#[]⟩, .string ⟨#[]⟩, .int .i64 0, .int .i64 0, .slice none 0 0] 30) = U := HU.out.symm
  go_upto_region 5 with (first | (refine wpList_store_mid rfl 30 _ _ rfl w5.heap.size 0 (mgc setM (.slice ua uk uc)).toArray rfl rfl (by first | exact TH.out | (rw [eU]; exact TH.out)) (by kernel_rfl) (by kernel_rfl) ?_; first | rw [← HX.out] | (rw [eU, ← HX.out])))
  clear eU HU HX TH QU BU RX
  go_wp2_with fail
  refine (settled5_any _).mono ?_
  rintro e w7 ⟨rfl, hb⟩
  have B7 : Hid (Below w.heap.size w w7) := B6.out.trans (hb.mono (by omega))
  have Q7 : Hid (Blk w7 w5.heap.size (mgc setM (.slice ua uk uc))) := Q6.out.on hb
  have S7 : Hid (SegI w7 ua uk setM.dl) := S6.out.below hb (Nat.le_refl _)
  have z7 : w.heap.size ≤ w7.heap.size := B7.out.size
  clear hb
  go_wp2_with fail
  refine (mcheck_any 2 3 setM none 0 0 _ (HK.out.below B7.out (Nat.le_refl _)) (HM.out.below B7.out (Nat.le_refl _)) (by show (0 : Nat) ≤ _; omega) (by show (0 : Nat) ≤ _; omega) (segI_nil _)).mono ?_
  rintro e w8 ⟨rfl, hb⟩
  rw [set_chk]
  have B8 : Hid (Below w.heap.size w w8) := B7.out.trans (hb.mono (by omega))
  have Q8 : Hid (Blk w8 w5.heap.size (mgc setM (.slice ua uk uc))) := Q7.out.on hb
  have S8 : Hid (SegI w8 ua uk setM.dl) := S7.out.below hb (Nat.le_refl _)
  have z8 : w.heap.size ≤ w8.heap.size := B8.out.size
  clear hb
  go_wp2_with fail
  refine (mcheck_any 2 3 tenM none 0 0 _ (HK.out.below B8.out (Nat.le_refl _)) (HM.out.below B8.out (Nat.le_refl _)) (by show (0 : Nat) ≤ _; omega) (by show (0 : Nat) ≤ _; omega) (segI_nil _)).mono ?_
  rintro e X ⟨rfl, hb⟩
  rw [ten_chk]
  have BX : Hid (Below w.heap.size w X) := B8.out.trans (hb.mono (by omega))
  have QX : Hid (Blk X w5.heap.size (mgc setM (.slice ua uk uc))) := Q8.out.on hb
  have SX : Hid (SegI X ua uk setM.dl) := S8.out.below hb (Nat.le_refl _)
  clear hb Q8 Q7 Q6 S8 S7 S6 S5 B1 B2 B3 B4 B5 B6 B7 B8
  go_upto_region 7 with fail
  have S0 := belX X
  refine wp_region_held_drew (S := (fun w' => Below X.heap.size X w')) (by kernel_rfl) S0 (fun hHeld => ?_)
  refine tk 0 ?_
  refine wpAnyH_ready (rs := [1]) (by kernel_rfl) (by simp) ?_
  refine AllReadyH.cons rfl (fun K hK => ?_) AllReadyH.nil
  rw [if_pos (by rfl)]
  go_wp2_with fail
  refine (num5_any _ _).mono ?_
  rintro e V1 ⟨rfl, rfl⟩
  refine hK.out _ _ S0 (fun hHeld => ?_)
  clear hK K
  try simp only [Act.put, List.getElem_toArray, List.getElem_cons_succ, List.getElem_cons_zero, List.setIfInBounds_toArray, List.set_cons_zero, List.set_cons_succ]
  refine tk 2 ?_
  refine tk 3 ?_
  refine tq 4 rfl (yieldsIf_load_mid (by rfl) 30 _ rfl w5.heap.size 0 rfl (mgc setM (.slice ua uk uc)) _ (fun _ h => QX.out.sub h 0 (mgc setM (.slice ua uk uc)) rfl) Tryz.underlying30 rfl (by kernel_rfl)) ?_
  refine wpAnyH_ready (rs := [5]) (by kernel_rfl) (by simp) ?_
  refine AllReadyH.cons rfl (fun K hK => ?_) AllReadyH.nil
  rw [if_pos (by rfl)]
  go_wp2_with fail
  refine (settled5_any _).mono ?_
  rintro e V5 ⟨rfl, hb5⟩
  have P5 := S0.trans (hb5.mono S0.size)
  clear hb5
  refine hK.out _ _ P5 (fun hHeld => ?_)
  clear hK K
  try simp only [Act.put, List.getElem_toArray, List.getElem_cons_succ, List.getElem_cons_zero, List.setIfInBounds_toArray, List.set_cons_zero, List.set_cons_succ]
  refine wpAnyH_ready (rs := [6]) (by kernel_rfl) (by simp) ?_
  refine AllReadyH.cons rfl (fun K hK => ?_) AllReadyH.nil
  rw [if_pos (by rfl)]
  go_wp2_with fail
  refine (sameMsg_same setM ua none uk uc 0 0 _ (SX.out.below P5 (Nat.le_refl _)) (segI_nil _)).mono ?_
  rintro e V6 ⟨rfl, hb6⟩
  have P6 := P5.trans (hb6.mono P5.size)
  clear hb6
  refine hK.out _ _ P6 (fun hHeld => ?_)
  clear hK K
  try simp only [Act.put, List.getElem_toArray, List.getElem_cons_succ, List.getElem_cons_zero, List.setIfInBounds_toArray, List.set_cons_zero, List.set_cons_succ]
  refine tk 7 ?_
  refine tk 8 ?_
  refine tk 9 ?_
  refine wpAnyH_ready (rs := [10]) (by kernel_rfl) (by simp) ?_
  refine AllReadyH.cons rfl (fun K hK => ?_) AllReadyH.nil
  rw [if_pos (by rfl)]
  go_wp2_with fail
  refine (num5_any _ _).mono ?_
  rintro e V10 ⟨rfl, rfl⟩
  refine hK.out _ _ P6 (fun hHeld => ?_)
  clear hK K
  try simp only [Act.put, List.getElem_toArray, List.getElem_cons_succ, List.getElem_cons_zero, List.setIfInBounds_toArray, List.set_cons_zero, List.set_cons_succ]
  refine tk 11 ?_
  refine tk 12 ?_
  refine tk 13 ?_
  refine tk 14 ?_
  refine wpAnyH_ready (rs := [15]) (by kernel_rfl) (by simp) ?_
  refine AllReadyH.cons rfl (fun K hK => ?_) AllReadyH.nil
  rw [if_pos (by rfl)]
  go_wp2_with fail
  refine (num5_any _ _).mono ?_
  rintro e V15 ⟨rfl, rfl⟩
  refine hK.out _ _ P6 (fun hHeld => ?_)
  clear hK K
  try simp only [Act.put, List.getElem_toArray, List.getElem_cons_succ, List.getElem_cons_zero, List.setIfInBounds_toArray, List.set_cons_zero, List.set_cons_succ]
  refine tk 16 ?_
  refine tk 17 ?_
  refine tk 18 ?_
  refine wpAnyH_done (by kernel_rfl) ?_ _
  go_wp2
  go_ret
  exact ⟨rfl, (BX.out.trans (P6.mono BX.out.size))⟩
end Go.Proofs.YtdokagebfeejbaaGreatDoor
/- What the tied list of variables gives: the five sentinels of package wire lie at five different places, the two tables of kinds lie in memory; and a state that meets it. -/
namespace Go.Proofs.YtdokagebfeejbaaGreatDoor
open Go.ChangeShapes Go.WideShapes Go.ChangeAt Go.RowKit Go.Wire1

/-- The rows' list. -/
abbrev laid7 : List (String × DataW Unit) := [("moot/wire.errShort", Rows.laid_moot_wire_errShort), ("moot/wire.errWide", Rows.laid_moot_wire_errWide), ("moot/wire.errForm", Rows.laid_moot_wire_errForm), ("moot/wire.errBig", Rows.laid_moot_wire_errBig), ("moot/wire.errLength", Rows.laid_moot_wire_errLength), ("moot/command.kinds", Rows.laid_moot_command_kinds), ("moot/msg.kinds", Rows.laid_moot_msg_kinds)]

theorem qgS : Tryz.prog.globalNamed "moot/wire.errShort" = some 1 := by kernel_rfl
theorem qgW : Tryz.prog.globalNamed "moot/wire.errWide" = some 2 := by kernel_rfl
theorem qgF : Tryz.prog.globalNamed "moot/wire.errForm" = some 3 := by kernel_rfl
theorem qgB : Tryz.prog.globalNamed "moot/wire.errBig" = some 4 := by kernel_rfl
theorem qgL : Tryz.prog.globalNamed "moot/wire.errLength" = some 5 := by kernel_rfl
theorem qgT0 : (Tryz.prog.globals[1]?).map (·.type) = some 171 := by kernel_rfl
theorem qgT1 : (Tryz.prog.globals[2]?).map (·.type) = some 171 := by kernel_rfl
theorem qgT2 : (Tryz.prog.globals[3]?).map (·.type) = some 171 := by kernel_rfl
theorem qgT3 : (Tryz.prog.globals[4]?).map (·.type) = some 171 := by kernel_rfl
theorem qgT4 : (Tryz.prog.globals[5]?).map (·.type) = some 171 := by kernel_rfl
theorem qgH : Tryz.prog.globalNamed "moot/command.kinds" = some 6 := by kernel_rfl
theorem qgTH : (Tryz.prog.globals[6]?).map (·.type) = some 189 := by kernel_rfl
theorem qgM : Tryz.prog.globalNamed "moot/msg.kinds" = some 0 := by kernel_rfl
theorem qgTM : (Tryz.prog.globals[0]?).map (·.type) = some 86 := by kernel_rfl
theorem cellsM : Tryz.prog.cellsOf 85 = 2 := by kernel_rfl
theorem cellsR : Tryz.prog.cellsOf 188 = 2 := by kernel_rfl
theorem cellsI : Tryz.prog.cellsOf 3 = 1 := by kernel_rfl
theorem cellsE : Tryz.prog.cellsOf 249 = 1 := by kernel_rfl
theorem cellsS : Tryz.prog.cellsOf 9 = 1 := by kernel_rfl
theorem star : "*" ++ "errors.errorString" = "*errors.errorString" := by decide
theorem rowE (u : TypeId) (h : Tryz.prog.typeName? 3 u = some "*errors.errorString") : u = 205 :=
  typeName_ptr_named (nm := "errors.errorString") (by rw [star]; kernel_rfl) (by kernel_rfl) (by decide) u (by rw [star]; exact h)

theorem door_met (os : Os) (args : Array Value) : laidMetH Tryz.prog laid7 ((World.doorLaid Tryz.prog 400 os).forCall (fun _ _ => 0) ⟨#[], args, []⟩).memory :=
  laidMetH_of_parts3 (fuel := 8) (laidMet_of_run' 8 (by kernel_rfl) (by kernel_rfl)) (by kernel_rfl) (by kernel_rfl)

theorem laid_list : (Rows.laid_moot_command_kinds : DataW Unit) = .agg ((List.range 9).map fun i => .agg [.lit (.int .i64 (fieldsL.getD i 0 : Nat)), .lit (.int .i64 (fromL.getD i 0 : Nat))]) := rfl

set_option maxRecDepth 100000 in
theorem knd_of_laid {W : World} (h : laidMetH Tryz.prog laid7 W) : Knd W := by
  rw [MakeChecks.laidMetH_plain _ _ _ (by kernel_rfl)] at h
  obtain ⟨_, ⟨_, _, _, _, _, _, _, _, _, _, ⟨_, _, _, _, _, _, _, _, _, _, ⟨_, _, _, _, _, _, _, _, _, _, ⟨_, _, _, _, _, _, _, _, _, _, ⟨_, _, _, _, _, _, _, _, _, _, ⟨g0, t0, cs0, f0, p0, q0, hg0, ht0, hv0, hd0, _, _⟩, _⟩, _⟩, _⟩, _⟩, _⟩, _, _⟩ := h
  obtain rfl := Option.some.inj (qgH.symm.trans hg0)
  obtain rfl := Option.some.inj (qgTH.symm.trans ht0)
  rw [laid_list] at hd0
  obtain ⟨xs, m, _, hx, hlen, hn, hall⟩ := DataW.trod_array Tryz.underlying189 hd0
  simp only [Prod.mk.injEq, DataW.agg.injEq] at hx
  intro i hi
  rw [World.var?_cell hg0 hv0 (i * 2), World.var?_cell hg0 hv0 (i * 2 + 1)]
  have h1 := hall i hi
  have hxi : ∃ x, xs[i]? = some x := ⟨xs[i], List.getElem?_eq_getElem (by omega)⟩
  obtain ⟨x, hxi⟩ := hxi
  rw [hxi, cellsR] at h1
  obtain ⟨ys, n, _, hy, hl2, hyl, hf⟩ := DataW.trod_struct Tryz.underlying188 h1
  match ys, hyl with
  | [y0, y1], _ =>
    have t0 : DataW.trod (fun _ => ()) Tryz.prog W 0 (fun _ => true) false n 3 ((((cs0.toList.drop (i * 2)).take 2).drop 0).take (Tryz.prog.cellsOf 3)) = some y0 := hf 0 _ rfl
    have t1 : DataW.trod (fun _ => ()) Tryz.prog W 0 (fun _ => true) false n 3 ((((cs0.toList.drop (i * 2)).take 2).drop 1).take (Tryz.prog.cellsOf 3)) = some y1 := hf 1 _ rfl
    rw [cellsI] at t0 t1
    obtain ⟨n0, c0, z0, _⟩ := DataW.trod_int Tryz.underlying3 t0
    obtain ⟨n1, c1, z1, _⟩ := DataW.trod_int Tryz.underlying3 t1
    have h2 : (xs.map (·.1))[i]? = some (.agg [.lit (.int .i64 n0), .lit (.int .i64 n1)]) := by rw [List.getElem?_map, hxi, hy, z0, z1]; rfl
    rw [← hx.1, List.getElem?_map, List.getElem?_eq_getElem (by simpa using hi)] at h2
    simp only [List.getElem_range, Option.map_some, Option.some.injEq, DataW.agg.injEq, List.cons.injEq, DataW.lit.injEq, Lit.int.injEq, true_and, and_true] at h2
    have d0 : cs0[i * 2]? = some (.int .i64 n0) := by
      have h4 : ((((cs0.toList.drop (i * 2)).take 2).drop 0).take 1)[0]? = some (.int .i64 n0) := by rw [c0]; rfl
      simpa [List.getElem?_take] using h4
    have d1 : cs0[i * 2 + 1]? = some (.int .i64 n1) := by
      have h4 : ((((cs0.toList.drop (i * 2)).take 2).drop 1).take 1)[0]? = some (.int .i64 n1) := by rw [c1]; rfl
      simpa [List.getElem?_take] using h4
    rw [d0, d1, h2.1, h2.2]
    exact ⟨rfl, rfl⟩

theorem laid_mkinds : (Rows.laid_moot_msg_kinds : DataW Unit) = .agg ((List.range 10).map fun i => .agg [.lit (.int .i64 (fromM.getD i 0 : Nat)), .lit (.int .i64 (rndM.getD i 0 : Nat))]) := rfl
set_option maxRecDepth 100000 in
theorem kmd_of_laid {W : World} (h : laidMetH Tryz.prog laid7 W) : Kmd W := by
  rw [MakeChecks.laidMetH_plain _ _ _ (by kernel_rfl)] at h
  obtain ⟨_, ⟨_, _, _, _, _, _, _, _, _, _, ⟨_, _, _, _, _, _, _, _, _, _, ⟨_, _, _, _, _, _, _, _, _, _, ⟨_, _, _, _, _, _, _, _, _, _, ⟨_, _, _, _, _, _, _, _, _, _, ⟨_, _, _, _, _, _, _, _, _, _, ⟨g0, t0, cs0, f0, p0, q0, hg0, ht0, hv0, hd0, _, _⟩, _⟩, _⟩, _⟩, _⟩, _⟩, _⟩, _, _⟩ := h
  obtain rfl := Option.some.inj (qgM.symm.trans hg0)
  obtain rfl := Option.some.inj (qgTM.symm.trans ht0)
  rw [laid_mkinds] at hd0
  obtain ⟨xs, m, _, hx, hlen, hn, hall⟩ := DataW.trod_array Tryz.underlying86 hd0
  simp only [Prod.mk.injEq, DataW.agg.injEq] at hx
  intro i hi
  rw [World.var?_cell hg0 hv0 (i * 2), World.var?_cell hg0 hv0 (i * 2 + 1)]
  have h1 := hall i hi
  have hxi : ∃ x, xs[i]? = some x := ⟨xs[i], List.getElem?_eq_getElem (by omega)⟩
  obtain ⟨x, hxi⟩ := hxi
  rw [hxi, cellsM] at h1
  obtain ⟨ys, n, _, hy, hl2, hyl, hf⟩ := DataW.trod_struct Tryz.underlying85 h1
  match ys, hyl with
  | [y0, y1], _ =>
    have t0 : DataW.trod (fun _ => ()) Tryz.prog W 0 (fun _ => true) false n 3 ((((cs0.toList.drop (i * 2)).take 2).drop 0).take (Tryz.prog.cellsOf 3)) = some y0 := hf 0 _ rfl
    have t1 : DataW.trod (fun _ => ()) Tryz.prog W 0 (fun _ => true) false n 3 ((((cs0.toList.drop (i * 2)).take 2).drop 1).take (Tryz.prog.cellsOf 3)) = some y1 := hf 1 _ rfl
    rw [cellsI] at t0 t1
    obtain ⟨n0, c0, z0, _⟩ := DataW.trod_int Tryz.underlying3 t0
    obtain ⟨n1, c1, z1, _⟩ := DataW.trod_int Tryz.underlying3 t1
    have h2 : (xs.map (·.1))[i]? = some (.agg [.lit (.int .i64 n0), .lit (.int .i64 n1)]) := by rw [List.getElem?_map, hxi, hy, z0, z1]; rfl
    rw [← hx.1, List.getElem?_map, List.getElem?_eq_getElem (by simpa using hi)] at h2
    simp only [List.getElem_range, Option.map_some, Option.some.injEq, DataW.agg.injEq, List.cons.injEq, DataW.lit.injEq, Lit.int.injEq, true_and, and_true] at h2
    have d0 : cs0[i * 2]? = some (.int .i64 n0) := by
      have h4 : ((((cs0.toList.drop (i * 2)).take 2).drop 0).take 1)[0]? = some (.int .i64 n0) := by rw [c0]; rfl
      simpa [List.getElem?_take] using h4
    have d1 : cs0[i * 2 + 1]? = some (.int .i64 n1) := by
      have h4 : ((((cs0.toList.drop (i * 2)).take 2).drop 1).take 1)[0]? = some (.int .i64 n1) := by rw [c1]; rfl
      simpa [List.getElem?_take] using h4
    rw [d0, d1, h2.1, h2.2]
    exact ⟨rfl, rfl⟩

set_option maxRecDepth 100000 in
theorem errs_of_laid {W : World} (h : laidMetH Tryz.prog laid7 W) : ∃ a, Errs W a := by
  have hkn := knd_of_laid h
  rw [MakeChecks.laidMetH_plain _ _ _ (by kernel_rfl)] at h
  obtain ⟨ps, ⟨g0, t0, cs0, f0, p0, q0, hg0, ht0, hv0, hd0, ⟨g1, t1, cs1, f1, p1, q1, hg1, ht1, hv1, hd1, ⟨g2, t2, cs2, f2, p2, q2, hg2, ht2, hv2, hd2, ⟨g3, t3, cs3, f3, p3, q3, hg3, ht3, hv3, hd3, ⟨g4, t4, cs4, f4, p4, q4, hg4, ht4, hv4, hd4, ⟨g5, t5, cs5, f5, p5, q5, hg5, ht5, hv5, hd5, ⟨g6, t6, cs6, f6, p6, q6, hg6, ht6, hv6, hd6, _, e6⟩, e5⟩, e4⟩, e3⟩, e2⟩, e1⟩, e0⟩, hnd, hrows⟩ := h
  obtain rfl := Option.some.inj (qgS.symm.trans hg0)
  obtain rfl := Option.some.inj (qgW.symm.trans hg1)
  obtain rfl := Option.some.inj (qgF.symm.trans hg2)
  obtain rfl := Option.some.inj (qgB.symm.trans hg3)
  obtain rfl := Option.some.inj (qgL.symm.trans hg4)
  obtain rfl := Option.some.inj (qgT0.symm.trans ht0)
  obtain rfl := Option.some.inj (qgT1.symm.trans ht1)
  obtain rfl := Option.some.inj (qgT2.symm.trans ht2)
  obtain rfl := Option.some.inj (qgT3.symm.trans ht3)
  obtain rfl := Option.some.inj (qgT4.symm.trans ht4)
  subst e6 e5 e4 e3 e2 e1 e0
  obtain ⟨l0⟩ := cs0
  obtain ⟨l1⟩ := cs1
  obtain ⟨l2⟩ := cs2
  obtain ⟨l3⟩ := cs3
  obtain ⟨l4⟩ := cs4
  have ok0 : ∀ u v, l0 = [.iface u v] → Value.okWide Tryz.prog W .any 0 u v := fun u v e => by
    subst e; exact (hrows 1 0 (by simp [MemPlace.row])).2 u v (by simpa using World.var?_cell hg0 hv0 0)
  have ok1 : ∀ u v, l1 = [.iface u v] → Value.okWide Tryz.prog W .any 0 u v := fun u v e => by
    subst e; exact (hrows 2 0 (by simp [MemPlace.row])).2 u v (by simpa using World.var?_cell hg1 hv1 0)
  have ok2 : ∀ u v, l2 = [.iface u v] → Value.okWide Tryz.prog W .any 0 u v := fun u v e => by
    subst e; exact (hrows 3 0 (by simp [MemPlace.row])).2 u v (by simpa using World.var?_cell hg2 hv2 0)
  have ok3 : ∀ u v, l3 = [.iface u v] → Value.okWide Tryz.prog W .any 0 u v := fun u v e => by
    subst e; exact (hrows 4 0 (by simp [MemPlace.row])).2 u v (by simpa using World.var?_cell hg3 hv3 0)
  have ok4 : ∀ u v, l4 = [.iface u v] → Value.okWide Tryz.prog W .any 0 u v := fun u v e => by
    subst e; exact (hrows 5 0 (by simp [MemPlace.row])).2 u v (by simpa using World.var?_cell hg4 hv4 0)
  obtain ⟨a0, s0, rfl, hc0, _, _, rfl⟩ := errorString_of_trod Tryz.underlying171 rowE Tryz.underlying205 Tryz.underlying249 rfl rfl Tryz.underlying9 cellsE cellsS hd0 ok0
  obtain ⟨a1, s1, rfl, hc1, _, _, rfl⟩ := errorString_of_trod Tryz.underlying171 rowE Tryz.underlying205 Tryz.underlying249 rfl rfl Tryz.underlying9 cellsE cellsS hd1 ok1
  obtain ⟨a2, s2, rfl, hc2, _, _, rfl⟩ := errorString_of_trod Tryz.underlying171 rowE Tryz.underlying205 Tryz.underlying249 rfl rfl Tryz.underlying9 cellsE cellsS hd2 ok2
  obtain ⟨a3, s3, rfl, hc3, _, _, rfl⟩ := errorString_of_trod Tryz.underlying171 rowE Tryz.underlying205 Tryz.underlying249 rfl rfl Tryz.underlying9 cellsE cellsS hd3 ok3
  obtain ⟨a4, s4, rfl, hc4, _, _, rfl⟩ := errorString_of_trod Tryz.underlying171 rowE Tryz.underlying205 Tryz.underlying249 rfl rfl Tryz.underlying9 cellsE cellsS hd4 ok4
  let a : Nat → Addr := fun i => if i = 0 then a0 else if i = 1 then a1 else if i = 2 then a2 else if i = 3 then a3 else a4
  refine ⟨a, ⟨by simpa [a] using World.var?_cell hg0 hv0 0, by simpa [a] using World.var?_cell hg1 hv1 0, by simpa [a] using World.var?_cell hg2 hv2 0, by simpa [a] using World.var?_cell hg3 hv3 0, by simpa [a] using World.var?_cell hg4 hv4 0, ?_, ?_, ?_⟩⟩
  · intro i hi
    rcases (by omega : i = 0 ∨ i = 1 ∨ i = 2 ∨ i = 3 ∨ i = 4) with rfl | rfl | rfl | rfl | rfl
    · exact (hrows a0.block a0.off (by simp [MemPlace.row])).1
    · exact (hrows a1.block a1.off (by simp [MemPlace.row])).1
    · exact (hrows a2.block a2.off (by simp [MemPlace.row])).1
    · exact (hrows a3.block a3.off (by simp [MemPlace.row])).1
    · exact (hrows a4.block a4.off (by simp [MemPlace.row])).1
  · intro i j hi hj hij
    have key : a0 ≠ a1 ∧ a0 ≠ a2 ∧ a0 ≠ a3 ∧ a0 ≠ a4 ∧ a1 ≠ a2 ∧ a1 ≠ a3 ∧ a1 ≠ a4 ∧ a2 ≠ a3 ∧ a2 ≠ a4 ∧ a3 ≠ a4 := by
      refine ⟨?_, ?_, ?_, ?_, ?_, ?_, ?_, ?_, ?_, ?_⟩ <;> (intro e; rw [e] at hnd; simp [MemPlace.row] at hnd)
    obtain ⟨k1, k2, k3, k4, k5, k6, k7, k8, k9, k10⟩ := key
    rcases (by omega : i = 0 ∨ i = 1 ∨ i = 2 ∨ i = 3 ∨ i = 4) with rfl | rfl | rfl | rfl | rfl <;>
    rcases (by omega : j = 0 ∨ j = 1 ∨ j = 2 ∨ j = 3 ∨ j = 4) with rfl | rfl | rfl | rfl | rfl <;>
    first
      | exact absurd rfl hij
      | exact k1 | exact k2 | exact k3 | exact k4 | exact k5 | exact k6 | exact k7 | exact k8 | exact k9 | exact k10
      | exact k1.symm | exact k2.symm | exact k3.symm | exact k4.symm | exact k5.symm | exact k6.symm | exact k7.symm | exact k8.symm | exact k9.symm | exact k10.symm
  · have e0 := cell_lt (show W.cell? ⟨1, 0, none⟩ = some _ from by simpa using World.var?_cell hg0 hv0 0)
    have e1 := cell_lt (show W.cell? ⟨2, 0, none⟩ = some _ from by simpa using World.var?_cell hg1 hv1 0)
    have e2 := cell_lt (show W.cell? ⟨3, 0, none⟩ = some _ from by simpa using World.var?_cell hg2 hv2 0)
    have e3 := cell_lt (show W.cell? ⟨4, 0, none⟩ = some _ from by simpa using World.var?_cell hg3 hv3 0)
    have e4 := cell_lt (show W.cell? ⟨5, 0, none⟩ = some _ from by simpa using World.var?_cell hg4 hv4 0)
    have e5 := hkn.lt
    omega
end Go.Proofs.YtdokagebfeejbaaGreatDoor
