/- DiskCrowd's walk at a number below 1. -/
import Derived.Test.YtbgahocmabiaeaaDkCrwC
namespace Go.Proofs.Ytbgahocmabiaeaa
open Go.RowKit Go.Wire1 Go.MuLone

set_option maxHeartbeats 8000000 in
set_option maxRecDepth 100000 in
theorem crowd_a (nz : Int) (ia : Option Addr) (inn ic : Nat) (img : List Int) (ma : Option Addr) (mn mc0 : Nat) (mk : List Int) (w : World) (hI : Seg w ia inn img) (hIY : Byt img) (hIN : ia = none → inn = 0) (h100 : inn ≤ 100) (hM : SegI w ma mn mk) (hn1 : nz < 1) :
    Calls Try.prog 3 #[.int .i64 nz, .slice ia inn ic, .slice ma mn mc0] w fun e w' => e = .returned (.bool true) ∧ Below w.heap.size w w' := by
  obtain ⟨i0, hi0, hz0, hz1, hz2⟩ := info_parts Try.info5
  obtain ⟨j0, hj0, hj1, hj2, hj3⟩ := info_parts crd_info
  have HI := hide hI
  have HIY := hide hIY
  have HIN := hide hIN
  have HMK := hide hM
  have HML := hide hM.1
  have q100 : ¬ ((100 : Int) < (inn : Int)) := by omega
  clear hI hIY hIN hM
  go_enter Try.func3, Try.ntmps3
  go_wp2
  go_loopw [7, 8] (fun sv iv wr => ∃ (i : Nat) (D : List Dk) (vv : Value), vv = sv ∧ iv = .int .i64 (i : Int) ∧ i ≤ 40 ∧ Hid (D.length = i) ∧ Hid (Crd wr w.heap.size vv D) ∧ Hid (CrdS img mk D) ∧ Hid (Below w.heap.size w wr)) (fun _ iv _ => 40 - (intOf iv).toNat)
  case atStart => exact ⟨0, [], _, rfl, rfl, Nat.zero_le _, rfl, ⟨World.ownsRow_nil _ _ _ _, (fun e he => by cases he), fun e he => by cases he⟩, (fun j hj => absurd hj (Nat.not_lt_zero _)), Below.refl _ _⟩
  case round =>
    obtain ⟨i, D, vv, rfl, rfl, hi, HDL, HC, HS, HB⟩ := hrel
    by_cases hlt : i < 40
    · by_cases h3 : i % 3 = 0
      · by_cases hmn : i < mn
        · by_cases hmk : 0 < mk.getD i 0
          · obtain ⟨mb, mo, rfl, hmc⟩ := HMK.out.2.2.1 (by omega)
            have c1 : (i : Int) < (mn : Int) := by omega
            obtain ⟨mv, hmv⟩ : ∃ mv, mv = mk.getD i 0 := ⟨_, rfl⟩
            rw [← hmv] at hmk
            have c2 : (0 : Int) < mv := hmk
            have HBI : Hid (crdB img mk i = img) := crdB_yes (by rw [← hmv]; exact ⟨by have := HML.out; omega, hmk⟩)
            have HMV := hide hmv
            clear hmv
            have h3' : Int.tmod (i : Int) 3 = 0 := by rw [mod_three, h3]; rfl
            have hw8 : IntKind.u8.wrap ((i : Int) + 1) = (i : Int) + 1 := by simp only [IntKind.wrap_u8]; omega
            go_wp2_with fail
            refine (new_any _ wr.heap.size (Nat.le_refl _)).mono ?_
            rintro e w1 ⟨rfl, d1, hb1, hz1⟩
            have mc : w1.cell? ⟨mb, mo + i, none⟩ = some (.int .i64 mv) := by
              have h1 := hmc i (by omega)
              rw [HMV.out]
              rw [(HB.out.trans (hb1.mono HB.out.size)).cell (p := ⟨mb, mo + i, none⟩) (cell_lt h1)]; exact h1
            have SI := hide (HI.out.below (HB.out.trans (hb1.mono HB.out.size)) (Nat.le_refl _))
            have B1 := hide hb1
            clear d1 hb1 hz1
            go_wp2_with fail
            refine (image_yes ia inn ic 0 img _ wr.heap.size B1.out.size SI.out HIY.out HIN.out (by omega) (Nat.zero_le _)).mono ?_
            rintro e w2 ⟨bx, px, rfl, hbx, hb2, d2, hpx⟩
            have DX := hide d2
            have BX := hide (B1.out.trans (hb2.mono B1.out.size))
            have HBL : Hid (img.length = inn) := HI.out.1
            obtain ⟨WW, hWW⟩ : ∃ WW, WW = w2 := ⟨_, rfl⟩
            rw [← hWW] at DX BX ⊢
            clear d2 hb2 hpx hbx B1 SI mc hWW
            go_wp2_with fail
            refine (num9_any 0 _).mono ?_
            rintro e w3 ⟨rfl, rfl⟩
            have hA : Below WW.heap.size WW (WW.alloc (.cells #[.int .u8 ((i : Int) + 1), .int .u8 7, .int .u8 ((i : Int) + 1)] 5)) := (Below.refl _ _).alloc (Nat.le_refl _) _
            have DA := hide (DX.out.later hA)
            have SA := hide (seg_three' WW ((i : Int) + 1) 7 ((i : Int) + 1))
            have BA := hide (BX.out.trans (hA.mono BX.out.size))
            have hbw : Hid (0 < 3 → WW.heap.size ≠ bx) := fun _ => by have := DX.out.box.lt; omega
            clear hA
            go_wp2_with fail
            refine (append_some _ bx px (img) 0 _ ⟨WW.heap.size, 0, none⟩ 3 3 [(i : Int) + 1, 7, (i : Int) + 1] DA.out SA.out (byt_three (by omega)) hbw.out (by rw [HBL.out]; omega)).mono ?_
            rintro e w4 ⟨rfl, p4, k4⟩
            have D4 := hide k4.dsk
            have B4 := hide (BA.out.trans (k4.below DA.out))
            have hp4 : Hid (∀ j, p4.ownBlock = some j → wr.heap.size ≤ j) := fun j hj => (k4.dsk.own.lt j hj).1
            clear k4 DA SA BA
            have HLL : Hid (img ++ [(i : Int) + 1, 7, (i : Int) + 1] = crdL img mk i) := by show _ = _; unfold crdL; rw [HBI.out]
            rw [HLL.out] at D4
            go_wp2_with fail
            refine (num9_any 0 _).mono ?_
            rintro e w5 ⟨rfl, rfl⟩
            go_wp2_with fail
            refine (sync_any _ bx p4 (crdL img mk i) 0 _ D4.out).mono ?_
            rintro e w6 ⟨rfl, k6⟩
            have D6 := hide k6.dsk
            have B6 := hide (B4.out.trans (k6.below D4.out))
            have HMM : Hid ((crdL img mk i).length = crdM img mk i) := (crdM_yes h3).symm
            rw [HMM.out] at D6
            clear k6 D4 B4
            have C6 := hide (HC.out.later B6.out)
            have A6 : Below w6.heap.size w6 (w6.alloc (.cells #[.pointer (some ⟨bx, 0, none⟩)] 25)) := (Below.refl _ _).alloc (Nat.le_refl _) _
            have C7 := hide (C6.out.later A6)
            have D7 := hide (D6.out.later A6)
            have B7 := hide (B6.out.trans (A6.mono B6.out.size))
            have O7 := hide C7.out.row
            obtain ⟨PT, hPT⟩ : ∃ PT, PT = ptrs D := ⟨_, rfl⟩
            rw [← hPT, HDL.out] at O7
            have HPT := hide hPT
            clear hPT A6 C6
            go_wp2_with (first | (at_builtin; refine wpList_append_own_at _ rfl _ _ 24 rfl w.heap.size 25 j0 (.pointer none) 1 8 Try.underlying24 hj0 hj1 hj2 hj3 rfl (by decide) _ _ _ rfl O7.out ⟨w6.heap.size, 0, none⟩ 1 1 [.pointer (some ⟨bx, 0, none⟩)] rfl rfl ?c1_13 ?c2_13 ?c3_13 ?c4_13 ?c5_13 ?_))
            case c1_13 =>
              intro j u hj
              match j, hj with
              | 0, hj => simp at hj; subst hj; simp [Addr.add]
            case c2_13 => intro u hu; simp at hu; subst hu; rfl
            case c3_13 => unfold maxLen; omega
            case c4_13 => omega
            case c5_13 => have := B6.out.size; have := HB.out.size; simp only [sz_alloc]; omega
            intro v' w8 hown' hgrow _ hat8
            have vlow : Hid (∀ j, vv.ownBlock = some j → j < wr.heap.size) := fun j hj => (HC.out.row.lt j hj).2
            have C8 : Hid (Crd w8 w.heap.size v' (D ++ [⟨bx, p4, crdL img mk i, crdM img mk i⟩])) := C7.out.push (e := ⟨bx, p4, crdL img mk i, crdM img mk i⟩) D7.out (fun e => by have := vlow.out bx e; have := D6.out.low; omega) (fun k hk e => by have := vlow.out k e; have := hp4.out k hk; omega) (by rw [HDL.out, ← HPT.out]; exact hown') hgrow (by simpa only [sz_alloc] using hat8)
            have S8 := hide (HS.out.push (e := ⟨bx, p4, crdL img mk i, crdM img mk i⟩) (by rw [HDL.out]) (by rw [HDL.out]))
            have B8 : Hid (Below w.heap.size w w8) := (HB.out.trans (B7.out.mono HB.out.size)).grown hgrow (by have := (HB.out.trans (B7.out.mono HB.out.size)).size; exact this) (fun k hk => (O7.out.lt k hk).1)
            have L8 : Hid ((D ++ [(⟨bx, p4, crdL img mk i, crdM img mk i⟩ : Dk)]).length = i + 1) := by show _ = _; rw [List.length_append, HDL.out]; rfl
            clear hown' hgrow hat8 C7 D7 B7 O7
            go_wp2
            go_roundw
            case rel => exact ⟨i + 1, _, _, rfl, by go_num, by omega, L8, C8, S8, B8⟩
            case measure => simp [intOf]; omega
          · obtain ⟨mb, mo, rfl, hmc⟩ := HMK.out.2.2.1 (by omega)
            have c1 : (i : Int) < (mn : Int) := by omega
            obtain ⟨mv, hmv⟩ : ∃ mv, mv = mk.getD i 0 := ⟨_, rfl⟩
            rw [← hmv] at hmk
            have c2 : ¬ ((0 : Int) < mv) := hmk
            have HBI : Hid (crdB img mk i = []) := crdB_no (by rw [← hmv]; exact fun h => hmk h.2)
            have HMV := hide hmv
            clear hmv
            have h3' : Int.tmod (i : Int) 3 = 0 := by rw [mod_three, h3]; rfl
            have hw8 : IntKind.u8.wrap ((i : Int) + 1) = (i : Int) + 1 := by simp only [IntKind.wrap_u8]; omega
            go_wp2_with fail
            refine (new_any _ wr.heap.size (Nat.le_refl _)).mono ?_
            rintro e w1 ⟨rfl, d1, hb1, hz1⟩
            have DX := hide d1
            have BX := hide hb1
            have mc : w1.cell? ⟨mb, mo + i, none⟩ = some (.int .i64 mv) := by
              have h1 := hmc i (by omega)
              rw [HMV.out]
              rw [(HB.out.trans (hb1.mono HB.out.size)).cell (p := ⟨mb, mo + i, none⟩) (cell_lt h1)]; exact h1
            obtain ⟨bx, hbx⟩ : ∃ bx, bx = wr.heap.size := ⟨_, rfl⟩
            obtain ⟨px, hpx⟩ : ∃ px, px = Value.slice none 0 0 := ⟨_, rfl⟩
            rw [← hpx] at DX
            have DX : Hid (Dsk 0 w1 bx px [] 0 wr.heap.size) := by rw [hbx]; exact DX
            have HBL : Hid (([] : List Int).length = 0) := rfl
            rw [← hbx]
            obtain ⟨WW, hWW⟩ : ∃ WW, WW = w1 := ⟨_, rfl⟩
            rw [← hWW] at DX BX mc ⊢
            clear d1 hb1 hz1 hbx hpx hWW
            have hA : Below WW.heap.size WW (WW.alloc (.cells #[.int .u8 ((i : Int) + 1), .int .u8 7, .int .u8 ((i : Int) + 1)] 5)) := (Below.refl _ _).alloc (Nat.le_refl _) _
            have DA := hide (DX.out.later hA)
            have SA := hide (seg_three' WW ((i : Int) + 1) 7 ((i : Int) + 1))
            have BA := hide (BX.out.trans (hA.mono BX.out.size))
            have hbw : Hid (0 < 3 → WW.heap.size ≠ bx) := fun _ => by have := DX.out.box.lt; omega
            clear hA
            go_wp2_with fail
            refine (append_some _ bx px ([]) 0 _ ⟨WW.heap.size, 0, none⟩ 3 3 [(i : Int) + 1, 7, (i : Int) + 1] DA.out SA.out (byt_three (by omega)) hbw.out (by rw [HBL.out]; omega)).mono ?_
            rintro e w4 ⟨rfl, p4, k4⟩
            have D4 := hide k4.dsk
            have B4 := hide (BA.out.trans (k4.below DA.out))
            have hp4 : Hid (∀ j, p4.ownBlock = some j → wr.heap.size ≤ j) := fun j hj => (k4.dsk.own.lt j hj).1
            clear k4 DA SA BA
            have HLL : Hid ([] ++ [(i : Int) + 1, 7, (i : Int) + 1] = crdL img mk i) := by show _ = _; unfold crdL; rw [HBI.out]
            rw [HLL.out] at D4
            go_wp2_with fail
            refine (num9_any 0 _).mono ?_
            rintro e w5 ⟨rfl, rfl⟩
            go_wp2_with fail
            refine (sync_any _ bx p4 (crdL img mk i) 0 _ D4.out).mono ?_
            rintro e w6 ⟨rfl, k6⟩
            have D6 := hide k6.dsk
            have B6 := hide (B4.out.trans (k6.below D4.out))
            have HMM : Hid ((crdL img mk i).length = crdM img mk i) := (crdM_yes h3).symm
            rw [HMM.out] at D6
            clear k6 D4 B4
            have C6 := hide (HC.out.later B6.out)
            have A6 : Below w6.heap.size w6 (w6.alloc (.cells #[.pointer (some ⟨bx, 0, none⟩)] 25)) := (Below.refl _ _).alloc (Nat.le_refl _) _
            have C7 := hide (C6.out.later A6)
            have D7 := hide (D6.out.later A6)
            have B7 := hide (B6.out.trans (A6.mono B6.out.size))
            have O7 := hide C7.out.row
            obtain ⟨PT, hPT⟩ : ∃ PT, PT = ptrs D := ⟨_, rfl⟩
            rw [← hPT, HDL.out] at O7
            have HPT := hide hPT
            clear hPT A6 C6
            go_wp2_with (first | (at_builtin; refine wpList_append_own_at _ rfl _ _ 24 rfl w.heap.size 25 j0 (.pointer none) 1 8 Try.underlying24 hj0 hj1 hj2 hj3 rfl (by decide) _ _ _ rfl O7.out ⟨w6.heap.size, 0, none⟩ 1 1 [.pointer (some ⟨bx, 0, none⟩)] rfl rfl ?c1_14 ?c2_14 ?c3_14 ?c4_14 ?c5_14 ?_))
            case c1_14 =>
              intro j u hj
              match j, hj with
              | 0, hj => simp at hj; subst hj; simp [Addr.add]
            case c2_14 => intro u hu; simp at hu; subst hu; rfl
            case c3_14 => unfold maxLen; omega
            case c4_14 => omega
            case c5_14 => have := B6.out.size; have := HB.out.size; simp only [sz_alloc]; omega
            intro v' w8 hown' hgrow _ hat8
            have vlow : Hid (∀ j, vv.ownBlock = some j → j < wr.heap.size) := fun j hj => (HC.out.row.lt j hj).2
            have C8 : Hid (Crd w8 w.heap.size v' (D ++ [⟨bx, p4, crdL img mk i, crdM img mk i⟩])) := C7.out.push (e := ⟨bx, p4, crdL img mk i, crdM img mk i⟩) D7.out (fun e => by have := vlow.out bx e; have := D6.out.low; omega) (fun k hk e => by have := vlow.out k e; have := hp4.out k hk; omega) (by rw [HDL.out, ← HPT.out]; exact hown') hgrow (by simpa only [sz_alloc] using hat8)
            have S8 := hide (HS.out.push (e := ⟨bx, p4, crdL img mk i, crdM img mk i⟩) (by rw [HDL.out]) (by rw [HDL.out]))
            have B8 : Hid (Below w.heap.size w w8) := (HB.out.trans (B7.out.mono HB.out.size)).grown hgrow (by have := (HB.out.trans (B7.out.mono HB.out.size)).size; exact this) (fun k hk => (O7.out.lt k hk).1)
            have L8 : Hid ((D ++ [(⟨bx, p4, crdL img mk i, crdM img mk i⟩ : Dk)]).length = i + 1) := by show _ = _; rw [List.length_append, HDL.out]; rfl
            clear hown' hgrow hat8 C7 D7 B7 O7
            go_wp2
            go_roundw
            case rel => exact ⟨i + 1, _, _, rfl, by go_num, by omega, L8, C8, S8, B8⟩
            case measure => simp [intOf]; omega
        · have c1 : ¬ ((i : Int) < (mn : Int)) := by omega
          have HBI : Hid (crdB img mk i = []) := crdB_no (by have := HML.out; omega)
          have h3' : Int.tmod (i : Int) 3 = 0 := by rw [mod_three, h3]; rfl
          have hw8 : IntKind.u8.wrap ((i : Int) + 1) = (i : Int) + 1 := by simp only [IntKind.wrap_u8]; omega
          go_wp2_with fail
          refine (new_any _ wr.heap.size (Nat.le_refl _)).mono ?_
          rintro e w1 ⟨rfl, d1, hb1, hz1⟩
          have DX := hide d1
          have BX := hide hb1
          obtain ⟨bx, hbx⟩ : ∃ bx, bx = wr.heap.size := ⟨_, rfl⟩
          obtain ⟨px, hpx⟩ : ∃ px, px = Value.slice none 0 0 := ⟨_, rfl⟩
          rw [← hpx] at DX
          have DX : Hid (Dsk 0 w1 bx px [] 0 wr.heap.size) := by rw [hbx]; exact DX
          have HBL : Hid (([] : List Int).length = 0) := rfl
          rw [← hbx]
          obtain ⟨WW, hWW⟩ : ∃ WW, WW = w1 := ⟨_, rfl⟩
          rw [← hWW] at DX BX ⊢
          clear d1 hb1 hz1 hbx hpx hWW
          have hA : Below WW.heap.size WW (WW.alloc (.cells #[.int .u8 ((i : Int) + 1), .int .u8 7, .int .u8 ((i : Int) + 1)] 5)) := (Below.refl _ _).alloc (Nat.le_refl _) _
          have DA := hide (DX.out.later hA)
          have SA := hide (seg_three' WW ((i : Int) + 1) 7 ((i : Int) + 1))
          have BA := hide (BX.out.trans (hA.mono BX.out.size))
          have hbw : Hid (0 < 3 → WW.heap.size ≠ bx) := fun _ => by have := DX.out.box.lt; omega
          clear hA
          go_wp2_with fail
          refine (append_some _ bx px ([]) 0 _ ⟨WW.heap.size, 0, none⟩ 3 3 [(i : Int) + 1, 7, (i : Int) + 1] DA.out SA.out (byt_three (by omega)) hbw.out (by rw [HBL.out]; omega)).mono ?_
          rintro e w4 ⟨rfl, p4, k4⟩
          have D4 := hide k4.dsk
          have B4 := hide (BA.out.trans (k4.below DA.out))
          have hp4 : Hid (∀ j, p4.ownBlock = some j → wr.heap.size ≤ j) := fun j hj => (k4.dsk.own.lt j hj).1
          clear k4 DA SA BA
          have HLL : Hid ([] ++ [(i : Int) + 1, 7, (i : Int) + 1] = crdL img mk i) := by show _ = _; unfold crdL; rw [HBI.out]
          rw [HLL.out] at D4
          go_wp2_with fail
          refine (num9_any 0 _).mono ?_
          rintro e w5 ⟨rfl, rfl⟩
          go_wp2_with fail
          refine (sync_any _ bx p4 (crdL img mk i) 0 _ D4.out).mono ?_
          rintro e w6 ⟨rfl, k6⟩
          have D6 := hide k6.dsk
          have B6 := hide (B4.out.trans (k6.below D4.out))
          have HMM : Hid ((crdL img mk i).length = crdM img mk i) := (crdM_yes h3).symm
          rw [HMM.out] at D6
          clear k6 D4 B4
          have C6 := hide (HC.out.later B6.out)
          have A6 : Below w6.heap.size w6 (w6.alloc (.cells #[.pointer (some ⟨bx, 0, none⟩)] 25)) := (Below.refl _ _).alloc (Nat.le_refl _) _
          have C7 := hide (C6.out.later A6)
          have D7 := hide (D6.out.later A6)
          have B7 := hide (B6.out.trans (A6.mono B6.out.size))
          have O7 := hide C7.out.row
          obtain ⟨PT, hPT⟩ : ∃ PT, PT = ptrs D := ⟨_, rfl⟩
          rw [← hPT, HDL.out] at O7
          have HPT := hide hPT
          clear hPT A6 C6
          go_wp2_with (first | (at_builtin; refine wpList_append_own_at _ rfl _ _ 24 rfl w.heap.size 25 j0 (.pointer none) 1 8 Try.underlying24 hj0 hj1 hj2 hj3 rfl (by decide) _ _ _ rfl O7.out ⟨w6.heap.size, 0, none⟩ 1 1 [.pointer (some ⟨bx, 0, none⟩)] rfl rfl ?c1_15 ?c2_15 ?c3_15 ?c4_15 ?c5_15 ?_))
          case c1_15 =>
            intro j u hj
            match j, hj with
            | 0, hj => simp at hj; subst hj; simp [Addr.add]
          case c2_15 => intro u hu; simp at hu; subst hu; rfl
          case c3_15 => unfold maxLen; omega
          case c4_15 => omega
          case c5_15 => have := B6.out.size; have := HB.out.size; simp only [sz_alloc]; omega
          intro v' w8 hown' hgrow _ hat8
          have vlow : Hid (∀ j, vv.ownBlock = some j → j < wr.heap.size) := fun j hj => (HC.out.row.lt j hj).2
          have C8 : Hid (Crd w8 w.heap.size v' (D ++ [⟨bx, p4, crdL img mk i, crdM img mk i⟩])) := C7.out.push (e := ⟨bx, p4, crdL img mk i, crdM img mk i⟩) D7.out (fun e => by have := vlow.out bx e; have := D6.out.low; omega) (fun k hk e => by have := vlow.out k e; have := hp4.out k hk; omega) (by rw [HDL.out, ← HPT.out]; exact hown') hgrow (by simpa only [sz_alloc] using hat8)
          have S8 := hide (HS.out.push (e := ⟨bx, p4, crdL img mk i, crdM img mk i⟩) (by rw [HDL.out]) (by rw [HDL.out]))
          have B8 : Hid (Below w.heap.size w w8) := (HB.out.trans (B7.out.mono HB.out.size)).grown hgrow (by have := (HB.out.trans (B7.out.mono HB.out.size)).size; exact this) (fun k hk => (O7.out.lt k hk).1)
          have L8 : Hid ((D ++ [(⟨bx, p4, crdL img mk i, crdM img mk i⟩ : Dk)]).length = i + 1) := by show _ = _; rw [List.length_append, HDL.out]; rfl
          clear hown' hgrow hat8 C7 D7 B7 O7
          go_wp2
          go_roundw
          case rel => exact ⟨i + 1, _, _, rfl, by go_num, by omega, L8, C8, S8, B8⟩
          case measure => simp [intOf]; omega
      · by_cases hmn : i < mn
        · by_cases hmk : 0 < mk.getD i 0
          · obtain ⟨mb, mo, rfl, hmc⟩ := HMK.out.2.2.1 (by omega)
            have c1 : (i : Int) < (mn : Int) := by omega
            obtain ⟨mv, hmv⟩ : ∃ mv, mv = mk.getD i 0 := ⟨_, rfl⟩
            rw [← hmv] at hmk
            have c2 : (0 : Int) < mv := hmk
            have HBI : Hid (crdB img mk i = img) := crdB_yes (by rw [← hmv]; exact ⟨by have := HML.out; omega, hmk⟩)
            have HMV := hide hmv
            clear hmv
            have h3' : ¬ (Int.tmod (i : Int) 3 = 0) := by rw [mod_three]; omega
            have h3'' : (Int.tmod (i : Int) 3 == 0) = false := by simpa using h3'
            have hw8 : IntKind.u8.wrap ((i : Int) + 1) = (i : Int) + 1 := by simp only [IntKind.wrap_u8]; omega
            go_wp2_with fail
            refine (new_any _ wr.heap.size (Nat.le_refl _)).mono ?_
            rintro e w1 ⟨rfl, d1, hb1, hz1⟩
            have mc : w1.cell? ⟨mb, mo + i, none⟩ = some (.int .i64 mv) := by
              have h1 := hmc i (by omega)
              rw [HMV.out]
              rw [(HB.out.trans (hb1.mono HB.out.size)).cell (p := ⟨mb, mo + i, none⟩) (cell_lt h1)]; exact h1
            have SI := hide (HI.out.below (HB.out.trans (hb1.mono HB.out.size)) (Nat.le_refl _))
            have B1 := hide hb1
            clear d1 hb1 hz1
            go_wp2_with fail
            refine (image_yes ia inn ic 0 img _ wr.heap.size B1.out.size SI.out HIY.out HIN.out (by omega) (Nat.zero_le _)).mono ?_
            rintro e w2 ⟨bx, px, rfl, hbx, hb2, d2, hpx⟩
            have DX := hide d2
            have BX := hide (B1.out.trans (hb2.mono B1.out.size))
            have HBL : Hid (img.length = inn) := HI.out.1
            obtain ⟨WW, hWW⟩ : ∃ WW, WW = w2 := ⟨_, rfl⟩
            rw [← hWW] at DX BX ⊢
            clear d2 hb2 hpx hbx B1 SI mc hWW
            go_wp2_with fail
            refine (num9_any 0 _).mono ?_
            rintro e w3 ⟨rfl, rfl⟩
            have hA : Below WW.heap.size WW (WW.alloc (.cells #[.int .u8 ((i : Int) + 1), .int .u8 7, .int .u8 ((i : Int) + 1)] 5)) := (Below.refl _ _).alloc (Nat.le_refl _) _
            have DA := hide (DX.out.later hA)
            have SA := hide (seg_three' WW ((i : Int) + 1) 7 ((i : Int) + 1))
            have BA := hide (BX.out.trans (hA.mono BX.out.size))
            have hbw : Hid (0 < 3 → WW.heap.size ≠ bx) := fun _ => by have := DX.out.box.lt; omega
            clear hA
            go_wp2_with fail
            refine (append_some _ bx px (img) 0 _ ⟨WW.heap.size, 0, none⟩ 3 3 [(i : Int) + 1, 7, (i : Int) + 1] DA.out SA.out (byt_three (by omega)) hbw.out (by rw [HBL.out]; omega)).mono ?_
            rintro e w4 ⟨rfl, p4, k4⟩
            have D4 := hide k4.dsk
            have B4 := hide (BA.out.trans (k4.below DA.out))
            have hp4 : Hid (∀ j, p4.ownBlock = some j → wr.heap.size ≤ j) := fun j hj => (k4.dsk.own.lt j hj).1
            clear k4 DA SA BA
            have HLL : Hid (img ++ [(i : Int) + 1, 7, (i : Int) + 1] = crdL img mk i) := by show _ = _; unfold crdL; rw [HBI.out]
            rw [HLL.out] at D4
            go_wp2_with fail
            refine (num9_any 0 _).mono ?_
            rintro e w5 ⟨rfl, rfl⟩
            have D6 := D4
            have B6 := B4
            have HMM : Hid (0 = crdM img mk i) := (crdM_no h3).symm
            rw [HMM.out] at D6
            clear D4 B4
            obtain ⟨w6, hw6⟩ : ∃ w6, w6 = w4 := ⟨_, rfl⟩
            rw [← hw6] at D6 B6 ⊢
            clear hw6
            have C6 := hide (HC.out.later B6.out)
            have A6 : Below w6.heap.size w6 (w6.alloc (.cells #[.pointer (some ⟨bx, 0, none⟩)] 25)) := (Below.refl _ _).alloc (Nat.le_refl _) _
            have C7 := hide (C6.out.later A6)
            have D7 := hide (D6.out.later A6)
            have B7 := hide (B6.out.trans (A6.mono B6.out.size))
            have O7 := hide C7.out.row
            obtain ⟨PT, hPT⟩ : ∃ PT, PT = ptrs D := ⟨_, rfl⟩
            rw [← hPT, HDL.out] at O7
            have HPT := hide hPT
            clear hPT A6 C6
            go_wp2_with (first | (at_builtin; refine wpList_append_own_at _ rfl _ _ 24 rfl w.heap.size 25 j0 (.pointer none) 1 8 Try.underlying24 hj0 hj1 hj2 hj3 rfl (by decide) _ _ _ rfl O7.out ⟨w6.heap.size, 0, none⟩ 1 1 [.pointer (some ⟨bx, 0, none⟩)] rfl rfl ?c1_16 ?c2_16 ?c3_16 ?c4_16 ?c5_16 ?_))
            case c1_16 =>
              intro j u hj
              match j, hj with
              | 0, hj => simp at hj; subst hj; simp [Addr.add]
            case c2_16 => intro u hu; simp at hu; subst hu; rfl
            case c3_16 => unfold maxLen; omega
            case c4_16 => omega
            case c5_16 => have := B6.out.size; have := HB.out.size; simp only [sz_alloc]; omega
            intro v' w8 hown' hgrow _ hat8
            have vlow : Hid (∀ j, vv.ownBlock = some j → j < wr.heap.size) := fun j hj => (HC.out.row.lt j hj).2
            have C8 : Hid (Crd w8 w.heap.size v' (D ++ [⟨bx, p4, crdL img mk i, crdM img mk i⟩])) := C7.out.push (e := ⟨bx, p4, crdL img mk i, crdM img mk i⟩) D7.out (fun e => by have := vlow.out bx e; have := D6.out.low; omega) (fun k hk e => by have := vlow.out k e; have := hp4.out k hk; omega) (by rw [HDL.out, ← HPT.out]; exact hown') hgrow (by simpa only [sz_alloc] using hat8)
            have S8 := hide (HS.out.push (e := ⟨bx, p4, crdL img mk i, crdM img mk i⟩) (by rw [HDL.out]) (by rw [HDL.out]))
            have B8 : Hid (Below w.heap.size w w8) := (HB.out.trans (B7.out.mono HB.out.size)).grown hgrow (by have := (HB.out.trans (B7.out.mono HB.out.size)).size; exact this) (fun k hk => (O7.out.lt k hk).1)
            have L8 : Hid ((D ++ [(⟨bx, p4, crdL img mk i, crdM img mk i⟩ : Dk)]).length = i + 1) := by show _ = _; rw [List.length_append, HDL.out]; rfl
            clear hown' hgrow hat8 C7 D7 B7 O7
            go_wp2
            go_roundw
            case rel => exact ⟨i + 1, _, _, rfl, by go_num, by omega, L8, C8, S8, B8⟩
            case measure => simp [intOf]; omega
          · obtain ⟨mb, mo, rfl, hmc⟩ := HMK.out.2.2.1 (by omega)
            have c1 : (i : Int) < (mn : Int) := by omega
            obtain ⟨mv, hmv⟩ : ∃ mv, mv = mk.getD i 0 := ⟨_, rfl⟩
            rw [← hmv] at hmk
            have c2 : ¬ ((0 : Int) < mv) := hmk
            have HBI : Hid (crdB img mk i = []) := crdB_no (by rw [← hmv]; exact fun h => hmk h.2)
            have HMV := hide hmv
            clear hmv
            have h3' : ¬ (Int.tmod (i : Int) 3 = 0) := by rw [mod_three]; omega
            have h3'' : (Int.tmod (i : Int) 3 == 0) = false := by simpa using h3'
            have hw8 : IntKind.u8.wrap ((i : Int) + 1) = (i : Int) + 1 := by simp only [IntKind.wrap_u8]; omega
            go_wp2_with fail
            refine (new_any _ wr.heap.size (Nat.le_refl _)).mono ?_
            rintro e w1 ⟨rfl, d1, hb1, hz1⟩
            have DX := hide d1
            have BX := hide hb1
            have mc : w1.cell? ⟨mb, mo + i, none⟩ = some (.int .i64 mv) := by
              have h1 := hmc i (by omega)
              rw [HMV.out]
              rw [(HB.out.trans (hb1.mono HB.out.size)).cell (p := ⟨mb, mo + i, none⟩) (cell_lt h1)]; exact h1
            obtain ⟨bx, hbx⟩ : ∃ bx, bx = wr.heap.size := ⟨_, rfl⟩
            obtain ⟨px, hpx⟩ : ∃ px, px = Value.slice none 0 0 := ⟨_, rfl⟩
            rw [← hpx] at DX
            have DX : Hid (Dsk 0 w1 bx px [] 0 wr.heap.size) := by rw [hbx]; exact DX
            have HBL : Hid (([] : List Int).length = 0) := rfl
            rw [← hbx]
            obtain ⟨WW, hWW⟩ : ∃ WW, WW = w1 := ⟨_, rfl⟩
            rw [← hWW] at DX BX mc ⊢
            clear d1 hb1 hz1 hbx hpx hWW
            have hA : Below WW.heap.size WW (WW.alloc (.cells #[.int .u8 ((i : Int) + 1), .int .u8 7, .int .u8 ((i : Int) + 1)] 5)) := (Below.refl _ _).alloc (Nat.le_refl _) _
            have DA := hide (DX.out.later hA)
            have SA := hide (seg_three' WW ((i : Int) + 1) 7 ((i : Int) + 1))
            have BA := hide (BX.out.trans (hA.mono BX.out.size))
            have hbw : Hid (0 < 3 → WW.heap.size ≠ bx) := fun _ => by have := DX.out.box.lt; omega
            clear hA
            go_wp2_with fail
            refine (append_some _ bx px ([]) 0 _ ⟨WW.heap.size, 0, none⟩ 3 3 [(i : Int) + 1, 7, (i : Int) + 1] DA.out SA.out (byt_three (by omega)) hbw.out (by rw [HBL.out]; omega)).mono ?_
            rintro e w4 ⟨rfl, p4, k4⟩
            have D4 := hide k4.dsk
            have B4 := hide (BA.out.trans (k4.below DA.out))
            have hp4 : Hid (∀ j, p4.ownBlock = some j → wr.heap.size ≤ j) := fun j hj => (k4.dsk.own.lt j hj).1
            clear k4 DA SA BA
            have HLL : Hid ([] ++ [(i : Int) + 1, 7, (i : Int) + 1] = crdL img mk i) := by show _ = _; unfold crdL; rw [HBI.out]
            rw [HLL.out] at D4
            go_wp2_with fail
            refine (num9_any 0 _).mono ?_
            rintro e w5 ⟨rfl, rfl⟩
            have D6 := D4
            have B6 := B4
            have HMM : Hid (0 = crdM img mk i) := (crdM_no h3).symm
            rw [HMM.out] at D6
            clear D4 B4
            obtain ⟨w6, hw6⟩ : ∃ w6, w6 = w4 := ⟨_, rfl⟩
            rw [← hw6] at D6 B6 ⊢
            clear hw6
            have C6 := hide (HC.out.later B6.out)
            have A6 : Below w6.heap.size w6 (w6.alloc (.cells #[.pointer (some ⟨bx, 0, none⟩)] 25)) := (Below.refl _ _).alloc (Nat.le_refl _) _
            have C7 := hide (C6.out.later A6)
            have D7 := hide (D6.out.later A6)
            have B7 := hide (B6.out.trans (A6.mono B6.out.size))
            have O7 := hide C7.out.row
            obtain ⟨PT, hPT⟩ : ∃ PT, PT = ptrs D := ⟨_, rfl⟩
            rw [← hPT, HDL.out] at O7
            have HPT := hide hPT
            clear hPT A6 C6
            go_wp2_with (first | (at_builtin; refine wpList_append_own_at _ rfl _ _ 24 rfl w.heap.size 25 j0 (.pointer none) 1 8 Try.underlying24 hj0 hj1 hj2 hj3 rfl (by decide) _ _ _ rfl O7.out ⟨w6.heap.size, 0, none⟩ 1 1 [.pointer (some ⟨bx, 0, none⟩)] rfl rfl ?c1_17 ?c2_17 ?c3_17 ?c4_17 ?c5_17 ?_))
            case c1_17 =>
              intro j u hj
              match j, hj with
              | 0, hj => simp at hj; subst hj; simp [Addr.add]
            case c2_17 => intro u hu; simp at hu; subst hu; rfl
            case c3_17 => unfold maxLen; omega
            case c4_17 => omega
            case c5_17 => have := B6.out.size; have := HB.out.size; simp only [sz_alloc]; omega
            intro v' w8 hown' hgrow _ hat8
            have vlow : Hid (∀ j, vv.ownBlock = some j → j < wr.heap.size) := fun j hj => (HC.out.row.lt j hj).2
            have C8 : Hid (Crd w8 w.heap.size v' (D ++ [⟨bx, p4, crdL img mk i, crdM img mk i⟩])) := C7.out.push (e := ⟨bx, p4, crdL img mk i, crdM img mk i⟩) D7.out (fun e => by have := vlow.out bx e; have := D6.out.low; omega) (fun k hk e => by have := vlow.out k e; have := hp4.out k hk; omega) (by rw [HDL.out, ← HPT.out]; exact hown') hgrow (by simpa only [sz_alloc] using hat8)
            have S8 := hide (HS.out.push (e := ⟨bx, p4, crdL img mk i, crdM img mk i⟩) (by rw [HDL.out]) (by rw [HDL.out]))
            have B8 : Hid (Below w.heap.size w w8) := (HB.out.trans (B7.out.mono HB.out.size)).grown hgrow (by have := (HB.out.trans (B7.out.mono HB.out.size)).size; exact this) (fun k hk => (O7.out.lt k hk).1)
            have L8 : Hid ((D ++ [(⟨bx, p4, crdL img mk i, crdM img mk i⟩ : Dk)]).length = i + 1) := by show _ = _; rw [List.length_append, HDL.out]; rfl
            clear hown' hgrow hat8 C7 D7 B7 O7
            go_wp2
            go_roundw
            case rel => exact ⟨i + 1, _, _, rfl, by go_num, by omega, L8, C8, S8, B8⟩
            case measure => simp [intOf]; omega
        · have c1 : ¬ ((i : Int) < (mn : Int)) := by omega
          have HBI : Hid (crdB img mk i = []) := crdB_no (by have := HML.out; omega)
          have h3' : ¬ (Int.tmod (i : Int) 3 = 0) := by rw [mod_three]; omega
          have h3'' : (Int.tmod (i : Int) 3 == 0) = false := by simpa using h3'
          have hw8 : IntKind.u8.wrap ((i : Int) + 1) = (i : Int) + 1 := by simp only [IntKind.wrap_u8]; omega
          go_wp2_with fail
          refine (new_any _ wr.heap.size (Nat.le_refl _)).mono ?_
          rintro e w1 ⟨rfl, d1, hb1, hz1⟩
          have DX := hide d1
          have BX := hide hb1
          obtain ⟨bx, hbx⟩ : ∃ bx, bx = wr.heap.size := ⟨_, rfl⟩
          obtain ⟨px, hpx⟩ : ∃ px, px = Value.slice none 0 0 := ⟨_, rfl⟩
          rw [← hpx] at DX
          have DX : Hid (Dsk 0 w1 bx px [] 0 wr.heap.size) := by rw [hbx]; exact DX
          have HBL : Hid (([] : List Int).length = 0) := rfl
          rw [← hbx]
          obtain ⟨WW, hWW⟩ : ∃ WW, WW = w1 := ⟨_, rfl⟩
          rw [← hWW] at DX BX ⊢
          clear d1 hb1 hz1 hbx hpx hWW
          have hA : Below WW.heap.size WW (WW.alloc (.cells #[.int .u8 ((i : Int) + 1), .int .u8 7, .int .u8 ((i : Int) + 1)] 5)) := (Below.refl _ _).alloc (Nat.le_refl _) _
          have DA := hide (DX.out.later hA)
          have SA := hide (seg_three' WW ((i : Int) + 1) 7 ((i : Int) + 1))
          have BA := hide (BX.out.trans (hA.mono BX.out.size))
          have hbw : Hid (0 < 3 → WW.heap.size ≠ bx) := fun _ => by have := DX.out.box.lt; omega
          clear hA
          go_wp2_with fail
          refine (append_some _ bx px ([]) 0 _ ⟨WW.heap.size, 0, none⟩ 3 3 [(i : Int) + 1, 7, (i : Int) + 1] DA.out SA.out (byt_three (by omega)) hbw.out (by rw [HBL.out]; omega)).mono ?_
          rintro e w4 ⟨rfl, p4, k4⟩
          have D4 := hide k4.dsk
          have B4 := hide (BA.out.trans (k4.below DA.out))
          have hp4 : Hid (∀ j, p4.ownBlock = some j → wr.heap.size ≤ j) := fun j hj => (k4.dsk.own.lt j hj).1
          clear k4 DA SA BA
          have HLL : Hid ([] ++ [(i : Int) + 1, 7, (i : Int) + 1] = crdL img mk i) := by show _ = _; unfold crdL; rw [HBI.out]
          rw [HLL.out] at D4
          go_wp2_with fail
          refine (num9_any 0 _).mono ?_
          rintro e w5 ⟨rfl, rfl⟩
          have D6 := D4
          have B6 := B4
          have HMM : Hid (0 = crdM img mk i) := (crdM_no h3).symm
          rw [HMM.out] at D6
          clear D4 B4
          obtain ⟨w6, hw6⟩ : ∃ w6, w6 = w4 := ⟨_, rfl⟩
          rw [← hw6] at D6 B6 ⊢
          clear hw6
          have C6 := hide (HC.out.later B6.out)
          have A6 : Below w6.heap.size w6 (w6.alloc (.cells #[.pointer (some ⟨bx, 0, none⟩)] 25)) := (Below.refl _ _).alloc (Nat.le_refl _) _
          have C7 := hide (C6.out.later A6)
          have D7 := hide (D6.out.later A6)
          have B7 := hide (B6.out.trans (A6.mono B6.out.size))
          have O7 := hide C7.out.row
          obtain ⟨PT, hPT⟩ : ∃ PT, PT = ptrs D := ⟨_, rfl⟩
          rw [← hPT, HDL.out] at O7
          have HPT := hide hPT
          clear hPT A6 C6
          go_wp2_with (first | (at_builtin; refine wpList_append_own_at _ rfl _ _ 24 rfl w.heap.size 25 j0 (.pointer none) 1 8 Try.underlying24 hj0 hj1 hj2 hj3 rfl (by decide) _ _ _ rfl O7.out ⟨w6.heap.size, 0, none⟩ 1 1 [.pointer (some ⟨bx, 0, none⟩)] rfl rfl ?c1_18 ?c2_18 ?c3_18 ?c4_18 ?c5_18 ?_))
          case c1_18 =>
            intro j u hj
            match j, hj with
            | 0, hj => simp at hj; subst hj; simp [Addr.add]
          case c2_18 => intro u hu; simp at hu; subst hu; rfl
          case c3_18 => unfold maxLen; omega
          case c4_18 => omega
          case c5_18 => have := B6.out.size; have := HB.out.size; simp only [sz_alloc]; omega
          intro v' w8 hown' hgrow _ hat8
          have vlow : Hid (∀ j, vv.ownBlock = some j → j < wr.heap.size) := fun j hj => (HC.out.row.lt j hj).2
          have C8 : Hid (Crd w8 w.heap.size v' (D ++ [⟨bx, p4, crdL img mk i, crdM img mk i⟩])) := C7.out.push (e := ⟨bx, p4, crdL img mk i, crdM img mk i⟩) D7.out (fun e => by have := vlow.out bx e; have := D6.out.low; omega) (fun k hk e => by have := vlow.out k e; have := hp4.out k hk; omega) (by rw [HDL.out, ← HPT.out]; exact hown') hgrow (by simpa only [sz_alloc] using hat8)
          have S8 := hide (HS.out.push (e := ⟨bx, p4, crdL img mk i, crdM img mk i⟩) (by rw [HDL.out]) (by rw [HDL.out]))
          have B8 : Hid (Below w.heap.size w w8) := (HB.out.trans (B7.out.mono HB.out.size)).grown hgrow (by have := (HB.out.trans (B7.out.mono HB.out.size)).size; exact this) (fun k hk => (O7.out.lt k hk).1)
          have L8 : Hid ((D ++ [(⟨bx, p4, crdL img mk i, crdM img mk i⟩ : Dk)]).length = i + 1) := by show _ = _; rw [List.length_append, HDL.out]; rfl
          clear hown' hgrow hat8 C7 D7 B7 O7
          go_wp2
          go_roundw
          case rel => exact ⟨i + 1, _, _, rfl, by go_num, by omega, L8, C8, S8, B8⟩
          case measure => simp [intOf]; omega
    · have HDL : Hid (D.length = 40) := by show D.length = 40; rw [HDL.out]; omega
      obtain ⟨g, c, rfl, hgc, _⟩ := HC.out.at_ 0 (by rw [HDL.out]; omega)
      rw [HDL.out] at HC hgc ⊢
      go_wp2
      go_loopw [13] (fun iv wq => ∃ (i : Nat), iv = .int .i64 (i : Int) ∧ i ≤ 40 ∧ Hid (Crd wq w.heap.size (.slice (some ⟨g, 0, none⟩) 40 c) D) ∧ Hid (Below w.heap.size w wq)) (fun iv _ => 40 - (intOf iv).toNat)
      case atStart => exact ⟨0, rfl, Nat.zero_le _, HC, HB⟩
      case round =>
        clear HC HB
        obtain ⟨i, rfl, hi, HC, HB⟩ := hrel
        by_cases hlt : i < 40
        · by_cases h3 : i % 3 = 0
          · by_cases hmn : i < mn
            · by_cases hmk : 0 < mk.getD i 0
              · obtain ⟨mb, mo, rfl, hmc⟩ := HMK.out.2.2.1 (by omega)
                have c1 : (i : Int) < (mn : Int) := by omega
                obtain ⟨mv, hmv⟩ : ∃ mv, mv = mk.getD i 0 := ⟨_, rfl⟩
                rw [← hmv] at hmk
                have c2 : (0 : Int) < mv := hmk
                have HBI : Hid (crdB img mk i = img) := crdB_yes (by rw [← hmv]; exact ⟨by have := HML.out; omega, hmk⟩)
                have HMV := hide hmv
                clear hmv
                have h3' : Int.tmod (i : Int) 3 = 0 := by rw [mod_three, h3]; rfl
                have hw8 : IntKind.u8.wrap ((i : Int) + 1) = (i : Int) + 1 := by simp only [IntKind.wrap_u8]; omega
                have mc : wr.cell? ⟨mb, mo + i, none⟩ = some (.int .i64 mv) := by
                  have h1 := hmc i (by omega)
                  rw [HMV.out]
                  rw [HB.out.cell (p := ⟨mb, mo + i, none⟩) (cell_lt h1)]; exact h1
                have SI := hide (HI.out.below HB.out (Nat.le_refl _))
                have hil : Hid (img.length = inn) := HI.out.1
                go_wp2_with fail
                refine (bytes_any ia inn ic img _ SI.out (by omega)).mono ?_
                rintro e w1 ⟨v1, rfl, hown1, hb1⟩
                rw [hil.out] at hown1
                have OA := hide (hown1.alloc (.cells #[.int .u8 ((i : Int) + 1), .int .u8 7, .int .u8 ((i : Int) + 1)] 5))
                have BW := hide hb1
                have HCL : Hid ((crdL img mk i).map (Value.int .u8) = img.map (Value.int .u8) ++ [.int .u8 ((i : Int) + 1), .int .u8 7, .int .u8 ((i : Int) + 1)] ∧ (crdL img mk i).length = inn + 3) := by
                  refine ⟨?_, ?_⟩
                  · unfold crdL; rw [HBI.out, List.map_append]; rfl
                  · unfold crdL; rw [HBI.out, List.length_append, hil.out]; rfl
                obtain ⟨IM, hIM⟩ : ∃ IM, IM = img.map (Value.int .u8) := ⟨_, rfl⟩
                rw [← hIM] at OA HCL
                clear hown1 hb1 SI mc hIM
                go_wp2_with (first | (at_builtin; refine wpList_append_own_at _ rfl _ _ 22 rfl wr.heap.size 5 i0 (.int .u8 0) 1 1 Try.underlying22 hi0 hz0 hz1 hz2 rfl (by decide) _ _ _ rfl OA.out ⟨w1.heap.size, 0, none⟩ 3 3 [.int .u8 ((i : Int) + 1), .int .u8 7, .int .u8 ((i : Int) + 1)] rfl rfl ?c1_19 ?c2_19 ?c3_19 ?c4_19 ?c5_19 ?_))
                case c1_19 =>
                  intro j u hj
                  match j, hj with
                  | 0, hj => simp at hj; subst hj; simp [Addr.add]
                  | 1, hj => simp at hj; subst hj; simp [Addr.add]
                  | 2, hj => simp at hj; subst hj; simp [Addr.add]
                case c2_19 => intro u hu; simp at hu; rcases hu with rfl | rfl | rfl <;> rfl
                case c3_19 => unfold maxLen; omega
                case c4_19 => omega
                case c5_19 => have := BW.out.size; simp only [sz_alloc]; omega
                intro v' w8 hown' hgrow _ hat8
                have B8 : Below wr.heap.size wr w8 := ((BW.out.alloc (by have := BW.out.size; exact this) _).grown hgrow (by have := BW.out.size; simp only [sz_alloc]; omega) (fun k hk => (OA.out.lt k hk).1))
                have C8 := hide (HC.out.later B8)
                have hown8 : w8.ownsRow wr.heap.size 5 1 v' (crdL img mk i).length ((crdL img mk i).map (Value.int .u8)) := by rw [HCL.out.1, HCL.out.2]; exact hown'
                obtain ⟨va, vc, rfl, _, _, sg⟩ := seg_own hown8
                have SW := hide sg
                have BB8 := hide (HB.out.trans (B8.mono HB.out.size))
                clear hown' hown8 hgrow hat8 sg B8 OA
                obtain ⟨cg, E, dd⟩ := C8.out.cell i (by rw [HDL.out]; omega)
                have DD := hide dd
                obtain ⟨de, hde⟩ : ∃ de, de = D.getD i dkZ := ⟨_, rfl⟩
                rw [← hde] at cg DD
                have HSP := HS.out i (by rw [HDL.out]; omega)
                rw [← hde] at HSP
                have HSL := hide HSP.1
                have HSM := hide HSP.2
                clear dd hde HSP
                rw [HSL.out, HSM.out] at DD
                rw [crdM_yes h3] at DD
                obtain ⟨cl, hcl⟩ : ∃ cl, cl = (crdL img mk i).length := ⟨_, rfl⟩
                have hcl3 : 3 ≤ cl := by rw [hcl]; unfold crdL; rw [List.length_append]; simp
                have HCLN := hide hcl
                rw [← hcl] at SW DD ⊢
                clear hcl
                have hclN : cl ≤ 4194304 := by have := DD.out.top; rw [← HCLN.out] at this; exact this
                go_wp2_with fail
                refine (look_any _ de.b de.pv (crdL img mk i) cl E DD.out).mono ?_
                rintro e w9 ⟨v9, rfl, hown9, hb9⟩
                obtain ⟨ua, uc, rfl, _, _, su⟩ := seg_own hown9
                have SU := hide su
                have SW9 := hide (SW.out.below hb9 (Nat.le_refl _))
                have C9 := hide (C8.out.later hb9)
                have B9 := hide (BB8.out.trans (hb9.mono BB8.out.size))
                rw [← HCLN.out] at SU ⊢
                clear hown9 hb9 su SW C8 BB8 DD
                go_wp2_with fail
                refine (same_any ua va cl cl uc vc _ _ _ SU.out SW9.out).mono ?_
                rintro e w10 ⟨rfl, q, rfl⟩
                rw [same_yes rfl]
                have C10 := hide (C9.out.later (below_drewN' (Below.refl _ _) q))
                have B10 := hide (below_drewN' B9.out q)
                clear C9 B9 SU SW9
                generalize w9.drewN q = w11 at *
                go_wp2
                go_roundw
                case rel => exact ⟨i + 1, by go_num, by omega, C10, B10⟩
                case measure => simp [intOf]; omega
              · obtain ⟨mb, mo, rfl, hmc⟩ := HMK.out.2.2.1 (by omega)
                have c1 : (i : Int) < (mn : Int) := by omega
                obtain ⟨mv, hmv⟩ : ∃ mv, mv = mk.getD i 0 := ⟨_, rfl⟩
                rw [← hmv] at hmk
                have c2 : ¬ ((0 : Int) < mv) := hmk
                have HBI : Hid (crdB img mk i = []) := crdB_no (by rw [← hmv]; exact fun h => hmk h.2)
                have HMV := hide hmv
                clear hmv
                have h3' : Int.tmod (i : Int) 3 = 0 := by rw [mod_three, h3]; rfl
                have hw8 : IntKind.u8.wrap ((i : Int) + 1) = (i : Int) + 1 := by simp only [IntKind.wrap_u8]; omega
                have mc : wr.cell? ⟨mb, mo + i, none⟩ = some (.int .i64 mv) := by
                  have h1 := hmc i (by omega)
                  rw [HMV.out]
                  rw [HB.out.cell (p := ⟨mb, mo + i, none⟩) (cell_lt h1)]; exact h1
                have OA := hide ((World.ownsRow_nil wr wr.heap.size 5 1).alloc (.cells #[.int .u8 ((i : Int) + 1), .int .u8 7, .int .u8 ((i : Int) + 1)] 5))
                have BW : Hid (Below wr.heap.size wr wr) := Below.refl _ _
                have HCL : Hid ((crdL img mk i).map (Value.int .u8) = [.int .u8 ((i : Int) + 1), .int .u8 7, .int .u8 ((i : Int) + 1)] ∧ (crdL img mk i).length = 3) := by
                  refine ⟨?_, ?_⟩
                  · unfold crdL; rw [HBI.out]; rfl
                  · unfold crdL; rw [HBI.out]; rfl
                go_wp2_with (first | (at_builtin; refine wpList_append_own_at _ rfl _ _ 22 rfl wr.heap.size 5 i0 (.int .u8 0) 1 1 Try.underlying22 hi0 hz0 hz1 hz2 rfl (by decide) _ _ _ rfl OA.out ⟨wr.heap.size, 0, none⟩ 3 3 [.int .u8 ((i : Int) + 1), .int .u8 7, .int .u8 ((i : Int) + 1)] rfl rfl ?c1_20 ?c2_20 ?c3_20 ?c4_20 ?c5_20 ?_))
                case c2_20 => exact ⟨rfl, rfl, rfl⟩
                case c3_20 => unfold maxLen; omega
                intro v' w8 hown' hgrow _ hat8
                have B8 : Below wr.heap.size wr w8 := ((BW.out.alloc (by have := BW.out.size; exact this) _).grown hgrow (by have := BW.out.size; simp only [sz_alloc]; omega) (fun k hk => (OA.out.lt k hk).1))
                have C8 := hide (HC.out.later B8)
                have hown8 : w8.ownsRow wr.heap.size 5 1 v' (crdL img mk i).length ((crdL img mk i).map (Value.int .u8)) := by rw [HCL.out.1, HCL.out.2]; exact hown'
                obtain ⟨va, vc, rfl, _, _, sg⟩ := seg_own hown8
                have SW := hide sg
                have BB8 := hide (HB.out.trans (B8.mono HB.out.size))
                clear hown' hown8 hgrow hat8 sg B8 OA
                obtain ⟨cg, E, dd⟩ := C8.out.cell i (by rw [HDL.out]; omega)
                have DD := hide dd
                obtain ⟨de, hde⟩ : ∃ de, de = D.getD i dkZ := ⟨_, rfl⟩
                rw [← hde] at cg DD
                have HSP := HS.out i (by rw [HDL.out]; omega)
                rw [← hde] at HSP
                have HSL := hide HSP.1
                have HSM := hide HSP.2
                clear dd hde HSP
                rw [HSL.out, HSM.out] at DD
                rw [crdM_yes h3] at DD
                obtain ⟨cl, hcl⟩ : ∃ cl, cl = (crdL img mk i).length := ⟨_, rfl⟩
                have hcl3 : 3 ≤ cl := by rw [hcl]; unfold crdL; rw [List.length_append]; simp
                have HCLN := hide hcl
                rw [← hcl] at SW DD ⊢
                clear hcl
                have hclN : cl ≤ 4194304 := by have := DD.out.top; rw [← HCLN.out] at this; exact this
                go_wp2_with fail
                refine (look_any _ de.b de.pv (crdL img mk i) cl E DD.out).mono ?_
                rintro e w9 ⟨v9, rfl, hown9, hb9⟩
                obtain ⟨ua, uc, rfl, _, _, su⟩ := seg_own hown9
                have SU := hide su
                have SW9 := hide (SW.out.below hb9 (Nat.le_refl _))
                have C9 := hide (C8.out.later hb9)
                have B9 := hide (BB8.out.trans (hb9.mono BB8.out.size))
                rw [← HCLN.out] at SU ⊢
                clear hown9 hb9 su SW C8 BB8 DD
                go_wp2_with fail
                refine (same_any ua va cl cl uc vc _ _ _ SU.out SW9.out).mono ?_
                rintro e w10 ⟨rfl, q, rfl⟩
                rw [same_yes rfl]
                have C10 := hide (C9.out.later (below_drewN' (Below.refl _ _) q))
                have B10 := hide (below_drewN' B9.out q)
                clear C9 B9 SU SW9
                generalize w9.drewN q = w11 at *
                go_wp2
                go_roundw
                case rel => exact ⟨i + 1, by go_num, by omega, C10, B10⟩
                case measure => simp [intOf]; omega
            · have c1 : ¬ ((i : Int) < (mn : Int)) := by omega
              have HBI : Hid (crdB img mk i = []) := crdB_no (by have := HML.out; omega)
              have h3' : Int.tmod (i : Int) 3 = 0 := by rw [mod_three, h3]; rfl
              have hw8 : IntKind.u8.wrap ((i : Int) + 1) = (i : Int) + 1 := by simp only [IntKind.wrap_u8]; omega
              have OA := hide ((World.ownsRow_nil wr wr.heap.size 5 1).alloc (.cells #[.int .u8 ((i : Int) + 1), .int .u8 7, .int .u8 ((i : Int) + 1)] 5))
              have BW : Hid (Below wr.heap.size wr wr) := Below.refl _ _
              have HCL : Hid ((crdL img mk i).map (Value.int .u8) = [.int .u8 ((i : Int) + 1), .int .u8 7, .int .u8 ((i : Int) + 1)] ∧ (crdL img mk i).length = 3) := by
                refine ⟨?_, ?_⟩
                · unfold crdL; rw [HBI.out]; rfl
                · unfold crdL; rw [HBI.out]; rfl
              go_wp2_with (first | (at_builtin; refine wpList_append_own_at _ rfl _ _ 22 rfl wr.heap.size 5 i0 (.int .u8 0) 1 1 Try.underlying22 hi0 hz0 hz1 hz2 rfl (by decide) _ _ _ rfl OA.out ⟨wr.heap.size, 0, none⟩ 3 3 [.int .u8 ((i : Int) + 1), .int .u8 7, .int .u8 ((i : Int) + 1)] rfl rfl ?c1_21 ?c2_21 ?c3_21 ?c4_21 ?c5_21 ?_))
              case c2_21 => exact ⟨rfl, rfl, rfl⟩
              case c3_21 => unfold maxLen; omega
              intro v' w8 hown' hgrow _ hat8
              have B8 : Below wr.heap.size wr w8 := ((BW.out.alloc (by have := BW.out.size; exact this) _).grown hgrow (by have := BW.out.size; simp only [sz_alloc]; omega) (fun k hk => (OA.out.lt k hk).1))
              have C8 := hide (HC.out.later B8)
              have hown8 : w8.ownsRow wr.heap.size 5 1 v' (crdL img mk i).length ((crdL img mk i).map (Value.int .u8)) := by rw [HCL.out.1, HCL.out.2]; exact hown'
              obtain ⟨va, vc, rfl, _, _, sg⟩ := seg_own hown8
              have SW := hide sg
              have BB8 := hide (HB.out.trans (B8.mono HB.out.size))
              clear hown' hown8 hgrow hat8 sg B8 OA
              obtain ⟨cg, E, dd⟩ := C8.out.cell i (by rw [HDL.out]; omega)
              have DD := hide dd
              obtain ⟨de, hde⟩ : ∃ de, de = D.getD i dkZ := ⟨_, rfl⟩
              rw [← hde] at cg DD
              have HSP := HS.out i (by rw [HDL.out]; omega)
              rw [← hde] at HSP
              have HSL := hide HSP.1
              have HSM := hide HSP.2
              clear dd hde HSP
              rw [HSL.out, HSM.out] at DD
              rw [crdM_yes h3] at DD
              obtain ⟨cl, hcl⟩ : ∃ cl, cl = (crdL img mk i).length := ⟨_, rfl⟩
              have hcl3 : 3 ≤ cl := by rw [hcl]; unfold crdL; rw [List.length_append]; simp
              have HCLN := hide hcl
              rw [← hcl] at SW DD ⊢
              clear hcl
              have hclN : cl ≤ 4194304 := by have := DD.out.top; rw [← HCLN.out] at this; exact this
              go_wp2_with fail
              refine (look_any _ de.b de.pv (crdL img mk i) cl E DD.out).mono ?_
              rintro e w9 ⟨v9, rfl, hown9, hb9⟩
              obtain ⟨ua, uc, rfl, _, _, su⟩ := seg_own hown9
              have SU := hide su
              have SW9 := hide (SW.out.below hb9 (Nat.le_refl _))
              have C9 := hide (C8.out.later hb9)
              have B9 := hide (BB8.out.trans (hb9.mono BB8.out.size))
              rw [← HCLN.out] at SU ⊢
              clear hown9 hb9 su SW C8 BB8 DD
              go_wp2_with fail
              refine (same_any ua va cl cl uc vc _ _ _ SU.out SW9.out).mono ?_
              rintro e w10 ⟨rfl, q, rfl⟩
              rw [same_yes rfl]
              have C10 := hide (C9.out.later (below_drewN' (Below.refl _ _) q))
              have B10 := hide (below_drewN' B9.out q)
              clear C9 B9 SU SW9
              generalize w9.drewN q = w11 at *
              go_wp2
              go_roundw
              case rel => exact ⟨i + 1, by go_num, by omega, C10, B10⟩
              case measure => simp [intOf]; omega
          · by_cases hmn : i < mn
            · by_cases hmk : 0 < mk.getD i 0
              · obtain ⟨mb, mo, rfl, hmc⟩ := HMK.out.2.2.1 (by omega)
                have c1 : (i : Int) < (mn : Int) := by omega
                obtain ⟨mv, hmv⟩ : ∃ mv, mv = mk.getD i 0 := ⟨_, rfl⟩
                rw [← hmv] at hmk
                have c2 : (0 : Int) < mv := hmk
                have HBI : Hid (crdB img mk i = img) := crdB_yes (by rw [← hmv]; exact ⟨by have := HML.out; omega, hmk⟩)
                have HMV := hide hmv
                clear hmv
                have h3' : ¬ (Int.tmod (i : Int) 3 = 0) := by rw [mod_three]; omega
                have h3'' : (Int.tmod (i : Int) 3 == 0) = false := by simpa using h3'
                have hw8 : IntKind.u8.wrap ((i : Int) + 1) = (i : Int) + 1 := by simp only [IntKind.wrap_u8]; omega
                have mc : wr.cell? ⟨mb, mo + i, none⟩ = some (.int .i64 mv) := by
                  have h1 := hmc i (by omega)
                  rw [HMV.out]
                  rw [HB.out.cell (p := ⟨mb, mo + i, none⟩) (cell_lt h1)]; exact h1
                have SI := hide (HI.out.below HB.out (Nat.le_refl _))
                have hil : Hid (img.length = inn) := HI.out.1
                go_wp2_with fail
                refine (bytes_any ia inn ic img _ SI.out (by omega)).mono ?_
                rintro e w1 ⟨v1, rfl, hown1, hb1⟩
                rw [hil.out] at hown1
                have OA := hide (hown1.alloc (.cells #[.int .u8 ((i : Int) + 1), .int .u8 7, .int .u8 ((i : Int) + 1)] 5))
                have BW := hide hb1
                have HCL : Hid ((crdL img mk i).map (Value.int .u8) = img.map (Value.int .u8) ++ [.int .u8 ((i : Int) + 1), .int .u8 7, .int .u8 ((i : Int) + 1)] ∧ (crdL img mk i).length = inn + 3) := by
                  refine ⟨?_, ?_⟩
                  · unfold crdL; rw [HBI.out, List.map_append]; rfl
                  · unfold crdL; rw [HBI.out, List.length_append, hil.out]; rfl
                obtain ⟨IM, hIM⟩ : ∃ IM, IM = img.map (Value.int .u8) := ⟨_, rfl⟩
                rw [← hIM] at OA HCL
                clear hown1 hb1 SI mc hIM
                go_wp2_with (first | (at_builtin; refine wpList_append_own_at _ rfl _ _ 22 rfl wr.heap.size 5 i0 (.int .u8 0) 1 1 Try.underlying22 hi0 hz0 hz1 hz2 rfl (by decide) _ _ _ rfl OA.out ⟨w1.heap.size, 0, none⟩ 3 3 [.int .u8 ((i : Int) + 1), .int .u8 7, .int .u8 ((i : Int) + 1)] rfl rfl ?c1_22 ?c2_22 ?c3_22 ?c4_22 ?c5_22 ?_))
                case c1_22 =>
                  intro j u hj
                  match j, hj with
                  | 0, hj => simp at hj; subst hj; simp [Addr.add]
                  | 1, hj => simp at hj; subst hj; simp [Addr.add]
                  | 2, hj => simp at hj; subst hj; simp [Addr.add]
                case c2_22 => intro u hu; simp at hu; rcases hu with rfl | rfl | rfl <;> rfl
                case c3_22 => unfold maxLen; omega
                case c4_22 => omega
                case c5_22 => have := BW.out.size; simp only [sz_alloc]; omega
                intro v' w8 hown' hgrow _ hat8
                have B8 : Below wr.heap.size wr w8 := ((BW.out.alloc (by have := BW.out.size; exact this) _).grown hgrow (by have := BW.out.size; simp only [sz_alloc]; omega) (fun k hk => (OA.out.lt k hk).1))
                have C8 := hide (HC.out.later B8)
                have hown8 : w8.ownsRow wr.heap.size 5 1 v' (crdL img mk i).length ((crdL img mk i).map (Value.int .u8)) := by rw [HCL.out.1, HCL.out.2]; exact hown'
                obtain ⟨va, vc, rfl, _, _, sg⟩ := seg_own hown8
                have SW := hide sg
                have BB8 := hide (HB.out.trans (B8.mono HB.out.size))
                clear hown' hown8 hgrow hat8 sg B8 OA
                obtain ⟨cg, E, dd⟩ := C8.out.cell i (by rw [HDL.out]; omega)
                have DD := hide dd
                obtain ⟨de, hde⟩ : ∃ de, de = D.getD i dkZ := ⟨_, rfl⟩
                rw [← hde] at cg DD
                have HSP := HS.out i (by rw [HDL.out]; omega)
                rw [← hde] at HSP
                have HSL := hide HSP.1
                have HSM := hide HSP.2
                clear dd hde HSP
                rw [HSL.out, HSM.out] at DD
                rw [crdM_no h3] at DD
                obtain ⟨cl, hcl⟩ : ∃ cl, cl = (crdL img mk i).length := ⟨_, rfl⟩
                have hcl3 : 3 ≤ cl := by rw [hcl]; unfold crdL; rw [List.length_append]; simp
                have HCLN := hide hcl
                rw [← hcl] at SW ⊢
                clear hcl
                have hclN : cl ≤ 4194304 := by have := DD.out.top; rw [← HCLN.out] at this; exact this
                go_wp2_with fail
                refine (look_any _ de.b de.pv (crdL img mk i) 0 E DD.out).mono ?_
                rintro e w9 ⟨v9, rfl, hown9, hb9⟩
                obtain ⟨ua, uc, rfl, _, _, su⟩ := seg_own hown9
                have SU := hide su
                have SW9 := hide (SW.out.below hb9 (Nat.le_refl _))
                have C9 := hide (C8.out.later hb9)
                have B9 := hide (BB8.out.trans (hb9.mono BB8.out.size))
                rw [← HCLN.out] at SU ⊢
                clear hown9 hb9 su SW C8 BB8 DD
                go_wp2_with fail
                refine (same_any ua va cl cl uc vc _ _ _ SU.out SW9.out).mono ?_
                rintro e w10 ⟨rfl, q, rfl⟩
                rw [same_yes rfl]
                have C10 := hide (C9.out.later (below_drewN' (Below.refl _ _) q))
                have B10 := hide (below_drewN' B9.out q)
                clear C9 B9 SU SW9
                generalize w9.drewN q = w11 at *
                have hc0 : ¬ ((0 : Int) = (cl : Int)) := by omega
                have hc1 : ((0 : Int) == (cl : Int)) = false := by simpa using hc0
                go_wp2
                go_roundw
                case rel => exact ⟨i + 1, by go_num, by omega, C10, B10⟩
                case measure => simp [intOf]; omega
              · obtain ⟨mb, mo, rfl, hmc⟩ := HMK.out.2.2.1 (by omega)
                have c1 : (i : Int) < (mn : Int) := by omega
                obtain ⟨mv, hmv⟩ : ∃ mv, mv = mk.getD i 0 := ⟨_, rfl⟩
                rw [← hmv] at hmk
                have c2 : ¬ ((0 : Int) < mv) := hmk
                have HBI : Hid (crdB img mk i = []) := crdB_no (by rw [← hmv]; exact fun h => hmk h.2)
                have HMV := hide hmv
                clear hmv
                have h3' : ¬ (Int.tmod (i : Int) 3 = 0) := by rw [mod_three]; omega
                have h3'' : (Int.tmod (i : Int) 3 == 0) = false := by simpa using h3'
                have hw8 : IntKind.u8.wrap ((i : Int) + 1) = (i : Int) + 1 := by simp only [IntKind.wrap_u8]; omega
                have mc : wr.cell? ⟨mb, mo + i, none⟩ = some (.int .i64 mv) := by
                  have h1 := hmc i (by omega)
                  rw [HMV.out]
                  rw [HB.out.cell (p := ⟨mb, mo + i, none⟩) (cell_lt h1)]; exact h1
                have OA := hide ((World.ownsRow_nil wr wr.heap.size 5 1).alloc (.cells #[.int .u8 ((i : Int) + 1), .int .u8 7, .int .u8 ((i : Int) + 1)] 5))
                have BW : Hid (Below wr.heap.size wr wr) := Below.refl _ _
                have HCL : Hid ((crdL img mk i).map (Value.int .u8) = [.int .u8 ((i : Int) + 1), .int .u8 7, .int .u8 ((i : Int) + 1)] ∧ (crdL img mk i).length = 3) := by
                  refine ⟨?_, ?_⟩
                  · unfold crdL; rw [HBI.out]; rfl
                  · unfold crdL; rw [HBI.out]; rfl
                go_wp2_with (first | (at_builtin; refine wpList_append_own_at _ rfl _ _ 22 rfl wr.heap.size 5 i0 (.int .u8 0) 1 1 Try.underlying22 hi0 hz0 hz1 hz2 rfl (by decide) _ _ _ rfl OA.out ⟨wr.heap.size, 0, none⟩ 3 3 [.int .u8 ((i : Int) + 1), .int .u8 7, .int .u8 ((i : Int) + 1)] rfl rfl ?c1_23 ?c2_23 ?c3_23 ?c4_23 ?c5_23 ?_))
                case c2_23 => exact ⟨rfl, rfl, rfl⟩
                case c3_23 => unfold maxLen; omega
                intro v' w8 hown' hgrow _ hat8
                have B8 : Below wr.heap.size wr w8 := ((BW.out.alloc (by have := BW.out.size; exact this) _).grown hgrow (by have := BW.out.size; simp only [sz_alloc]; omega) (fun k hk => (OA.out.lt k hk).1))
                have C8 := hide (HC.out.later B8)
                have hown8 : w8.ownsRow wr.heap.size 5 1 v' (crdL img mk i).length ((crdL img mk i).map (Value.int .u8)) := by rw [HCL.out.1, HCL.out.2]; exact hown'
                obtain ⟨va, vc, rfl, _, _, sg⟩ := seg_own hown8
                have SW := hide sg
                have BB8 := hide (HB.out.trans (B8.mono HB.out.size))
                clear hown' hown8 hgrow hat8 sg B8 OA
                obtain ⟨cg, E, dd⟩ := C8.out.cell i (by rw [HDL.out]; omega)
                have DD := hide dd
                obtain ⟨de, hde⟩ : ∃ de, de = D.getD i dkZ := ⟨_, rfl⟩
                rw [← hde] at cg DD
                have HSP := HS.out i (by rw [HDL.out]; omega)
                rw [← hde] at HSP
                have HSL := hide HSP.1
                have HSM := hide HSP.2
                clear dd hde HSP
                rw [HSL.out, HSM.out] at DD
                rw [crdM_no h3] at DD
                obtain ⟨cl, hcl⟩ : ∃ cl, cl = (crdL img mk i).length := ⟨_, rfl⟩
                have hcl3 : 3 ≤ cl := by rw [hcl]; unfold crdL; rw [List.length_append]; simp
                have HCLN := hide hcl
                rw [← hcl] at SW ⊢
                clear hcl
                have hclN : cl ≤ 4194304 := by have := DD.out.top; rw [← HCLN.out] at this; exact this
                go_wp2_with fail
                refine (look_any _ de.b de.pv (crdL img mk i) 0 E DD.out).mono ?_
                rintro e w9 ⟨v9, rfl, hown9, hb9⟩
                obtain ⟨ua, uc, rfl, _, _, su⟩ := seg_own hown9
                have SU := hide su
                have SW9 := hide (SW.out.below hb9 (Nat.le_refl _))
                have C9 := hide (C8.out.later hb9)
                have B9 := hide (BB8.out.trans (hb9.mono BB8.out.size))
                rw [← HCLN.out] at SU ⊢
                clear hown9 hb9 su SW C8 BB8 DD
                go_wp2_with fail
                refine (same_any ua va cl cl uc vc _ _ _ SU.out SW9.out).mono ?_
                rintro e w10 ⟨rfl, q, rfl⟩
                rw [same_yes rfl]
                have C10 := hide (C9.out.later (below_drewN' (Below.refl _ _) q))
                have B10 := hide (below_drewN' B9.out q)
                clear C9 B9 SU SW9
                generalize w9.drewN q = w11 at *
                have hc0 : ¬ ((0 : Int) = (cl : Int)) := by omega
                have hc1 : ((0 : Int) == (cl : Int)) = false := by simpa using hc0
                go_wp2
                go_roundw
                case rel => exact ⟨i + 1, by go_num, by omega, C10, B10⟩
                case measure => simp [intOf]; omega
            · have c1 : ¬ ((i : Int) < (mn : Int)) := by omega
              have HBI : Hid (crdB img mk i = []) := crdB_no (by have := HML.out; omega)
              have h3' : ¬ (Int.tmod (i : Int) 3 = 0) := by rw [mod_three]; omega
              have h3'' : (Int.tmod (i : Int) 3 == 0) = false := by simpa using h3'
              have hw8 : IntKind.u8.wrap ((i : Int) + 1) = (i : Int) + 1 := by simp only [IntKind.wrap_u8]; omega
              have OA := hide ((World.ownsRow_nil wr wr.heap.size 5 1).alloc (.cells #[.int .u8 ((i : Int) + 1), .int .u8 7, .int .u8 ((i : Int) + 1)] 5))
              have BW : Hid (Below wr.heap.size wr wr) := Below.refl _ _
              have HCL : Hid ((crdL img mk i).map (Value.int .u8) = [.int .u8 ((i : Int) + 1), .int .u8 7, .int .u8 ((i : Int) + 1)] ∧ (crdL img mk i).length = 3) := by
                refine ⟨?_, ?_⟩
                · unfold crdL; rw [HBI.out]; rfl
                · unfold crdL; rw [HBI.out]; rfl
              go_wp2_with (first | (at_builtin; refine wpList_append_own_at _ rfl _ _ 22 rfl wr.heap.size 5 i0 (.int .u8 0) 1 1 Try.underlying22 hi0 hz0 hz1 hz2 rfl (by decide) _ _ _ rfl OA.out ⟨wr.heap.size, 0, none⟩ 3 3 [.int .u8 ((i : Int) + 1), .int .u8 7, .int .u8 ((i : Int) + 1)] rfl rfl ?c1_24 ?c2_24 ?c3_24 ?c4_24 ?c5_24 ?_))
              case c2_24 => exact ⟨rfl, rfl, rfl⟩
              case c3_24 => unfold maxLen; omega
              intro v' w8 hown' hgrow _ hat8
              have B8 : Below wr.heap.size wr w8 := ((BW.out.alloc (by have := BW.out.size; exact this) _).grown hgrow (by have := BW.out.size; simp only [sz_alloc]; omega) (fun k hk => (OA.out.lt k hk).1))
              have C8 := hide (HC.out.later B8)
              have hown8 : w8.ownsRow wr.heap.size 5 1 v' (crdL img mk i).length ((crdL img mk i).map (Value.int .u8)) := by rw [HCL.out.1, HCL.out.2]; exact hown'
              obtain ⟨va, vc, rfl, _, _, sg⟩ := seg_own hown8
              have SW := hide sg
              have BB8 := hide (HB.out.trans (B8.mono HB.out.size))
              clear hown' hown8 hgrow hat8 sg B8 OA
              obtain ⟨cg, E, dd⟩ := C8.out.cell i (by rw [HDL.out]; omega)
              have DD := hide dd
              obtain ⟨de, hde⟩ : ∃ de, de = D.getD i dkZ := ⟨_, rfl⟩
              rw [← hde] at cg DD
              have HSP := HS.out i (by rw [HDL.out]; omega)
              rw [← hde] at HSP
              have HSL := hide HSP.1
              have HSM := hide HSP.2
              clear dd hde HSP
              rw [HSL.out, HSM.out] at DD
              rw [crdM_no h3] at DD
              obtain ⟨cl, hcl⟩ : ∃ cl, cl = (crdL img mk i).length := ⟨_, rfl⟩
              have hcl3 : 3 ≤ cl := by rw [hcl]; unfold crdL; rw [List.length_append]; simp
              have HCLN := hide hcl
              rw [← hcl] at SW ⊢
              clear hcl
              have hclN : cl ≤ 4194304 := by have := DD.out.top; rw [← HCLN.out] at this; exact this
              go_wp2_with fail
              refine (look_any _ de.b de.pv (crdL img mk i) 0 E DD.out).mono ?_
              rintro e w9 ⟨v9, rfl, hown9, hb9⟩
              obtain ⟨ua, uc, rfl, _, _, su⟩ := seg_own hown9
              have SU := hide su
              have SW9 := hide (SW.out.below hb9 (Nat.le_refl _))
              have C9 := hide (C8.out.later hb9)
              have B9 := hide (BB8.out.trans (hb9.mono BB8.out.size))
              rw [← HCLN.out] at SU ⊢
              clear hown9 hb9 su SW C8 BB8 DD
              go_wp2_with fail
              refine (same_any ua va cl cl uc vc _ _ _ SU.out SW9.out).mono ?_
              rintro e w10 ⟨rfl, q, rfl⟩
              rw [same_yes rfl]
              have C10 := hide (C9.out.later (below_drewN' (Below.refl _ _) q))
              have B10 := hide (below_drewN' B9.out q)
              clear C9 B9 SU SW9
              generalize w9.drewN q = w11 at *
              have hc0 : ¬ ((0 : Int) = (cl : Int)) := by omega
              have hc1 : ((0 : Int) == (cl : Int)) = false := by simpa using hc0
              go_wp2
              go_roundw
              case rel => exact ⟨i + 1, by go_num, by omega, C10, B10⟩
              case measure => simp [intOf]; omega
        · go_wp2
          go_ret
          exact ⟨rfl, HB.out⟩
end Go.Proofs.Ytbgahocmabiaeaa
