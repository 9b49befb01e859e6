import Derived.WalkKit
import Derived.Test.YtibfdoggolkljaaGreatDoorJ15
set_option maxHeartbeats 2000000
set_option maxRecDepth 100000
namespace Go.Proofs.YtibfdoggolkljaaGreatDoor
open Go.RowKit Go.Wire1
theorem shl_n {n : Nat} (h : n ≤ 7) : IntKind.u64.wrap ((2 : Int) ^ n) = ((2 ^ n : Nat) : Int) := by
 have h7 := pow7 h
 rw [IntKind.wrap_u64, show ((2 : Int) ^ n) = ((2 ^ n : Nat) : Int) by push_cast; rfl]
 generalize (2 : Nat) ^ n = N at *
 omega
theorem bit_n (mk k : Nat) (h : mk < 18446744073709551616) : bits .and .u64 ((mk : Int) / 2 ^ k) 1 = ((mk / 2 ^ k % 2 : Nat) : Int) := by
 have e : ((mk : Int) / 2 ^ k) = ((mk / 2 ^ k : Nat) : Int) := by
  rw [Int.natCast_ediv, show ((2 ^ k : Nat) : Int) = (2 : Int) ^ k by push_cast; rfl]
 have hl : mk / 2 ^ k < 18446744073709551616 := Nat.lt_of_le_of_lt (Nat.div_le_self _ _) h
 rw [e]
 have := u64_and_nat (mk / 2 ^ k) 1 hl (by decide)
 rw [Nat.and_one_is_mod] at this
 exact this
theorem unpackTight_any (n m cap : Nat) (sa : Option Addr) (l : List Int) (a : Nat → Addr) (w : World) (hn : n ≤ 7) (hs : Seg w sa m l) (hsrc : Src sa m cap) (hy : Byt l) (he : Errs w a) :
  Calls Tryz.prog 91 #[.int .i64 n, .slice sa m cap] w fun e w' => e = .returned (.tuple #[.agg (arrL (upL (upk2 l n))).toArray, .int .i64 (upN (upk2 l n) : Int), .int .i64 (upE (upk2 l n) : Int)]) ∧ Below w.heap.size w w' := by
 obtain ⟨R, hR⟩ : ∃ R, Hid (upk2 l n = R) := ⟨_, rfl⟩
 rw [hR.out]
 have HS : Hid (Seg w sa m l) := hs
 have HL : Hid (l.length = m) := hs.1
 have HE : Hid (Errs w a) := he
 have HY : Hid (Byt l) := hy
 obtain ⟨W1, hW1⟩ : ∃ W1, W1 = w.alloc (.cells zer7.toArray 140) := ⟨_, rfl⟩
 have B1 : Hid (Below w.heap.size w W1) := by rw [hW1]; exact (Below.refl _ _).more zN _
 have R1 : Hid (Arr W1 w.heap.size w.heap.size []) := by rw [hW1]; exact arr_zero w zN
 clear hs he hy
 unfold zer7 at hW1
 cases hd0 : dec l with
 | error i =>
  have hi3 := dec_err hd0
  have HQ : Hid (R = .error (11 + i)) := by show _ = _; rw [← hR.out]; unfold upk2; rw [hd0]
  have HD : Hid (dec l = .error i) := hd0
  have hne : ((11 + (i : Int)) != 0) = true := by rw [bne_iff_ne]; omega
  clear hd0 hR
  go_enter Tryz.func91, Tryz.ntmps91
  go_wp2_with fail
  rw [← hW1]
  clear hW1
  refine (getU_bad B1.out zN (HS.out.below B1.out zN) HY.out (HE.out.below B1.out zN) HD.out).mono ?_
  rintro e w2 ⟨rfl, hb2, hb2'⟩
  have HB2 : Hid (Below w.heap.size w w2) := hb2
  have HZ2 : Hid (Arr w2 w.heap.size w.heap.size []) := R1.out.below hb2' zN
  clear hb2 hb2' R1 B1
  have d0 := Arr.cell HZ2.out 0 (by decide)
  have d1 := Arr.cell HZ2.out 1 (by decide)
  have d2 := Arr.cell HZ2.out 2 (by decide)
  have d3 := Arr.cell HZ2.out 3 (by decide)
  have d4 := Arr.cell HZ2.out 4 (by decide)
  have d5 := Arr.cell HZ2.out 5 (by decide)
  have d6 := Arr.cell HZ2.out 6 (by decide)
  simp only [arrL, List.getElem?_cons_zero, List.getElem?_cons_succ, List.getD_nil] at d0 d1 d2 d3 d4 d5 d6
  have e0 := Arr.frozen HZ2.out 0
  have e1 := Arr.frozen HZ2.out 1
  have e2 := Arr.frozen HZ2.out 2
  have e3 := Arr.frozen HZ2.out 3
  have e4 := Arr.frozen HZ2.out 4
  have e5 := Arr.frozen HZ2.out 5
  have e6 := Arr.frozen HZ2.out 6
  go_wp2
  refine bodyPost_ret (v := .tuple #[.agg #[.int .i64 0, .int .i64 0, .int .i64 0, .int .i64 0, .int .i64 0, .int .i64 0, .int .i64 0], .int .i64 0, .int .i64 (11 + (i : Int))]) (by simp [results, Tryz.results91, go_sem, d0, d1, d2, d3, d4, d5, d6]) rfl ⟨?_, ?_⟩
  ·rw [HQ.out]; rfl
  ·exact below_store (below_store (below_store (below_store (below_store (below_store (below_store HB2.out zN _) zN _) zN _) zN _) zN _) zN _) zN _
 | ok q =>
  obtain ⟨mk, p0⟩ := q
  have hml := dec_len HY.out hd0
  rw [HL.out] at hml
  have hmk := dec_lt HY.out hd0
  have HD : Hid (dec l = .ok (mk, p0)) := hd0
  have hsh := shl_n hn
  have h7 := pow7 hn
  obtain ⟨N, hN⟩ : ∃ N : Nat, Hid ((2 : Nat) ^ n = N) := ⟨_, rfl⟩
  rw [hN.out] at hsh h7
  have HF : Hid (R = if N ≤ mk then .error 33 else rd2 l mk p0 n) := by show _ = _; rw [← hR.out]; unfold upk2; rw [hd0]; simp only; rw [hN.out]
  clear hd0 hR
  go_enter Tryz.func91, Tryz.ntmps91
  go_wp2_with fail
  rw [← hW1]
  clear hW1
  refine (getU_ok B1.out zN (HS.out.below B1.out zN) HY.out (HE.out.below B1.out zN) HD.out).mono ?_
  rintro e w2 ⟨rfl, hb2, hb2'⟩
  have HB2 : Hid (Below w.heap.size w w2) := hb2
  have HZ2 : Hid (Arr w2 w.heap.size w.heap.size []) := R1.out.below hb2' zN
  have hg : w.heap.size < w2.heap.size := HZ2.out.lt
  clear hb2 hb2' R1 B1
  by_cases hbig : (N : Int) ≤ (mk : Int)
  ·have HQ : Hid (R = .error 33) := by show _ = _; rw [HF.out, if_pos (by omega)]
   clear HF
   have d0 := Arr.cell HZ2.out 0 (by decide)
   have d1 := Arr.cell HZ2.out 1 (by decide)
   have d2 := Arr.cell HZ2.out 2 (by decide)
   have d3 := Arr.cell HZ2.out 3 (by decide)
   have d4 := Arr.cell HZ2.out 4 (by decide)
   have d5 := Arr.cell HZ2.out 5 (by decide)
   have d6 := Arr.cell HZ2.out 6 (by decide)
   simp only [arrL, List.getElem?_cons_zero, List.getElem?_cons_succ, List.getD_nil] at d0 d1 d2 d3 d4 d5 d6
   have e0 := Arr.frozen HZ2.out 0
   have e1 := Arr.frozen HZ2.out 1
   have e2 := Arr.frozen HZ2.out 2
   have e3 := Arr.frozen HZ2.out 3
   have e4 := Arr.frozen HZ2.out 4
   have e5 := Arr.frozen HZ2.out 5
   have e6 := Arr.frozen HZ2.out 6
   go_wp2
   refine bodyPost_ret (v := .tuple #[.agg #[.int .i64 0, .int .i64 0, .int .i64 0, .int .i64 0, .int .i64 0, .int .i64 0, .int .i64 0], .int .i64 0, .int .i64 33]) (by simp [results, Tryz.results91, go_sem, d0, d1, d2, d3, d4, d5, d6]) rfl ⟨?_, ?_⟩
   ·rw [HQ.out]; rfl
   ·exact below_store (below_store (below_store (below_store (below_store (below_store (below_store HB2.out zN _) zN _) zN _) zN _) zN _) zN _) zN _
  ·have HQ0 : Hid (rd2 l mk p0 n = R) := by show _ = _; rw [HF.out, if_neg (by omega)]
   have A3 : Hid (Arr (w2.alloc (.cells zer7.toArray 140)) w.heap.size w2.heap.size []) := arr_zero w2 (by omega)
   have R3 : Hid (Arr (w2.alloc (.cells zer7.toArray 140)) w.heap.size w.heap.size []) := HZ2.out.on _
   have B3 : Hid (Below w.heap.size w (w2.alloc (.cells zer7.toArray 140))) := HB2.out.more zN _
   unfold zer7 at A3 R3 B3
   clear HF HB2 HZ2
   generalize hG : w2.heap.size = G at *
   go_wp2
   go_loopw [8, 11, 32] (fun q pv i wr => ∃ k p : Nat, i = .int .i64 k ∧ k ≤ n ∧ q = .int .i64 p ∧ p ≤ m ∧ (∃ xs, Hid (rd2 l mk p0 k = .ok (xs, p)) ∧ Hid (Arr wr w.heap.size G xs) ∧ ∃ z : Int, pv = .int .i64 z ∧ Hid (z = last0 xs)) ∧ Hid (Arr wr w.heap.size w.heap.size []) ∧ Hid (Below w.heap.size w wr)) (fun _ _ i _ => n - (intOf i).toNat)
   case atStart => exact ⟨0, p0, rfl, Nat.zero_le _, rfl, by omega, ⟨[], rfl, A3, 0, rfl, rfl⟩, R3, B3⟩
   case round =>
    obtain ⟨k, p, rfl, hk, rfl, hp, ⟨xs, HR, HA, z, rfl, HZL⟩, HZ, HB⟩ := hrel
    clear A3 R3 B3
    have hxs := rd2_len HY.out (by rw [HL.out]; omega) HR.out
    have hzb : 0 ≤ z ∧ z ≤ 1048576 := by rw [HZL.out]; exact last_ok hxs.2.2
    by_cases hlt : k < n
    ·have hbit := bit_n mk k (by omega)
     obtain ⟨vv, cx⟩ : ∃ vv, wr.cell? ⟨G, k, none⟩ = some vv := by
      rw [HA.out.cell k (by omega)]
      exact ⟨_, List.getElem?_eq_getElem (by show k < 7; omega)⟩
     obtain ⟨z9, rfl⟩ : ∃ z9, vv = .int .i64 z9 := arr_int (by rw [← cx, HA.out.cell k (by omega)])
     have fz := HA.out.frozen k
     by_cases hb : mk / 2 ^ k % 2 = 1
     ·rw [hb] at hbit
      rcases hsrc with ⟨rfl, rfl⟩ | ⟨⟨b, off, rfl⟩, hmc, hcm⟩
      ·exact absurd hml.1 (by omega)
      ·unfold maxLen at hcm
       by_cases hpc : p = cap
       ·obtain rfl : p = m := by omega
        subst hpc
        have SD : Hid (Seg wr (some ⟨b, off, none⟩) 0 (l.drop p)) := by
         show Seg _ _ _ _
         rw [List.drop_eq_nil_of_le (by rw [HL.out]; omega)]; exact seg_empty _ _
        have BD : Hid (Byt (l.drop p)) := byt_drop HY.out p
        obtain ⟨en, hen⟩ : ∃ en, Hid (entry z (l.drop p) = en) := ⟨_, rfl⟩
        go_wp2_with fail
        refine (entryFrom_res HB.out zN hzb SD.out BD.out (HE.out.below HB.out zN) hen.out).mono ?_
        rintro e w5 ⟨rfl, hb5, hb5'⟩
        have HB2 : Hid (Below w.heap.size w w5) := hb5
        have HZ2 : Hid (Arr w5 w.heap.size w.heap.size []) := HZ.out.below hb5' zN
        have HA2 : Hid (Arr w5 w.heap.size G xs) := HA.out.below hb5' zN
        have cx5 : w5.cell? ⟨G, k, none⟩ = some (.int .i64 z9) := by rw [hb5'.cell (p := ⟨G, k, none⟩) (cell_lt cx)]; exact cx
        have fz5 := HA2.out.frozen k
        clear hb5 hb5' HZ HA SD cx fz HB
        cases en with
        | error er =>
         have her := entry_err hen.out
         have HQ : Hid (R = .error er) := by show _ = _; rw [← HQ0.out]; exact rd2_err' (rd2_bad HR.out hb (by rw [← HZL.out]; exact hen.out)) (by omega)
         have hne : ((er : Int) != 0) = true := by rw [bne_iff_ne]; omega
         simp only [enY, enM, enE]
         clear HQ0 HR hen
         have d0 := Arr.cell HZ2.out 0 (by decide)
         have d1 := Arr.cell HZ2.out 1 (by decide)
         have d2 := Arr.cell HZ2.out 2 (by decide)
         have d3 := Arr.cell HZ2.out 3 (by decide)
         have d4 := Arr.cell HZ2.out 4 (by decide)
         have d5 := Arr.cell HZ2.out 5 (by decide)
         have d6 := Arr.cell HZ2.out 6 (by decide)
         simp only [arrL, List.getElem?_cons_zero, List.getElem?_cons_succ, List.getD_nil] at d0 d1 d2 d3 d4 d5 d6
         have e0 := Arr.frozen HZ2.out 0
         have e1 := Arr.frozen HZ2.out 1
         have e2 := Arr.frozen HZ2.out 2
         have e3 := Arr.frozen HZ2.out 3
         have e4 := Arr.frozen HZ2.out 4
         have e5 := Arr.frozen HZ2.out 5
         have e6 := Arr.frozen HZ2.out 6
         go_wp2
         refine bodyPost_ret (v := .tuple #[.agg #[.int .i64 0, .int .i64 0, .int .i64 0, .int .i64 0, .int .i64 0, .int .i64 0, .int .i64 0], .int .i64 0, .int .i64 er]) (by simp [results, Tryz.results91, go_sem, d0, d1, d2, d3, d4, d5, d6]) rfl ⟨?_, ?_⟩
         ·rw [HQ.out]; rfl
         ·exact below_store (below_store (below_store (below_store (below_store (below_store (below_store HB2.out zN _) zN _) zN _) zN _) zN _) zN _) zN _
        | ok yq =>
         obtain ⟨y, mm⟩ := yq
         have hel := entry_len BD.out hen.out
         rw [List.length_drop, HL.out] at hel
         omega
       ·have SD : Hid (Seg wr (some ⟨b, off + p, none⟩) (m - p) (l.drop p)) := by
         have := seg_cut (HS.out.below HB.out zN) hp hmc
         rwa [if_neg hpc] at this
        have BD : Hid (Byt (l.drop p)) := byt_drop HY.out p
        obtain ⟨en, hen⟩ : ∃ en, Hid (entry z (l.drop p) = en) := ⟨_, rfl⟩
        go_wp2_with fail
        refine (entryFrom_res HB.out zN hzb SD.out BD.out (HE.out.below HB.out zN) hen.out).mono ?_
        rintro e w5 ⟨rfl, hb5, hb5'⟩
        have HB2 : Hid (Below w.heap.size w w5) := hb5
        have HZ2 : Hid (Arr w5 w.heap.size w.heap.size []) := HZ.out.below hb5' zN
        have HA2 : Hid (Arr w5 w.heap.size G xs) := HA.out.below hb5' zN
        have cx5 : w5.cell? ⟨G, k, none⟩ = some (.int .i64 z9) := by rw [hb5'.cell (p := ⟨G, k, none⟩) (cell_lt cx)]; exact cx
        have fz5 := HA2.out.frozen k
        clear hb5 hb5' HZ HA SD cx fz HB
        cases en with
        | error er =>
         have her := entry_err hen.out
         have HQ : Hid (R = .error er) := by show _ = _; rw [← HQ0.out]; exact rd2_err' (rd2_bad HR.out hb (by rw [← HZL.out]; exact hen.out)) (by omega)
         have hne : ((er : Int) != 0) = true := by rw [bne_iff_ne]; omega
         simp only [enY, enM, enE]
         clear HQ0 HR hen
         have d0 := Arr.cell HZ2.out 0 (by decide)
         have d1 := Arr.cell HZ2.out 1 (by decide)
         have d2 := Arr.cell HZ2.out 2 (by decide)
         have d3 := Arr.cell HZ2.out 3 (by decide)
         have d4 := Arr.cell HZ2.out 4 (by decide)
         have d5 := Arr.cell HZ2.out 5 (by decide)
         have d6 := Arr.cell HZ2.out 6 (by decide)
         simp only [arrL, List.getElem?_cons_zero, List.getElem?_cons_succ, List.getD_nil] at d0 d1 d2 d3 d4 d5 d6
         have e0 := Arr.frozen HZ2.out 0
         have e1 := Arr.frozen HZ2.out 1
         have e2 := Arr.frozen HZ2.out 2
         have e3 := Arr.frozen HZ2.out 3
         have e4 := Arr.frozen HZ2.out 4
         have e5 := Arr.frozen HZ2.out 5
         have e6 := Arr.frozen HZ2.out 6
         go_wp2
         refine bodyPost_ret (v := .tuple #[.agg #[.int .i64 0, .int .i64 0, .int .i64 0, .int .i64 0, .int .i64 0, .int .i64 0, .int .i64 0], .int .i64 0, .int .i64 er]) (by simp [results, Tryz.results91, go_sem, d0, d1, d2, d3, d4, d5, d6]) rfl ⟨?_, ?_⟩
         ·rw [HQ.out]; rfl
         ·exact below_store (below_store (below_store (below_store (below_store (below_store (below_store HB2.out zN _) zN _) zN _) zN _) zN _) zN _) zN _
        | ok yq =>
         obtain ⟨y, mm⟩ := yq
         have hel := entry_len BD.out hen.out
         rw [List.length_drop, HL.out] at hel
         have HR' : Hid (rd2 l mk p0 (k + 1) = .ok (xs ++ [y], p + mm)) := rd2_set HR.out hb (by rw [← HZL.out]; exact hen.out)
         have HA3 : Hid (Arr (w5.setCell ⟨G, k, none⟩ (.int .i64 y)) w.heap.size G (xs ++ [y])) := HA2.out.store hxs.1 (by omega) _
         have HZ3 : Hid (Arr (w5.setCell ⟨G, k, none⟩ (.int .i64 y)) w.heap.size w.heap.size []) := HZ2.out.beside (by omega) _
         have HB3 : Hid (Below w.heap.size w (w5.setCell ⟨G, k, none⟩ (.int .i64 y))) := below_store HB2.out (by omega) _
         have HL3 : Hid (y = last0 (xs ++ [y])) := (last_snoc xs y).symm
         simp only [enY, enM, enE]
         clear HR HA2 HZ2 HB2 hb hen
         go_wp2
         go_roundw
         case rel => exact ⟨k + 1, p + mm, by go_num, by omega, by go_num, by omega, ⟨_, HR', HA3, y, rfl, HL3⟩, HZ3, HB3⟩
         case measure => simp [intOf]; omega
     ·have hb0 : mk / 2 ^ k % 2 = 0 := by omega
      rw [hb0] at hbit
      have HR' : Hid (rd2 l mk p0 (k + 1) = .ok (xs ++ [z], p)) := by show _ = _; rw [HZL.out]; exact rd2_keep HR.out hb
      have HA3 : Hid (Arr (wr.setCell ⟨G, k, none⟩ (.int .i64 z)) w.heap.size G (xs ++ [z])) := HA.out.store hxs.1 (by omega) _
      have HZ3 : Hid (Arr (wr.setCell ⟨G, k, none⟩ (.int .i64 z)) w.heap.size w.heap.size []) := HZ.out.beside (by omega) _
      have HB3 : Hid (Below w.heap.size w (wr.setCell ⟨G, k, none⟩ (.int .i64 z))) := below_store HB.out (by omega) _
      have HL3 : Hid (z = last0 (xs ++ [z])) := (last_snoc xs z).symm
      clear HR HA HZ HB hb hb0
      go_wp2
      go_roundw
      case rel => exact ⟨k + 1, p, by go_num, by omega, rfl, hp, ⟨_, HR', HA3, z, rfl, HL3⟩, HZ3, HB3⟩
      case measure => simp [intOf]; omega
    ·obtain rfl : n = k := by omega
     have HQ : Hid (R = .ok (xs, p)) := by show _ = _; rw [← HQ0.out]; exact HR.out
     clear HR HQ0 hsrc
     obtain ⟨x0, x1, x2, x3, x4, x5, x6, HX⟩ : ∃ x0 x1 x2 x3 x4 x5 x6 : Int, Hid (arrL xs = [.int .i64 x0, .int .i64 x1, .int .i64 x2, .int .i64 x3, .int .i64 x4, .int .i64 x5, .int .i64 x6]) := ⟨_, _, _, _, _, _, _, rfl⟩
     have c0 := Arr.cell HA.out 0 (by decide)
     have c1 := Arr.cell HA.out 1 (by decide)
     have c2 := Arr.cell HA.out 2 (by decide)
     have c3 := Arr.cell HA.out 3 (by decide)
     have c4 := Arr.cell HA.out 4 (by decide)
     have c5 := Arr.cell HA.out 5 (by decide)
     have c6 := Arr.cell HA.out 6 (by decide)
     rw [HX.out] at c0 c1 c2 c3 c4 c5 c6
     simp only [List.getElem?_cons_zero, List.getElem?_cons_succ] at c0 c1 c2 c3 c4 c5 c6
     have d0 := Arr.cell HZ.out 0 (by decide)
     have d1 := Arr.cell HZ.out 1 (by decide)
     have d2 := Arr.cell HZ.out 2 (by decide)
     have d3 := Arr.cell HZ.out 3 (by decide)
     have d4 := Arr.cell HZ.out 4 (by decide)
     have d5 := Arr.cell HZ.out 5 (by decide)
     have d6 := Arr.cell HZ.out 6 (by decide)
     simp only [arrL, List.getElem?_cons_zero, List.getElem?_cons_succ, List.getD_nil] at d0 d1 d2 d3 d4 d5 d6
     have e0 := Arr.frozen HZ.out 0
     have e1 := Arr.frozen HZ.out 1
     have e2 := Arr.frozen HZ.out 2
     have e3 := Arr.frozen HZ.out 3
     have e4 := Arr.frozen HZ.out 4
     have e5 := Arr.frozen HZ.out 5
     have e6 := Arr.frozen HZ.out 6
     go_wp2
     refine bodyPost_ret (v := .tuple #[.agg #[.int .i64 x0, .int .i64 x1, .int .i64 x2, .int .i64 x3, .int .i64 x4, .int .i64 x5, .int .i64 x6], .int .i64 p, .int .i64 0]) (by simp [results, Tryz.results91, go_sem, d0, d1, d2, d3, d4, d5, d6]) rfl ⟨?_, ?_⟩
     ·rw [HQ.out]
      show _ = Ending.returned (.tuple #[.agg (arrL xs).toArray, .int .i64 p, .int .i64 0])
      rw [HX.out]
     ·exact below_store (below_store (below_store (below_store (below_store (below_store (below_store HB.out zN _) zN _) zN _) zN _) zN _) zN _) zN _
open Go.RowKit
def okV (v : Int) : Bool := decide (v = 1 ∨ v = 2)
theorem visVersion_any (v : Int) (w : World) :
  Calls Tryz.prog 76 #[.int .i64 v] w fun e w' => e = .returned (.bool (okV v)) ∧ w = w' := by
 by_cases h1 : v = 1
 ·subst h1
  go_enter Tryz.func76, Tryz.ntmps76
  go_wp2
  go_ret
  exact ⟨rfl, rfl⟩
 ·by_cases h2 : v = 2
  ·subst h2
   go_enter Tryz.func76, Tryz.ntmps76
   go_wp2
   go_ret
   exact ⟨rfl, rfl⟩
  ·have HQ : Hid (okV v = false) := decide_eq_false (by omega)
   have d1 : (v == 1) = false := beq_eq_false_iff_ne.2 h1
   have d2 : (v == 2) = false := beq_eq_false_iff_ne.2 h2
   go_enter Tryz.func76, Tryz.ntmps76
   go_wp2
   go_ret
   exact ⟨by rw [HQ.out]; rfl, rfl⟩
open Go.RowKit Go.Wire1
theorem upk2_len {l : List Int} (hy : Byt l) {n p : Nat} {xs : List Int} (h : upk2 l n = .ok (xs, p)) : xs.length = n ∧ p ≤ l.length ∧ okL xs = true := by
 unfold upk2 at h
 cases hd : dec l with
 | error i => rw [hd] at h; cases h
 | ok q =>
  obtain ⟨mk, p0⟩ := q
  rw [hd] at h
  simp only at h
  split at h
  ·cases h
  ·exact rd2_len hy (dec_len hy hd).2.2 h
theorem upk_len {l : List Int} (hy : Byt l) {v n : Int} {p : Nat} {xs : List Int} (h : upk v n l = .ok (xs, p)) : (xs.length : Int) = n ∧ p ≤ l.length ∧ isVec xs = true := by
 unfold upk at h
 split at h
 ·split at h
  ·rename_i hn
   have key : xs.length = n.toNat ∧ p ≤ l.length ∧ okL xs = true := by
    split at h
    ·exact rd1_len hy h
    ·exact upk2_len hy h
   refine ⟨by omega, key.2.1, ?_⟩
   unfold isVec
   rw [key.2.2, show okW xs.length = true from decide_eq_true (by omega)]; rfl
  ·cases h
 ·cases h
theorem rd1_pos {l : List Int} : ∀ {k e : Nat}, rd1 l k = .error e → 1 ≤ e
 | 0, e, h => by simp [rd1] at h
 | k + 1, e, h => by
  simp only [rd1] at h
  split at h
  ·rename_i hh; simp only [Except.error.injEq] at h; subst h; exact rd1_pos hh
  ·split at h
   ·simp only [Except.error.injEq] at h; omega
   ·split at h
    ·simp only [Except.error.injEq] at h; omega
    ·cases h
theorem rd2_pos {l : List Int} {mk p0 : Nat} : ∀ {k e : Nat}, rd2 l mk p0 k = .error e → 1 ≤ e
 | 0, e, h => by simp [rd2] at h
 | k + 1, e, h => by
  simp only [rd2] at h
  split at h
  ·rename_i hh; simp only [Except.error.injEq] at h; subst h; exact rd2_pos hh
  ·split at h
   ·split at h
    ·rename_i hh; simp only [Except.error.injEq] at h; subst h; have := entry_err hh; omega
    ·cases h
   ·cases h
theorem upk_err {v n : Int} {l : List Int} {e : Nat} (h : upk v n l = .error e) : 1 ≤ e := by
 unfold upk at h
 split at h
 ·split at h
  ·split at h
   ·exact rd1_pos h
   ·unfold upk2 at h
    split at h
    ·simp only [Except.error.injEq] at h; omega
    ·split at h
     ·simp only [Except.error.injEq] at h; omega
     ·exact rd2_pos h
  ·simp only [Except.error.injEq] at h; omega
 ·simp only [Except.error.injEq] at h; omega
theorem unpack_any (v : Int) (n m cap : Nat) (sa : Option Addr) (l : List Int) (a : Nat → Addr) (w : World) (hv : v = 1 ∨ v = 2) (hn : 1 ≤ n ∧ n ≤ 7) (hs : Seg w sa m l) (hsrc : Src sa m cap) (hy : Byt l) (he : Errs w a) :
  Calls Tryz.prog 78 #[.int .i64 v, .int .i64 n, .slice sa m cap] w fun e w' => e = .returned (.tuple #[.agg (arrL (upL (upk v n l))).toArray, .int .i64 (upN (upk v n l) : Int), .int .i64 (upE (upk v n l) : Int)]) ∧ Below w.heap.size w w' := by
 obtain ⟨R, hR⟩ : ∃ R, Hid (upk v n l = R) := ⟨_, rfl⟩
 rw [hR.out]
 have HS : Hid (Seg w sa m l) := hs
 have HE : Hid (Errs w a) := he
 have HY : Hid (Byt l) := hy
 have HC : Hid (Src sa m cap) := hsrc
 obtain ⟨x0, x1, x2, x3, x4, x5, x6, HX⟩ : ∃ x0 x1 x2 x3 x4 x5 x6 : Int, Hid (arrL (upL R) = [.int .i64 x0, .int .i64 x1, .int .i64 x2, .int .i64 x3, .int .i64 x4, .int .i64 x5, .int .i64 x6]) := ⟨_, _, _, _, _, _, _, rfl⟩
 obtain ⟨W1, hW1⟩ : ∃ W1, W1 = w.alloc (.cells zer7.toArray 140) := ⟨_, rfl⟩
 have B1 : Hid (Below w.heap.size w W1) := by rw [hW1]; exact (Below.refl _ _).more zN _
 have R1 : Hid (Arr W1 w.heap.size w.heap.size []) := by rw [hW1]; exact arr_zero w zN
 clear hs he hy hsrc
 unfold zer7 at hW1
 rcases hv with rfl | rfl
 ·have HR : Hid (rd1 l n = R) := by show _ = _; rw [← hR.out]; unfold upk; rw [if_pos (.inl rfl), if_pos (by omega), if_pos rfl, Int.toNat_natCast]
  clear hR
  go_enter Tryz.func78, Tryz.ntmps78
  go_wp2_with fail
  rw [← hW1]
  clear hW1
  refine (unpackPlain_any n m cap sa l a _ hn.2 (HS.out.below B1.out zN) HC.out HY.out (HE.out.below B1.out zN)).mono ?_
  rw [HR.out]
  rintro e w2 ⟨rfl, hb2⟩
  have HB : Hid (Below w.heap.size w w2) := B1.out.on hb2 zN
  have HZ : Hid (Arr w2 w.heap.size w.heap.size []) := R1.out.below hb2 zN
  rw [HX.out]
  clear hb2 R1 B1 HR
  have d0 := Arr.cell HZ.out 0 (by decide)
  have d1 := Arr.cell HZ.out 1 (by decide)
  have d2 := Arr.cell HZ.out 2 (by decide)
  have d3 := Arr.cell HZ.out 3 (by decide)
  have d4 := Arr.cell HZ.out 4 (by decide)
  have d5 := Arr.cell HZ.out 5 (by decide)
  have d6 := Arr.cell HZ.out 6 (by decide)
  simp only [arrL, List.getElem?_cons_zero, List.getElem?_cons_succ, List.getD_nil] at d0 d1 d2 d3 d4 d5 d6
  have e0 := Arr.frozen HZ.out 0
  have e1 := Arr.frozen HZ.out 1
  have e2 := Arr.frozen HZ.out 2
  have e3 := Arr.frozen HZ.out 3
  have e4 := Arr.frozen HZ.out 4
  have e5 := Arr.frozen HZ.out 5
  have e6 := Arr.frozen HZ.out 6
  go_wp2
  refine bodyPost_ret (v := .tuple #[.agg #[.int .i64 x0, .int .i64 x1, .int .i64 x2, .int .i64 x3, .int .i64 x4, .int .i64 x5, .int .i64 x6], .int .i64 (upN R : Int), .int .i64 (upE R : Int)]) (by simp [results, Tryz.results78, go_sem, d0, d1, d2, d3, d4, d5, d6]) rfl ⟨?_, ?_⟩
  ·rw [HX.out]
  ·exact below_store (below_store (below_store (below_store (below_store (below_store (below_store HB.out zN _) zN _) zN _) zN _) zN _) zN _) zN _
 ·have HR : Hid (upk2 l n = R) := by show _ = _; rw [← hR.out]; unfold upk; rw [if_pos (.inr rfl), if_pos (by omega), if_neg (by decide), Int.toNat_natCast]
  clear hR
  go_enter Tryz.func78, Tryz.ntmps78
  go_wp2_with fail
  rw [← hW1]
  clear hW1
  refine (unpackTight_any n m cap sa l a _ hn.2 (HS.out.below B1.out zN) HC.out HY.out (HE.out.below B1.out zN)).mono ?_
  rw [HR.out]
  rintro e w2 ⟨rfl, hb2⟩
  have HB : Hid (Below w.heap.size w w2) := B1.out.on hb2 zN
  have HZ : Hid (Arr w2 w.heap.size w.heap.size []) := R1.out.below hb2 zN
  rw [HX.out]
  clear hb2 R1 B1 HR
  have d0 := Arr.cell HZ.out 0 (by decide)
  have d1 := Arr.cell HZ.out 1 (by decide)
  have d2 := Arr.cell HZ.out 2 (by decide)
  have d3 := Arr.cell HZ.out 3 (by decide)
  have d4 := Arr.cell HZ.out 4 (by decide)
  have d5 := Arr.cell HZ.out 5 (by decide)
  have d6 := Arr.cell HZ.out 6 (by decide)
  simp only [arrL, List.getElem?_cons_zero, List.getElem?_cons_succ, List.getD_nil] at d0 d1 d2 d3 d4 d5 d6
  have e0 := Arr.frozen HZ.out 0
  have e1 := Arr.frozen HZ.out 1
  have e2 := Arr.frozen HZ.out 2
  have e3 := Arr.frozen HZ.out 3
  have e4 := Arr.frozen HZ.out 4
  have e5 := Arr.frozen HZ.out 5
  have e6 := Arr.frozen HZ.out 6
  go_wp2
  refine bodyPost_ret (v := .tuple #[.agg #[.int .i64 x0, .int .i64 x1, .int .i64 x2, .int .i64 x3, .int .i64 x4, .int .i64 x5, .int .i64 x6], .int .i64 (upN R : Int), .int .i64 (upE R : Int)]) (by simp [results, Tryz.results78, go_sem, d0, d1, d2, d3, d4, d5, d6]) rfl ⟨?_, ?_⟩
  ·rw [HX.out]
  ·exact below_store (below_store (below_store (below_store (below_store (below_store (below_store HB.out zN _) zN _) zN _) zN _) zN _) zN _) zN _
theorem copiedA {w1 : World} {g b n : Nat} {cur : List Value} {l : List Int} (h : ∀ k, k < 7 → w1.cell? ⟨b, k, none⟩ = some (.int .i64 (l.getD k 0))) (hl : l.length = n) (h7 : n ≤ 7) (hcl : cur.length = n) (hrow : w1.heap[g]? = some (.cells cur.toArray 3 (0, 0))) {w : World} {B : Nat} (hb : Below B w w1) (hB : B ≤ g) :
  ∃ w2, (Builtin.copy_ #[28, 28] 3 #[.slice (some ⟨g, 0, none⟩) n n, .slice (some ⟨b, 0, none⟩) 7 7]).run Tryz.prog w1 = .ok (.int .i64 n) w2 ∧ MineI w2 B g n n l ∧ Below B w w2 := by
 have hrun := run_copy_row (P := Tryz.prog) w1 28 28 3 3 g 0 n n ⟨b, 0, none⟩ 7 7 cur.toArray 3 (l.map (Value.int .i64)) Tryz.underlying28 Tryz.size3 hrow
  (by rw [List.length_map, hl]; exact (Nat.min_eq_right h7).symm)
  (fun j v hv => by
   rw [List.getElem?_map] at hv
   have hj : j < l.length := by
    rcases Nat.lt_or_ge j l.length with h | h
    ·exact h
    ·rw [List.getElem?_eq_none h] at hv; cases hv
   rw [List.getElem?_eq_getElem hj] at hv
   simp only [Option.map_some, Option.some.injEq] at hv
   subst hv
   rw [add_at, Nat.zero_add, h j (by omega), List.getD, List.getElem?_eq_getElem hj]
   rfl)
  (by rw [List.length_map, List.size_toArray]; omega)
  (fun v hv => by obtain ⟨x, _, rfl⟩ := List.mem_map.1 hv; rfl)
 have e : (cur.toArray.toList.take 0 ++ l.map (Value.int .i64) ++ cur.toArray.toList.drop (0 + (l.map (Value.int .i64)).length)) = l.map (Value.int .i64) := by
  simp [hl, ← hcl]
 have hm : n ≤ maxLen := by unfold maxLen; omega
 rw [e, List.length_map, hl] at hrun
 refine ⟨_, hrun, ?_, below_setRow hb hB _⟩
 have h2 := setRow_heap w1 g cur.toArray (l.map (Value.int .i64)).toArray 3 (0, 0) hrow
 exact ⟨own_of_row h2 hB (by rw [List.length_map]; exact hl) hm, hl, Nat.le_refl _, hm, hB⟩
theorem arrL_at (l : List Int) {k : Nat} (hk : k < 7) : (arrL l)[k]? = some (.int .i64 (l.getD k 0)) := by
 match k, hk with
 | 0, _ => rfl
 | 1, _ => rfl
 | 2, _ => rfl
 | 3, _ => rfl
 | 4, _ => rfl
 | 5, _ => rfl
 | 6, _ => rfl
theorem list_any {cs : Array Value} (l : List Int) (hcs : (arrL l).toArray = cs) (n : Nat) (w : World) (hl : l.length = n) (hn : n ≤ 7) :
  Calls Tryz.prog 79 #[.agg cs, .int .i64 n] w fun e w' => ∃ v, e = .returned v ∧ w'.ownsRow w.heap.size 3 1 v l.length (l.map (Value.int .i64)) ∧ Below w.heap.size w w' := by
 obtain ⟨i0, hi, hz0, hz1, hz2⟩ := info_parts Tryz.info3
 subst hcs
 have HL : Hid (l.length = n) := hl
 have hmx : n ≤ maxLen := by unfold maxLen; omega
 obtain ⟨W1, hW1⟩ : ∃ W1, W1 = w.alloc (.cells (arrL l).toArray 140) := ⟨_, rfl⟩
 have B1 : Hid (Below w.heap.size w W1) := by rw [hW1]; exact (Below.refl _ _).more zN _
 have A1 : Hid (∀ k, k < 7 → W1.cell? ⟨w.heap.size, k, none⟩ = some (.int .i64 (l.getD k 0))) := fun k hk => by
  rw [hW1, cell_new, arrL_at l hk]
 have hs1 : Hid (W1.heap.size = w.heap.size + 1) := by show _ = _; rw [hW1]; simp
 clear hl
 go_enter Tryz.func79, Tryz.ntmps79
 go_wp2_with (first
  | (at_make; rw [← hW1]; clear hW1; refine wpList_make_full _ rfl _ _ 28 rfl W1.heap.size 3 i0 (.int .i64 0) 1 Tryz.underlying28 hi hz0 hz1 .i64 .i64 _ _ n rfl rfl (by omega) (by omega) (by rw [hz2]; omega) hmx zN ?_))
 intro w2 hown hgrow
 have hb : Below W1.heap.size W1 w2 := (Below.refl W1.heap.size W1).grown hgrow zN (fun j hj => by cases hj)
 obtain ⟨cur, hcl, hrow⟩ := made_row hown
 obtain ⟨w3, hrun, hmine, hb3⟩ := copiedA (b := w.heap.size) (l := l) (fun k hk => by rw [hb.cell (p := ⟨w.heap.size, k, none⟩) (by have := hs1.out; show w.heap.size < _; omega)]; exact A1.out k hk) HL.out hn hcl hrow hb zN
 have O1 : Hid (w3.ownsRow w.heap.size 3 1 (.slice (some ⟨W1.heap.size, 0, none⟩) n n) l.length (l.map (Value.int .i64))) := by
  rw [HL.out]; exact own_base hmine.1 (by have := hs1.out; omega)
 have BB : Hid (Below w.heap.size w w3) := B1.out.on hb3 zN
 clear hown hgrow hrow hcl hmine hb3 hb
 go_wp2
 go_ret
 exact ⟨_, rfl, O1.out, BB.out⟩
theorem unpackF_any (v n : Int) (m cap : Nat) (sa : Option Addr) (l : List Int) (a : Nat → Addr) (w : World) (hs : Seg w sa m l) (hsrc : Src sa m cap) (hy : Byt l) (he : Errs w a) :
  Calls Tryz.prog 68 #[.int .i64 v, .int .i64 n, .slice sa m cap] w fun e w' => ∃ u, e = .returned (.tuple #[u, .int .i64 (upN (upk v n l) : Int), .int .i64 (upE (upk v n l) : Int)]) ∧ w'.ownsRow w.heap.size 3 1 u (upL (upk v n l)).length ((upL (upk v n l)).map (Value.int .i64)) ∧ Below w.heap.size w w' := by
 obtain ⟨R, hR⟩ : ∃ R, Hid (upk v n l = R) := ⟨_, rfl⟩
 rw [hR.out]
 have HS : Hid (Seg w sa m l) := hs
 have HE : Hid (Errs w a) := he
 have HY : Hid (Byt l) := hy
 have HC : Hid (Src sa m cap) := hsrc
 clear hs he hy hsrc
 go_enter Tryz.func68, Tryz.ntmps68
 go_wp2_with fail
 refine (visVersion_any v _).mono ?_
 rintro e w' ⟨rfl, rfl⟩
 cases hv : okV v with
 | false =>
  have HQ : Hid (R = .error 2) := by show _ = _; rw [← hR.out]; unfold upk; rw [if_neg (of_decide_eq_false hv)]
  clear hv
  go_wp2
  go_ret3
  exact ⟨_, by rw [HQ.out]; rfl, by rw [HQ.out]; exact World.ownsRow_nil _ _ _ _, Below.refl _ _⟩
 | true =>
  have HV := hide (of_decide_eq_true hv)
  clear hv
  go_wp2_with fail
  refine (isWidth_any n _).mono ?_
  rintro e w' ⟨rfl, rfl⟩
  cases hn : okI n with
  | false =>
   have HQ : Hid (R = .error 3) := by show _ = _; rw [← hR.out]; unfold upk; rw [if_pos HV.out, if_neg (of_decide_eq_false hn)]
   clear hn
   go_wp2
   go_ret3
   exact ⟨_, by rw [HQ.out]; rfl, by rw [HQ.out]; exact World.ownsRow_nil _ _ _ _, Below.refl _ _⟩
  | true =>
   have hn2 := of_decide_eq_true hn
   obtain ⟨nn, rfl⟩ := zI (show 0 ≤ n by omega)
   clear hn
   obtain ⟨x0, x1, x2, x3, x4, x5, x6, HX⟩ : ∃ x0 x1 x2 x3 x4 x5 x6 : Int, Hid (arrL (upL R) = [.int .i64 x0, .int .i64 x1, .int .i64 x2, .int .i64 x3, .int .i64 x4, .int .i64 x5, .int .i64 x6]) := ⟨_, _, _, _, _, _, _, rfl⟩
   go_wp2_with fail
   refine (unpack_any v nn m cap sa l a _ HV.out (by omega) HS.out HC.out HY.out HE.out).mono ?_
   rw [hR.out]
   rintro e w1 ⟨rfl, hb1⟩
   have B1 : Hid (Below w.heap.size w w1) := hb1
   have BA : Hid (Below w.heap.size w (w1.alloc (.cells #[.int .i64 x0, .int .i64 x1, .int .i64 x2, .int .i64 x3, .int .i64 x4, .int .i64 x5, .int .i64 x6] 140))) := hb1.more zN _
   rw [HX.out]
   clear hb1
   cases R with
   | error er =>
    have her : 1 ≤ er := upk_err hR.out
    have hne : ((er : Int) != 0) = true := by rw [bne_iff_ne]; omega
    simp only [upN, upE]
    clear hR
    go_wp2
    go_ret3
    exact ⟨_, rfl, World.ownsRow_nil _ _ _ _, BA.out⟩
   | ok q =>
    obtain ⟨xs, p⟩ := q
    have hlen := upk_len HY.out hR.out
    have HLn : Hid (xs.length = nn) := by show _ = _; omega
    have HX2 : Hid ((arrL xs).toArray = #[.int .i64 x0, .int .i64 x1, .int .i64 x2, .int .i64 x3, .int .i64 x4, .int .i64 x5, .int .i64 x6]) := by show _ = _; have := HX.out; simp only [upL] at this; rw [this]
    have hsz : Hid (w.heap.size ≤ (w1.alloc (.cells #[.int .i64 x0, .int .i64 x1, .int .i64 x2, .int .i64 x3, .int .i64 x4, .int .i64 x5, .int .i64 x6] 140)).heap.size) := BA.out.size
    simp only [upN, upE]
    clear hR hlen HX
    go_wp2_with fail
    refine (list_any xs HX2.out nn _ HLn.out (by omega)).mono ?_
    rintro e w2 ⟨u, rfl, hown, hb2⟩
    have O1 := hide (own_base (B' := w.heap.size) hown hsz.out)
    have BB : Hid (Below w.heap.size w w2) := BA.out.on hb2 zN
    clear hown hb2 hsz
    go_wp2
    go_ret3
    exact ⟨_, rfl, O1.out, BB.out⟩
theorem fit_up {l : List Int} (hy : Byt l) (v n : Int) : Fit (upL (upk v n l)) := by
 cases h : upk v n l with
 | error e => exact fit_of (fun x hx => by cases hx)
 | ok q =>
  obtain ⟨xs, p⟩ := q
  have := (upk_len hy h).2.2
  unfold isVec at this
  simp only [Bool.and_eq_true] at this
  exact fit_ok this.2
end Go.Proofs.YtibfdoggolkljaaGreatDoor
