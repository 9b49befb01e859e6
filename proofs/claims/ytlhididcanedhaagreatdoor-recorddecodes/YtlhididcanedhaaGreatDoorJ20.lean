/- Texts of the proof, joined. -/
import Derived.Test.YtlhididcanedhaaGreatDoorJ19
import Derived.Test.YtlhididcanedhaaGreatDoorRows
import Derived.WalkKit
/- The contract of unpackTight. -/
namespace Go.Proofs.YtlhididcanedhaaGreatDoor
open Go.RowKit Go.Wire1

theorem shl_n {n : Nat} (h : n ≤ 7) : IntKind.u64.wrap ((2 : Int) ^ n) = ((2 ^ n : Nat) : Int) := by
  have h7 := pow7 h
  rw [IntKind.wrap_u64, show ((2 : Int) ^ n) = ((2 ^ n : Nat) : Int) by push_cast; rfl]
  generalize (2 : Nat) ^ n = N at *
  omega
theorem bit_n (mk k : Nat) (h : mk < 18446744073709551616) : bits .and .u64 ((mk : Int) / 2 ^ k) 1 = ((mk / 2 ^ k % 2 : Nat) : Int) := by
  have e : ((mk : Int) / 2 ^ k) = ((mk / 2 ^ k : Nat) : Int) := by
    rw [Int.natCast_ediv, show ((2 ^ k : Nat) : Int) = (2 : Int) ^ k by push_cast; rfl]
  have hl : mk / 2 ^ k < 18446744073709551616 := Nat.lt_of_le_of_lt (Nat.div_le_self _ _) h
  rw [e]
  have := u64_and_nat (mk / 2 ^ k) 1 hl (by decide)
  rw [Nat.and_one_is_mod] at this
  exact this

set_option maxHeartbeats 2000000 in
set_option maxRecDepth 100000 in
theorem unpackTight_any (n m cap : Nat) (sa : Option Addr) (l : List Int) (a : Nat → Addr) (w : World) (hn : n ≤ 7) (hs : Seg w sa m l) (hsrc : Src sa m cap) (hy : Byt l) (he : Errs w a) :
    Calls Tryz.prog 156 #[.int .i64 (n : Int), .slice sa m cap] w fun e w' => e = .returned (.tuple #[.agg (arrL (upL (upk2 l n))).toArray, .int .i64 (upN (upk2 l n) : Int), .int .i64 (upE (upk2 l n) : Int)]) ∧ Below w.heap.size w w' := by
  obtain ⟨R, hR⟩ : ∃ R, Hid (upk2 l n = R) := ⟨_, rfl⟩
  rw [hR.out]
  have HS : Hid (Seg w sa m l) := hs
  have HL : Hid (l.length = m) := hs.1
  have HE : Hid (Errs w a) := he
  have HY : Hid (Byt l) := hy
  obtain ⟨W1, hW1⟩ : ∃ W1, W1 = w.alloc (.cells zer7.toArray 151) := ⟨_, rfl⟩
  have B1 : Hid (Below w.heap.size w W1) := by rw [hW1]; exact (Below.refl _ _).more (Nat.le_refl _) _
  have R1 : Hid (Arr W1 w.heap.size w.heap.size []) := by rw [hW1]; exact arr_zero w (Nat.le_refl _)
  clear hs he hy
  unfold zer7 at hW1
  cases hd0 : dec l with
  | error i =>
    have hi3 := dec_err hd0
    have HQ : Hid (R = .error (11 + i)) := by show _ = _; rw [← hR.out]; unfold upk2; rw [hd0]
    have HD : Hid (dec l = .error i) := hd0
    have hne : ((11 + (i : Int)) != 0) = true := by rw [bne_iff_ne]; omega
    clear hd0 hR
    go_enter Tryz.func156, Tryz.ntmps156
    go_wp2_with fail
    rw [← hW1]
    clear hW1
    refine (getU_bad B1.out (Nat.le_refl _) (HS.out.below B1.out (Nat.le_refl _)) HY.out (HE.out.below B1.out (Nat.le_refl _)) HD.out).mono ?_
    rintro e w2 ⟨rfl, hb2, hb2'⟩
    have HB2 : Hid (Below w.heap.size w w2) := hb2
    have HZ2 : Hid (Arr w2 w.heap.size w.heap.size []) := R1.out.below hb2' (Nat.le_refl _)
    clear hb2 hb2' R1 B1
    have d0 := Arr.cell HZ2.out 0 (by decide)
    have d1 := Arr.cell HZ2.out 1 (by decide)
    have d2 := Arr.cell HZ2.out 2 (by decide)
    have d3 := Arr.cell HZ2.out 3 (by decide)
    have d4 := Arr.cell HZ2.out 4 (by decide)
    have d5 := Arr.cell HZ2.out 5 (by decide)
    have d6 := Arr.cell HZ2.out 6 (by decide)
    simp only [arrL, List.getElem?_cons_zero, List.getElem?_cons_succ, List.getD_nil] at d0 d1 d2 d3 d4 d5 d6
    have e0 := Arr.frozen HZ2.out 0
    have e1 := Arr.frozen HZ2.out 1
    have e2 := Arr.frozen HZ2.out 2
    have e3 := Arr.frozen HZ2.out 3
    have e4 := Arr.frozen HZ2.out 4
    have e5 := Arr.frozen HZ2.out 5
    have e6 := Arr.frozen HZ2.out 6
    go_wp2
    refine bodyPost_ret (v := .tuple #[.agg #[.int .i64 0, .int .i64 0, .int .i64 0, .int .i64 0, .int .i64 0, .int .i64 0, .int .i64 0], .int .i64 0, .int .i64 (11 + (i : Int))]) (by simp [results, Tryz.results156, go_sem, d0, d1, d2, d3, d4, d5, d6]) rfl ⟨?_, ?_⟩
    · rw [HQ.out]; rfl
    · exact below_store (below_store (below_store (below_store (below_store (below_store (below_store HB2.out (Nat.le_refl _) _) (Nat.le_refl _) _) (Nat.le_refl _) _) (Nat.le_refl _) _) (Nat.le_refl _) _) (Nat.le_refl _) _) (Nat.le_refl _) _
  | ok q =>
    obtain ⟨mk, p0⟩ := q
    have hml := dec_len HY.out hd0
    rw [HL.out] at hml
    have hmk := dec_lt HY.out hd0
    have HD : Hid (dec l = .ok (mk, p0)) := hd0
    have hsh := shl_n hn
    have h7 := pow7 hn
    obtain ⟨N, hN⟩ : ∃ N : Nat, Hid ((2 : Nat) ^ n = N) := ⟨_, rfl⟩
    rw [hN.out] at hsh h7
    have HF : Hid (R = if N ≤ mk then .error 33 else rd2 l mk p0 n) := by show _ = _; rw [← hR.out]; unfold upk2; rw [hd0]; simp only; rw [hN.out]
    clear hd0 hR
    go_enter Tryz.func156, Tryz.ntmps156
    go_wp2_with fail
    rw [← hW1]
    clear hW1
    refine (getU_ok B1.out (Nat.le_refl _) (HS.out.below B1.out (Nat.le_refl _)) HY.out (HE.out.below B1.out (Nat.le_refl _)) HD.out).mono ?_
    rintro e w2 ⟨rfl, hb2, hb2'⟩
    have HB2 : Hid (Below w.heap.size w w2) := hb2
    have HZ2 : Hid (Arr w2 w.heap.size w.heap.size []) := R1.out.below hb2' (Nat.le_refl _)
    have hg : w.heap.size < w2.heap.size := HZ2.out.lt
    clear hb2 hb2' R1 B1
    by_cases hbig : (N : Int) ≤ (mk : Int)
    · have HQ : Hid (R = .error 33) := by show _ = _; rw [HF.out, if_pos (by omega)]
      clear HF
      have d0 := Arr.cell HZ2.out 0 (by decide)
      have d1 := Arr.cell HZ2.out 1 (by decide)
      have d2 := Arr.cell HZ2.out 2 (by decide)
      have d3 := Arr.cell HZ2.out 3 (by decide)
      have d4 := Arr.cell HZ2.out 4 (by decide)
      have d5 := Arr.cell HZ2.out 5 (by decide)
      have d6 := Arr.cell HZ2.out 6 (by decide)
      simp only [arrL, List.getElem?_cons_zero, List.getElem?_cons_succ, List.getD_nil] at d0 d1 d2 d3 d4 d5 d6
      have e0 := Arr.frozen HZ2.out 0
      have e1 := Arr.frozen HZ2.out 1
      have e2 := Arr.frozen HZ2.out 2
      have e3 := Arr.frozen HZ2.out 3
      have e4 := Arr.frozen HZ2.out 4
      have e5 := Arr.frozen HZ2.out 5
      have e6 := Arr.frozen HZ2.out 6
      go_wp2
      refine bodyPost_ret (v := .tuple #[.agg #[.int .i64 0, .int .i64 0, .int .i64 0, .int .i64 0, .int .i64 0, .int .i64 0, .int .i64 0], .int .i64 0, .int .i64 33]) (by simp [results, Tryz.results156, go_sem, d0, d1, d2, d3, d4, d5, d6]) rfl ⟨?_, ?_⟩
      · rw [HQ.out]; rfl
      · exact below_store (below_store (below_store (below_store (below_store (below_store (below_store HB2.out (Nat.le_refl _) _) (Nat.le_refl _) _) (Nat.le_refl _) _) (Nat.le_refl _) _) (Nat.le_refl _) _) (Nat.le_refl _) _) (Nat.le_refl _) _
    · have HQ0 : Hid (rd2 l mk p0 n = R) := by show _ = _; rw [HF.out, if_neg (by omega)]
      have A3 : Hid (Arr (w2.alloc (.cells zer7.toArray 151)) w.heap.size w2.heap.size []) := arr_zero w2 (by omega)
      have R3 : Hid (Arr (w2.alloc (.cells zer7.toArray 151)) w.heap.size w.heap.size []) := HZ2.out.on _
      have B3 : Hid (Below w.heap.size w (w2.alloc (.cells zer7.toArray 151))) := HB2.out.more (Nat.le_refl _) _
      unfold zer7 at A3 R3 B3
      clear HF HB2 HZ2
      generalize hG : w2.heap.size = G at *
      go_wp2
      go_loopw [8, 11, 32] (fun q pv i wr => ∃ k p : Nat, i = .int .i64 (k : Int) ∧ k ≤ n ∧ q = .int .i64 (p : Int) ∧ p ≤ m ∧ (∃ xs, Hid (rd2 l mk p0 k = .ok (xs, p)) ∧ Hid (Arr wr w.heap.size G xs) ∧ ∃ z : Int, pv = .int .i64 z ∧ Hid (z = last0 xs)) ∧ Hid (Arr wr w.heap.size w.heap.size []) ∧ Hid (Below w.heap.size w wr)) (fun _ _ i _ => n - (intOf i).toNat)
      case atStart => exact ⟨0, p0, rfl, Nat.zero_le _, rfl, by omega, ⟨[], rfl, A3, 0, rfl, rfl⟩, R3, B3⟩
      case round =>
        obtain ⟨k, p, rfl, hk, rfl, hp, ⟨xs, HR, HA, z, rfl, HZL⟩, HZ, HB⟩ := hrel
        clear A3 R3 B3
        have hxs := rd2_len HY.out (by rw [HL.out]; omega) HR.out
        have hzb : 0 ≤ z ∧ z ≤ 1048576 := by rw [HZL.out]; exact last_ok hxs.2.2
        by_cases hlt : k < n
        · have hbit := bit_n mk k (by omega)
          obtain ⟨vv, cx⟩ : ∃ vv, wr.cell? ⟨G, k, none⟩ = some vv := by
            rw [HA.out.cell k (by omega)]
            exact ⟨_, List.getElem?_eq_getElem (by show k < 7; omega)⟩
          obtain ⟨z9, rfl⟩ : ∃ z9, vv = .int .i64 z9 := arr_int (by rw [← cx, HA.out.cell k (by omega)])
          have fz := HA.out.frozen k
          by_cases hb : mk / 2 ^ k % 2 = 1
          · rw [hb] at hbit
            rcases hsrc with ⟨rfl, rfl⟩ | ⟨⟨b, off, rfl⟩, hmc, hcm⟩
            · exact absurd hml.1 (by omega)
            · unfold maxLen at hcm
              by_cases hpc : p = cap
              · obtain rfl : p = m := by omega
                subst hpc
                have SD : Hid (Seg wr (some ⟨b, off, none⟩) 0 (l.drop p)) := by
                  show Seg _ _ _ _
                  rw [List.drop_eq_nil_of_le (by rw [HL.out]; omega)]; exact seg_empty _ _
                have BD : Hid (Byt (l.drop p)) := byt_drop HY.out p
                obtain ⟨en, hen⟩ : ∃ en, Hid (entry z (l.drop p) = en) := ⟨_, rfl⟩
                go_wp2_with fail
                refine (entryFrom_res HB.out (Nat.le_refl _) hzb SD.out BD.out (HE.out.below HB.out (Nat.le_refl _)) hen.out).mono ?_
                rintro e w5 ⟨rfl, hb5, hb5'⟩
                have HB2 : Hid (Below w.heap.size w w5) := hb5
                have HZ2 : Hid (Arr w5 w.heap.size w.heap.size []) := HZ.out.below hb5' (Nat.le_refl _)
                have HA2 : Hid (Arr w5 w.heap.size G xs) := HA.out.below hb5' (Nat.le_refl _)
                have cx5 : w5.cell? ⟨G, k, none⟩ = some (.int .i64 z9) := by rw [hb5'.cell (p := ⟨G, k, none⟩) (cell_lt cx)]; exact cx
                have fz5 := HA2.out.frozen k
                clear hb5 hb5' HZ HA SD cx fz HB
                cases en with
                | error er =>
                  have her := entry_err hen.out
                  have HQ : Hid (R = .error er) := by show _ = _; rw [← HQ0.out]; exact rd2_err' (rd2_bad HR.out hb (by rw [← HZL.out]; exact hen.out)) (by omega)
                  have hne : ((er : Int) != 0) = true := by rw [bne_iff_ne]; omega
                  simp only [enY, enM, enE]
                  clear HQ0 HR hen
                  have d0 := Arr.cell HZ2.out 0 (by decide)
                  have d1 := Arr.cell HZ2.out 1 (by decide)
                  have d2 := Arr.cell HZ2.out 2 (by decide)
                  have d3 := Arr.cell HZ2.out 3 (by decide)
                  have d4 := Arr.cell HZ2.out 4 (by decide)
                  have d5 := Arr.cell HZ2.out 5 (by decide)
                  have d6 := Arr.cell HZ2.out 6 (by decide)
                  simp only [arrL, List.getElem?_cons_zero, List.getElem?_cons_succ, List.getD_nil] at d0 d1 d2 d3 d4 d5 d6
                  have e0 := Arr.frozen HZ2.out 0
                  have e1 := Arr.frozen HZ2.out 1
                  have e2 := Arr.frozen HZ2.out 2
                  have e3 := Arr.frozen HZ2.out 3
                  have e4 := Arr.frozen HZ2.out 4
                  have e5 := Arr.frozen HZ2.out 5
                  have e6 := Arr.frozen HZ2.out 6
                  go_wp2
                  refine bodyPost_ret (v := .tuple #[.agg #[.int .i64 0, .int .i64 0, .int .i64 0, .int .i64 0, .int .i64 0, .int .i64 0, .int .i64 0], .int .i64 0, .int .i64 (er : Int)]) (by simp [results, Tryz.results156, go_sem, d0, d1, d2, d3, d4, d5, d6]) rfl ⟨?_, ?_⟩
                  · rw [HQ.out]; rfl
                  · exact below_store (below_store (below_store (below_store (below_store (below_store (below_store HB2.out (Nat.le_refl _) _) (Nat.le_refl _) _) (Nat.le_refl _) _) (Nat.le_refl _) _) (Nat.le_refl _) _) (Nat.le_refl _) _) (Nat.le_refl _) _
                | ok yq =>
                  obtain ⟨y, mm⟩ := yq
                  have hel := entry_len BD.out hen.out
                  rw [List.length_drop, HL.out] at hel
                  omega
              · have SD : Hid (Seg wr (some ⟨b, off + p, none⟩) (m - p) (l.drop p)) := by
                  have := seg_cut (HS.out.below HB.out (Nat.le_refl _)) hp hmc
                  rwa [if_neg hpc] at this
                have BD : Hid (Byt (l.drop p)) := byt_drop HY.out p
                obtain ⟨en, hen⟩ : ∃ en, Hid (entry z (l.drop p) = en) := ⟨_, rfl⟩
                go_wp2_with fail
                refine (entryFrom_res HB.out (Nat.le_refl _) hzb SD.out BD.out (HE.out.below HB.out (Nat.le_refl _)) hen.out).mono ?_
                rintro e w5 ⟨rfl, hb5, hb5'⟩
                have HB2 : Hid (Below w.heap.size w w5) := hb5
                have HZ2 : Hid (Arr w5 w.heap.size w.heap.size []) := HZ.out.below hb5' (Nat.le_refl _)
                have HA2 : Hid (Arr w5 w.heap.size G xs) := HA.out.below hb5' (Nat.le_refl _)
                have cx5 : w5.cell? ⟨G, k, none⟩ = some (.int .i64 z9) := by rw [hb5'.cell (p := ⟨G, k, none⟩) (cell_lt cx)]; exact cx
                have fz5 := HA2.out.frozen k
                clear hb5 hb5' HZ HA SD cx fz HB
                cases en with
                | error er =>
                  have her := entry_err hen.out
                  have HQ : Hid (R = .error er) := by show _ = _; rw [← HQ0.out]; exact rd2_err' (rd2_bad HR.out hb (by rw [← HZL.out]; exact hen.out)) (by omega)
                  have hne : ((er : Int) != 0) = true := by rw [bne_iff_ne]; omega
                  simp only [enY, enM, enE]
                  clear HQ0 HR hen
                  have d0 := Arr.cell HZ2.out 0 (by decide)
                  have d1 := Arr.cell HZ2.out 1 (by decide)
                  have d2 := Arr.cell HZ2.out 2 (by decide)
                  have d3 := Arr.cell HZ2.out 3 (by decide)
                  have d4 := Arr.cell HZ2.out 4 (by decide)
                  have d5 := Arr.cell HZ2.out 5 (by decide)
                  have d6 := Arr.cell HZ2.out 6 (by decide)
                  simp only [arrL, List.getElem?_cons_zero, List.getElem?_cons_succ, List.getD_nil] at d0 d1 d2 d3 d4 d5 d6
                  have e0 := Arr.frozen HZ2.out 0
                  have e1 := Arr.frozen HZ2.out 1
                  have e2 := Arr.frozen HZ2.out 2
                  have e3 := Arr.frozen HZ2.out 3
                  have e4 := Arr.frozen HZ2.out 4
                  have e5 := Arr.frozen HZ2.out 5
                  have e6 := Arr.frozen HZ2.out 6
                  go_wp2
                  refine bodyPost_ret (v := .tuple #[.agg #[.int .i64 0, .int .i64 0, .int .i64 0, .int .i64 0, .int .i64 0, .int .i64 0, .int .i64 0], .int .i64 0, .int .i64 (er : Int)]) (by simp [results, Tryz.results156, go_sem, d0, d1, d2, d3, d4, d5, d6]) rfl ⟨?_, ?_⟩
                  · rw [HQ.out]; rfl
                  · exact below_store (below_store (below_store (below_store (below_store (below_store (below_store HB2.out (Nat.le_refl _) _) (Nat.le_refl _) _) (Nat.le_refl _) _) (Nat.le_refl _) _) (Nat.le_refl _) _) (Nat.le_refl _) _) (Nat.le_refl _) _
                | ok yq =>
                  obtain ⟨y, mm⟩ := yq
                  have hel := entry_len BD.out hen.out
                  rw [List.length_drop, HL.out] at hel
                  have HR' : Hid (rd2 l mk p0 (k + 1) = .ok (xs ++ [y], p + mm)) := rd2_set HR.out hb (by rw [← HZL.out]; exact hen.out)
                  have HA3 : Hid (Arr (w5.setCell ⟨G, k, none⟩ (.int .i64 y)) w.heap.size G (xs ++ [y])) := HA2.out.store hxs.1 (by omega) _
                  have HZ3 : Hid (Arr (w5.setCell ⟨G, k, none⟩ (.int .i64 y)) w.heap.size w.heap.size []) := HZ2.out.beside (by omega) _
                  have HB3 : Hid (Below w.heap.size w (w5.setCell ⟨G, k, none⟩ (.int .i64 y))) := below_store HB2.out (by omega) _
                  have HL3 : Hid (y = last0 (xs ++ [y])) := (last_snoc xs y).symm
                  simp only [enY, enM, enE]
                  clear HR HA2 HZ2 HB2 hb hen
                  go_wp2
                  go_roundw
                  case rel => exact ⟨k + 1, p + mm, by go_num, by omega, by go_num, by omega, ⟨_, HR', HA3, y, rfl, HL3⟩, HZ3, HB3⟩
                  case measure => simp [intOf]; omega
          · have hb0 : mk / 2 ^ k % 2 = 0 := by omega
            rw [hb0] at hbit
            have HR' : Hid (rd2 l mk p0 (k + 1) = .ok (xs ++ [z], p)) := by show _ = _; rw [HZL.out]; exact rd2_keep HR.out hb
            have HA3 : Hid (Arr (wr.setCell ⟨G, k, none⟩ (.int .i64 z)) w.heap.size G (xs ++ [z])) := HA.out.store hxs.1 (by omega) _
            have HZ3 : Hid (Arr (wr.setCell ⟨G, k, none⟩ (.int .i64 z)) w.heap.size w.heap.size []) := HZ.out.beside (by omega) _
            have HB3 : Hid (Below w.heap.size w (wr.setCell ⟨G, k, none⟩ (.int .i64 z))) := below_store HB.out (by omega) _
            have HL3 : Hid (z = last0 (xs ++ [z])) := (last_snoc xs z).symm
            clear HR HA HZ HB hb hb0
            go_wp2
            go_roundw
            case rel => exact ⟨k + 1, p, by go_num, by omega, rfl, hp, ⟨_, HR', HA3, z, rfl, HL3⟩, HZ3, HB3⟩
            case measure => simp [intOf]; omega
        · obtain rfl : n = k := by omega
          have HQ : Hid (R = .ok (xs, p)) := by show _ = _; rw [← HQ0.out]; exact HR.out
          clear HR HQ0 hsrc
          obtain ⟨x0, x1, x2, x3, x4, x5, x6, HX⟩ : ∃ x0 x1 x2 x3 x4 x5 x6 : Int, Hid (arrL xs = [.int .i64 x0, .int .i64 x1, .int .i64 x2, .int .i64 x3, .int .i64 x4, .int .i64 x5, .int .i64 x6]) := ⟨_, _, _, _, _, _, _, rfl⟩
          have c0 := Arr.cell HA.out 0 (by decide)
          have c1 := Arr.cell HA.out 1 (by decide)
          have c2 := Arr.cell HA.out 2 (by decide)
          have c3 := Arr.cell HA.out 3 (by decide)
          have c4 := Arr.cell HA.out 4 (by decide)
          have c5 := Arr.cell HA.out 5 (by decide)
          have c6 := Arr.cell HA.out 6 (by decide)
          rw [HX.out] at c0 c1 c2 c3 c4 c5 c6
          simp only [List.getElem?_cons_zero, List.getElem?_cons_succ] at c0 c1 c2 c3 c4 c5 c6
          have d0 := Arr.cell HZ.out 0 (by decide)
          have d1 := Arr.cell HZ.out 1 (by decide)
          have d2 := Arr.cell HZ.out 2 (by decide)
          have d3 := Arr.cell HZ.out 3 (by decide)
          have d4 := Arr.cell HZ.out 4 (by decide)
          have d5 := Arr.cell HZ.out 5 (by decide)
          have d6 := Arr.cell HZ.out 6 (by decide)
          simp only [arrL, List.getElem?_cons_zero, List.getElem?_cons_succ, List.getD_nil] at d0 d1 d2 d3 d4 d5 d6
          have e0 := Arr.frozen HZ.out 0
          have e1 := Arr.frozen HZ.out 1
          have e2 := Arr.frozen HZ.out 2
          have e3 := Arr.frozen HZ.out 3
          have e4 := Arr.frozen HZ.out 4
          have e5 := Arr.frozen HZ.out 5
          have e6 := Arr.frozen HZ.out 6
          go_wp2
          refine bodyPost_ret (v := .tuple #[.agg #[.int .i64 x0, .int .i64 x1, .int .i64 x2, .int .i64 x3, .int .i64 x4, .int .i64 x5, .int .i64 x6], .int .i64 (p : Int), .int .i64 0]) (by simp [results, Tryz.results156, go_sem, d0, d1, d2, d3, d4, d5, d6]) rfl ⟨?_, ?_⟩
          · rw [HQ.out]
            show _ = Ending.returned (.tuple #[.agg (arrL xs).toArray, .int .i64 (p : Int), .int .i64 0])
            rw [HX.out]
          · exact below_store (below_store (below_store (below_store (below_store (below_store (below_store HB.out (Nat.le_refl _) _) (Nat.le_refl _) _) (Nat.le_refl _) _) (Nat.le_refl _) _) (Nat.le_refl _) _) (Nat.le_refl _) _) (Nat.le_refl _) _
end Go.Proofs.YtlhididcanedhaaGreatDoor
/- The contract of isVersion. -/
namespace Go.Proofs.YtlhididcanedhaaGreatDoor
open Go.RowKit

def okV (v : Int) : Bool := decide (v = 1 ∨ v = 2)
set_option maxRecDepth 100000 in
theorem visVersion_any (v : Int) (w : World) :
    Calls Tryz.prog 126 #[.int .i64 v] w fun e w' => e = .returned (.bool (okV v)) ∧ w = w' := by
  by_cases h1 : v = 1
  · subst h1
    go_enter Tryz.func126, Tryz.ntmps126
    go_wp2
    go_ret
    exact ⟨rfl, rfl⟩
  · by_cases h2 : v = 2
    · subst h2
      go_enter Tryz.func126, Tryz.ntmps126
      go_wp2
      go_ret
      exact ⟨rfl, rfl⟩
    · have HQ : Hid (okV v = false) := decide_eq_false (by omega)
      have d1 : (v == 1) = false := beq_eq_false_iff_ne.2 h1
      have d2 : (v == 2) = false := beq_eq_false_iff_ne.2 h2
      go_enter Tryz.func126, Tryz.ntmps126
      go_wp2
      go_ret
      exact ⟨by rw [HQ.out]; rfl, rfl⟩

end Go.Proofs.YtlhididcanedhaaGreatDoor
