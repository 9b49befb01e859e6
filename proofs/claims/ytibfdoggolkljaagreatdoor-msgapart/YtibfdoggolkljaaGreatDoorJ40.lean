import Derived.Test.YtibfdoggolkljaaGreatDoorJ33
import Derived.Test.YtibfdoggolkljaaGreatDoorJ37
namespace Go.Wire1
open Go.RowKit
theorem take_snocI {l : List Int} {k : Nat} (h : k < l.length) : l.take (k + 1) = l.take k ++ [l.getD k 0] := take_next h
theorem last_take {l : List Int} {k : Nat} (h : k ≤ l.length) : last0 (l.take k) = prev l k := by
 cases k with
 | zero => rfl
 | succ k => rw [take_snocI (by omega), last_snoc, prev_succ]
theorem plainK_split (l : List Int) {k N : Nat} (h : k ≤ N) : ∃ s, plainK l N = plainK l k ++ s := by
 induction N with
 | zero => exact ⟨[], by rw [show k = 0 by omega]; simp⟩
 | succ N ih =>
  by_cases e : k = N + 1
  ·exact ⟨[], by rw [e]; simp⟩
  ·obtain ⟨s, hs⟩ := ih (by omega)
   exact ⟨s ++ enc (l.getD N 0).toNat, by simp only [plainK]; rw [hs, List.append_assoc]⟩
theorem plainK_at (l : List Int) {k N : Nat} (h : k < N) : ∃ s, plainK l N = plainK l k ++ (enc (l.getD k 0).toNat ++ s) := by
 obtain ⟨s, hs⟩ := plainK_split l (show k + 1 ≤ N by omega)
 exact ⟨s, by rw [hs]; simp only [plainK, List.append_assoc]⟩
theorem diffK_split (l : List Int) {k N : Nat} (h : k ≤ N) : ∃ s, diffK l N = diffK l k ++ s := by
 induction N with
 | zero => exact ⟨[], by rw [show k = 0 by omega]; simp⟩
 | succ N ih =>
  by_cases e : k = N + 1
  ·exact ⟨[], by rw [e]; simp⟩
  ·obtain ⟨s, hs⟩ := ih (by omega)
   exact ⟨s ++ (if l.getD N 0 = prev l N then [] else enc (zig (l.getD N 0 - prev l N))), by simp only [diffK]; rw [hs, List.append_assoc]⟩
theorem diffK_at (l : List Int) {k N : Nat} (h : k < N) (hd : ¬ l.getD k 0 = prev l k) : ∃ s, diffK l N = diffK l k ++ (enc (zig (l.getD k 0 - prev l k)) ++ s) := by
 obtain ⟨s, hs⟩ := diffK_split l (show k + 1 ≤ N by omega)
 exact ⟨s, by rw [hs, (maskK_diff hd).2, List.append_assoc]⟩
theorem maskK_split (l : List Int) {k N : Nat} (h : k ≤ N) : ∃ t, maskK l N = maskK l k + 2 ^ k * t := by
 induction N with
 | zero => exact ⟨0, by rw [show k = 0 by omega]; simp⟩
 | succ N ih =>
  by_cases e : k = N + 1
  ·exact ⟨0, by rw [e]; simp⟩
  ·obtain ⟨t, ht⟩ := ih (by omega)
   by_cases hd : l.getD N 0 = prev l N
   ·exact ⟨t, by rw [(maskK_same hd).1, ht]⟩
   ·refine ⟨t + 2 ^ (N - k), ?_⟩
    rw [(maskK_diff hd).1, ht, Nat.mul_add, ← Nat.pow_add, show k + (N - k) = N by omega, Nat.add_assoc]
theorem mask_bit (l : List Int) {k N : Nat} (h : k < N) : maskK l N / 2 ^ k % 2 = if l.getD k 0 = prev l k then 0 else 1 := by
 obtain ⟨t, ht⟩ := maskK_split l (show k + 1 ≤ N by omega)
 have hlt := maskK_lt l k
 have hp : 0 < 2 ^ k := Nat.two_pow_pos k
 rw [ht, Nat.pow_succ, Nat.mul_assoc]
 by_cases hd : l.getD k 0 = prev l k
 ·rw [(maskK_same hd).1, if_pos hd, Nat.add_mul_div_left _ _ hp, Nat.div_eq_of_lt hlt]; omega
 ·rw [(maskK_diff hd).1, if_neg hd, Nat.add_assoc, show 2 ^ k + 2 ^ k * (2 * t) = 2 ^ k * (1 + 2 * t) by rw [Nat.mul_add, Nat.mul_one], Nat.add_mul_div_left _ _ hp, Nat.div_eq_of_lt hlt]; omega
theorem drop_app (x y : List Int) : (x ++ y).drop x.length = y := by simp
theorem entry_back {q d : Int} (hq : 0 ≤ q ∧ q ≤ 1048576) (hd : ¬ d = 0) (h1 : 0 ≤ q + d) (h2 : q + d ≤ 1048576) (s : List Int) : entry q (enc (zig d) ++ s) = .ok (q + d, (enc (zig d)).length) := by
 unfold entry
 rw [dec_enc (zig d) s (zig_lt _ (by omega) (by omega))]
 simp only [unzig_zig]
 rw [if_neg hd, if_neg (by omega)]
theorem rd1_back {l : List Int} (ho : okL l = true) (tail : List Int) {N : Nat} (hN : N ≤ l.length) : ∀ k, k ≤ N → rd1 (plainK l N ++ tail) k = .ok (l.take k, (plainK l k).length)
 | 0, _ => rfl
 | k + 1, hk => by
  have ih := rd1_back ho tail hN k (by omega)
  have hx := okL_at ho k
  obtain ⟨s, hs⟩ := plainK_at l (show k < N by omega)
  have hd : dec ((plainK l N ++ tail).drop (plainK l k).length) = .ok ((l.getD k 0).toNat, (enc (l.getD k 0).toNat).length) := by
   rw [hs, List.append_assoc, drop_app, List.append_assoc, dec_enc _ _ (by omega)]
  rw [rd1_step ih hd (by omega), take_snocI (by omega)]
  congr 2
  ·congr 2; omega
  ·simp only [plainK, zL]
theorem rd2_back {l : List Int} (ho : okL l = true) (tail : List Int) {N M : Nat} (hN : N ≤ l.length) (hM : maskK l N = M) : ∀ k, k ≤ N → rd2 (enc M ++ (diffK l N ++ tail)) M (enc M).length k = .ok (l.take k, (enc M).length + (diffK l k).length)
 | 0, _ => by simp [rd2, diffK]
 | k + 1, hk => by
  have ih := rd2_back ho tail hN hM k (by omega)
  have hx := okL_at ho k
  have hp := prev_ok ho k
  have hb := mask_bit l (show k < N by omega)
  rw [hM] at hb
  by_cases hd : l.getD k 0 = prev l k
  ·rw [if_pos hd] at hb
   rw [rd2_keep ih (by omega), last_take (by omega), take_snocI (by omega), hd, (maskK_same hd).2]
  ·rw [if_neg hd] at hb
   obtain ⟨s, hs⟩ := diffK_at l (show k < N by omega) hd
   have he : entry (last0 (l.take k)) ((enc M ++ (diffK l N ++ tail)).drop ((enc M).length + (diffK l k).length)) = .ok (prev l k + (l.getD k 0 - prev l k), (enc (zig (l.getD k 0 - prev l k))).length) := by
    rw [last_take (by omega), ← List.drop_drop, drop_app, hs, List.append_assoc, drop_app, List.append_assoc]
    exact entry_back hp (by omega) (by omega) (by omega) _
   rw [rd2_set ih hb he, take_snocI (by omega), show prev l k + (l.getD k 0 - prev l k) = l.getD k 0 by omega, (maskK_diff hd).2, zL, Nat.add_assoc]
theorem vec_parts {l : List Int} (h : isVec l = true) : okL l = true ∧ 1 ≤ l.length ∧ l.length ≤ 7 := by
 unfold isVec at h
 simp only [Bool.and_eq_true] at h
 have := of_decide_eq_true h.1
 exact ⟨h.2, this.1, this.2⟩
theorem packE_vec {v : Int} {l : List Int} (hv : v = 1 ∨ v = 2) (h : isVec l = true) : packE v l = 0 := by
 have hp := vec_parts h
 unfold packE fault
 rw [if_pos hv, show okW l.length = true from decide_eq_true ⟨hp.2.1, hp.2.2⟩, hp.1]; rfl
theorem packR_vec {v : Int} {l : List Int} (hv : v = 1 ∨ v = 2) (h : isVec l = true) : packR v l = packL v l := by
 unfold packR; rw [if_pos (packE_vec hv h)]
theorem mask_small {l : List Int} (h : isVec l = true) : maskK l l.length < 128 := by
 have := vec_parts h
 have h1 := maskK_lt l l.length
 have h2 := pow7 this.2.2
 omega
theorem upk_back {v : Int} {l tail : List Int} (hv : v = 1 ∨ v = 2) (h : isVec l = true) : upk v l.length (packR v l ++ tail) = .ok (l, (packR v l).length) := by
 have hp := vec_parts h
 rw [packR_vec hv h]
 unfold upk packL
 rw [if_pos hv, if_pos (by omega), Int.toNat_natCast]
 rcases hv with rfl | rfl
 ·rw [if_pos rfl, if_pos rfl, rd1_back hp.1 tail zN _ zN, List.take_length]
 ·rw [if_neg (by decide), if_neg (by decide)]
  have hm := mask_small h
  have hlt := maskK_lt l l.length
  unfold upk2 Go.Wire1.tight
  rw [List.append_assoc, dec_enc _ _ (by omega)]
  simp only
  rw [if_neg (by omega), rd2_back hp.1 tail zN rfl _ zN, List.take_length, zL]
theorem drop_take_mid {x e s : List Int} {k : Nat} : ((x ++ (e ++ s)).take k).drop x.length = (e ++ s).take (k - x.length) := by
 rw [List.drop_take, drop_app]
theorem take_whole {e s : List Int} {k : Nat} (h : e.length ≤ k) : ∃ s', (e ++ s).take k = e ++ s' := ⟨s.take (k - e.length), by rw [List.take_append, List.take_of_length_le h]⟩
theorem take_part {e s : List Int} {k : Nat} (h : k < e.length) : (e ++ s).take k = e.take k := by rw [List.take_append, show k - e.length = 0 by omega]; simp
theorem rd1_cut {l : List Int} (ho : okL l = true) {N k : Nat} (hN : N ≤ l.length) : ∀ j, j ≤ N → rd1 ((plainK l N).take k) j = if (plainK l j).length ≤ k then .ok (l.take j, (plainK l j).length) else .error 11
 | 0, _ => by simp [rd1, plainK]
 | j + 1, hj => by
  have ih := rd1_cut ho hN (k := k) j (by omega)
  have hx := okL_at ho j
  obtain ⟨s, hs⟩ := plainK_at l (show j < N by omega)
  have hl : (plainK l (j + 1)).length = (plainK l j).length + (enc (l.getD j 0).toNat).length := by simp only [plainK, zL]
  by_cases h1 : (plainK l j).length ≤ k
  ·rw [if_pos h1] at ih
   by_cases h2 : (plainK l (j + 1)).length ≤ k
   ·rw [if_pos h2]
    have hd : dec (((plainK l N).take k).drop (plainK l j).length) = .ok ((l.getD j 0).toNat, (enc (l.getD j 0).toNat).length) := by
     rw [hs, drop_take_mid]
     obtain ⟨s', hs'⟩ := take_whole (e := enc (l.getD j 0).toNat) (s := s) (k := k - (plainK l j).length) (by omega)
     rw [hs', dec_enc _ _ (by omega)]
    rw [rd1_step ih hd (by omega), take_snocI (by omega), hl]
    congr 2
    congr 2; omega
   ·rw [if_neg h2]
    have hd : dec (((plainK l N).take k).drop (plainK l j).length) = .error 0 := by
     rw [hs, drop_take_mid, take_part (by omega), dec_cut _ _ (by omega)]
    rw [rd1_bad ih hd]
  ·rw [if_neg h1] at ih
   rw [if_neg (by omega), rd1_err' ih (by omega)]
theorem rd2_cut {l : List Int} (ho : okL l = true) {N M k : Nat} (hN : N ≤ l.length) (hM : maskK l N = M) (hk : (enc M).length ≤ k) : ∀ j, j ≤ N → rd2 ((enc M ++ diffK l N).take k) M (enc M).length j = if (enc M).length + (diffK l j).length ≤ k then .ok (l.take j, (enc M).length + (diffK l j).length) else .error 11
 | 0, _ => by simp [rd2, diffK, hk]
 | j + 1, hj => by
  have ih := rd2_cut ho hN hM hk j (by omega)
  have hx := okL_at ho j
  have hp := prev_ok ho j
  have hb := mask_bit l (show j < N by omega)
  rw [hM] at hb
  by_cases hd : l.getD j 0 = prev l j
  ·rw [if_pos hd] at hb
   rw [(maskK_same hd).2]
   by_cases h1 : (enc M).length + (diffK l j).length ≤ k
   ·rw [if_pos h1] at ih ⊢
    rw [rd2_keep ih (by omega), last_take (by omega), take_snocI (by omega), hd]
   ·rw [if_neg h1] at ih ⊢
    exact rd2_err' ih (by omega)
  ·rw [if_neg hd] at hb
   obtain ⟨s, hs⟩ := diffK_at l (show j < N by omega) hd
   rw [(maskK_diff hd).2, zL]
   have hcut : ((enc M ++ diffK l N).take k).drop ((enc M).length + (diffK l j).length) = (enc (zig (l.getD j 0 - prev l j)) ++ s).take (k - ((enc M).length + (diffK l j).length)) := by
    rw [hs, ← List.append_assoc, List.drop_take, show (enc M).length + (diffK l j).length = (enc M ++ diffK l j).length by rw [zL], drop_app]
   by_cases h1 : (enc M).length + (diffK l j).length ≤ k
   ·rw [if_pos h1] at ih
    by_cases h2 : (enc M).length + ((diffK l j).length + (enc (zig (l.getD j 0 - prev l j))).length) ≤ k
    ·rw [if_pos h2]
     have he : entry (last0 (l.take j)) (((enc M ++ diffK l N).take k).drop ((enc M).length + (diffK l j).length)) = .ok (prev l j + (l.getD j 0 - prev l j), (enc (zig (l.getD j 0 - prev l j))).length) := by
      rw [last_take (by omega), hcut]
      obtain ⟨s', hs'⟩ := take_whole (e := enc (zig (l.getD j 0 - prev l j))) (s := s) (k := k - ((enc M).length + (diffK l j).length)) (by omega)
      rw [hs']
      exact entry_back hp (by omega) (by omega) (by omega) _
     rw [rd2_set ih hb he, take_snocI (by omega), show prev l j + (l.getD j 0 - prev l j) = l.getD j 0 by omega, Nat.add_assoc]
    ·rw [if_neg h2]
     have he : entry (last0 (l.take j)) (((enc M ++ diffK l N).take k).drop ((enc M).length + (diffK l j).length)) = .error 11 := by
      rw [hcut, take_part (by omega)]
      unfold entry
      rw [dec_cut _ _ (by omega)]
     rw [rd2_bad ih hb he]
   ·rw [if_neg h1] at ih
    rw [if_neg (by omega), rd2_err' ih (by omega)]
theorem upk_cut {v : Int} {l : List Int} (hv : v = 1 ∨ v = 2) (h : isVec l = true) {k : Nat} (hk : k < (packR v l).length) : upk v l.length ((packR v l).take k) = .error 11 := by
 have hp := vec_parts h
 rw [packR_vec hv h] at hk ⊢
 unfold upk
 rw [if_pos hv, if_pos (by omega), Int.toNat_natCast]
 unfold packL at hk ⊢
 rcases hv with rfl | rfl
 ·rw [if_pos rfl] at hk ⊢
  rw [if_pos rfl, rd1_cut hp.1 zN _ zN, if_neg (by omega)]
 ·rw [if_neg (by decide)] at hk ⊢
  rw [if_neg (by decide)]
  have hm := mask_small h
  have hlt := maskK_lt l l.length
  have h1 : (enc (maskK l l.length)).length = 1 := by rw [enc1 hm]; rfl
  unfold Go.Wire1.tight at hk ⊢
  rw [zL] at hk
  unfold upk2
  by_cases h0 : k = 0
  ·subst h0; rfl
  ·obtain ⟨s', hs'⟩ := take_whole (e := enc (maskK l l.length)) (s := diffK l l.length) (k := k) (by omega)
   have hd : dec ((enc (maskK l l.length) ++ diffK l l.length).take k) = .ok (maskK l l.length, (enc (maskK l l.length)).length) := by rw [hs', dec_enc _ _ (by omega)]
   rw [hd]
   simp only
   rw [if_neg (by omega), rd2_cut hp.1 zN rfl (by omega) _ zN, if_neg (by omega)]
theorem take_add (b : List Int) (p m : Nat) : b.take (p + m) = b.take p ++ (b.drop p).take m := by rw [List.take_add]
end Go.Wire1
namespace Go.Proofs.YtibfdoggolkljaaGreatDoor
open Go.RowKit Go.Wire1
theorem unl_zero {b : Bool} {e : Int} (he : e ≠ 0) : unl b e = 0 ↔ b = true := by
 unfold unl
 cases b <;> simp [he]
theorem orL_cons {x : Int} {r : List Int} : orL (x :: r) = 0 ↔ x = 0 ∧ orL r = 0 := by
 rw [orL]
 by_cases h : x = 0
 ·rw [if_pos h]; simp [h]
 ·rw [if_neg h]; simp [h]
theorem orL_nil : orL [] = 0 := rfl
theorem val_inst {n row num : Int} (h : instB n row num = true) : 0 ≤ row ∧ row < n ∧ 1 ≤ num ∧ num ≤ 1048576 := by
 unfold instB at h
 simpa only [Bool.and_eq_true, decide_eq_true_eq] using h
theorem val_bal {n row x y : Int} (h : balB n row x y = true) : 0 ≤ x ∧ x ≤ 65535 ∧ 0 ≤ y ∧ y < n ∧ (0 < x ∨ y = row) := by
 unfold balB at h
 simpa only [Bool.and_eq_true, Bool.or_eq_true, decide_eq_true_eq, beq_iff_eq] using h
theorem val_ball {k : Nat} {n row x y : Int} (h : ballB k n row x y = true) : balB n row x y = true ∧ (rndM.getD k 0 : Int) ≤ x := by
 unfold ballB at h
 simpa only [Bool.and_eq_true, decide_eq_true_eq] using h
theorem val_deps {n : Int} {noop : Bool} {l : List Int} (h : depsB n noop l = true) (hn : 1 ≤ n ∧ n ≤ 7) : (l.length : Int) = n ∧ isVec l = true ∧ ∀ d ∈ l, 0 ≤ d ∧ d ≤ if noop then 0 else 1048576 := by
 unfold depsB at h
 simp only [Bool.and_eq_true, beq_iff_eq, List.all_eq_true] at h
 obtain ⟨h1, h2⟩ := h
 have h3 : ∀ d ∈ l, 0 ≤ d ∧ d ≤ if noop then 0 else 1048576 := fun d hd => by
  have := h2 d hd
  unfold depP at this
  simp only [Bool.and_eq_true, decide_eq_true_eq] at this
  exact this
 refine ⟨h1, ?_, h3⟩
 unfold isVec
 have e1 : okW l.length = true := by unfold okW; simp; omega
 have e2 : okL l = true := by
  unfold okL
  rw [List.all_eq_true]
  intro d hd
  have := h3 d hd
  unfold okE
  cases noop <;> simp at this ⊢ <;> omega
 rw [e1, e2]; rfl
theorem diffK_ten (l : List Int) (k : Nat) : (diffK l k).length ≤ 10 * k := by
 induction k with
 | zero => simp [diffK]
 | succ k ih =>
  simp only [diffK, zL]
  split
  ·simp; omega
  ·have := enc_ten (zig (l.getD k 0 - prev l k)); omega
theorem packR_len {v : Int} {l : List Int} (hv : v = 1 ∨ v = 2) (h : isVec l = true) : 0 < (packR v l).length ∧ (packR v l).length ≤ 1000 := by
 rw [packR_vec hv h]
 unfold isVec at h
 rw [Bool.and_eq_true] at h
 have hw : 1 ≤ l.length ∧ l.length ≤ 7 := by have := h.1; unfold okW at this; simpa using this
 unfold packL
 split
 ·have := plainK_len h.2 l.length; omega
 ·unfold Wire1.tight
  rw [zL]
  have := encF_pos (maskK l l.length); have := enc_ten (maskK l l.length); have := diffK_ten l l.length
  omega
theorem val_call {v n : Int} (h : callF v n = 0) : (v = 1 ∨ v = 2) ∧ 1 ≤ n ∧ n ≤ 7 := by
 unfold callF at h
 split at h
 ·rename_i h1
  split at h
  ·rename_i h2; exact ⟨h1, h2⟩
  ·cases h
 ·cases h
theorem val_load {v n : Int} {may : Bool} {c : Cm} {sq : Int} {dl : List Int} (h : loadF v n may c sq dl = 0) : chk v c = 0 ∧ (may || !(c.kind == 0)) = true ∧ seqB (c.kind == 0) sq = true ∧ depsB n (c.kind == 0) dl = true := by
 unfold loadF at h
 simp only [orL_cons, orL_nil, and_true, unl_zero (show (57 : Int) ≠ 0 by decide), unl_zero (show (55 : Int) ≠ 0 by decide), unl_zero (show (56 : Int) ≠ 0 by decide)] at h
 exact ⟨by omega, h.2.1, h.2.2.1, h.2.2.2⟩
theorem val_seq {noop : Bool} {sq : Int} (h : seqB noop sq = true) : 0 ≤ sq ∧ sq ≤ 1073741824 := by
 unfold seqB at h
 cases noop <;> simp at h <;> omega
def msP (v : Int) (m : Ms) : Nat → List (List Int)
 | 1 => [staP v m.kind.toNat m.row.toNat m.num.toNat, balP v m.x.toNat m.y.toNat, lodP v m.c m.sq.toNat m.dl]
 | 2 => [staP v m.kind.toNat m.row.toNat m.num.toNat, balP v m.x.toNat m.y.toNat, attP v m.sq.toNat m.dl]
 | 3 => [staP v m.kind.toNat m.row.toNat m.num.toNat, balP v m.x.toNat m.y.toNat]
 | 4 => [staP v m.kind.toNat m.row.toNat m.num.toNat, lodP v m.c m.sq.toNat m.dl]
 | 5 => [staP v m.kind.toNat m.row.toNat m.num.toNat, balP v m.x.toNat m.y.toNat, votP v 0 false]
 | 6 => [staP v m.kind.toNat m.row.toNat m.num.toNat, balP v m.x.toNat m.y.toNat, votP v m.st.toNat m.sm, balP v m.p.toNat m.q.toNat, lodP v m.c m.sq.toNat m.dl]
 | 7 => [staP v m.kind.toNat m.row.toNat m.num.toNat, balP v m.x.toNat m.y.toNat, balP v m.p.toNat m.q.toNat]
 | _ => [staP v m.kind.toNat m.row.toNat m.num.toNat]
def msB (v : Int) (m : Ms) : List Int := (msP v m (shK m)).flatten
theorem val_msg {v n : Int} {m : Ms} (h : chkM v n m = 0) : callF v n = 0 ∧ isMK v m.kind = true ∧ extraM m = false ∧ shF v n m (shK m) = 0 := by
 unfold chkM at h
 split at h
 ·rename_i h1
  split at h
  ·rename_i h2
   split at h
   ·cases h
   ·rename_i h3; exact ⟨h1, h2, by simpa using h3, h⟩
  ·cases h
 ·rename_i h1; exact absurd h h1
theorem shF_inst {v n : Int} {m : Ms} {k : Nat} (h : shF v n m k = 0) : instB n m.row m.num = true := by
 have h52 : (52 : Int) ≠ 0 := by decide
 match k with
 | 0 => exact (unl_zero h52).1 h
 | 1 => exact (unl_zero h52).1 (orL_cons.1 h).1
 | 2 => exact (unl_zero h52).1 (orL_cons.1 h).1
 | 3 => exact (unl_zero h52).1 (orL_cons.1 h).1
 | 4 => exact (unl_zero h52).1 (orL_cons.1 h).1
 | 5 => exact (unl_zero h52).1 (orL_cons.1 h).1
 | 6 => exact (unl_zero h52).1 (orL_cons.1 h).1
 | 7 => exact (unl_zero h52).1 (orL_cons.1 h).1
 | k + 8 => exact (unl_zero h52).1 h
def hasB : Nat → Bool
 | 1 => true
 | 2 => true
 | 3 => true
 | 5 => true
 | 6 => true
 | 7 => true
 | _ => false
theorem shF_ball {v n : Int} {m : Ms} {k : Nat} (h : shF v n m k = 0) (hb : hasB k = true) : ballB m.kind.toNat n m.row m.x m.y = true := by
 have h53 : (53 : Int) ≠ 0 := by decide
 match k, hb with
 | 1, _ => exact (unl_zero h53).1 (orL_cons.1 (orL_cons.1 h).2).1
 | 2, _ => exact (unl_zero h53).1 (orL_cons.1 (orL_cons.1 h).2).1
 | 3, _ => exact (unl_zero h53).1 (orL_cons.1 (orL_cons.1 h).2).1
 | 5, _ => exact (unl_zero h53).1 (orL_cons.1 (orL_cons.1 h).2).1
 | 6, _ => exact (unl_zero h53).1 (orL_cons.1 (orL_cons.1 h).2).1
 | 7, _ => exact (unl_zero h53).1 (orL_cons.1 (orL_cons.1 h).2).1
end Go.Proofs.YtibfdoggolkljaaGreatDoor
