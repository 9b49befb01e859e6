/- The statements' helper still. -/
import Derived.Test.YtahpnfbjpdnapaaDkLay
namespace Go.Proofs.Ytahpnfbjpdnapaa
open Go.RowKit Go.Wire1 Go.MuLone

theorem rep_at (l : List Int) (k : Nat) : ∀ i, i < (repL l k).length → (repL l k).getD i 0 = l.getD (i % l.length) 0 := by
  induction k with
  | zero => intro i hi; rw [repL_zero] at hi; exact absurd hi (Nat.not_lt_zero _)
  | succ k ih =>
    intro i hi
    rw [repL_succ] at hi ⊢
    by_cases h : i < (repL l k).length
    · rw [← ih i h]
      simp [List.getElem?_append_left h]
    · have e1 : (repL l k ++ l).getD i 0 = l.getD (i - (repL l k).length) 0 := by simp [List.getElem?_append_right (by omega : (repL l k).length ≤ i)]
      rw [List.length_append] at hi
      rw [e1, repL_len]
      rw [repL_len] at h hi
      congr 1
      have h2 : i - k * l.length < l.length := by omega
      have h3 : i = l.length * k + (i - k * l.length) := by rw [Nat.mul_comm]; omega
      conv => rhs; rw [h3]
      rw [Nat.mul_add_mod, Nat.mod_eq_of_lt h2]
theorem fill_at (l : List Int) (t : Int) (i : Nat) (h : i < (fillL l t).length) : (fillL l t).getD i 0 = l.getD (i % l.length) 0 := rep_at l _ i h
theorem fill_pos (l : List Int) (t : Int) (h : 0 < (fillL l t).length) : 0 < l.length := by
  unfold fillL at h; rw [repL_len] at h
  exact Nat.pos_of_ne_zero (fun e => by rw [e, Nat.mul_zero] at h; exact absurd h (Nat.lt_irrefl 0))

set_option maxHeartbeats 4000000 in
set_option maxRecDepth 100000 in
theorem still_yes (w : World) (g m3 rc n : Nat) (FL : List Int) (kd : Int) (sc : Bool) (ai xi ti : Int) (da : Option Addr) (dn dc : Nat) (dl : List Int) (hg : Seg w (some ⟨g, 0, none⟩) m3 (FL ++ [91, 92, 93])) (hs : Seg w da dn dl) (hFL : FL = fillL dl ti) (hn : FL.length = n) (hm3 : m3 = n + 3) (hn47 : n ≤ 140737488351232) :
    Calls Try.prog 40 #[.slice (some ⟨g, 0, none⟩) m3 rc, .agg #[.int .i64 kd, .bool sc, .int .i64 ai, .int .i64 xi, .int .i64 ti, .slice da dn dc], .int .i64 (n : Int)] w fun r w' => r = .returned (.bool true) ∧ Below w.heap.size w w' := by
  have hA : Below w.heap.size w (w.alloc (.cells #[.int .i64 kd, .bool sc, .int .i64 ai, .int .i64 xi, .int .i64 ti, .slice da dn dc] 33)) := (Below.refl _ _).alloc (Nat.le_refl _) _
  have HA := hide hA
  have hcell : ∀ j, j < m3 → (w.alloc (.cells #[.int .i64 kd, .bool sc, .int .i64 ai, .int .i64 xi, .int .i64 ti, .slice da dn dc] 33)).cell? ⟨g, j, none⟩ = some (.int .u8 ((FL ++ [91, 92, 93]).getD j 0)) := fun j hj => by
    obtain ⟨b9, o9, e9, h9⟩ := (hg.below hA (Nat.le_refl _)).2.2 (by omega)
    cases e9
    have := h9 j hj
    rw [Nat.zero_add] at this
    exact this
  have e0 : (FL ++ [91, 92, 93]).getD n 0 = 91 := by simp [hn]
  have e1 : (FL ++ [91, 92, 93]).getD (n + 1) 0 = 92 := by rw [List.getD, List.getElem?_append_right (by omega), hn, show n + 1 - n = 1 by omega]; rfl
  have e2 : (FL ++ [91, 92, 93]).getD (n + 2) 0 = 93 := by rw [List.getD, List.getElem?_append_right (by omega), hn, show n + 2 - n = 2 by omega]; rfl
  have c0 := hcell n (by omega)
  have c1 := hcell (n + 1) (by omega)
  have c2 := hcell (n + 2) (by omega)
  rw [e0] at c0
  rw [e1] at c1
  rw [e2] at c2
  have HCI : Hid (∀ i, i < n → (w.alloc (.cells #[.int .i64 kd, .bool sc, .int .i64 ai, .int .i64 xi, .int .i64 ti, .slice da dn dc] 33)).cell? ⟨g, i, none⟩ = some (.int .u8 (dl.getD (i % dn) 0)) ∧ 0 < dn) := by
    show ∀ i, _
    intro i hi
    have h1 := hcell i (by omega)
    have h2 : (FL ++ [91, 92, 93]).getD i 0 = FL.getD i 0 := by simp [List.getElem?_append_left (by omega : i < FL.length)]
    rw [h2, hFL, fill_at dl ti i (by rw [← hFL]; omega), hs.1] at h1
    exact ⟨h1, by have := fill_pos dl ti (by rw [← hFL]; omega); rw [hs.1] at this; exact this⟩
  have HS := hide (hs.below hA (Nat.le_refl _))
  have q2 : (n : Int) + 3 = (m3 : Int) := by omega
  have q6 : (n : Int) < (m3 : Int) := by omega
  have q7 : (n : Int) + 1 < (m3 : Int) := by omega
  have q8 : (n : Int) + 2 < (m3 : Int) := by omega
  have HM3 := hide hm3
  clear hcell e0 e1 e2 hA hg hs hFL hn hm3
  go_enter Try.func40, Try.ntmps40
  go_wp2
  go_loopw [7] (fun iv wr => ∃ i q : Nat, iv = .int .i64 (i : Int) ∧ i ≤ n ∧ wr = (w.alloc (.cells #[.int .i64 kd, .bool sc, .int .i64 ai, .int .i64 xi, .int .i64 ti, .slice da dn dc] 33)).drewN q) (fun iv _ => n - (intOf iv).toNat)
  case atStart => exact ⟨0, 0, rfl, Nat.zero_le _, rfl⟩
  case round =>
    obtain ⟨i, q, rfl, hi, rfl⟩ := hrel
    clear c0 c1 c2
    by_cases hlt : i < n
    · obtain ⟨ci, hdn⟩ := HCI.out i hlt
      obtain ⟨r, hr⟩ : ∃ r, r = i % dn := ⟨_, rfl⟩
      have hrl : r < dn := by rw [hr]; exact Nat.mod_lt _ hdn
      rw [← hr] at ci
      obtain ⟨db, dof, rfl, hdc⟩ := HS.out.2.2 hdn
      have cd : (w.alloc (.cells #[.int .i64 kd, .bool sc, .int .i64 ai, .int .i64 xi, .int .i64 ti, .slice (some ⟨db, dof, none⟩) dn dc] 33)).cell? ⟨db, dof + r, none⟩ = some (.int .u8 (dl.getD r 0)) := hdc r hrl
      have cb : (w.alloc (.cells #[.int .i64 kd, .bool sc, .int .i64 ai, .int .i64 xi, .int .i64 ti, .slice (some ⟨db, dof, none⟩) dn dc] 33)).cell? ⟨w.heap.size, 5, none⟩ = some (.slice (some ⟨db, dof, none⟩) dn dc) := by rw [World.cell?_alloc_at _ _ _ _ rfl]; rfl
      have hmod : Int.tmod (i : Int) (dn : Int) = (r : Int) := by rw [Int.tmod_eq_emod_of_nonneg (by omega), hr]; omega
      have hd0 : ¬ ((dn : Int) = 0) := by omega
      have hd1 : ((dn : Int) == 0) = false := by simpa using hd0
      have hrI : (r : Int) < (dn : Int) := by omega
      have hiI : (i : Int) < (m3 : Int) := by have := HM3.out; omega
      have hiN : i < m3 := by have := HM3.out; omega
      clear hr hdc
      generalize dl.getD r 0 = z at *
      generalize w.alloc (.cells #[.int .i64 kd, .bool sc, .int .i64 ai, .int .i64 xi, .int .i64 ti, .slice (some ⟨db, dof, none⟩) dn dc] 33) = W at *
      go_wp2
      go_quiet (fail)
      go_wp2
      go_roundw
      case rel => exact ⟨i + 1, _, by go_num, by omega, rfl⟩
      case measure => simp [intOf]; omega
    · go_wp2
      go_ret
      exact ⟨rfl, below_drewN' HA.out q⟩
end Go.Proofs.Ytahpnfbjpdnapaa
