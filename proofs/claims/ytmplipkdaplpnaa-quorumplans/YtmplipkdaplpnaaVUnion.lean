/- The contract of vector's Union. -/
import Derived.Test.YtmplipkdaplpnaaVAlike
import Derived.Test.YtmplipkdaplpnaaMineI
namespace Go.Proofs.Ytmplipkdaplpnaa
open Go.RowKit Go.Wire1

theorem unionE_31 {L : List (List Int)} (h : alikeB L = false) : unionE L = 31 ∧ unionL L = [] := by unfold unionE unionL; simp [h]
theorem unionE_32 {L : List (List Int)} (h : alikeB L = true) {i : Nat} (hi : i < L.length) (hf : ¬ fault (L.getD i []) = 0) : unionE L = 32 ∧ unionL L = [] ∧ fault (L.getD i []) = 32 := by
  have hl := alikeB_len h
  have hw : okW (L.getD i []).length = true := decide_eq_true (by rw [hl.2.2.2 i hi]; omega)
  have ho : okL (L.getD i []) = false := by
    rw [Bool.eq_false_iff]; intro e; apply hf; unfold fault; rw [hw, e]; rfl
  have ha : L.all okL = false := all_no hi ho
  refine ⟨by unfold unionE; rw [h, ha]; rfl, by unfold unionL; simp [ha], by unfold fault; rw [hw, ho]; rfl⟩
theorem fault_ok {l : List Int} (h : fault l = 0) : okL l = true := by
  unfold fault at h
  split at h
  · split at h
    · assumption
    · omega
  · omega
theorem unionE_0 {L : List (List Int)} (h : alikeB L = true) (ha : L.all okL = true) : unionE L = 0 ∧ unionL L = rowOf (L.getD 0 []).length (maxAt L) := by unfold unionE unionL; simp [h, ha]

theorem row_first {L : List (List Int)} {n0 : Nat} (h0 : 0 < L.length) (ha : L.all okL = true) (hn : (L.getD 0 []).length = n0) : L.getD 0 [] = rowOf n0 (maxAt (L.take 1)) := by
  rw [list_rowOf (L.getD 0 []), hn]
  apply rowOf_congr
  intro q hq
  have e1 : L.take 1 = [] ++ [L.getD 0 []] := take_snoc [] h0
  rw [e1, maxAt_snoc]
  have h2 := okL_at (all_getD ha h0) q
  have e2 : maxAt [] q = 0 := rfl
  rw [e2, hn]
  by_cases hc : 0 < (L.getD 0 []).getD q 0
  · rw [if_pos ⟨hq, hc⟩]
  · rw [if_neg (fun h => hc h.2)]; omega
/-- The row in the middle of one list's places. -/
def midRow (L : List (List Int)) (n j i : Nat) : List Int := rowOf n (fun q => if q < i then maxAt (L.take (j + 2)) q else maxAt (L.take (j + 1)) q)
theorem midRow_zero (L : List (List Int)) (n j : Nat) : midRow L n j 0 = rowOf n (maxAt (L.take (j + 1))) := rowOf_congr (fun q _ => by simp)
theorem midRow_all (L : List (List Int)) (n j : Nat) : midRow L n j n = rowOf n (maxAt (L.take (j + 2))) := rowOf_congr (fun q hq => by simp [hq])
theorem midRow_at (L : List (List Int)) {n j i : Nat} (h : i < n) : (midRow L n j i).getD i 0 = maxAt (L.take (j + 1)) i := by unfold midRow; rw [rowOf_getD _ _ h, if_neg (by omega)]
theorem midRow_step {L : List (List Int)} {n j i : Nat} (hi : i < n) (hj : j + 1 < L.length) (hl : (L.getD (j + 1) []).length = n) (z : Int) (hz : z = if maxAt (L.take (j + 1)) i < (L.getD (j + 1) []).getD i 0 then (L.getD (j + 1) []).getD i 0 else maxAt (L.take (j + 1)) i) : (midRow L n j i).set i z = midRow L n j (i + 1) := by
  unfold midRow
  rw [rowOf_set]
  apply rowOf_congr
  intro q hq
  have e : L.take (j + 2) = L.take (j + 1) ++ [L.getD (j + 1) []] := take_snoc [] hj
  by_cases e1 : q = i
  · subst e1
    rw [if_pos rfl, if_pos (by omega), e, maxAt_snoc, hl, hz]
    by_cases hc : maxAt (L.take (j + 1)) q < (L.getD (j + 1) []).getD q 0
    · rw [if_pos hc, if_pos ⟨hi, hc⟩]
    · rw [if_neg hc, if_neg (fun h => hc h.2)]
  · rw [if_neg e1]
    by_cases h : q < i
    · rw [if_pos h, if_pos (by omega)]
    · rw [if_neg h, if_neg (by omega)]

set_option maxHeartbeats 1000000 in
set_option maxRecDepth 100000 in
theorem union_any (a : Option Addr) (n cap : Nat) (ls : List LI) (w : World) (h : SegL w a n ls) (hcap : n ≤ cap) :
    Calls Try.prog 51 #[.slice a n cap] w fun e w' => ∃ v, e = .returned (.tuple #[v, .int .i64 (unionE (lsOf ls) : Int)]) ∧ w'.ownsRow w.heap.size 3 1 v (unionL (lsOf ls)).length ((unionL (lsOf ls)).map (Value.int .i64)) ∧ Below w.heap.size w w' := by
  have HN : Hid ((lsOf ls).length = n) := by show _ = _; rw [lsOf_len]; exact h.1
  have hm := h.2.1
  unfold maxLen at hm
  have HS : Hid (SegL w a n ls) := h
  clear h
  generalize hL : lsOf ls = L at *
  go_enter Try.func51, Try.ntmps51
  go_wp2_with fail
  refine (valike_any a n cap ls _ HS.out).mono ?_
  rintro e w' ⟨rfl, rfl⟩
  rw [hL]
  cases hw : alikeB L with
  | false =>
    have HQ : Hid (unionE L = 31 ∧ unionL L = []) := unionE_31 hw
    clear hw
    go_wp2
    go_ret2
    exact ⟨_, by rw [HQ.out.1]; rfl, by rw [HQ.out.2]; exact World.ownsRow_nil _ _ _ _, Below.refl _ _⟩
  | true =>
    have HW : Hid (alikeB L = true) := hw
    have hl := alikeB_len hw
    have h0 : 0 < n := by have := HN.out; omega
    obtain ⟨b, off, rfl⟩ := HS.out.addr h0
    clear hw
    go_wp2
    go_loop [17] (fun i => ∃ k : Nat, i = .int .i64 (k : Int) ∧ k ≤ n ∧ Hid ((L.take k).all okL = true)) (fun i => n - (intOf i).toNat)
    case atStart => exact ⟨0, rfl, Nat.zero_le _, rfl⟩
    case round =>
      obtain ⟨k, rfl, hk, HT⟩ := hrel
      by_cases hlt : k < n
      · obtain ⟨ak, nk, ck, cc, sk⟩ := HS.out.at (i := k) hlt
        rw [hL] at sk
        go_wp2_with fail
        refine (vfaultOf_any ak nk ck _ _ sk).mono ?_
        rintro e w' ⟨rfl, rfl⟩
        by_cases hf : fault (L.getD k []) = 0
        · have HT' : Hid ((L.take (k + 1)).all okL = true) := all_step (by have := HN.out; omega) HT.out (fault_ok hf)
          rw [hf]
          clear hf sk
          go_wp2
          go_round
          case rel => exact ⟨k + 1, by go_num, by omega, HT'⟩
          case measure => simp [intOf]; omega
        · obtain ⟨q1, q2, q3⟩ := unionE_32 HW.out (i := k) (by have := HN.out; omega) hf
          have HQ : Hid (unionE L = 32 ∧ unionL L = []) := ⟨q1, q2⟩
          rw [q3]
          clear q1 q2 q3 hf sk
          go_wp2
          go_ret2
          exact ⟨_, by rw [HQ.out.1]; rfl, by rw [HQ.out.2]; exact World.ownsRow_nil _ _ _ _, Below.refl _ _⟩
      · have HA : Hid (L.all okL = true) := by have := HT.out; rwa [List.take_of_length_le (by have := HN.out; omega)] at this
        have HQ : Hid (unionE L = 0 ∧ unionL L = rowOf (L.getD 0 []).length (maxAt L)) := unionE_0 HW.out HA.out
        obtain ⟨a0, n0, cap0, c0, s0⟩ := HS.out.at (i := 0) h0
        rw [Nat.add_zero] at c0
        rw [hL] at s0
        have HN0 : Hid ((L.getD 0 []).length = n0) := s0.1
        have hn0 : 1 ≤ n0 ∧ n0 ≤ 7 := by have := HN0.out; omega
        clear HT
        go_wp2_with fail
        refine (copyOf_any a0 n0 cap0 _ _ s0 (by omega) (by omega)).mono ?_
        rintro e w1 ⟨rfl, hm1, hb1⟩
        have HM1 : Hid (MineI w1 w.heap.size w.heap.size n0 n0 (rowOf n0 (maxAt (L.take 1)))) := by
          rw [← row_first (by have := HN.out; omega) HA.out HN0.out]; exact hm1
        have HB1 : Hid (Below w.heap.size w w1) := hb1
        have hB : Hid (w.heap.size ≤ w1.heap.size) := hb1.size
        generalize hBB : w.heap.size = B at *
        clear s0 hm1 hb1
        by_cases hc1 : cap = 1
        · obtain rfl : n = 1 := by omega
          subst hc1
          go_wp2
          go_loopw [34] (fun i wr => i = .int .i64 0 ∧ wr = w1) (fun _ _ => 0)
          case atStart => exact ⟨rfl, rfl⟩
          case round =>
            obtain ⟨rfl, rfl⟩ := hrel
            go_wp2
            go_ret2
            refine ⟨_, by rw [HQ.out.1]; rfl, ?_, ?_⟩
            · have h1 := HM1.out.1
              rw [List.take_of_length_le (by have := HN.out; omega)] at h1
              rw [HQ.out.2, HN0.out, rowOf_length, hBB]; exact h1
            · rw [hBB]; exact HB1.out
        · go_wp2
          go_loopw [34] (fun i wr => ∃ k : Nat, i = .int .i64 (k : Int) ∧ k ≤ n - 1 ∧ Hid (MineI wr B B n0 n0 (rowOf n0 (maxAt (L.take (k + 1))))) ∧ Hid (Below B w wr)) (fun i _ => n - 1 - (intOf i).toNat)
          case atStart => exact ⟨0, rfl, Nat.zero_le _, HM1, HB1⟩
          case round =>
            obtain ⟨j, rfl, hj, HM, HB⟩ := hrel
            by_cases hlt2 : j < n - 1
            · obtain ⟨ak, nk, ck, cc0, sk⟩ := HS.out.at (i := j + 1) (by omega)
              rw [hL] at sk
              have HL1 : Hid ((L.getD (j + 1) []).length = nk) := sk.1
              obtain rfl : n0 = nk := by have h1 := sk.1; have h2 := hl.2.2.2 (j + 1) (by have := HN.out; omega); have h3 := HN0.out; omega
              have HSK : Hid (SegI w ak n0 (L.getD (j + 1) [])) := sk
              have cc : wr.cell? ⟨b, off + 1 + j, none⟩ = some (.slice ak n0 ck) := by
                rw [HB.out.cell (p := ⟨b, off + 1 + j, none⟩) (by have := cell_lt cc0; show b < B; omega), ← cc0, show off + (j + 1) = off + 1 + j by omega]
              clear sk cc0
              go_wp2
              go_loopw [40] (fun i wr => ∃ q : Nat, i = .int .i64 (q : Int) ∧ q ≤ n0 ∧ Hid (MineI wr B B n0 n0 (midRow L n0 j q)) ∧ Hid (Below B w wr)) (fun i _ => n0 - (intOf i).toNat)
              case atStart => exact ⟨0, rfl, Nat.zero_le _, by rw [midRow_zero]; exact HM, HB⟩
              case round =>
                obtain ⟨q, rfl, hq, HM2, HB2⟩ := hrel
                by_cases hlt3 : q < n0
                · obtain ⟨bk, ok, rfl, hck⟩ := (HSK.out.below HB2.out (by omega)).2.2.1 (by omega)
                  have cx := hck q hlt3
                  have co := HM2.out.cell hlt3
                  rw [midRow_at L hlt3] at co
                  have fz := HM2.out.frozen q
                  have HX : Hid (∀ z, z = (if maxAt (L.take (j + 1)) q < (L.getD (j + 1) []).getD q 0 then (L.getD (j + 1) []).getD q 0 else maxAt (L.take (j + 1)) q) → (midRow L n0 j q).set q z = midRow L n0 j (q + 1)) := fun z hz => midRow_step hlt3 (by have := HN.out; omega) HL1.out z hz
                  clear hck
                  generalize (L.getD (j + 1) []).getD q 0 = y at *
                  generalize maxAt (L.take (j + 1)) q = x at *
                  go_wp2
                  go_roundw
                  case rel => exact ⟨q + 1, by go_num, by omega, by rw [← HX.out _ rfl]; exact HM2.out.store q _, below_store HB2.out (Nat.le_refl _) _⟩
                  case measure => simp [intOf]; omega
                · go_wp2
                  go_roundw
                  case rel => exact ⟨j + 1, by go_num, by omega, by obtain rfl : q = n0 := by omega
                                                                    have := HM2.out; rw [midRow_all] at this; exact this, HB2⟩
                  case measure => simp [intOf]; omega
            · go_wp2
              go_ret2
              refine ⟨_, by rw [HQ.out.1]; rfl, ?_, ?_⟩
              · have h1 := HM.out.1
                rw [List.take_of_length_le (by have := HN.out; omega)] at h1
                rw [HQ.out.2, HN0.out, rowOf_length, hBB]; exact h1
              · rw [hBB]; exact HB.out
end Go.Proofs.Ytmplipkdaplpnaa
