/- The contracts of the document's own Look and Open. -/
import Derived.Test.YtnlohbfolphafaaDoorFrLen3
import Derived.BigQuiet
namespace Go.Proofs.YtnlohbfolphafaaDoor
open Go.RowKit Go.Wire1 Go.Crc2 Go.Frm

theorem results_tmp4 {fn : Func} {t u v x : Tmp} (h : fn.results = #[.tmp t, .tmp u, .tmp v, .tmp x]) (tmps : Array Value) (P : Program) (w : World) :
    (results fn tmps).run P w = .ok (.tuple #[tmps.getD t undef, tmps.getD u undef, tmps.getD v undef, tmps.getD x undef]) w := by
  simp [results, h]
macro "go_ret4" : tactic => `(tactic| ((try simp only [Exit.inBlock, Exit.then]); refine bodyPost_ret (results_tmp4 rfl _ _ _) rfl ?_))

/-- What the document's own Look answers. -/
def lkT (v : Nat) (l : List Int) : Nat × Nat × Nat × Nat := match Frm.look v l with | .short => (0, 0, 0, 11) | .bad k e => (0, 0, k, e) | .whole f t => (f, t, t + 4, 0)

theorem lk_magic {v k : Nat} {l : List Int} (hk : k < 2) (hl : k < l.length) (ht : l.take k = [77, 84, (v : Int)].take k) (hx : l.getD k 0 ≠ [77, 84, (v : Int)].getD k 0) : Frm.look v l = .bad (k + 1) 71 := by
  rcases (by omega : k = 0 ∨ k = 1) with rfl | rfl
  · match l, hl with
    | a :: r, _ => have : ¬ a = 77 := by simpa using hx
                   simp [Frm.look, this]
  · match l, hl with
    | a :: b :: r, _ =>
      have h1 : a = 77 := by simpa using ht
      have h2 : ¬ b = 84 := by simpa using hx
      simp [Frm.look, h1, h2]
theorem lk_other {v : Nat} {l : List Int} (hl : 2 < l.length) (ht : l.take 2 = [77, 84, (v : Int)].take 2) (hx : l.getD 2 0 ≠ [77, 84, (v : Int)].getD 2 0) : Frm.look v l = .bad 3 72 := by
  match l, hl with
  | a :: b :: c :: r, _ =>
    have h1 : a = 77 ∧ b = 84 := by simpa using ht
    have h2 : ¬ c = (v : Int) := by simpa using hx
    simp [Frm.look, h1, h2]
theorem lk_few {v k : Nat} {l : List Int} (hk : k < 3) (hl : l.length ≤ k) (ht : l.take k = [77, 84, (v : Int)].take k) : Frm.look v l = .short := by
  match l with
  | [] => rfl
  | [a] =>
    rcases (by simp at hl; omega : k = 1 ∨ k = 2) with rfl | rfl
    · have h1 : a = 77 := by simpa using ht
      simp [Frm.look, h1]
    · simp at ht
  | [a, b] =>
    obtain rfl : k = 2 := by simp at hl; omega
    have h1 : a = 77 ∧ b = 84 := by simpa using ht
    simp [Frm.look, h1]
  | a :: b :: c :: r => simp at hl; omega
theorem len3_bad {t : List Int} {k e : Nat} (h : len3 t = .bad k e) : k ≤ 3 ∧ (e = 13 ∨ e = 73) := by
  match t with
  | [] => simp [len3] at h
  | a :: r =>
    by_cases h1 : a < 128
    · simp [len3, h1] at h
    · match r with
      | [] => simp [len3, h1] at h
      | b :: r =>
        by_cases h2 : b = 0
        · simp [len3, h1, h2] at h; omega
        · by_cases h3 : b < 128
          · simp [len3, h1, h2, h3] at h
          · match r with
            | [] => simp [len3, h1, h2, h3] at h
            | c :: r =>
              by_cases h4 : c = 0
              · simp [len3, h1, h2, h3, h4] at h; omega
              · by_cases h5 : 128 ≤ c ∨ 1048576 < a.toNat % 128 + 128 * (b.toNat % 128) + 16384 * c.toNat
                · simp [len3, h1, h2, h3, h4, h5] at h; omega
                · simp [len3, h1, h2, h3, h4, h5] at h
theorem lk_ok {v n k : Nat} {t : List Int} (h : len3 t = .ok n k) : Frm.look v ([77, 84, (v : Int)] ++ t) = lookS (3 + k) (3 + k + n) (fb (upd 0#32 (([77, 84, (v : Int)] ++ t).take (3 + k + n)))) (([77, 84, (v : Int)] ++ t).drop (3 + k + n)) 0 := by
  simp only [List.cons_append, List.nil_append, Frm.look, h, if_true]
theorem cut3 {v : Nat} {l : List Int} (h : l.take 3 = [77, 84, (v : Int)]) : l = [77, 84, (v : Int)] ++ l.drop 3 := by
  rw [← h]; exact (List.take_append_drop 3 l).symm
theorem lkS_few (f t : Nat) {S c : List Int} {i : Nat} (hi : i < S.length) (hl : c.length ≤ i) (h : c.take i = S.take i) : lookS f t S c 0 = .short := by
  rw [List.take_of_length_le hl] at h
  have hcl : c.length = i := by rw [h, List.length_take]; omega
  exact lookS_short f t S c 0 (by rw [hcl]; exact h) (by omega)
theorem lkS_bad (f t : Nat) {S c : List Int} {i : Nat} (hi : i < S.length) (hl : i < c.length) (h : c.take i = S.take i) (hx : ¬ c.getD i 0 = S.getD i 0) : lookS f t S c 0 = .bad (t + i + 1) 74 := by
  have e : c = c.take i ++ c.getD i 0 :: c.drop (i + 1) := by
    have : c.getD i 0 = c[i] := by simp [List.getD, hl]
    rw [this, ← List.drop_eq_getElem_cons hl, List.take_append_drop]
  have hli : (c.take i).length = i := by rw [List.length_take]; omega
  have := lookS_bad f t S (c.take i) (c.getD i 0) (c.drop (i + 1)) 0 (by rw [hli]; exact h) (by omega) (by rw [hli]; exact hx)
  rw [← e, hli, Nat.add_zero] at this
  exact this
theorem lkS_whole (f t : Nat) {S c : List Int} (h : c.take S.length = S) : lookS f t S c 0 = .whole f t := by
  have e : c = S ++ c.drop S.length := by conv => lhs; rw [← List.take_append_drop S.length c, h]
  rw [e]; exact lookS_whole f t S _ 0
theorem drop_getD (l : List Int) (k i : Nat) : (l.drop k).getD i 0 = l.getD (k + i) 0 := by simp [List.getD, List.getElem?_drop]
theorem fb_getD (S : R) {i : Nat} (hi : i < 4) : (fb S).getD i 0 = bt S i := by
  rcases (by omega : i = 0 ∨ i = 1 ∨ i = 2 ∨ i = 3) with rfl | rfl | rfl | rfl <;> rfl

theorem eq_forms {x z : Int} (h : x = z) : (x == z) = true ∧ (x != z) = false ∧ decide (x = z) = true := by subst h; simp
theorem ne_forms {x z : Int} (h : ¬ x = z) : (x == z) = false ∧ (x != z) = true ∧ decide (x = z) = false := by simp [h]

set_option maxHeartbeats 2000000 in
set_option maxRecDepth 100000 in
theorem rlook_any (v : Nat) (sa : Option Addr) (n cap : Nat) (l : List Int) (w : World) (hv : v ≤ 2) (hs : Seg w sa n l) (hnc : n ≤ cap) (hc : cap ≤ maxLen) (hy : Byt l) :
    Calls Tryd.prog 43 #[.int .i64 (v : Int), .slice sa n cap] w fun e w' => e = .returned (.tuple #[.int .i64 ((lkT v l).1 : Int), .int .i64 ((lkT v l).2.1 : Int), .int .i64 ((lkT v l).2.2.1 : Int), .int .i64 ((lkT v l).2.2.2 : Int)]) ∧ Below w.heap.size w w' := by
  have HS := hide hs
  have HY := hide hy
  have hnl := hide hs.1
  unfold maxLen at hc
  obtain ⟨RES, hR⟩ : ∃ RES, Hid (lkT v l = RES) := ⟨_, rfl⟩
  rw [hR.out]
  obtain ⟨H, hH⟩ : ∃ H : List Int, Hid (H = [77, 84, (v : Int)]) := ⟨_, rfl⟩
  clear hs hy
  go_enter Tryd.func43, Tryd.ntmps43
  go_wp2
  go_loopw [9] (fun iv wr => ∃ k : Nat, iv = .int .i64 (k : Int) ∧ k ≤ 3 ∧ Hid (l.take k = H.take k) ∧ Hid (Below w.heap.size w wr) ∧ Hid (∀ j, j < 3 → wr.cell? ⟨w.heap.size, j, none⟩ = some (.int .u8 (H.getD j 0)))) (fun iv _ => 3 - (intOf iv).toNat)
  case atStart =>
    refine ⟨0, rfl, by omega, rfl, (Below.refl _ _).alloc (Nat.le_refl _) _, ?_⟩
    show ∀ j, j < 3 → _
    intro j hj
    rw [hH.out]
    rcases (by omega : j = 0 ∨ j = 1 ∨ j = 2) with rfl | rfl | rfl <;> (rw [World.cell?_alloc_at _ _ _ _ rfl]; rfl)
  case round =>
    obtain ⟨k, rfl, hk, HT, HB, HC⟩ := hrel
    by_cases h3 : k < 3
    · by_cases hn : n ≤ k
      · have hl : Hid (RES = (0, 0, 0, 11)) := by
          show _ = _
          rw [← hR.out]; unfold lkT
          rw [lk_few h3 (by rw [hnl.out]; exact hn) (by rw [← hH.out]; exact HT.out)]
        go_wp2
        go_ret4
        rw [hl.out]
        exact ⟨rfl, HB.out⟩
      · obtain ⟨ba, oa, rfl, hca⟩ := (HS.out.below HB.out (Nat.le_refl _)).2.2 (by omega)
        have ca : wr.cell? ⟨ba, oa + k, none⟩ = some (.int .u8 (l.getD k 0)) := hca k (by omega)
        have ch : wr.cell? ⟨w.heap.size, k, none⟩ = some (.int .u8 (H.getD k 0)) := HC.out k h3
        clear hca
        have hkn : k < n := by omega
        have HX : Hid (l.getD k 0 = H.getD k 0 → l.take (k + 1) = H.take (k + 1)) := by
          show _ → _
          intro e
          rw [take_next (by have := hnl.out; omega), take_next (by rw [hH.out]; simp; omega), e, HT.out]
        have HM : Hid (¬ l.getD k 0 = H.getD k 0 → k < 2 → RES = (0, 0, k + 1, 71)) := by
          show _ → _ → _
          intro e h2
          rw [← hR.out]; unfold lkT
          rw [lk_magic h2 (by rw [hnl.out]; exact hkn) (by rw [← hH.out]; exact HT.out) (by rw [← hH.out]; exact e)]
        have HO : Hid (¬ l.getD k 0 = H.getD k 0 → ¬ k < 2 → RES = (0, 0, 3, 72)) := by
          show _ → _ → _
          intro e h2
          obtain rfl : k = 2 := by omega
          rw [← hR.out]; unfold lkT
          rw [lk_other (by rw [hnl.out]; exact hkn) (by rw [← hH.out]; exact HT.out) (by rw [← hH.out]; exact e)]
        generalize l.getD k 0 = x at *
        generalize H.getD k 0 = z at *
        by_cases hx : x = z
        · obtain ⟨d1, d2, d3⟩ := eq_forms hx
          have HT2 := hide (HX.out hx)
          clear HX HM HO hx
          go_wp2_with fail
          go_quiet (fail)
          go_wp2_with fail
          go_quiet (fail)
          go_wp2
          go_roundw
          case rel => exact ⟨k + 1, by go_num, by omega, HT2, below_drewN HB.out _, HC⟩
          case measure => simp [intOf]; omega
        · obtain ⟨d1, d2, d3⟩ := ne_forms hx
          have HM2 := hide (HM.out hx)
          have HO2 := hide (HO.out hx)
          clear HX HM HO hx
          by_cases h2 : k < 2
          · have q2 : decide ((k : Int) < 2) = true := by simp; omega
            go_wp2_with fail
            go_quiet (fail)
            go_wp2
            go_ret4
            rw [HM2.out h2]
            exact ⟨by go_num, below_drewN HB.out _⟩
          · have q2 : decide ((k : Int) < 2) = false := by simp; omega
            go_wp2_with fail
            go_quiet (fail)
            go_wp2_with fail
            go_quiet (fail)
            go_wp2
            go_ret4
            rw [HO2.out h2]
            exact ⟨rfl, below_drewN (below_drewN HB.out _) _⟩
    · obtain rfl : k = 3 := by omega
      have hT3 : l.take 3 = [77, 84, (v : Int)] := by rw [HT.out, hH.out]; rfl
      have h3n : 3 ≤ n := by have := congrArg List.length hT3; rw [List.length_take, hnl.out] at this; simp at this; omega
      have HL := hide (cut3 hT3)
      have HB3 := hide (byt_drop HY.out 3)
      obtain ⟨ba, oa, rfl, _⟩ := (HS.out.below HB.out (Nat.le_refl _)).2.2 (by omega)
      have SW := hide (HS.out.below HB.out (Nat.le_refl _))
      have HD3 : Hid ((l.drop 3).length = n - 3) := by show _ = _; rw [List.length_drop, hnl.out]
      clear HC HT hT3 hH h3
      by_cases hend : cap = 3
      · obtain rfl : n = 3 := by omega
        subst hend
        have hl : Hid (RES = (0, 0, 0, 11)) := by
          show _ = _
          rw [← hR.out, HL.out]; unfold lkT
          rw [look_short3 (by rw [List.eq_nil_of_length_eq_zero HD3.out]; rfl)]
        go_wp2_with fail
        refine (rlen0 _ _ _).mono ?_
        rintro r w1 ⟨rfl, rfl⟩
        go_wp2
        go_ret4
        rw [hl.out]
        exact ⟨rfl, HB.out⟩
      · have HN := hide (rlen_any (some ⟨ba, oa + 3, none⟩) (n - 3) (cap - 3) (l.drop 3) wr (SW.out.from h3n) HB3.out)
        have hend' : ¬ ((cap : Int) = 3) := by omega
        cases hln : len3 (l.drop 3) with
        | short =>
          have hl : Hid (RES = (0, 0, 0, 11)) := by
            show _ = _
            rw [← hR.out, HL.out]; unfold lkT
            rw [look_short3 hln]
          have HN2 : Hid (lnT (l.drop 3) = (0, 0, 11)) := by show _ = _; unfold lnT; rw [hln]
          rw [HN2.out] at HN
          clear hln
          go_wp2_with fail
          refine HN.out.mono ?_
          rintro r w1 ⟨rfl, rfl⟩
          go_wp2
          go_ret4
          rw [hl.out]
          exact ⟨rfl, HB.out⟩
        | bad kk e =>
          obtain ⟨hkk, he⟩ := len3_bad hln
          have hl : Hid (RES = (0, 0, 3 + kk, e)) := by
            show _ = _
            rw [← hR.out, HL.out]; unfold lkT
            rw [look_bad3 hln]
          have HN2 : Hid (lnT (l.drop 3) = (0, kk, e)) := by show _ = _; unfold lnT; rw [hln]
          rw [HN2.out] at HN
          clear hln
          rcases he with rfl | rfl
          · go_wp2_with fail
            refine HN.out.mono ?_
            rintro r w1 ⟨rfl, rfl⟩
            go_wp2
            go_ret4
            rw [hl.out]
            exact ⟨by go_num, HB.out⟩
          · go_wp2_with fail
            refine HN.out.mono ?_
            rintro r w1 ⟨rfl, rfl⟩
            go_wp2
            go_ret4
            rw [hl.out]
            exact ⟨by go_num, HB.out⟩
        | ok m kk =>
          obtain ⟨hm, hk1, hk3, _, _⟩ := len3_ok HB3.out hln
          obtain ⟨fr, hfr⟩ : ∃ fr, 3 + kk = fr := ⟨_, rfl⟩
          obtain ⟨to, hto⟩ : ∃ to, fr + m = to := ⟨_, rfl⟩
          have e1 : (3 : Int) + (kk : Int) = (fr : Int) := by omega
          have e2 : (fr : Int) + (m : Int) = (to : Int) := by omega
          have hfr6 : fr ≤ 6 := by omega
          have hto6 : to ≤ 1048582 := by omega
          have hft : fr ≤ to := by omega
          obtain ⟨S, hS⟩ : ∃ S : R, Hid (S = upd 0#32 (l.take to)) := ⟨_, rfl⟩
          obtain ⟨D, hD⟩ : ∃ D : List Int, Hid (D = l.drop to) := ⟨_, rfl⟩
          have hl : Hid (RES = match lookS fr to (fb S) D 0 with | .short => (0, 0, 0, 11) | .bad k e => (0, 0, k, e) | .whole f t => (f, t, t + 4, 0)) := by
            show _ = _
            have := lk_ok (v := v) hln
            rw [← HL.out, hfr, hto, ← hS.out, ← hD.out] at this
            rw [← hR.out]; unfold lkT
            rw [this]
          have hDl : Hid (D.length = n - to) := by show _ = _; rw [hD.out, List.length_drop, hnl.out]
          have HN2 : Hid (lnT (l.drop 3) = (m, kk, 0)) := by show _ = _; unfold lnT; rw [hln]
          rw [HN2.out] at HN
          have HFR := hide hfr
          clear hln hfr hto HN2
          by_cases hle : n ≤ to
          · have hl2 : Hid (RES = (0, 0, 0, 11)) := by
              show _ = _
              rw [hl.out, List.eq_nil_of_length_eq_zero (by rw [hDl.out]; omega : D.length = 0)]
              rfl
            go_wp2_with fail
            refine HN.out.mono ?_
            rintro r w1 ⟨rfl, rfl⟩
            go_wp2
            go_ret4
            rw [hl2.out]
            exact ⟨rfl, HB.out⟩
          · have hlt : to < n := by omega
            have HSM := hide (rsum7_any (some ⟨ba, oa, none⟩) to cap (l.take to) wr (SW.out.take (by omega)) (byt_take HY.out to))
            rw [← hS.out] at HSM
            go_wp2_with fail
            refine HN.out.mono ?_
            rintro r w1 ⟨rfl, rfl⟩
            go_wp2_with fail
            refine HSM.out.mono ?_
            rintro r w1 ⟨rfl, rfl⟩
            simp only [nr]
            have HSB : Hid (∀ (i : Nat) (W : World), i ≤ 4 → Calls Tryd.prog 30 #[.int .u32 (S.toNat : Int), .int .i64 (i : Int)] W fun e w' => e = .returned (.int .u8 (bt S i)) ∧ w' = W) := by
              show ∀ (i : Nat) (W : World), _
              intro i W hi
              exact (rsumByte_any S i W hi).mono (fun _ _ h => ⟨h.1, h.2.symm⟩)
            have hSn := r_lt S
            obtain ⟨sn, hsn⟩ : ∃ sn, S.toNat = sn := ⟨_, rfl⟩
            rw [hsn] at HSB hSn ⊢
            clear hsn
            go_wp2
            go_loopw [16] (fun iv w2 => ∃ i : Nat, iv = .int .i64 (i : Int) ∧ i ≤ 4 ∧ Hid (D.take i = (fb S).take i) ∧ Hid (Below w.heap.size w w2)) (fun iv _ => 4 - (intOf iv).toNat)
            case atStart => exact ⟨0, rfl, by omega, rfl, HB⟩
            case round =>
              obtain ⟨i, rfl, hi, HT, HB2⟩ := hrel
              by_cases h4 : i < 4
              · by_cases hn : n ≤ to + i
                · have hl2 : Hid (RES = (0, 0, 0, 11)) := by
                    show _ = _
                    rw [hl.out, lkS_few fr to (by rw [fb_len]; exact h4) (by rw [hDl.out]; omega) HT.out]
                  go_wp2
                  go_ret4
                  rw [hl2.out]
                  exact ⟨rfl, HB2.out⟩
                · have ca := seg_cell (HS.out.below HB2.out (Nat.le_refl _)) (to + i) (by omega)
                  have HX : Hid (l.getD (to + i) 0 = bt S i → D.take (i + 1) = (fb S).take (i + 1)) := by
                    show _ → _
                    intro e
                    rw [take_next (by rw [hDl.out]; omega), take_next (by rw [fb_len]; omega), HT.out, fb_getD S h4, hD.out, drop_getD, e]
                  have HM : Hid (¬ l.getD (to + i) 0 = bt S i → RES = (0, 0, to + i + 1, 74)) := by
                    show _ → _
                    intro e
                    rw [hl.out, lkS_bad fr to (by rw [fb_len]; exact h4) (by rw [hDl.out]; omega) HT.out (by rw [fb_getD S h4, hD.out, drop_getD]; exact e)]
                  have HC : Hid (∀ W, Calls Tryd.prog 30 #[.int .u32 (sn : Int), .int .i64 (i : Int)] W fun e w' => e = .returned (.int .u8 (bt S i)) ∧ w' = W) := fun W => HSB.out i W (by omega)
                  generalize l.getD (to + i) 0 = x at *
                  generalize bt S i = z at *
                  by_cases hx : x = z
                  · obtain ⟨d1, d2, d3⟩ := eq_forms hx
                    have HT2 := hide (HX.out hx)
                    clear HX HM hx
                    go_wp2_with fail
                    go_quiet ((go_at_call 30; exact Calls.quiet_of_same (HC.out _)))
                    go_wp2
                    go_roundw
                    case rel => exact ⟨i + 1, by go_num, by omega, HT2, below_drewN HB2.out _⟩
                    case measure => simp [intOf]; omega
                  · obtain ⟨d1, d2, d3⟩ := ne_forms hx
                    have HM2 := hide (HM.out hx)
                    clear HX HM hx
                    go_wp2_with fail
                    go_quiet ((go_at_call 30; exact Calls.quiet_of_same (HC.out _)))
                    go_wp2
                    go_ret4
                    rw [HM2.out]
                    exact ⟨by go_num, below_drewN HB2.out _⟩
              · obtain rfl : i = 4 := by omega
                have hl2 : Hid (RES = (fr, to, to + 4, 0)) := by
                  show _ = _
                  rw [hl.out, lkS_whole fr to (by rw [fb_len]; exact HT.out)]
                go_wp2
                go_ret4
                rw [hl2.out]
                exact ⟨by go_num, HB2.out⟩
end Go.Proofs.YtnlohbfolphafaaDoor
