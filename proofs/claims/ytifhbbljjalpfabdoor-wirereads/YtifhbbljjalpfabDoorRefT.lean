/- The contract of the document's own reader's Text. -/
import Derived.Test.YtifhbbljjalpfabDoorRefR
namespace Go.Proofs.YtifhbbljjalpfabDoor
open Go.RowKit Go.Wire1

set_option maxHeartbeats 4000000 in
set_option maxRecDepth 100000 in
theorem refRText_any (least most : Int) (h1 : -9223372036854775808 ≤ least) (h2 : least ≤ 9223372036854775807) (h3 : -9223372036854775808 ≤ most) (h4 : most ≤ 9223372036854775807) (b n cap k : Nat) (f : Int) (sa : Option Addr) (l : List Int) (a : Nat → Addr) (w : World) (h : Rdr w b sa n cap k f l a) :
    Calls Tryd.prog 53 #[.pointer (some ⟨b, 0, none⟩), .int .i64 least, .int .i64 most] w fun e w' => e = .returned (Meth (.string ⟨#[]⟩) (rT least most l k) k f).1 ∧ Touch b w w' ∧ Rdr w' b sa n cap (Meth (.string ⟨#[]⟩) (rT least most l k) k f).2.1 (Meth (.string ⟨#[]⟩) (rT least most l k) k f).2.2 l a := by
  have c0 : w.cell? ⟨b, 0, none⟩ = some (.slice sa n cap) := h.ready.cur.1
  have c1 : w.cell? ⟨b, 1, none⟩ = some (.int .i64 (k : Int)) := h.ready.cur.2.1
  have f1 : w.frozen? ⟨b, 1, none⟩ = false := h.ready.cur.2.2
  have c2 := h.fault
  have f2 := h.thaw
  have hn := h.ready.seg.2.1
  have hcm := h.capMax
  have hcl := h.capLe
  have hkn := h.ready.le
  have hl := hide h.ready.seg.1
  unfold maxLen at hn hcm
  by_cases hf : f = 0
  · subst hf
    have bk := byt_drop h.ready.byt k
    have HFm := hide (forms h)
    cases hd : dec (l.drop k) with
    | error i =>
      have hne' : ((11 + (i : Int)) != 0) = true := by rw [bne_iff_ne]; omega
      have HQ := hide (meth_err (Z := .string ⟨#[]⟩) (k := k) (show rT least most l k = .error i by unfold rT; rw [hd]))
      rcases HFm.out with ⟨sb, so, rfl, g1, g2, g3⟩ | ⟨rfl, g2, g3⟩ | ⟨rfl, g2, g3⟩
      · have HC : Hid (∀ q, Calls Tryd.prog 63 #[.slice (some ⟨sb, so + k, none⟩) (n - k) (cap - k)] (w.drewN q) fun e w' => e = .returned (.tuple #[.int .u64 0, .int .i64 0, .int .i64 (11 + (i : Int))]) ∧ w' = w.drewN q) := fun q => by
          have := refU_ret (n - k) (cap - k) _ _ (w.drewN q) (g3 q) bk; rw [hd] at this; exact this
        clear g3 hd HFm
        go_enter Tryd.func53, Tryd.ntmps53
        go_wp2_with fail
        go_quiet ((go_at_call 63; exact Calls.quiet_of_same (HC.out _)))
        go_wp2
        go_ret
        rw [HQ.out]
        exact ⟨rfl, breakAt h _ _⟩
      · rw [g3] at hd
        have HC : Hid (∀ (ad : Option Addr) (c q : Nat), Calls Tryd.prog 63 #[.slice ad 0 c] (w.drewN q) fun e w' => e = .returned (.tuple #[.int .u64 0, .int .i64 0, .int .i64 (11 + (i : Int))]) ∧ w' = w.drewN q) := fun ad c q => by
          have := refU_ret 0 c ad [] (w.drewN q) (seg_empty _ _) (fun z hz => by cases hz); rw [hd] at this; exact this
        clear g3 hd HFm
        go_enter Tryd.func53, Tryd.ntmps53
        go_wp2_with fail
        go_quiet ((go_at_call 63; exact Calls.quiet_of_same (HC.out _ _ _)))
        go_wp2
        go_ret
        rw [HQ.out]
        exact ⟨rfl, breakAt h _ _⟩
      · rw [g3] at hd
        have HC : Hid (∀ (ad : Option Addr) (c q : Nat), Calls Tryd.prog 63 #[.slice ad 0 c] (w.drewN q) fun e w' => e = .returned (.tuple #[.int .u64 0, .int .i64 0, .int .i64 (11 + (i : Int))]) ∧ w' = w.drewN q) := fun ad c q => by
          have := refU_ret 0 c ad [] (w.drewN q) (seg_empty _ _) (fun z hz => by cases hz); rw [hd] at this; exact this
        clear g3 hd HFm
        go_enter Tryd.func53, Tryd.ntmps53
        go_wp2_with fail
        go_quiet ((go_at_call 63; exact Calls.quiet_of_same (HC.out _ _ _)))
        go_wp2
        go_ret
        rw [HQ.out]
        exact ⟨rfl, breakAt h _ _⟩
    | ok p =>
      obtain ⟨x, m⟩ := p
      have hx := dec_lt bk hd
      have hm : k + m ≤ n := by have := (dec_len bk hd).2.2; rw [List.length_drop, hl.out] at this; omega
      rcases HFm.out with ⟨sb, so, rfl, g1, g2, g3⟩ | ⟨rfl, g2, g3⟩ | ⟨rfl, g2, g3⟩
      · have HC : Hid (∀ c q, Calls Tryd.prog 63 #[.slice (some ⟨sb, so + k, none⟩) (n - k) c] (w.drewN q) fun e w' => e = .returned (.tuple #[.int .u64 (x : Int), .int .i64 (m : Int), .int .i64 0]) ∧ w' = w.drewN q) := fun c q => by
          have := refU_ret (n - k) c _ _ (w.drewN q) (g3 q) bk; rw [hd] at this; exact this
        clear g3 HFm
        by_cases hal : least ≤ (x : Int) ∧ (x : Int) ≤ most
        · have hd1 : decide (most < 0) = false := by simp; omega
          have hmx : ¬ most < (x : Int) := by omega
          have hm0 : 0 ≤ most := by omega
          have hls : (decide (0 < least) = false) ∨ (0 < least ∧ ¬ (x : Int) < least) := by
            by_cases e : 0 < least
            · right; exact ⟨e, by omega⟩
            · left; simpa using e
          by_cases hfit : k + m + x ≤ n
          · have HQ := hide (meth_ok (Z := .string ⟨#[]⟩) (k := k) (show rT least most l k = .ok (.string (strOfNums ((l.drop (k + m)).take x)), m + x) by
              unfold rT; rw [hd]; show (if _ then _ else _) = _; rw [if_pos hal, if_pos (by rw [hl.out]; exact hfit)]))
            clear hd hal
            by_cases hx0 : x = 0
            · subst hx0
              have hcz : ∀ (ad : Option Addr) (c : Nat) (w : World), (convert 25 9 (.slice ad 0 c)).run Tryd.prog w = .ok (.string (strOfNums [])) w := conv_zero
              have hl0 : decide (0 < least) = false := by
                rcases hls with h | ⟨h, h'⟩
                · exact h
                · exfalso; omega
              clear hls
              by_cases hcc : cap = k + m
              · subst hcc
                go_enter Tryd.func53, Tryd.ntmps53
                go_wp2_with fail
                go_quiet ((go_at_call 63; exact Calls.quiet_of_same (HC.out _ _)))
                go_wp2
                all_goals go_ret
                all_goals rw [HQ.out]
                all_goals exact ⟨rfl, moveAt (m := m) h _ hm⟩
              · have hcp : 0 < (cap : Int) - ((k : Int) + (m : Int)) := by omega
                go_enter Tryd.func53, Tryd.ntmps53
                go_wp2_with fail
                go_quiet ((go_at_call 63; exact Calls.quiet_of_same (HC.out _ _)))
                go_wp2
                all_goals go_ret
                all_goals rw [HQ.out]
                all_goals exact ⟨rfl, moveAt (m := m) h _ hm⟩
            · have hcv : ∀ q, (convert 25 9 (.slice (some ⟨sb, so + (k + m), none⟩) x (cap - (k + m)))).run Tryd.prog ((w.drewN q).setCell ⟨b, 1, none⟩ (.int .i64 ((k : Int) + (m : Int) + (x : Int)))) = .ok (.string (strOfNums ((l.drop (k + m)).take x))) ((w.drewN q).setCell ⟨b, 1, none⟩ (.int .i64 ((k : Int) + (m : Int) + (x : Int)))) := fun q => by
                have hsW := (((Only.refl b 1 w).drewN q).setCell (.int .i64 ((k : Int) + (m : Int) + (x : Int)))).seg h.ready.seg h.ready.sep
                have sm := hsW.mid (k := k + m) (m := x) hfit
                obtain ⟨b', o', e', hc'⟩ := sm.2.2 (by omega)
                cases e'
                exact run_convert_bytes_arg (P := Tryd.prog) _ 25 5 Tryd.underlying25 Tryd.underlying5 sb (so + (k + m)) x (cap - (k + m)) _ sm.1 hc' 9 Tryd.underlying9
              have HM : Hid (∀ q, Touch b w ((w.drewN q).setCell ⟨b, 1, none⟩ (.int .i64 ((k : Int) + (m : Int) + (x : Int)))) ∧ Rdr ((w.drewN q).setCell ⟨b, 1, none⟩ (.int .i64 ((k : Int) + (m : Int) + (x : Int)))) b (some ⟨sb, so, none⟩) n cap (k + (m + x)) 0 l a) := fun q => by
                have := moveAt (m := m + x) h q (by omega)
                rwa [show (k : Int) + ((m + x : Nat) : Int) = (k : Int) + (m : Int) + (x : Int) by omega] at this
              generalize strOfNums ((l.drop (k + m)).take x) = S at *
              have hcc : 0 < (cap : Int) - ((k : Int) + (m : Int)) := by omega
              rcases hls with hls | ⟨hls, hls'⟩
              all_goals
                go_enter Tryd.func53, Tryd.ntmps53
                go_wp2_with fail
                go_quiet ((go_at_call 63; exact Calls.quiet_of_same (HC.out _ _)))
                go_wp2
                all_goals go_ret
                all_goals rw [HQ.out]
                all_goals exact ⟨rfl, HM.out _⟩
          · have HQ := hide (meth_err (Z := .string ⟨#[]⟩) (k := k) (show rT least most l k = .error 0 by
              unfold rT; rw [hd]; show (if _ then _ else _) = _; rw [if_pos hal, if_neg (by rw [hl.out]; exact hfit)]))
            clear hd hal
            rcases hls with hls | ⟨hls, hls'⟩
            all_goals
              go_enter Tryd.func53, Tryd.ntmps53
              go_wp2_with fail
              go_quiet ((go_at_call 63; exact Calls.quiet_of_same (HC.out _ _)))
              go_wp2
              all_goals go_ret
              all_goals rw [HQ.out]
              all_goals exact ⟨rfl, breakAt h _ _⟩
        · have HQ := hide (meth_err (Z := .string ⟨#[]⟩) (k := k) (show rT least most l k = .error 4 by unfold rT; rw [hd]; exact if_neg hal))
          have hw : (most < 0) ∨ (0 ≤ most ∧ decide (most < 0) = false ∧ most < (x : Int)) ∨ (0 ≤ most ∧ decide (most < 0) = false ∧ ¬ most < (x : Int) ∧ 0 < least ∧ (x : Int) < least) := by
            by_cases e : most < 0
            · left; exact e
            · right
              by_cases e2 : most < (x : Int)
              · left; exact ⟨by omega, by simpa using e, e2⟩
              · right; exact ⟨by omega, by simpa using e, e2, by omega, by omega⟩
          clear hd hal
          rcases hw with hw | ⟨hw0, hw, hw2⟩ | ⟨hw0, hw, hw2, hw3, hw4⟩
          all_goals
            go_enter Tryd.func53, Tryd.ntmps53
            go_wp2_with fail
            go_quiet ((go_at_call 63; exact Calls.quiet_of_same (HC.out _ _)))
            go_wp2
            all_goals go_ret
            all_goals rw [HQ.out]
            all_goals exact ⟨rfl, breakAt h _ _⟩
      · rw [g3] at hd; cases hd
      · rw [g3] at hd; cases hd
  · have HQ := hide (meth_broken (Z := .string ⟨#[]⟩) (r := rT least most l k) (k := k) hf)
    have hb : (f != 0) = true := by rw [bne_iff_ne]; exact hf
    clear hf
    go_enter Tryd.func53, Tryd.ntmps53
    go_wp2
    go_ret
    rw [HQ.out]
    exact ⟨rfl, Touch.refl b w, h⟩
end Go.Proofs.YtifhbbljjalpfabDoor
