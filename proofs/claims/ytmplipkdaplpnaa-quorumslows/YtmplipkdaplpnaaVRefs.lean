/- The contracts of the document's own Union and what it calls. -/
import Derived.Test.YtmplipkdaplpnaaVUnion
import Derived.Test.YtmplipkdaplpnaaVRef0
namespace Go.Proofs.Ytmplipkdaplpnaa
open Go.RowKit Go.Wire1

set_option maxHeartbeats 400000 in
set_option maxRecDepth 100000 in
theorem most_any (a : Option Addr) (n cap q : Nat) (ls : List LI) (w : World) (h : SegL w a n ls) (hq : q ≤ 7) :
    Calls Try.prog 74 #[.slice a n cap, .int .i64 (q : Int)] w fun e w' => e = .returned (.int .i64 (maxAt (lsOf ls) q)) ∧ w = w' := by
  have HN : Hid ((lsOf ls).length = n) := by show _ = _; rw [lsOf_len]; exact h.1
  have hm := h.2.1
  unfold maxLen at hm
  have HS : Hid (SegL w a n ls) := h
  clear h
  generalize hL : lsOf ls = L at *
  go_enter Try.func74, Try.ntmps74
  go_wp2
  go_loop [5, 6] (fun x i => ∃ k : Nat, i = .int .i64 (k : Int) ∧ k ≤ n ∧ ∃ m : Int, x = .int .i64 m ∧ Hid (m = maxAt (L.take k) q)) (fun _ i => n - (intOf i).toNat)
  case atStart => exact ⟨0, rfl, Nat.zero_le _, 0, rfl, rfl⟩
  case round =>
    obtain ⟨k, rfl, hk, m, rfl, HX⟩ := hrel
    by_cases hlt : k < n
    · obtain ⟨b, off, rfl⟩ := HS.out.addr (by omega)
      obtain ⟨ak, nk, ck, cc, sk⟩ := HS.out.at (i := k) hlt
      rw [hL] at sk
      have HK : Hid (maxAt (L.take (k + 1)) q = if q < nk ∧ m < (L.getD k []).getD q 0 then (L.getD k []).getD q 0 else m) := by
        show _ = _
        rw [take_snoc [] (by have := HN.out; omega), maxAt_snoc, sk.1, ← HX.out]
      have hnk := sk.2.1
      unfold maxLen at hnk
      by_cases h1 : q < nk
      · obtain ⟨bk, ok, rfl, hck⟩ := sk.2.2.1 (by omega)
        have cx := hck q h1
        clear hck sk
        generalize (L.getD k []).getD q 0 = y at *
        by_cases h2 : m < y
        · have HK' : Hid (y = maxAt (L.take (k + 1)) q) := by show _ = _; rw [HK.out, if_pos ⟨h1, h2⟩]
          clear HK
          go_wp2
          go_round
          case rel => exact ⟨k + 1, by go_num, by omega, y, rfl, HK'⟩
          case measure => simp [intOf]; omega
        · have HK' : Hid (m = maxAt (L.take (k + 1)) q) := by show _ = _; rw [HK.out, if_neg (fun h => h2 h.2)]
          clear HK
          go_wp2
          go_round
          case rel => exact ⟨k + 1, by go_num, by omega, m, rfl, HK'⟩
          case measure => simp [intOf]; omega
      · have HK' : Hid (m = maxAt (L.take (k + 1)) q) := by show _ = _; rw [HK.out, if_neg (fun h => h1 h.1)]
        clear HK sk
        go_wp2
        go_round
        case rel => exact ⟨k + 1, by go_num, by omega, m, rfl, HK'⟩
        case measure => simp [intOf]; omega
    · have HK' : Hid (m = maxAt L q) := by show _ = _; have := HX.out; rwa [List.take_of_length_le (by have := HN.out; omega)] at this
      go_wp2
      go_ret
      exact ⟨by rw [← HK'.out]; rfl, rfl⟩

set_option maxHeartbeats 1000000 in
set_option maxRecDepth 100000 in
theorem refUnion_any (a : Option Addr) (n cap : Nat) (ls : List LI) (w : World) (h : SegL w a n ls) :
    Calls Try.prog 54 #[.slice a n cap] w fun e w' => ∃ v, e = .returned (.tuple #[v, .int .i64 (unionE (lsOf ls) : Int)]) ∧ w'.ownsRow w.heap.size 3 1 v (unionL (lsOf ls)).length ((unionL (lsOf ls)).map (Value.int .i64)) ∧ Below w.heap.size w w' := by
  obtain ⟨i0, hi, hz0, hz1, hz2⟩ := info_parts Try.info3
  have HN : Hid ((lsOf ls).length = n) := by show _ = _; rw [lsOf_len]; exact h.1
  have hm := h.2.1
  unfold maxLen at hm
  have HS : Hid (SegL w a n ls) := h
  by_cases h0 : n = 0
  · subst h0
    have HQ : Hid (unionE (lsOf ls) = 31 ∧ unionL (lsOf ls) = []) := unionE_31 (alikeB_nil HN.out)
    clear h HS
    go_enter Try.func54, Try.ntmps54
    go_wp2
    go_ret2
    exact ⟨_, by rw [HQ.out.1]; rfl, by rw [HQ.out.2]; exact World.ownsRow_nil _ _ _ _, Below.refl _ _⟩
  · obtain ⟨b, off, rfl⟩ := h.addr (by omega)
    obtain ⟨a0, n0, cap0, c0, s0⟩ := h.at (i := 0) (by omega)
    rw [Nat.add_zero] at c0
    have HN0 : Hid (((lsOf ls).getD 0 []).length = n0) := s0.1
    have hn0 := s0.2.1
    unfold maxLen at hn0
    have hz' : ((n : Int) == 0) = false := by rw [beq_eq_false_iff_ne]; omega
    clear h s0
    generalize hL : lsOf ls = L at *
    go_enter Try.func54, Try.ntmps54
    go_wp2
    go_loopw [4] (fun i wr => ∃ k q : Nat, i = .int .i64 (k : Int) ∧ k ≤ n ∧ wr = w.drewN q ∧ Hid (((L.take k).all fun l => decide (l.length = n0)) = true ∧ (0 < k → okW n0 = true))) (fun i _ => n - (intOf i).toNat)
    case atStart => exact ⟨0, 0, rfl, Nat.zero_le _, rfl, rfl, fun h => by omega⟩
    case round =>
      obtain ⟨k, q, rfl, hk, rfl, HT⟩ := hrel
      by_cases hlt : k < n
      · obtain ⟨ak, nk, ck, cc, sk⟩ := HS.out.at (i := k) hlt
        rw [hL] at sk
        have hnk : Hid ((L.getD k []).length = nk) := sk.1
        have hnk2 := sk.2.1
        clear sk
        go_wp2_with fail
        refine (width_any ak nk ck _ hnk2).mono ?_
        rintro e w' ⟨rfl, rfl⟩
        unfold maxLen at hnk2
        cases hw : okW nk with
        | false =>
          have HQ : Hid (unionE L = 31 ∧ unionL L = []) := by
            apply unionE_31
            by_cases e : nk = n0
            · exact alikeB_first (by rw [HN0.out, ← e]; exact hw)
            · exact alikeB_no (i := k) (by have := HN.out; omega) (by rw [hnk.out, HN0.out]; exact e)
          clear hw
          go_wp2
          go_quiet (fail)
          go_wp2
          go_ret2
          exact ⟨_, by rw [HQ.out.1]; rfl, by rw [HQ.out.2]; exact World.ownsRow_nil _ _ _ _, ((Below.refl _ _).drewN' _).drewN' _⟩
        | true =>
          by_cases he : nk = n0
          · subst he
            have HT' : Hid (((L.take (k + 1)).all fun l => decide (l.length = nk)) = true ∧ (0 < k + 1 → okW nk = true)) := ⟨all_step (by have := HN.out; omega) HT.out.1 (decide_eq_true hnk.out), fun _ => hw⟩
            clear hw
            go_wp2
            go_quiet (fail)
            go_wp2
            go_roundw
            case rel => exact ⟨k + 1, _, by go_num, by omega, rfl, HT'⟩
            case measure => simp [intOf]; omega
          · have HQ : Hid (unionE L = 31 ∧ unionL L = []) := unionE_31 (alikeB_no (i := k) (by have := HN.out; omega) (by rw [hnk.out, HN0.out]; exact he))
            have hne : ((nk : Int) != (n0 : Int)) = true := by rw [bne_iff_ne]; omega
            clear hw
            go_wp2
            go_quiet (fail)
            go_wp2
            go_ret2
            exact ⟨_, by rw [HQ.out.1]; rfl, by rw [HQ.out.2]; exact World.ownsRow_nil _ _ _ _, ((Below.refl _ _).drewN' _).drewN' _⟩
      · have HW : Hid (alikeB L = true) := alikeB_yes (by have := HN.out; omega) (by rw [HN0.out]; exact HT.out.2 (by omega)) (by have := HT.out.1; rw [List.take_of_length_le (by have := HN.out; omega)] at this; rw [HN0.out]; exact this)
        have hn7 : n0 ≤ 7 := by have := HN0.out; have := alikeB_len HW.out; omega
        clear HT
        go_wp2
        go_loopw [6] (fun i wr => ∃ k q : Nat, i = .int .i64 (k : Int) ∧ k ≤ n ∧ wr = w.drewN q ∧ Hid ((L.take k).all okL = true)) (fun i _ => n - (intOf i).toNat)
        case atStart => exact ⟨0, _, rfl, Nat.zero_le _, rfl, rfl⟩
        case round =>
          obtain ⟨k2, q2, rfl, hk2, rfl, HT⟩ := hrel
          by_cases hlt2 : k2 < n
          · obtain ⟨ak, nk, ck, cc, sk⟩ := HS.out.at (i := k2) hlt2
            rw [hL] at sk
            have hnk : Hid ((L.getD k2 []).length = nk) := sk.1
            have cc2 : (w.drewN q2).cell? ⟨b, off + k2, none⟩ = some (.slice ak nk ck) := cc
            go_wp2_with fail
            refine (entries_any ak nk ck _ _ (sk.drewN _)).mono ?_
            rintro e w' ⟨rfl, rfl⟩
            clear sk
            cases ho : okL (L.getD k2 []) with
            | true =>
              have HT' : Hid ((L.take (k2 + 1)).all okL = true) := all_step (by have := HN.out; omega) HT.out ho
              clear ho
              go_wp2
              go_roundw
              case rel => exact ⟨k2 + 1, _, by go_num, by omega, rfl, HT'⟩
              case measure => simp [intOf]; omega
            | false =>
              have HQ : Hid (unionE L = 32 ∧ unionL L = []) := by
                have := unionE_32 HW.out (i := k2) (by have := HN.out; omega) (fun e => by rw [fault_ok e] at ho; cases ho)
                exact ⟨this.1, this.2.1⟩
              clear ho
              go_wp2
              go_ret2
              exact ⟨_, by rw [HQ.out.1]; rfl, by rw [HQ.out.2]; exact World.ownsRow_nil _ _ _ _, (Below.refl _ _).drewN' _⟩
          · have HQ : Hid (unionE L = 0 ∧ unionL L = rowOf n0 (maxAt L)) := by
              have := unionE_0 HW.out (by have := HT.out; rwa [List.take_of_length_le (by have := HN.out; omega)] at this)
              rw [HN0.out] at this
              exact this
            go_wp2
            go_loopw [8, 9] (fun v i wr => ∃ p : Nat, i = .int .i64 (p : Int) ∧ p ≤ n0 ∧ wr.ownsRow w.heap.size 3 1 v (rowOf p (maxAt L)).length ((rowOf p (maxAt L)).map (Value.int .i64)) ∧ Below w.heap.size w wr) (fun _ i _ => n0 - (intOf i).toNat)
            case atStart => exact ⟨0, rfl, Nat.zero_le _, World.ownsRow_nil _ _ _ _, (Below.refl _ _).drewN' _⟩
            case round =>
              obtain ⟨p, rfl, hp, hown, hbel⟩ := hrel
              have hsz := hbel.size
              have hpl := rowOf_length p (maxAt L)
              have c1 : wr.cell? ⟨b, off, none⟩ = some (.slice a0 n0 cap0) := by rw [hbel.cell (p := ⟨b, off, none⟩) (cell_lt c0)]; exact c0
              by_cases hlt3 : p < n0
              · have HT2 : Hid (rowOf (p + 1) (maxAt L) = rowOf p (maxAt L) ++ [maxAt L p]) := rowOf_succ _ _
                go_wp2_with fail
                refine (most_any (some ⟨b, off, none⟩) n cap p ls _ (HS.out.below hbel (Nat.le_refl _)) (by omega)).mono ?_
                rintro e w' ⟨rfl, rfl⟩
                rw [hL]
                generalize maxAt L p = z at *
                generalize rowOf p (maxAt L) = pre at *
                go_wp2_with (first
                  | (at_builtin; refine wpList_append_own _ rfl _ _ 22 rfl w.heap.size 3 i0 (.int .i64 0) 1 8 Try.underlying22 hi hz0 hz1 hz2 rfl (by decide) _ _ _ rfl (hown.alloc _) ⟨wr.heap.size, 0, none⟩ 1 1 [.int .i64 z] rfl rfl ?c1 ?c2 ?c3 ?c4 ?c5 ?_))
                case c1 =>
                  intro j u hj
                  match j, hj with
                  | 0, hj => simp at hj; subst hj; simp [Addr.add]
                case c2 => intro u hu; simp at hu; subst hu; rfl
                case c3 => unfold maxLen; omega
                case c4 => omega
                case c5 => simp; omega
                intro v' w1 hown' hgrow _
                rw [← hpl] at hown'
                have R := pushI hsz hown hbel hown' hgrow
                clear hown' hgrow hown
                go_wp2
                go_roundw
                case rel => rw [← HT2.out] at R; exact ⟨p + 1, by go_num, by omega, R⟩
                case measure => simp [intOf]; omega
              · have HP : Hid (rowOf p (maxAt L) = unionL L) := by
                  show _ = _
                  rw [HQ.out.2]; congr 1; omega
                rw [HP.out] at hown
                clear hpl
                go_wp2
                go_ret2
                exact ⟨_, by rw [HQ.out.1]; rfl, hown, hbel⟩

theorem union_seg {a : Option Addr} {n cap : Nat} {ls : List LI} {w0 w : World} {B : Nat} (hb : Below B w0 w) (hB : B ≤ w0.heap.size) (h : SegL w a n ls) (hcap : n ≤ cap) {r : List Int} {e0 m : Nat} (hr : unionL (lsOf ls) = r) (he : unionE (lsOf ls) = e0) (hm : r.length = m) :
    Calls Try.prog 51 #[.slice a n cap] w fun e w' => ∃ a1 c1, e = .returned (.tuple #[.slice a1 m c1, .int .i64 (e0 : Int)]) ∧ m ≤ c1 ∧ SegI w' a1 m r ∧ Below B w0 w' ∧ Below w.heap.size w w' := by
  refine (union_any a n cap ls w h hcap).mono ?_
  rintro e w' ⟨v, rfl, hown, hb'⟩
  obtain ⟨a1, c1, rfl, hc, hs⟩ := own_segI hown (fit_union _)
  subst hr he hm
  exact ⟨a1, c1, rfl, hc, hs, hb.on hb' hB, hb'⟩
theorem refUnion_seg {a : Option Addr} {n cap : Nat} {ls : List LI} {w0 w : World} {B : Nat} (hb : Below B w0 w) (hB : B ≤ w0.heap.size) (h : SegL w a n ls) {r : List Int} {e0 m : Nat} (hr : unionL (lsOf ls) = r) (he : unionE (lsOf ls) = e0) (hm : r.length = m) :
    Calls Try.prog 54 #[.slice a n cap] w fun e w' => ∃ a1 c1, e = .returned (.tuple #[.slice a1 m c1, .int .i64 (e0 : Int)]) ∧ m ≤ c1 ∧ SegI w' a1 m r ∧ Below B w0 w' ∧ Below w.heap.size w w' := by
  refine (refUnion_any a n cap ls w h).mono ?_
  rintro e w' ⟨v, rfl, hown, hb'⟩
  obtain ⟨a1, c1, rfl, hc, hs⟩ := own_segI hown (fit_union _)
  subst hr he hm
  exact ⟨a1, c1, rfl, hc, hs, hb.on hb' hB, hb'⟩
end Go.Proofs.Ytmplipkdaplpnaa
