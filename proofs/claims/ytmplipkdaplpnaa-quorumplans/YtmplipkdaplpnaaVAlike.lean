/- The contract of vector's alike: are there lists, all of one length that a vector may have? -/
import Derived.Test.YtmplipkdaplpnaaVInts
namespace Go.Proofs.Ytmplipkdaplpnaa
open Go.RowKit Go.Wire1

set_option maxHeartbeats 400000 in
set_option maxRecDepth 100000 in
theorem valike_any (a : Option Addr) (n cap : Nat) (ls : List LI) (w : World) (h : SegL w a n ls) :
    Calls Try.prog 68 #[.slice a n cap] w fun e w' => e = .returned (.bool (alikeB (lsOf ls))) ∧ w = w' := by
  have HN : Hid ((lsOf ls).length = n) := by show _ = _; rw [lsOf_len]; exact h.1
  have hm := h.2.1
  unfold maxLen at hm
  by_cases h0 : n = 0
  · subst h0
    have HQ : Hid (alikeB (lsOf ls) = false) := alikeB_nil HN.out
    clear h
    go_enter Try.func68, Try.ntmps68
    go_wp2
    go_ret
    exact ⟨by rw [HQ.out]; rfl, rfl⟩
  · obtain ⟨b, off, rfl⟩ := h.addr (by omega)
    have HS : Hid (SegL w (some ⟨b, off, none⟩) n ls) := h
    obtain ⟨a0, n0, cap0, c0, s0⟩ := h.at (i := 0) (by omega)
    rw [Nat.add_zero] at c0
    have HN0 : Hid (((lsOf ls).getD 0 []).length = n0) := s0.1
    have hn0 := s0.2.1
    unfold maxLen at hn0
    clear s0 h
    generalize hL : lsOf ls = L at *
    go_enter Try.func68, Try.ntmps68
    go_wp2_with fail
    refine (isWidth_any (n0 : Int) _).mono ?_
    rintro e w' ⟨rfl, rfl⟩
    rw [okI_nat]
    cases hw : okW n0 with
    | false =>
      have HQ : Hid (alikeB L = false) := alikeB_first (by rw [HN0.out]; exact hw)
      clear hw
      go_wp2
      go_ret
      exact ⟨by rw [HQ.out]; rfl, rfl⟩
    | true =>
      have HW : Hid (okW n0 = true) := hw
      clear hw
      go_wp2
      go_loop [18] (fun i => ∃ k : Nat, i = .int .i64 (k : Int) ∧ k ≤ n ∧ Hid (((L.take k).all fun l => decide (l.length = n0)) = true)) (fun i => n - (intOf i).toNat)
      case atStart => exact ⟨0, rfl, Nat.zero_le _, rfl⟩
      case round =>
        obtain ⟨k, rfl, hk, HT⟩ := hrel
        by_cases hlt : k < n
        · obtain ⟨ak, nk, ck, cc, sk⟩ := HS.out.at (i := k) hlt
          rw [hL] at sk
          have hnk : Hid ((L.getD k []).length = nk) := sk.1
          clear sk
          by_cases he : nk = n0
          · subst he
            have HT' : Hid (((L.take (k + 1)).all fun l => decide (l.length = nk)) = true) := all_step (by have := HN.out; omega) HT.out (decide_eq_true hnk.out)
            go_wp2
            go_round
            case rel => exact ⟨k + 1, by go_num, by omega, HT'⟩
            case measure => simp [intOf]; omega
          · have HQ : Hid (alikeB L = false) := alikeB_no (i := k) (by have := HN.out; omega) (by rw [hnk.out, HN0.out]; exact he)
            have hne : ((nk : Int) != (n0 : Int)) = true := by rw [bne_iff_ne]; omega
            go_wp2
            go_ret
            exact ⟨by rw [HQ.out]; rfl, rfl⟩
        · have HQ : Hid (alikeB L = true) := alikeB_yes (by have := HN.out; omega) (by rw [HN0.out]; exact HW.out) (by have := HT.out; rw [List.take_of_length_le (by have := HN.out; omega)] at this; rw [HN0.out]; exact this)
          go_wp2
          go_ret
          exact ⟨by rw [HQ.out]; rfl, rfl⟩
end Go.Proofs.Ytmplipkdaplpnaa
