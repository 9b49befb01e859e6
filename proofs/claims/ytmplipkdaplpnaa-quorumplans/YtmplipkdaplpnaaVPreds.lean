/- The contracts of isVector, isPlace and Covers. -/
import Derived.Test.YtmplipkdaplpnaaVInts
namespace Go.Proofs.Ytmplipkdaplpnaa
open Go.RowKit Go.Wire1

theorem isVec_fault {l : List Int} : isVec l = decide (fault l = 0) := by
  unfold isVec fault
  cases okW l.length <;> cases okL l <;> simp

set_option maxRecDepth 100000 in
theorem isVector_any (a : Option Addr) (n cap : Nat) (l : List Int) (w : World) (h : SegI w a n l) :
    Calls Try.prog 77 #[.slice a n cap] w fun e w' => e = .returned (.bool (isVec l)) ∧ w = w' := by
  have HS : Hid (SegI w a n l) := h
  clear h
  go_enter Try.func77, Try.ntmps77
  go_wp2_with fail
  refine (vfaultOf_any a n cap l _ HS.out).mono ?_
  rintro e w' ⟨rfl, rfl⟩
  by_cases hf : fault l = 0
  · have HQ : Hid (isVec l = true) := by show _ = _; rw [isVec_fault, hf]; rfl
    rw [hf]
    clear hf
    go_wp2
    go_ret
    exact ⟨by rw [HQ.out]; rfl, rfl⟩
  · have HQ : Hid (isVec l = false) := by show _ = _; rw [isVec_fault]; exact decide_eq_false hf
    have hb : ((fault l : Int) == 0) = false := by rw [beq_eq_false_iff_ne]; omega
    clear hf
    generalize fault l = f at *
    go_wp2
    go_ret
    exact ⟨by rw [HQ.out]; rfl, rfl⟩

def isPl (n : Nat) (i : Int) : Bool := decide (0 ≤ i ∧ i < n)

/-- The first list is nowhere below the second one, as far as k places. -/
def overK (xs ys : List Int) (k : Nat) : Bool := (List.range k).all fun q => decide (ys.getD q 0 ≤ xs.getD q 0)
def coversB (xs ys : List Int) : Bool := decide (xs.length = ys.length) && (isVec xs && (isVec ys && overK xs ys xs.length))
theorem overK_step {xs ys : List Int} {k : Nat} (h : overK xs ys k = true) (h2 : ys.getD k 0 ≤ xs.getD k 0) : overK xs ys (k + 1) = true := by
  unfold overK at *
  rw [List.range_succ, List.all_append, h]
  simp only [List.all_cons, List.all_nil, Bool.and_true, Bool.true_and, decide_eq_true_eq]
  exact h2
theorem overK_no {xs ys : List Int} {k n : Nat} (hk : k < n) (h : xs.getD k 0 < ys.getD k 0) : overK xs ys n = false := by
  rw [Bool.eq_false_iff]
  intro e
  have := of_decide_eq_true (List.all_eq_true.1 e k (List.mem_range.2 hk))
  omega
theorem overK_iff {xs ys : List Int} {n : Nat} : overK xs ys n = true ↔ ∀ q, q < n → ys.getD q 0 ≤ xs.getD q 0 := by
  unfold overK
  rw [List.all_eq_true]
  constructor
  · intro h q hq
    exact of_decide_eq_true (h q (List.mem_range.2 hq))
  · intro h q hq
    exact decide_eq_true (h q (List.mem_range.1 hq))

set_option maxHeartbeats 400000 in
set_option maxRecDepth 100000 in
theorem covers_any (a b : Option Addr) (n m cap cap' : Nat) (xs ys : List Int) (w : World) (ha : SegI w a n xs) (hb : SegI w b m ys) :
    Calls Try.prog 66 #[.slice a n cap, .slice b m cap'] w fun e w' => e = .returned (.bool (coversB xs ys)) ∧ ∃ q, w' = w.drewN q := by
  have HA : Hid (SegI w a n xs) := ha
  have HB : Hid (SegI w b m ys) := hb
  have HN : Hid (xs.length = n) := ha.1
  have HM : Hid (ys.length = m) := hb.1
  have hn := ha.2.1
  have hm := hb.2.1
  unfold maxLen at hn hm
  clear ha hb
  by_cases hnm : n = m
  · subst hnm
    go_enter Try.func66, Try.ntmps66
    go_wp2_with fail
    refine (isVector_any a n cap xs _ HA.out).mono ?_
    rintro e w' ⟨rfl, rfl⟩
    cases h1 : isVec xs with
    | false =>
      have HQ : Hid (coversB xs ys = false) := by show _ = _; unfold coversB; rw [h1]; simp
      clear h1
      go_wp2
      go_ret
      exact ⟨by rw [HQ.out]; rfl, 0, rfl⟩
    | true =>
      go_wp2_with fail
      refine (isVector_any b n cap' ys _ HB.out).mono ?_
      rintro e w' ⟨rfl, rfl⟩
      cases h2 : isVec ys with
      | false =>
        have HQ : Hid (coversB xs ys = false) := by show _ = _; unfold coversB; rw [h2]; simp
        clear h1 h2
        go_wp2
        go_ret
        exact ⟨by rw [HQ.out]; rfl, 0, rfl⟩
      | true =>
        have HQ : Hid (coversB xs ys = overK xs ys n) := by show _ = _; unfold coversB; rw [h1, h2, HN.out, HM.out]; simp
        clear h1 h2
        go_wp2
        go_loopw [23] (fun i wr => ∃ k q : Nat, i = .int .i64 (k : Int) ∧ k ≤ n ∧ Hid (overK xs ys k = true) ∧ wr = w.drewN q) (fun i _ => n - (intOf i).toNat)
        case atStart => exact ⟨0, 0, rfl, Nat.zero_le _, rfl, rfl⟩
        case round =>
          obtain ⟨k, q, rfl, hk, HT, rfl⟩ := hrel
          by_cases hlt : k < n
          · obtain ⟨ba, oa, rfl, hca⟩ := HA.out.2.2.1 (by omega)
            obtain ⟨bb, ob, rfl, hcb⟩ := HB.out.2.2.1 (by omega)
            have ca : w.cell? ⟨ba, oa + k, none⟩ = some (.int .i64 (xs.getD k 0)) := hca k hlt
            have cb : w.cell? ⟨bb, ob + k, none⟩ = some (.int .i64 (ys.getD k 0)) := hcb k hlt
            clear hca hcb
            by_cases he : xs.getD k 0 < ys.getD k 0
            · have HS : Hid (coversB xs ys = false) := by show _ = _; rw [HQ.out]; exact overK_no hlt he
              generalize xs.getD k 0 = c at ca he
              generalize ys.getD k 0 = d at cb he
              go_wp2
              go_quiet (fail)
              go_wp2
              go_ret
              exact ⟨by rw [HS.out]; rfl, _, by rw [World.drewN_drewN]⟩
            · have HT' : Hid (overK xs ys (k + 1) = true) := overK_step HT.out (by omega)
              generalize xs.getD k 0 = c at ca he
              generalize ys.getD k 0 = d at cb he
              go_wp2
              go_quiet (fail)
              go_wp2
              go_roundw
              case rel => exact ⟨k + 1, _, by go_num, by omega, HT', rfl⟩
              case measure => simp [intOf]; omega
          · have HS : Hid (coversB xs ys = true) := by show _ = _; rw [HQ.out]; obtain rfl : k = n := by omega
                                                       exact HT.out
            go_wp2
            go_ret
            exact ⟨by rw [HS.out]; rfl, _, rfl⟩
  · have HQ : Hid (coversB xs ys = false) := by show _ = _; unfold coversB; rw [decide_eq_false (by rw [HN.out, HM.out]; exact hnm)]; rfl
    have hne : ((n : Int) != (m : Int)) = true := by rw [bne_iff_ne]; omega
    go_enter Try.func66, Try.ntmps66
    go_wp2
    go_ret
    exact ⟨by rw [HQ.out]; rfl, 0, rfl⟩
end Go.Proofs.Ytmplipkdaplpnaa
