/- Texts of the proof, joined. -/
import Derived.Test.YtlhididcanedhaaGreatDoorJ01
import Derived.Test.YtlhididcanedhaaGreatDoorJ02
import Derived.Test.YtlhididcanedhaaGreatDoorJ03
import Derived.Deep.RegionHeld3
import Derived.Deep.Light
import Derived.Test.YtlhididcanedhaaGreatDoorRows
import Derived.WalkKit
import Derived.WalkLawsBesides
import Derived.Lib.Bytealg
/- The contract of slices.Repeat at a list of one number, one to seven times. -/
namespace Go.Proofs.YtlhididcanedhaaGreatDoor
open Go.RowKit Go.Wire1

set_option maxHeartbeats 2000000 in
set_option maxRecDepth 100000 in
theorem mul64_one (k : Nat) (w : World) (hk : k ≤ 7) :
    Calls Tryz.prog 163 #[.int .u64 1, .int .u64 (k : Int)] w fun e w' => e = .returned (.tuple #[.int .u64 0, .int .u64 (k : Int)]) ∧ w = w' := by
  rcases (by omega : k = 0 ∨ k = 1 ∨ k = 2 ∨ k = 3 ∨ k = 4 ∨ k = 5 ∨ k = 6 ∨ k = 7) with rfl | rfl | rfl | rfl | rfl | rfl | rfl | rfl <;>
  · go_enter Tryz.func163, Tryz.ntmps163
    go_wp2
    go_ret2
    exact ⟨rfl, rfl⟩
set_option maxHeartbeats 2000000 in
set_option maxRecDepth 100000 in
theorem mul_one_any (k : Nat) (w : World) (hk : k ≤ 7) :
    Calls Tryz.prog 146 #[.int .u64 1, .int .u64 (k : Int)] w fun e w' => e = .returned (.tuple #[.int .u64 0, .int .u64 (k : Int)]) ∧ w = w' := by
  go_enter Tryz.func146, Tryz.ntmps146
  go_wp2_with (go_at_call 163; refine (mul64_one k _ hk).mono ?_; rintro e w' ⟨rfl, rfl⟩)
  go_ret2
  exact ⟨rfl, rfl⟩

/-- A row of k numbers in the making: the first j are m. -/
structure Rep (w w' : World) (g k j : Nat) (m : Int) : Prop where
  row : ∃ cur : List Value, cur.length = k ∧ w'.heap[g]? = some (.cells cur.toArray 3 (0, 0)) ∧ ∀ q, q < j → cur[q]? = some (.int .i64 m)
  low : Below w.heap.size w w'
theorem rep_copy {w w' : World} {g k j a n cap : Nat} {m : Int} (h : Rep w w' g k j m) (hg : w.heap.size ≤ g) (hj : j < k) (hs : ∀ q, q < n → w'.cell? ⟨a, q, none⟩ = some (.int .i64 m)) (t : Nat) (ht : t = Nat.min n (k - j)) :
    ∃ w2, (Builtin.copy_ #[28, 28] 3 #[.slice (some ⟨g, j, none⟩) (k - j) (k - j), .slice (some ⟨a, 0, none⟩) n cap]).run Tryz.prog w' = .ok (.int .i64 (t : Int)) w2 ∧ Rep w w2 g k (j + t) m := by
  obtain ⟨⟨cur, hl, hrow, hc⟩, hb⟩ := h
  have t1 : t ≤ n := by rw [ht]; exact Nat.min_le_left _ _
  have t2 : t ≤ k - j := by rw [ht]; exact Nat.min_le_right _ _
  have hrun := run_copy_row (P := Tryz.prog) w' 28 28 3 3 g j (k - j) (k - j) ⟨a, 0, none⟩ n cap cur.toArray 3 (List.replicate t (.int .i64 m)) Tryz.underlying28 Tryz.size3 hrow
    (by rw [List.length_replicate]; exact ht)
    (fun q v hv => by
      rw [List.getElem?_replicate] at hv
      split at hv
      · rename_i hq
        cases hv
        rw [add_at, Nat.zero_add]
        exact hs q (by omega)
      · cases hv)
    (by simp only [List.length_replicate, List.size_toArray]; omega)
    (fun v hv => by rw [List.eq_of_mem_replicate hv]; rfl)
  rw [List.length_replicate] at hrun
  refine ⟨_, hrun, ⟨⟨_, ?_, setRow_heap w' g cur.toArray _ 3 (0, 0) hrow, ?_⟩, below_setRow hb hg _⟩⟩
  · simp only [List.length_append, List.length_take, List.length_drop, List.length_replicate]
    omega
  · intro q hq
    by_cases h1 : q < j
    · rw [List.append_assoc, List.getElem?_append_left (by simp; omega), List.getElem?_take_of_lt h1]
      exact hc q h1
    · rw [List.append_assoc, List.getElem?_append_right (by simp; omega), List.getElem?_append_left (by simp; omega), List.getElem?_replicate, if_pos (by simp; omega)]
theorem Rep.cell {w w' : World} {g k j : Nat} {m : Int} (h : Rep w w' g k j m) {q : Nat} (hq : q < j) : w'.cell? ⟨g, q, none⟩ = some (.int .i64 m) := by
  obtain ⟨⟨cur, hl, hrow, hc⟩, hb⟩ := h
  rw [cell_of_row _ _ _ _ _ _ hrow]
  simpa using hc q hq
theorem Rep.drewN {w w' : World} {g k j : Nat} {m : Int} (h : Rep w w' g k j m) (q : Nat) : Rep w (w'.drewN q) g k j m := ⟨h.row, h.low.drewN' q⟩
theorem Rep.seg {w w' : World} {g k : Nat} {m : Int} (h : Rep w w' g k k m) (hk : k ≤ 7) (hm : 0 ≤ m ∧ m ≤ 1048576) : SegI w' (some ⟨g, 0, none⟩) k (List.replicate k m) := by
  refine ⟨List.length_replicate, by unfold maxLen; omega, fun _ => ⟨g, 0, rfl, fun q hq => ?_⟩, fun q => ?_⟩
  · rw [Nat.zero_add, h.cell hq, List.getD, List.getElem?_replicate, if_pos hq]; rfl
  · rw [List.getD, List.getElem?_replicate]
    split
    · show _ ≤ m ∧ m ≤ _; omega
    · show _ ≤ (0 : Int) ∧ (0 : Int) ≤ _; omega

set_option maxHeartbeats 2000000 in
set_option maxRecDepth 100000 in
theorem repeat_any (m : Int) (q k : Nat) (w : World) (h : Blk w q [.int .i64 m]) (h1 : 1 ≤ k) (hk : k ≤ 7) (hm : 0 ≤ m ∧ m ≤ 1048576) :
    Calls Tryz.prog 116 #[.slice (some ⟨q, 0, none⟩) 1 1, .int .i64 (k : Int)] w fun e w' => e = .returned (.slice (some ⟨w.heap.size, 0, none⟩) k k) ∧ SegI w' (some ⟨w.heap.size, 0, none⟩) k (List.replicate k m) ∧ Below w.heap.size w w' := by
  obtain ⟨i0, hi, hz0, hz1, hz2⟩ := info_parts Tryz.info3
  have H : Hid (Blk w q [.int .i64 m]) := h
  have HM := hide hm
  have hmx : k ≤ maxLen := by unfold maxLen; omega
  clear h hm
  go_enter Tryz.func116, Tryz.ntmps116
  go_wp2_with (first
    | (go_at_call 146; refine (mul_one_any k _ hk).mono ?_; rintro e w' ⟨rfl, rfl⟩)
    | (at_make; refine wpList_make_full _ rfl _ _ 28 rfl w.heap.size 3 i0 (.int .i64 0) 1 Tryz.underlying28 hi hz0 hz1 .i64 .i64 _ _ k rfl rfl (by omega) (by omega) (by rw [hz2]; omega) hmx (Nat.le_refl _) ?_))
  intro w1 hown hgrow
  have hb : Below w.heap.size w w1 := (Below.refl w.heap.size w).grown hgrow (Nat.le_refl _) (fun j hj => by cases hj)
  obtain ⟨cur, hcl, hrow⟩ := made_row hown
  have R0 : Rep w w1 w.heap.size k 0 m := ⟨⟨cur, hcl, hrow, fun _ h => absurd h (Nat.not_lt_zero _)⟩, hb⟩
  obtain ⟨w2, hrun, R1⟩ := rep_copy (n := 1) (cap := 1) (a := q) R0 (Nat.le_refl _) (by omega) (fun j hj => by
    obtain rfl : j = 0 := by omega
    exact (H.out.on hb).cell 0 _ rfl) 1 (by show 1 = min 1 (k - 0); omega)
  rw [Nat.sub_zero] at hrun
  have HR : Hid (Rep w w2 w.heap.size k 1 m) := R1
  clear hown hgrow hrow hcl R0 R1 hb H
  go_wp2
  clear hrun
  go_loopw [8] (fun i wr => ∃ j : Nat, i = .int .i64 (j : Int) ∧ 1 ≤ j ∧ j ≤ k ∧ Hid (Rep w wr w.heap.size k j m)) (fun i _ => k - (intOf i).toNat)
  case atStart => exact ⟨1, rfl, Nat.le_refl _, h1, HR⟩
  case round =>
    obtain ⟨j, rfl, hj1, hjk, HJ⟩ := hrel
    by_cases hlt : j < k
    · obtain ⟨t, ht⟩ : ∃ t, t = Nat.min j (k - j) := ⟨_, rfl⟩
      obtain ⟨w3, hrun3, R3⟩ := rep_copy (n := j) (cap := k) (a := w.heap.size) (HJ.out.drewN 1) (Nat.le_refl _) hlt (fun q hq => (HJ.out.drewN 1).cell hq) t ht
      have h3 : Hid (Rep w w3 w.heap.size k (j + t) m) := R3
      have t1 : 1 ≤ t ∧ t ≤ k - j := by subst ht; show 1 ≤ min j (k - j) ∧ min j (k - j) ≤ k - j; omega
      clear R3 ht HJ HR
      --@region
      replace hrun3 : (Builtin.copy_ #[28, 28] 3 #[.slice (some ⟨w.heap.size, j, none⟩) (k - j) (k - j), .slice (some ⟨w.heap.size, 0, none⟩) j k]).run Tryz.prog wr.drew = .ok (.int .i64 (t : Int)) w3 := hrun3
      go_wp2
      refine wp_region_noPanic ?_
      refine wp_region_held_drew (S := (fun _ => True)) (by kernel_rfl) trivial (fun hHeld => ?_)
      refine tk 0 ?_
      refine tk 1 ?_
      refine tk 2 ?_
      refine tk 3 ?_
      refine tk 4 ?_
      refine tk 5 ?_
      refine tk 6 ?_
      refine wpAnyH_ready (rs := [7]) (by kernel_rfl) (by simp) ?_
      refine AllReadyH.cons rfl (fun K hK => ?_) AllReadyH.nil
      rw [if_pos (by rfl)]
      go_wp2_with fail
      refine hK.out _ _ trivial (fun hHeld => ?_)
      clear hK K
      try simp only [Act.put, List.getElem_toArray, List.getElem_cons_succ, List.getElem_cons_zero, List.setIfInBounds_toArray, List.set_cons_zero, List.set_cons_succ]
      refine tk 8 ?_
      refine tk 9 ?_
      refine wpAnyH_done (by kernel_rfl) ?_ _
      refine NoPanic.normal ?_
      rw [show IntKind.i64.wrap ((j : Int) + (t : Int)) = (j : Int) + (t : Int) by rw [IntKind.wrap_i64]; omega]
      go_wp2
      go_roundw
      case rel => exact ⟨j + t, by go_num, by omega, by omega, h3⟩
      case measure => simp [intOf]; omega
    · obtain rfl : j = k := by omega
      go_wp2
      go_ret
      exact ⟨rfl, HJ.out.seg hk HM.out, HJ.out.low⟩
end Go.Proofs.YtlhididcanedhaaGreatDoor
/- The contracts of isVector, isPlace and Covers. -/
namespace Go.Proofs.YtlhididcanedhaaGreatDoor
open Go.RowKit Go.Wire1

theorem isVec_fault {l : List Int} : isVec l = decide (fault l = 0) := by
  unfold isVec fault
  cases okW l.length <;> cases okL l <;> simp

set_option maxRecDepth 100000 in
theorem isVector_any (a : Option Addr) (n cap : Nat) (l : List Int) (w : World) (h : SegI w a n l) :
    Calls Tryz.prog 145 #[.slice a n cap] w fun e w' => e = .returned (.bool (isVec l)) ∧ w = w' := by
  have HS : Hid (SegI w a n l) := h
  clear h
  go_enter Tryz.func145, Tryz.ntmps145
  go_wp2_with fail
  refine (vfaultOf_any a n cap l _ HS.out).mono ?_
  rintro e w' ⟨rfl, rfl⟩
  by_cases hf : fault l = 0
  · have HQ : Hid (isVec l = true) := by show _ = _; rw [isVec_fault, hf]; rfl
    rw [hf]
    clear hf
    go_wp2
    go_ret
    exact ⟨by rw [HQ.out]; rfl, rfl⟩
  · have HQ : Hid (isVec l = false) := by show _ = _; rw [isVec_fault]; exact decide_eq_false hf
    have hb : ((fault l : Int) == 0) = false := by rw [beq_eq_false_iff_ne]; omega
    clear hf
    generalize fault l = f at *
    go_wp2
    go_ret
    exact ⟨by rw [HQ.out]; rfl, rfl⟩

def isPl (n : Nat) (i : Int) : Bool := decide (0 ≤ i ∧ i < n)

/-- The first list is nowhere below the second one, as far as k places. -/
def overK (xs ys : List Int) (k : Nat) : Bool := (List.range k).all fun q => decide (ys.getD q 0 ≤ xs.getD q 0)
def coversB (xs ys : List Int) : Bool := decide (xs.length = ys.length) && (isVec xs && (isVec ys && overK xs ys xs.length))
theorem overK_step {xs ys : List Int} {k : Nat} (h : overK xs ys k = true) (h2 : ys.getD k 0 ≤ xs.getD k 0) : overK xs ys (k + 1) = true := by
  unfold overK at *
  rw [List.range_succ, List.all_append, h]
  simp only [List.all_cons, List.all_nil, Bool.and_true, Bool.true_and, decide_eq_true_eq]
  exact h2
theorem overK_no {xs ys : List Int} {k n : Nat} (hk : k < n) (h : xs.getD k 0 < ys.getD k 0) : overK xs ys n = false := by
  rw [Bool.eq_false_iff]
  intro e
  have := of_decide_eq_true (List.all_eq_true.1 e k (List.mem_range.2 hk))
  omega
theorem overK_iff {xs ys : List Int} {n : Nat} : overK xs ys n = true ↔ ∀ q, q < n → ys.getD q 0 ≤ xs.getD q 0 := by
  unfold overK
  rw [List.all_eq_true]
  constructor
  · intro h q hq
    exact of_decide_eq_true (h q (List.mem_range.2 hq))
  · intro h q hq
    exact decide_eq_true (h q (List.mem_range.1 hq))

set_option maxHeartbeats 400000 in
set_option maxRecDepth 100000 in
theorem covers_any (a b : Option Addr) (n m cap cap' : Nat) (xs ys : List Int) (w : World) (ha : SegI w a n xs) (hb : SegI w b m ys) :
    Calls Tryz.prog 115 #[.slice a n cap, .slice b m cap'] w fun e w' => e = .returned (.bool (coversB xs ys)) ∧ ∃ q, w' = w.drewN q := by
  have HA : Hid (SegI w a n xs) := ha
  have HB : Hid (SegI w b m ys) := hb
  have HN : Hid (xs.length = n) := ha.1
  have HM : Hid (ys.length = m) := hb.1
  have hn := ha.2.1
  have hm := hb.2.1
  unfold maxLen at hn hm
  clear ha hb
  by_cases hnm : n = m
  · subst hnm
    go_enter Tryz.func115, Tryz.ntmps115
    go_wp2_with fail
    refine (isVector_any a n cap xs _ HA.out).mono ?_
    rintro e w' ⟨rfl, rfl⟩
    cases h1 : isVec xs with
    | false =>
      have HQ : Hid (coversB xs ys = false) := by show _ = _; unfold coversB; rw [h1]; simp
      clear h1
      go_wp2
      go_ret
      exact ⟨by rw [HQ.out]; rfl, 0, rfl⟩
    | true =>
      go_wp2_with fail
      refine (isVector_any b n cap' ys _ HB.out).mono ?_
      rintro e w' ⟨rfl, rfl⟩
      cases h2 : isVec ys with
      | false =>
        have HQ : Hid (coversB xs ys = false) := by show _ = _; unfold coversB; rw [h2]; simp
        clear h1 h2
        go_wp2
        go_ret
        exact ⟨by rw [HQ.out]; rfl, 0, rfl⟩
      | true =>
        have HQ : Hid (coversB xs ys = overK xs ys n) := by show _ = _; unfold coversB; rw [h1, h2, HN.out, HM.out]; simp
        clear h1 h2
        go_wp2
        go_loopw [23] (fun i wr => ∃ k q : Nat, i = .int .i64 (k : Int) ∧ k ≤ n ∧ Hid (overK xs ys k = true) ∧ wr = w.drewN q) (fun i _ => n - (intOf i).toNat)
        case atStart => exact ⟨0, 0, rfl, Nat.zero_le _, rfl, rfl⟩
        case round =>
          obtain ⟨k, q, rfl, hk, HT, rfl⟩ := hrel
          by_cases hlt : k < n
          · obtain ⟨ba, oa, rfl, hca⟩ := HA.out.2.2.1 (by omega)
            obtain ⟨bb, ob, rfl, hcb⟩ := HB.out.2.2.1 (by omega)
            have ca : w.cell? ⟨ba, oa + k, none⟩ = some (.int .i64 (xs.getD k 0)) := hca k hlt
            have cb : w.cell? ⟨bb, ob + k, none⟩ = some (.int .i64 (ys.getD k 0)) := hcb k hlt
            clear hca hcb
            by_cases he : xs.getD k 0 < ys.getD k 0
            · have HS : Hid (coversB xs ys = false) := by show _ = _; rw [HQ.out]; exact overK_no hlt he
              generalize xs.getD k 0 = c at ca he
              generalize ys.getD k 0 = d at cb he
              go_wp2
              go_quiet (fail)
              go_wp2
              go_ret
              exact ⟨by rw [HS.out]; rfl, _, by rw [World.drewN_drewN]⟩
            · have HT' : Hid (overK xs ys (k + 1) = true) := overK_step HT.out (by omega)
              generalize xs.getD k 0 = c at ca he
              generalize ys.getD k 0 = d at cb he
              go_wp2
              go_quiet (fail)
              go_wp2
              go_roundw
              case rel => exact ⟨k + 1, _, by go_num, by omega, HT', rfl⟩
              case measure => simp [intOf]; omega
          · have HS : Hid (coversB xs ys = true) := by show _ = _; rw [HQ.out]; obtain rfl : k = n := by omega
                                                       exact HT.out
            go_wp2
            go_ret
            exact ⟨by rw [HS.out]; rfl, _, rfl⟩
  · have HQ : Hid (coversB xs ys = false) := by show _ = _; unfold coversB; rw [decide_eq_false (by rw [HN.out, HM.out]; exact hnm)]; rfl
    have hne : ((n : Int) != (m : Int)) = true := by rw [bne_iff_ne]; omega
    go_enter Tryz.func115, Tryz.ntmps115
    go_wp2
    go_ret
    exact ⟨by rw [HQ.out]; rfl, 0, rfl⟩
end Go.Proofs.YtlhididcanedhaaGreatDoor
/- The contract of package record's isDeps. -/
namespace Go.Proofs.YtlhididcanedhaaGreatDoor
open Go.RowKit Go.Wire1

theorem repl_getD {k q : Nat} {m : Int} (h : q < k) : (List.replicate k m).getD q 0 = m := by rw [List.getD, List.getElem?_replicate, if_pos h]; rfl
theorem covers_deps {k : Nat} (r : Rc) (h1 : 1 ≤ k) (hk : k ≤ 7) : coversB (List.replicate k (mostR r)) r.deps = depsR (k : Int) r := by
  have hm : 0 ≤ mostR r ∧ mostR r ≤ 1048576 := by unfold mostR; split <;> omega
  have hv : isVec (List.replicate k (mostR r)) = true := by
    unfold isVec okW okL
    rw [List.length_replicate, Bool.and_eq_true]
    refine ⟨decide_eq_true ⟨h1, hk⟩, List.all_eq_true.2 (fun x hx => ?_)⟩
    rw [List.eq_of_mem_replicate hx]
    exact decide_eq_true hm
  rw [Bool.eq_iff_iff]
  unfold coversB depsR
  rw [hv, List.length_replicate]
  simp only [Bool.and_eq_true, decide_eq_true_eq, true_and]
  constructor
  · rintro ⟨hl, hy, ho⟩
    refine ⟨by omega, List.all_eq_true.2 (fun x hx => ?_)⟩
    obtain ⟨q, hq, rfl⟩ := List.getElem_of_mem hx
    have h3 := overK_iff.1 ho q (by omega)
    rw [repl_getD (by omega), List.getD, List.getElem?_eq_getElem hq] at h3
    unfold isVec at hy
    have h4 := okL_at (Bool.and_eq_true _ _ ▸ hy : _ ∧ _).2 q
    rw [List.getD, List.getElem?_eq_getElem hq] at h4
    simp only [Option.getD_some] at h3 h4
    simp only [Bool.and_eq_true, decide_eq_true_eq]
    omega
  · rintro ⟨hl, ha⟩
    have ha' : ∀ q, q < r.deps.length → 0 ≤ r.deps.getD q 0 ∧ r.deps.getD q 0 ≤ mostR r := fun q hq => by
      have := List.all_eq_true.1 ha (r.deps.getD q 0) (by rw [List.getD, List.getElem?_eq_getElem hq]; exact List.getElem_mem hq)
      simpa only [Bool.and_eq_true, decide_eq_true_eq] using this
    refine ⟨by omega, ?_, overK_iff.2 (fun q hq => ?_)⟩
    · unfold isVec okW okL
      rw [Bool.and_eq_true]
      refine ⟨decide_eq_true ⟨by omega, by omega⟩, List.all_eq_true.2 (fun x hx => ?_)⟩
      have := List.all_eq_true.1 ha x hx
      simp only [Bool.and_eq_true, decide_eq_true_eq] at this
      exact decide_eq_true ⟨this.1, by omega⟩
    · rw [repl_getD hq]; exact (ha' q (by omega)).2
set_option maxHeartbeats 4000000 in
set_option maxRecDepth 100000 in
theorem risDeps_any (k : Nat) (r : Rc) (w : World) (h1 : 1 ≤ k) (hk : k ≤ 7) (hd : SegI w r.da r.dn r.deps) :
    Calls Tryz.prog 82 #[.int .i64 (k : Int), .agg (rcs r).toArray] w fun e w' => e = .returned (.bool (depsR (k : Int) r)) ∧ Below w.heap.size w w' := by
  obtain ⟨V, hV⟩ : ∃ V, V = w.alloc (.cells (rcs r).toArray 30) := ⟨_, rfl⟩
  have Q : Hid (Blk V w.heap.size (rcs r)) := by rw [hV]; exact blk_new w 30 (rcs r)
  have BV : Hid (Below w.heap.size w V) := by rw [hV]; exact (Below.refl _ _).alloc (Nat.le_refl _) _
  have hVs : w.heap.size ≤ V.heap.size := BV.out.size
  have HD := hide hd
  clear hd
  have HC := hide (covers_deps (k := k) r h1 hk)
  cases h0 : noopR r with
  | true =>
    have HQ : Hid (coversB (List.replicate k 0) r.deps = depsR (k : Int) r) := by rw [← HC.out]; show _ = _; unfold mostR; rw [h0]; rfl
    generalize depsR (k : Int) r = res at *
    clear HC
    go_enter Tryz.func82, Tryz.ntmps82
    go_wp2_with (first | (refine wpList_load_mid rfl 30 _ rfl w.heap.size 0 rfl (rcs r) _ (by first | exact Q.out.range | (rw [← hV]; exact Q.out.range)) Tryz.underlying30 rfl (by kernel_rfl) ?_))
    rw [← hV]
    clear hV
    refine (risNoop_any r _).mono ?_
    rintro e w1 ⟨rfl, hb1⟩
    have B1 : Hid (Below w.heap.size w w1) := BV.out.trans (hb1.mono hVs)
    have Q1 : Hid (Blk w1 w.heap.size (rcs r)) := Q.out.on hb1
    have S1 : Hid (SegI w1 r.da r.dn r.deps) := HD.out.below B1.out (Nat.le_refl _)
    have q15 : w1.cell? ⟨w.heap.size, 15, none⟩ = some (.slice r.da r.dn r.dc) := Q1.out.cell 15 _ (rcs15 r)
    have hw1 : w.heap.size < w1.heap.size := Q1.out.lt
    rw [h0]
    clear h0 hb1 Q BV hVs
    go_wp2
    refine wp_region_noPanic ?_
    refine wp_region_held_drew (S := (fun w' => w'.cell? ⟨w.heap.size, 15, none⟩ = some (.slice r.da r.dn r.dc))) (by kernel_rfl) q15 (fun hHeld => ?_)
    refine tk 0 ?_
    refine tk 2 ?_
    refine tk 4 ?_
    refine tk 5 ?_
    refine wpAnyH_ready (rs := [1]) (by kernel_rfl) (by simp) ?_
    refine AllReadyH.cons rfl (fun K hK => ?_) AllReadyH.nil
    rw [if_pos (by rfl)]
    go_wp2_with fail
    obtain ⟨w2, hw2⟩ : ∃ w2, w2 = (w1.alloc (.cells #[.int .i64 0] 3)).drew := ⟨_, rfl⟩
    have B2 : Hid (Below w1.heap.size w1 w2) := by rw [hw2]; exact ((Below.refl w1.heap.size w1).alloc (Nat.le_refl _) _).drewN' 1
    have K2 : Hid (Blk w2 w1.heap.size [.int .i64 0]) := by rw [hw2]; exact (blk_new w1 3 [.int .i64 0]).drewN 1
    have z2 : w1.heap.size ≤ w2.heap.size := B2.out.size
    rw [← hw2]
    clear hw2
    refine hK.out _ _ ((Q1.out.on B2.out).cell 15 _ (rcs15 r)) (fun hHeld => ?_)
    clear hK K
    try simp only [Act.put, List.getElem_toArray, List.getElem_cons_succ, List.getElem_cons_zero, List.setIfInBounds_toArray, List.set_cons_zero, List.set_cons_succ]
    refine wpAnyH_ready (rs := [3]) (by kernel_rfl) (by simp) ?_
    refine AllReadyH.cons rfl (fun K hK => ?_) AllReadyH.nil
    rw [if_pos (by rfl)]
    go_wp2_with fail
    refine (repeat_any 0 w1.heap.size k _ K2.out h1 hk (by omega)).mono ?_
    rintro e w3 ⟨rfl, G3, hb3⟩
    have z3 : w2.heap.size ≤ w3.heap.size := hb3.size
    have B3 : Hid (Below w1.heap.size w1 w3) := B2.out.trans (hb3.mono z2)
    refine hK.out _ _ ((Q1.out.on B3.out).cell 15 _ (rcs15 r)) (fun hHeld => ?_)
    clear hK K
    try simp only [Act.put, List.getElem_toArray, List.getElem_cons_succ, List.getElem_cons_zero, List.setIfInBounds_toArray, List.set_cons_zero, List.set_cons_succ]
    refine wpAnyH_ready (rs := [6]) (by kernel_rfl) (by simp) ?_
    refine AllReadyH.cons rfl (fun K hK => ?_) AllReadyH.nil
    rw [if_pos (by rfl)]
    go_wp2_with fail
    refine (covers_any _ _ k r.dn _ _ (List.replicate k 0) r.deps _ G3 (S1.out.below B3.out (Nat.le_refl _))).mono ?_
    rintro e w4 ⟨rfl, q, rfl⟩
    rw [HQ.out]
    refine hK.out _ _ ((Q1.out.on (B3.out.drewN' q)).cell 15 _ (rcs15 r)) (fun hHeld => ?_)
    clear hK K
    try simp only [Act.put, List.getElem_toArray, List.getElem_cons_succ, List.getElem_cons_zero, List.setIfInBounds_toArray, List.set_cons_zero, List.set_cons_succ]
    refine tk 7 ?_
    refine wpAnyH_done (by kernel_rfl) ?_ _
    refine NoPanic.normal ?_
    go_wp2
    go_ret
    exact ⟨rfl, B1.out.trans ((B3.out.drewN' q).mono (by omega))⟩
  | false =>
    have HQ : Hid (coversB (List.replicate k 1048576) r.deps = depsR (k : Int) r) := by rw [← HC.out]; show _ = _; unfold mostR; rw [h0]; rfl
    generalize depsR (k : Int) r = res at *
    clear HC
    go_enter Tryz.func82, Tryz.ntmps82
    go_wp2_with (first | (refine wpList_load_mid rfl 30 _ rfl w.heap.size 0 rfl (rcs r) _ (by first | exact Q.out.range | (rw [← hV]; exact Q.out.range)) Tryz.underlying30 rfl (by kernel_rfl) ?_))
    rw [← hV]
    clear hV
    refine (risNoop_any r _).mono ?_
    rintro e w1 ⟨rfl, hb1⟩
    have B1 : Hid (Below w.heap.size w w1) := BV.out.trans (hb1.mono hVs)
    have Q1 : Hid (Blk w1 w.heap.size (rcs r)) := Q.out.on hb1
    have S1 : Hid (SegI w1 r.da r.dn r.deps) := HD.out.below B1.out (Nat.le_refl _)
    have q15 : w1.cell? ⟨w.heap.size, 15, none⟩ = some (.slice r.da r.dn r.dc) := Q1.out.cell 15 _ (rcs15 r)
    have hw1 : w.heap.size < w1.heap.size := Q1.out.lt
    rw [h0]
    clear h0 hb1 Q BV hVs
    go_wp2
    refine wp_region_noPanic ?_
    refine wp_region_held_drew (S := (fun w' => w'.cell? ⟨w.heap.size, 15, none⟩ = some (.slice r.da r.dn r.dc))) (by kernel_rfl) q15 (fun hHeld => ?_)
    refine tk 0 ?_
    refine tk 2 ?_
    refine tk 4 ?_
    refine tk 5 ?_
    refine wpAnyH_ready (rs := [1]) (by kernel_rfl) (by simp) ?_
    refine AllReadyH.cons rfl (fun K hK => ?_) AllReadyH.nil
    rw [if_pos (by rfl)]
    go_wp2_with fail
    obtain ⟨w2, hw2⟩ : ∃ w2, w2 = (w1.alloc (.cells #[.int .i64 1048576] 3)).drew := ⟨_, rfl⟩
    have B2 : Hid (Below w1.heap.size w1 w2) := by rw [hw2]; exact ((Below.refl w1.heap.size w1).alloc (Nat.le_refl _) _).drewN' 1
    have K2 : Hid (Blk w2 w1.heap.size [.int .i64 1048576]) := by rw [hw2]; exact (blk_new w1 3 [.int .i64 1048576]).drewN 1
    have z2 : w1.heap.size ≤ w2.heap.size := B2.out.size
    rw [← hw2]
    clear hw2
    refine hK.out _ _ ((Q1.out.on B2.out).cell 15 _ (rcs15 r)) (fun hHeld => ?_)
    clear hK K
    try simp only [Act.put, List.getElem_toArray, List.getElem_cons_succ, List.getElem_cons_zero, List.setIfInBounds_toArray, List.set_cons_zero, List.set_cons_succ]
    refine wpAnyH_ready (rs := [3]) (by kernel_rfl) (by simp) ?_
    refine AllReadyH.cons rfl (fun K hK => ?_) AllReadyH.nil
    rw [if_pos (by rfl)]
    go_wp2_with fail
    refine (repeat_any 1048576 w1.heap.size k _ K2.out h1 hk (by omega)).mono ?_
    rintro e w3 ⟨rfl, G3, hb3⟩
    have z3 : w2.heap.size ≤ w3.heap.size := hb3.size
    have B3 : Hid (Below w1.heap.size w1 w3) := B2.out.trans (hb3.mono z2)
    refine hK.out _ _ ((Q1.out.on B3.out).cell 15 _ (rcs15 r)) (fun hHeld => ?_)
    clear hK K
    try simp only [Act.put, List.getElem_toArray, List.getElem_cons_succ, List.getElem_cons_zero, List.setIfInBounds_toArray, List.set_cons_zero, List.set_cons_succ]
    refine wpAnyH_ready (rs := [6]) (by kernel_rfl) (by simp) ?_
    refine AllReadyH.cons rfl (fun K hK => ?_) AllReadyH.nil
    rw [if_pos (by rfl)]
    go_wp2_with fail
    refine (covers_any _ _ k r.dn _ _ (List.replicate k 1048576) r.deps _ G3 (S1.out.below B3.out (Nat.le_refl _))).mono ?_
    rintro e w4 ⟨rfl, q, rfl⟩
    rw [HQ.out]
    refine hK.out _ _ ((Q1.out.on (B3.out.drewN' q)).cell 15 _ (rcs15 r)) (fun hHeld => ?_)
    clear hK K
    try simp only [Act.put, List.getElem_toArray, List.getElem_cons_succ, List.getElem_cons_zero, List.setIfInBounds_toArray, List.set_cons_zero, List.set_cons_succ]
    refine tk 7 ?_
    refine wpAnyH_done (by kernel_rfl) ?_ _
    refine NoPanic.normal ?_
    go_wp2
    go_ret
    exact ⟨rfl, B1.out.trans ((B3.out.drewN' q).mono (by omega))⟩
end Go.Proofs.YtlhididcanedhaaGreatDoor
/- The contract of package record's isZero. -/
namespace Go.Proofs.YtlhididcanedhaaGreatDoor
open Go.RowKit Go.Wire1

/-- A letter of a field. -/
def Ltr (x : Nat) : Prop := x = 119 ∨ x = 110 ∨ x = 105 ∨ x = 98 ∨ x = 115 ∨ x = 99 ∨ x = 113 ∨ x = 100
end Go.Proofs.YtlhididcanedhaaGreatDoor
/- The contracts of strings.ContainsRune at an ASCII letter, and of cmp.Or at two errors. -/
namespace Go.Proofs.YtlhididcanedhaaGreatDoor
open Go.RowKit Go.Wire1

/-- The first of two errors that is one. -/
def orR (a b : Nat) : Nat := if a = 0 then b else a
set_option maxHeartbeats 2000000 in
set_option maxRecDepth 100000 in
theorem cmpOr_any (a b q : Nat) (w : World) (h : Blk w q [.int .i64 (a : Int), .int .i64 (b : Int)]) :
    Calls Tryz.prog 77 #[.slice (some ⟨q, 0, none⟩) 2 2] w fun e w' => e = .returned (.int .i64 (orR a b : Nat)) ∧ w = w' := by
  have c0 := h.cell 0 _ rfl
  have c1 := h.cell 1 _ rfl
  clear h
  by_cases ha : a = 0
  · subst ha
    by_cases hb : b = 0
    · subst hb
      go_enter Tryz.func77, Tryz.ntmps77
      go_wp2
      refine wp_loop_rounds 3 ?_
      rw [rounds_succ]; go_wp2
      rw [rounds_succ]; go_wp2
      rw [rounds_succ]; go_wp2
      go_ret
      exact ⟨rfl, rfl⟩
    · have e1 : Hid (orR 0 b = b) := rfl
      have n1 : ((b : Int) != 0) = true := by rw [bne_iff_ne]; omega
      go_enter Tryz.func77, Tryz.ntmps77
      go_wp2
      refine wp_loop_rounds 3 ?_
      rw [rounds_succ]; go_wp2
      rw [rounds_succ]; go_wp2
      go_ret
      exact ⟨by rw [e1.out]; rfl, rfl⟩
  · have e1 : Hid (orR a b = a) := by show _ = _; unfold orR; rw [if_neg ha]
    have n1 : ((a : Int) != 0) = true := by rw [bne_iff_ne]; omega
    go_enter Tryz.func77, Tryz.ntmps77
    go_wp2
    refine wp_loop_rounds 3 ?_
    rw [rounds_succ]; go_wp2
    go_ret
    exact ⟨by rw [e1.out]; rfl, rfl⟩
end Go.Proofs.YtlhididcanedhaaGreatDoor
