/- The contract of slices.Repeat at a list of one number, one to seven times. -/
import Derived.Test.YtjpggmenbnkbbaaGreatDoorBlk
import Derived.Test.YtjpggmenbnkbbaaGreatDoorVLit
import Derived.Deep.RegionHeld3
namespace Go.Proofs.YtjpggmenbnkbbaaGreatDoor
open Go.RowKit Go.Wire1

set_option maxHeartbeats 2000000 in
set_option maxRecDepth 100000 in
theorem mul64_one (k : Nat) (w : World) (hk : k ≤ 7) :
    Calls Tryz.prog 113 #[.int .u64 1, .int .u64 (k : Int)] w fun e w' => e = .returned (.tuple #[.int .u64 0, .int .u64 (k : Int)]) ∧ w = w' := by
  rcases (by omega : k = 0 ∨ k = 1 ∨ k = 2 ∨ k = 3 ∨ k = 4 ∨ k = 5 ∨ k = 6 ∨ k = 7) with rfl | rfl | rfl | rfl | rfl | rfl | rfl | rfl <;>
  · go_enter Tryz.func113, Tryz.ntmps113
    go_wp2
    go_ret2
    exact ⟨rfl, rfl⟩
set_option maxHeartbeats 2000000 in
set_option maxRecDepth 100000 in
theorem mul_one_any (k : Nat) (w : World) (hk : k ≤ 7) :
    Calls Tryz.prog 100 #[.int .u64 1, .int .u64 (k : Int)] w fun e w' => e = .returned (.tuple #[.int .u64 0, .int .u64 (k : Int)]) ∧ w = w' := by
  go_enter Tryz.func100, Tryz.ntmps100
  go_wp2_with (go_at_call 113; refine (mul64_one k _ hk).mono ?_; rintro e w' ⟨rfl, rfl⟩)
  go_ret2
  exact ⟨rfl, rfl⟩

/-- A row of k numbers in the making: the first j are m. -/
structure Rep (w w' : World) (g k j : Nat) (m : Int) : Prop where
  row : ∃ cur : List Value, cur.length = k ∧ w'.heap[g]? = some (.cells cur.toArray 3 (0, 0)) ∧ ∀ q, q < j → cur[q]? = some (.int .i64 m)
  low : Below w.heap.size w w'
theorem rep_copy {w w' : World} {g k j a n cap : Nat} {m : Int} (h : Rep w w' g k j m) (hg : w.heap.size ≤ g) (hj : j < k) (hs : ∀ q, q < n → w'.cell? ⟨a, q, none⟩ = some (.int .i64 m)) (t : Nat) (ht : t = Nat.min n (k - j)) :
    ∃ w2, (Builtin.copy_ #[28, 28] 3 #[.slice (some ⟨g, j, none⟩) (k - j) (k - j), .slice (some ⟨a, 0, none⟩) n cap]).run Tryz.prog w' = .ok (.int .i64 (t : Int)) w2 ∧ Rep w w2 g k (j + t) m := by
  obtain ⟨⟨cur, hl, hrow, hc⟩, hb⟩ := h
  have t1 : t ≤ n := by rw [ht]; exact Nat.min_le_left _ _
  have t2 : t ≤ k - j := by rw [ht]; exact Nat.min_le_right _ _
  have hrun := run_copy_row (P := Tryz.prog) w' 28 28 3 3 g j (k - j) (k - j) ⟨a, 0, none⟩ n cap cur.toArray 3 (List.replicate t (.int .i64 m)) Tryz.underlying28 Tryz.size3 hrow
    (by rw [List.length_replicate]; exact ht)
    (fun q v hv => by
      rw [List.getElem?_replicate] at hv
      split at hv
      · rename_i hq
        cases hv
        rw [add_at, Nat.zero_add]
        exact hs q (by omega)
      · cases hv)
    (by simp only [List.length_replicate, List.size_toArray]; omega)
    (fun v hv => by rw [List.eq_of_mem_replicate hv]; rfl)
  rw [List.length_replicate] at hrun
  refine ⟨_, hrun, ⟨⟨_, ?_, setRow_heap w' g cur.toArray _ 3 (0, 0) hrow, ?_⟩, below_setRow hb hg _⟩⟩
  · simp only [List.length_append, List.length_take, List.length_drop, List.length_replicate]
    omega
  · intro q hq
    by_cases h1 : q < j
    · rw [List.append_assoc, List.getElem?_append_left (by simp; omega), List.getElem?_take_of_lt h1]
      exact hc q h1
    · rw [List.append_assoc, List.getElem?_append_right (by simp; omega), List.getElem?_append_left (by simp; omega), List.getElem?_replicate, if_pos (by simp; omega)]
theorem Rep.cell {w w' : World} {g k j : Nat} {m : Int} (h : Rep w w' g k j m) {q : Nat} (hq : q < j) : w'.cell? ⟨g, q, none⟩ = some (.int .i64 m) := by
  obtain ⟨⟨cur, hl, hrow, hc⟩, hb⟩ := h
  rw [cell_of_row _ _ _ _ _ _ hrow]
  simpa using hc q hq
theorem Rep.drewN {w w' : World} {g k j : Nat} {m : Int} (h : Rep w w' g k j m) (q : Nat) : Rep w (w'.drewN q) g k j m := ⟨h.row, h.low.drewN' q⟩
theorem Rep.seg {w w' : World} {g k : Nat} {m : Int} (h : Rep w w' g k k m) (hk : k ≤ 7) (hm : 0 ≤ m ∧ m ≤ 1048576) : SegI w' (some ⟨g, 0, none⟩) k (List.replicate k m) := by
  refine ⟨List.length_replicate, by unfold maxLen; omega, fun _ => ⟨g, 0, rfl, fun q hq => ?_⟩, fun q => ?_⟩
  · rw [Nat.zero_add, h.cell hq, List.getD, List.getElem?_replicate, if_pos hq]; rfl
  · rw [List.getD, List.getElem?_replicate]
    split
    · show _ ≤ m ∧ m ≤ _; omega
    · show _ ≤ (0 : Int) ∧ (0 : Int) ≤ _; omega

set_option maxHeartbeats 2000000 in
set_option maxRecDepth 100000 in
theorem repeat_any (m : Int) (q k : Nat) (w : World) (h : Blk w q [.int .i64 m]) (h1 : 1 ≤ k) (hk : k ≤ 7) (hm : 0 ≤ m ∧ m ≤ 1048576) :
    Calls Tryz.prog 74 #[.slice (some ⟨q, 0, none⟩) 1 1, .int .i64 (k : Int)] w fun e w' => e = .returned (.slice (some ⟨w.heap.size, 0, none⟩) k k) ∧ SegI w' (some ⟨w.heap.size, 0, none⟩) k (List.replicate k m) ∧ Below w.heap.size w w' := by
  obtain ⟨i0, hi, hz0, hz1, hz2⟩ := info_parts Tryz.info3
  have H : Hid (Blk w q [.int .i64 m]) := h
  have HM := hide hm
  have hmx : k ≤ maxLen := by unfold maxLen; omega
  clear h hm
  go_enter Tryz.func74, Tryz.ntmps74
  go_wp2_with (first
    | (go_at_call 100; refine (mul_one_any k _ hk).mono ?_; rintro e w' ⟨rfl, rfl⟩)
    | (at_make; refine wpList_make_full _ rfl _ _ 28 rfl w.heap.size 3 i0 (.int .i64 0) 1 Tryz.underlying28 hi hz0 hz1 .i64 .i64 _ _ k rfl rfl (by omega) (by omega) (by rw [hz2]; omega) hmx (Nat.le_refl _) ?_))
  intro w1 hown hgrow
  have hb : Below w.heap.size w w1 := (Below.refl w.heap.size w).grown hgrow (Nat.le_refl _) (fun j hj => by cases hj)
  obtain ⟨cur, hcl, hrow⟩ := made_row hown
  have R0 : Rep w w1 w.heap.size k 0 m := ⟨⟨cur, hcl, hrow, fun _ h => absurd h (Nat.not_lt_zero _)⟩, hb⟩
  obtain ⟨w2, hrun, R1⟩ := rep_copy (n := 1) (cap := 1) (a := q) R0 (Nat.le_refl _) (by omega) (fun j hj => by
    obtain rfl : j = 0 := by omega
    exact (H.out.on hb).cell 0 _ rfl) 1 (by show 1 = min 1 (k - 0); omega)
  rw [Nat.sub_zero] at hrun
  have HR : Hid (Rep w w2 w.heap.size k 1 m) := R1
  clear hown hgrow hrow hcl R0 R1 hb H
  go_wp2
  clear hrun
  go_loopw [8] (fun i wr => ∃ j : Nat, i = .int .i64 (j : Int) ∧ 1 ≤ j ∧ j ≤ k ∧ Hid (Rep w wr w.heap.size k j m)) (fun i _ => k - (intOf i).toNat)
  case atStart => exact ⟨1, rfl, Nat.le_refl _, h1, HR⟩
  case round =>
    obtain ⟨j, rfl, hj1, hjk, HJ⟩ := hrel
    by_cases hlt : j < k
    · obtain ⟨t, ht⟩ : ∃ t, t = Nat.min j (k - j) := ⟨_, rfl⟩
      obtain ⟨w3, hrun3, R3⟩ := rep_copy (n := j) (cap := k) (a := w.heap.size) (HJ.out.drewN 1) (Nat.le_refl _) hlt (fun q hq => (HJ.out.drewN 1).cell hq) t ht
      have h3 : Hid (Rep w w3 w.heap.size k (j + t) m) := R3
      have t1 : 1 ≤ t ∧ t ≤ k - j := by subst ht; show 1 ≤ min j (k - j) ∧ min j (k - j) ≤ k - j; omega
      clear R3 ht HJ HR
      --@region
      replace hrun3 : (Builtin.copy_ #[28, 28] 3 #[.slice (some ⟨w.heap.size, j, none⟩) (k - j) (k - j), .slice (some ⟨w.heap.size, 0, none⟩) j k]).run Tryz.prog wr.drew = .ok (.int .i64 (t : Int)) w3 := hrun3
      go_wp2
      refine wp_region_noPanic ?_
      refine wp_region_held_drew (S := (fun _ => True)) (by kernel_rfl) trivial (fun hHeld => ?_)
      refine wpAnyH_take (i := 0) (v := ?_) rfl (by kernel_rfl) (by kernel_rfl) (by kernel_rfl) (fun _ _ _ h => h) (Or.inl ⟨by rfl, ?_⟩) (by assumption) ?_
      rotate_left
      · intro w hSw
        try dsimp only at hSw
        go_simp
        try with_reducible rfl
      try simp only [Act.put, List.getElem_toArray, List.getElem_cons_zero, List.setIfInBounds_toArray, List.set_cons_zero, List.set_cons_succ]
      refine wpAnyH_take (i := 1) (v := ?_) rfl (by kernel_rfl) (by kernel_rfl) (by kernel_rfl) (fun _ _ _ h => h) (Or.inl ⟨by rfl, ?_⟩) (by assumption) ?_
      rotate_left
      · intro w hSw
        try dsimp only at hSw
        go_simp
        try with_reducible rfl
      try simp only [Act.put, List.getElem_toArray, List.getElem_cons_succ, List.getElem_cons_zero, List.setIfInBounds_toArray, List.set_cons_zero, List.set_cons_succ]
      refine wpAnyH_take (i := 2) (v := ?_) rfl (by kernel_rfl) (by kernel_rfl) (by kernel_rfl) (fun _ _ _ h => h) (Or.inl ⟨by rfl, ?_⟩) (by assumption) ?_
      rotate_left
      · intro w hSw
        try dsimp only at hSw
        go_simp
        try with_reducible rfl
      try simp only [Act.put, List.getElem_toArray, List.getElem_cons_succ, List.getElem_cons_zero, List.setIfInBounds_toArray, List.set_cons_zero, List.set_cons_succ]
      refine wpAnyH_take (i := 3) (v := ?_) rfl (by kernel_rfl) (by kernel_rfl) (by kernel_rfl) (fun _ _ _ h => h) (Or.inl ⟨by rfl, ?_⟩) (by assumption) ?_
      rotate_left
      · intro w hSw
        try dsimp only at hSw
        go_simp
        try with_reducible rfl
      try simp only [Act.put, List.getElem_toArray, List.getElem_cons_succ, List.getElem_cons_zero, List.setIfInBounds_toArray, List.set_cons_zero, List.set_cons_succ]
      refine wpAnyH_take (i := 4) (v := ?_) rfl (by kernel_rfl) (by kernel_rfl) (by kernel_rfl) (fun _ _ _ h => h) (Or.inl ⟨by rfl, ?_⟩) (by assumption) ?_
      rotate_left
      · intro w hSw
        try dsimp only at hSw
        go_simp
        try with_reducible rfl
      try simp only [Act.put, List.getElem_toArray, List.getElem_cons_succ, List.getElem_cons_zero, List.setIfInBounds_toArray, List.set_cons_zero, List.set_cons_succ]
      refine wpAnyH_take (i := 5) (v := ?_) rfl (by kernel_rfl) (by kernel_rfl) (by kernel_rfl) (fun _ _ _ h => h) (Or.inl ⟨by rfl, ?_⟩) (by assumption) ?_
      rotate_left
      · intro w hSw
        try dsimp only at hSw
        go_simp
        try with_reducible rfl
      try simp only [Act.put, List.getElem_toArray, List.getElem_cons_succ, List.getElem_cons_zero, List.setIfInBounds_toArray, List.set_cons_zero, List.set_cons_succ]
      refine wpAnyH_take (i := 6) (v := ?_) rfl (by kernel_rfl) (by kernel_rfl) (by kernel_rfl) (fun _ _ _ h => h) (Or.inl ⟨by rfl, ?_⟩) (by assumption) ?_
      rotate_left
      · intro w hSw
        try dsimp only at hSw
        go_simp
        try with_reducible rfl
      try simp only [Act.put, List.getElem_toArray, List.getElem_cons_succ, List.getElem_cons_zero, List.setIfInBounds_toArray, List.set_cons_zero, List.set_cons_succ]
      refine wpAnyH_ready (rs := [7]) (by kernel_rfl) (by simp) ?_
      refine AllReadyH.cons rfl (fun K hK => ?_) AllReadyH.nil
      rw [if_pos (by rfl)]
      go_wp2_with fail
      refine hK.out _ _ trivial (fun hHeld => ?_)
      clear hK K
      try simp only [Act.put, List.getElem_toArray, List.getElem_cons_succ, List.getElem_cons_zero, List.setIfInBounds_toArray, List.set_cons_zero, List.set_cons_succ]
      refine wpAnyH_take (i := 8) (v := ?_) rfl (by kernel_rfl) (by kernel_rfl) (by kernel_rfl) (fun _ _ _ h => h) (Or.inl ⟨by rfl, ?_⟩) (by assumption) ?_
      rotate_left
      · intro w hSw
        try dsimp only at hSw
        go_simp
        try with_reducible rfl
      try simp only [Act.put, List.getElem_toArray, List.getElem_cons_succ, List.getElem_cons_zero, List.setIfInBounds_toArray, List.set_cons_zero, List.set_cons_succ]
      refine wpAnyH_take (i := 9) (v := ?_) rfl (by kernel_rfl) (by kernel_rfl) (by kernel_rfl) (fun _ _ _ h => h) (Or.inl ⟨by rfl, ?_⟩) (by assumption) ?_
      rotate_left
      · intro w hSw
        try dsimp only at hSw
        go_simp
        try with_reducible rfl
      try simp only [Act.put, List.getElem_toArray, List.getElem_cons_succ, List.getElem_cons_zero, List.setIfInBounds_toArray, List.set_cons_zero, List.set_cons_succ]
      refine wpAnyH_done (by kernel_rfl) ?_ _
      refine NoPanic.normal ?_
      rw [show IntKind.i64.wrap ((j : Int) + (t : Int)) = (j : Int) + (t : Int) by rw [IntKind.wrap_i64]; omega]
      go_wp2
      go_roundw
      case rel => exact ⟨j + t, by go_num, by omega, by omega, h3⟩
      case measure => simp [intOf]; omega
    · obtain rfl : j = k := by omega
      go_wp2
      go_ret
      exact ⟨rfl, HJ.out.seg hk HM.out, HJ.out.low⟩
end Go.Proofs.YtjpggmenbnkbbaaGreatDoor
