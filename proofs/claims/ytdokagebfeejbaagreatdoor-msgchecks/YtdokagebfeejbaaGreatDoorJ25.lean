/- Texts of the proof, joined. -/
import Derived.Test.YtdokagebfeejbaaGreatDoorJ01
import Derived.Test.YtdokagebfeejbaaGreatDoorJ24
import Derived.Test.YtdokagebfeejbaaGreatDoorJ17
/- What is amiss with a shape: the contracts of the fault methods and of loadFault. -/
namespace Go.Proofs.YtdokagebfeejbaaGreatDoor
open Go.RowKit Go.Wire1

/-- What is amiss with what an instance runs. -/
def loadF (v n : Int) (may : Bool) (c : Cm) (sq : Int) (dl : List Int) : Int := orL [(chk v c : Int), unl (may || !(c.kind == 0)) 57, unl (seqB (c.kind == 0) sq) 55, unl (depsB n (c.kind == 0) dl) 56]
set_option maxHeartbeats 4000000 in
set_option maxRecDepth 100000 in
theorem fault_balloted (k : Nat) (row num x y v n : Int) (w : World) (hk : k < 10) (hK : Kmd w) :
    Calls Tryz.prog 187 #[.agg #[.int .i64 (k : Int), .int .i64 row, .int .i64 num, .int .i64 x, .int .i64 y], .int .i64 v, .int .i64 n] w fun e w' => e = .returned (.int .i64 (orL [unl (instB n row num) 52, unl (ballB k n row x y) 53])) ∧ Below w.heap.size w w' := by
  obtain ⟨X, hX⟩ : ∃ X, X = w.alloc (.cells #[.int .i64 (k : Int), .int .i64 row, .int .i64 num, .int .i64 x, .int .i64 y] 98) := ⟨_, rfl⟩
  have QX : Hid (Blk X w.heap.size [.int .i64 (k : Int), .int .i64 row, .int .i64 num, .int .i64 x, .int .i64 y]) := by rw [hX]; exact blk_new w 98 [.int .i64 (k : Int), .int .i64 row, .int .i64 num, .int .i64 x, .int .i64 y]
  have BX : Hid (Below w.heap.size w X) := by rw [hX]; exact (Below.refl _ w).alloc (Nat.le_refl _) _
  have HKM : Hid (Kmd X) := hK.below BX.out (Nat.le_refl _)
  clear hK
  go_enter Tryz.func187, Tryz.ntmps187
  go_upto_region 1 with fail
  rw [← hX]
  clear hX
  have S0 := belX X
  refine wp_region_held_drew (S := (fun w' => Below X.heap.size X w')) (by kernel_rfl) S0 (fun hHeld => ?_)
  refine tk 0 ?_
  refine tq 1 rfl (yieldsIf_load_mid (by rfl) 88 _ rfl w.heap.size 0 rfl [.int .i64 (k : Int), .int .i64 row, .int .i64 num] _ (fun _ h => QX.out.sub h 0 [.int .i64 (k : Int), .int .i64 row, .int .i64 num] rfl) Tryz.underlying88 rfl (by kernel_rfl)) ?_
  refine tk 2 ?_
  refine tk 4 ?_
  refine tq 5 rfl (yieldsIf_load_mid (by rfl) 88 _ rfl w.heap.size 0 rfl [.int .i64 (k : Int), .int .i64 row, .int .i64 num] _ (fun _ h => QX.out.sub h 0 [.int .i64 (k : Int), .int .i64 row, .int .i64 num] rfl) Tryz.underlying88 rfl (by kernel_rfl)) ?_
  refine tk 6 ?_
  refine tk 7 ?_
  refine tq 8 rfl (yieldsIf_load_mid (by rfl) 25 _ rfl w.heap.size 3 rfl [.int .i64 x, .int .i64 y] _ (fun _ h => QX.out.sub h 3 [.int .i64 x, .int .i64 y] rfl) Tryz.underlying25 rfl (by kernel_rfl)) ?_
  refine wpAnyH_ready (rs := [3]) (by kernel_rfl) (by simp) ?_
  refine AllReadyH.cons rfl (fun K hK => ?_) AllReadyH.nil
  rw [if_pos (by rfl)]
  go_wp2_with fail
  refine (instFault_any (k : Int) row num n _).mono ?_
  rintro e W0 ⟨rfl, hb0⟩
  have P0 := S0.trans (hb0.mono S0.size)
  clear hb0
  refine hK.out _ _ P0 (fun hHeld => ?_)
  clear hK K
  try simp only [Act.put, List.getElem_toArray, List.getElem_cons_succ, List.getElem_cons_zero, List.setIfInBounds_toArray, List.set_cons_zero, List.set_cons_succ]
  refine wpAnyH_ready (rs := [9]) (by kernel_rfl) (by simp) ?_
  refine AllReadyH.cons rfl (fun K hK => ?_) AllReadyH.nil
  rw [if_pos (by rfl)]
  go_wp2_with fail
  refine (ballotFault_any k row num n x y _ hk (HKM.out.below P0 (Nat.le_refl _))).mono ?_
  rintro e W1 ⟨rfl, hb1⟩
  have P1 := P0.trans (hb1.mono P0.size)
  clear hb1
  refine hK.out _ _ P1 (fun hHeld => ?_)
  clear hK K
  try simp only [Act.put, List.getElem_toArray, List.getElem_cons_succ, List.getElem_cons_zero, List.setIfInBounds_toArray, List.set_cons_zero, List.set_cons_succ]
  refine wpAnyH_ready (rs := [10]) (by kernel_rfl) (by simp) ?_
  refine AllReadyH.cons rfl (fun K hK => ?_) AllReadyH.nil
  rw [if_pos (by rfl)]
  go_wp2_with fail
  have P2 := P1.alloc P1.size (.cells #[.int .i64 (unl (instB n row num) 52), .int .i64 (unl (ballB k n row x y) 53)] 33)
  refine hK.out _ _ P2 (fun hHeld => ?_)
  clear hK K
  try simp only [Act.put, List.getElem_toArray, List.getElem_cons_succ, List.getElem_cons_zero, List.setIfInBounds_toArray, List.set_cons_zero, List.set_cons_succ]
  refine wpAnyH_ready (rs := [11]) (by kernel_rfl) (by simp) ?_
  refine AllReadyH.cons rfl (fun K hK => ?_) AllReadyH.nil
  rw [if_pos (by rfl)]
  go_wp2_with fail
  refine (or_any _ [unl (instB n row num) 52, unl (ballB k n row x y) 53] 2 rfl (by decide) _ (row_cells _ [unl (instB n row num) 52, unl (ballB k n row x y) 53] _ 2 rfl)).mono ?_
  rintro e W3 ⟨rfl, rfl⟩
  refine hK.out _ _ P2 (fun hHeld => ?_)
  clear hK K
  try simp only [Act.put, List.getElem_toArray, List.getElem_cons_succ, List.getElem_cons_zero, List.setIfInBounds_toArray, List.set_cons_zero, List.set_cons_succ]
  refine tk 12 ?_
  refine wpAnyH_done (by kernel_rfl) ?_ _
  go_wp2
  go_ret
  exact ⟨rfl, BX.out.trans (P2.mono BX.out.size)⟩
set_option maxHeartbeats 4000000 in
set_option maxRecDepth 100000 in
theorem fault_noVote (k : Nat) (row num x y v n : Int) (w : World) (hk : k < 10) (hK : Kmd w) :
    Calls Tryz.prog 191 #[.agg #[.int .i64 (k : Int), .int .i64 row, .int .i64 num, .int .i64 x, .int .i64 y], .int .i64 v, .int .i64 n] w fun e w' => e = .returned (.int .i64 (orL [unl (instB n row num) 52, unl (ballB k n row x y) 53])) ∧ Below w.heap.size w w' := by
  obtain ⟨X, hX⟩ : ∃ X, X = w.alloc (.cells #[.int .i64 (k : Int), .int .i64 row, .int .i64 num, .int .i64 x, .int .i64 y] 101) := ⟨_, rfl⟩
  have QX : Hid (Blk X w.heap.size [.int .i64 (k : Int), .int .i64 row, .int .i64 num, .int .i64 x, .int .i64 y]) := by rw [hX]; exact blk_new w 101 [.int .i64 (k : Int), .int .i64 row, .int .i64 num, .int .i64 x, .int .i64 y]
  have BX : Hid (Below w.heap.size w X) := by rw [hX]; exact (Below.refl _ w).alloc (Nat.le_refl _) _
  have HKM : Hid (Kmd X) := hK.below BX.out (Nat.le_refl _)
  clear hK
  go_enter Tryz.func191, Tryz.ntmps191
  go_upto_region 1 with fail
  rw [← hX]
  clear hX
  have S0 := belX X
  refine wp_region_held_drew (S := (fun w' => Below X.heap.size X w')) (by kernel_rfl) S0 (fun hHeld => ?_)
  refine tk 0 ?_
  refine tq 1 rfl (yieldsIf_load_mid (by rfl) 88 _ rfl w.heap.size 0 rfl [.int .i64 (k : Int), .int .i64 row, .int .i64 num] _ (fun _ h => QX.out.sub h 0 [.int .i64 (k : Int), .int .i64 row, .int .i64 num] rfl) Tryz.underlying88 rfl (by kernel_rfl)) ?_
  refine tk 2 ?_
  refine tk 4 ?_
  refine tq 5 rfl (yieldsIf_load_mid (by rfl) 88 _ rfl w.heap.size 0 rfl [.int .i64 (k : Int), .int .i64 row, .int .i64 num] _ (fun _ h => QX.out.sub h 0 [.int .i64 (k : Int), .int .i64 row, .int .i64 num] rfl) Tryz.underlying88 rfl (by kernel_rfl)) ?_
  refine tk 6 ?_
  refine tk 7 ?_
  refine tq 8 rfl (yieldsIf_load_mid (by rfl) 25 _ rfl w.heap.size 3 rfl [.int .i64 x, .int .i64 y] _ (fun _ h => QX.out.sub h 3 [.int .i64 x, .int .i64 y] rfl) Tryz.underlying25 rfl (by kernel_rfl)) ?_
  refine wpAnyH_ready (rs := [3]) (by kernel_rfl) (by simp) ?_
  refine AllReadyH.cons rfl (fun K hK => ?_) AllReadyH.nil
  rw [if_pos (by rfl)]
  go_wp2_with fail
  refine (instFault_any (k : Int) row num n _).mono ?_
  rintro e W0 ⟨rfl, hb0⟩
  have P0 := S0.trans (hb0.mono S0.size)
  clear hb0
  refine hK.out _ _ P0 (fun hHeld => ?_)
  clear hK K
  try simp only [Act.put, List.getElem_toArray, List.getElem_cons_succ, List.getElem_cons_zero, List.setIfInBounds_toArray, List.set_cons_zero, List.set_cons_succ]
  refine wpAnyH_ready (rs := [9]) (by kernel_rfl) (by simp) ?_
  refine AllReadyH.cons rfl (fun K hK => ?_) AllReadyH.nil
  rw [if_pos (by rfl)]
  go_wp2_with fail
  refine (ballotFault_any k row num n x y _ hk (HKM.out.below P0 (Nat.le_refl _))).mono ?_
  rintro e W1 ⟨rfl, hb1⟩
  have P1 := P0.trans (hb1.mono P0.size)
  clear hb1
  refine hK.out _ _ P1 (fun hHeld => ?_)
  clear hK K
  try simp only [Act.put, List.getElem_toArray, List.getElem_cons_succ, List.getElem_cons_zero, List.setIfInBounds_toArray, List.set_cons_zero, List.set_cons_succ]
  refine wpAnyH_ready (rs := [10]) (by kernel_rfl) (by simp) ?_
  refine AllReadyH.cons rfl (fun K hK => ?_) AllReadyH.nil
  rw [if_pos (by rfl)]
  go_wp2_with fail
  have P2 := P1.alloc P1.size (.cells #[.int .i64 (unl (instB n row num) 52), .int .i64 (unl (ballB k n row x y) 53)] 33)
  refine hK.out _ _ P2 (fun hHeld => ?_)
  clear hK K
  try simp only [Act.put, List.getElem_toArray, List.getElem_cons_succ, List.getElem_cons_zero, List.setIfInBounds_toArray, List.set_cons_zero, List.set_cons_succ]
  refine wpAnyH_ready (rs := [11]) (by kernel_rfl) (by simp) ?_
  refine AllReadyH.cons rfl (fun K hK => ?_) AllReadyH.nil
  rw [if_pos (by rfl)]
  go_wp2_with fail
  refine (or_any _ [unl (instB n row num) 52, unl (ballB k n row x y) 53] 2 rfl (by decide) _ (row_cells _ [unl (instB n row num) 52, unl (ballB k n row x y) 53] _ 2 rfl)).mono ?_
  rintro e W3 ⟨rfl, rfl⟩
  refine hK.out _ _ P2 (fun hHeld => ?_)
  clear hK K
  try simp only [Act.put, List.getElem_toArray, List.getElem_cons_succ, List.getElem_cons_zero, List.setIfInBounds_toArray, List.set_cons_zero, List.set_cons_succ]
  refine tk 12 ?_
  refine wpAnyH_done (by kernel_rfl) ?_ _
  go_wp2
  go_ret
  exact ⟨rfl, BX.out.trans (P2.mono BX.out.size)⟩
set_option maxHeartbeats 4000000 in
set_option maxRecDepth 100000 in
theorem fault_estimate (k : Nat) (row num x y sq : Int) (ua : Option Addr) (uk uc : Nat) (dl : List Int) (v n : Int) (w : World) (hk : k < 10) (hK : Kmd w) (hI : SegI w ua uk dl) :
    Calls Tryz.prog 185 #[.agg #[.int .i64 (k : Int), .int .i64 row, .int .i64 num, .int .i64 x, .int .i64 y, .int .i64 sq, .slice ua uk uc], .int .i64 v, .int .i64 n] w fun e w' => e = .returned (.int .i64 (orL [unl (instB n row num) 52, unl (ballB k n row x y) 53, unl (seqB false sq) 55, unl (depsB n false dl) 56])) ∧ Below w.heap.size w w' := by
  obtain ⟨X, hX⟩ : ∃ X, X = w.alloc (.cells #[.int .i64 (k : Int), .int .i64 row, .int .i64 num, .int .i64 x, .int .i64 y, .int .i64 sq, .slice ua uk uc] 96) := ⟨_, rfl⟩
  have QX : Hid (Blk X w.heap.size [.int .i64 (k : Int), .int .i64 row, .int .i64 num, .int .i64 x, .int .i64 y, .int .i64 sq, .slice ua uk uc]) := by rw [hX]; exact blk_new w 96 [.int .i64 (k : Int), .int .i64 row, .int .i64 num, .int .i64 x, .int .i64 y, .int .i64 sq, .slice ua uk uc]
  have BX : Hid (Below w.heap.size w X) := by rw [hX]; exact (Below.refl _ w).alloc (Nat.le_refl _) _
  have HKM : Hid (Kmd X) := hK.below BX.out (Nat.le_refl _)
  clear hK
  have HSI : Hid (SegI X ua uk dl) := hI.below BX.out (Nat.le_refl _)
  clear hI
  go_enter Tryz.func185, Tryz.ntmps185
  go_upto_region 1 with fail
  rw [← hX]
  clear hX
  have S0 := belX X
  refine wp_region_held_drew (S := (fun w' => Below X.heap.size X w')) (by kernel_rfl) S0 (fun hHeld => ?_)
  refine tk 0 ?_
  refine tq 1 rfl (yieldsIf_load_mid (by rfl) 88 _ rfl w.heap.size 0 rfl [.int .i64 (k : Int), .int .i64 row, .int .i64 num] _ (fun _ h => QX.out.sub h 0 [.int .i64 (k : Int), .int .i64 row, .int .i64 num] rfl) Tryz.underlying88 rfl (by kernel_rfl)) ?_
  refine tk 2 ?_
  refine tk 4 ?_
  refine tq 5 rfl (yieldsIf_load_mid (by rfl) 88 _ rfl w.heap.size 0 rfl [.int .i64 (k : Int), .int .i64 row, .int .i64 num] _ (fun _ h => QX.out.sub h 0 [.int .i64 (k : Int), .int .i64 row, .int .i64 num] rfl) Tryz.underlying88 rfl (by kernel_rfl)) ?_
  refine tk 6 ?_
  refine tk 7 ?_
  refine tq 8 rfl (yieldsIf_load_mid (by rfl) 25 _ rfl w.heap.size 3 rfl [.int .i64 x, .int .i64 y] _ (fun _ h => QX.out.sub h 3 [.int .i64 x, .int .i64 y] rfl) Tryz.underlying25 rfl (by kernel_rfl)) ?_
  refine tk 10 ?_
  refine tk 11 ?_
  refine wpAnyH_take (i := 12) (v := ?_) rfl (by kernel_rfl) (by kernel_rfl) (by kernel_rfl) (fun _ _ _ h => h) (Or.inl ⟨by rfl, ?_⟩) (by assumption) ?_
  rotate_left
  · intro w hSw
    try dsimp only at hSw
    have c12 := QX.out.c1 hSw 5 _ rfl
    go_simp
    try with_reducible rfl
  try simp only [Act.put, List.getElem_toArray, List.getElem_cons_succ, List.getElem_cons_zero, List.setIfInBounds_toArray, List.set_cons_zero, List.set_cons_succ]
  refine tk 14 ?_
  refine tk 15 ?_
  refine tk 16 ?_
  refine wpAnyH_take (i := 17) (v := ?_) rfl (by kernel_rfl) (by kernel_rfl) (by kernel_rfl) (fun _ _ _ h => h) (Or.inl ⟨by rfl, ?_⟩) (by assumption) ?_
  rotate_left
  · intro w hSw
    try dsimp only at hSw
    have c17 := QX.out.c1 hSw 6 _ rfl
    go_simp
    try with_reducible rfl
  try simp only [Act.put, List.getElem_toArray, List.getElem_cons_succ, List.getElem_cons_zero, List.setIfInBounds_toArray, List.set_cons_zero, List.set_cons_succ]
  refine wpAnyH_ready (rs := [3]) (by kernel_rfl) (by simp) ?_
  refine AllReadyH.cons rfl (fun K hK => ?_) AllReadyH.nil
  rw [if_pos (by rfl)]
  go_wp2_with fail
  refine (instFault_any (k : Int) row num n _).mono ?_
  rintro e W0 ⟨rfl, hb0⟩
  have P0 := S0.trans (hb0.mono S0.size)
  clear hb0
  refine hK.out _ _ P0 (fun hHeld => ?_)
  clear hK K
  try simp only [Act.put, List.getElem_toArray, List.getElem_cons_succ, List.getElem_cons_zero, List.setIfInBounds_toArray, List.set_cons_zero, List.set_cons_succ]
  refine wpAnyH_ready (rs := [9]) (by kernel_rfl) (by simp) ?_
  refine AllReadyH.cons rfl (fun K hK => ?_) AllReadyH.nil
  rw [if_pos (by rfl)]
  go_wp2_with fail
  refine (ballotFault_any k row num n x y _ hk (HKM.out.below P0 (Nat.le_refl _))).mono ?_
  rintro e W1 ⟨rfl, hb1⟩
  have P1 := P0.trans (hb1.mono P0.size)
  clear hb1
  refine hK.out _ _ P1 (fun hHeld => ?_)
  clear hK K
  try simp only [Act.put, List.getElem_toArray, List.getElem_cons_succ, List.getElem_cons_zero, List.setIfInBounds_toArray, List.set_cons_zero, List.set_cons_succ]
  refine wpAnyH_ready (rs := [13]) (by kernel_rfl) (by simp) ?_
  refine AllReadyH.cons rfl (fun K hK => ?_) AllReadyH.nil
  rw [if_pos (by rfl)]
  go_wp2_with fail
  refine (seqFault_any false sq _).mono ?_
  rintro e W2 ⟨rfl, rfl⟩
  refine hK.out _ _ P1 (fun hHeld => ?_)
  clear hK K
  try simp only [Act.put, List.getElem_toArray, List.getElem_cons_succ, List.getElem_cons_zero, List.setIfInBounds_toArray, List.set_cons_zero, List.set_cons_succ]
  refine wpAnyH_ready (rs := [18]) (by kernel_rfl) (by simp) ?_
  refine AllReadyH.cons rfl (fun K hK => ?_) AllReadyH.nil
  rw [if_pos (by rfl)]
  go_wp2_with fail
  refine (depsFault_any n false ua uk uc dl _ (HSI.out.below P1 (Nat.le_refl _))).mono ?_
  rintro e W3 ⟨rfl, rfl⟩
  refine hK.out _ _ P1 (fun hHeld => ?_)
  clear hK K
  try simp only [Act.put, List.getElem_toArray, List.getElem_cons_succ, List.getElem_cons_zero, List.setIfInBounds_toArray, List.set_cons_zero, List.set_cons_succ]
  refine wpAnyH_ready (rs := [19]) (by kernel_rfl) (by simp) ?_
  refine AllReadyH.cons rfl (fun K hK => ?_) AllReadyH.nil
  rw [if_pos (by rfl)]
  go_wp2_with fail
  have P4 := P1.alloc P1.size (.cells #[.int .i64 (unl (instB n row num) 52), .int .i64 (unl (ballB k n row x y) 53), .int .i64 (unl (seqB false sq) 55), .int .i64 (unl (depsB n false dl) 56)] 33)
  refine hK.out _ _ P4 (fun hHeld => ?_)
  clear hK K
  try simp only [Act.put, List.getElem_toArray, List.getElem_cons_succ, List.getElem_cons_zero, List.setIfInBounds_toArray, List.set_cons_zero, List.set_cons_succ]
  refine wpAnyH_ready (rs := [20]) (by kernel_rfl) (by simp) ?_
  refine AllReadyH.cons rfl (fun K hK => ?_) AllReadyH.nil
  rw [if_pos (by rfl)]
  go_wp2_with fail
  refine (or_any _ [unl (instB n row num) 52, unl (ballB k n row x y) 53, unl (seqB false sq) 55, unl (depsB n false dl) 56] 4 rfl (by decide) _ (row_cells _ [unl (instB n row num) 52, unl (ballB k n row x y) 53, unl (seqB false sq) 55, unl (depsB n false dl) 56] _ 4 rfl)).mono ?_
  rintro e W5 ⟨rfl, rfl⟩
  refine hK.out _ _ P4 (fun hHeld => ?_)
  clear hK K
  try simp only [Act.put, List.getElem_toArray, List.getElem_cons_succ, List.getElem_cons_zero, List.setIfInBounds_toArray, List.set_cons_zero, List.set_cons_succ]
  refine tk 21 ?_
  refine wpAnyH_done (by kernel_rfl) ?_ _
  go_wp2
  go_ret
  exact ⟨rfl, BX.out.trans (P4.mono BX.out.size)⟩
set_option maxHeartbeats 4000000 in
set_option maxRecDepth 100000 in
theorem fault_nack (k : Nat) (row num x y p q v n : Int) (w : World) (hk : k < 10) (hK : Kmd w) :
    Calls Tryz.prog 195 #[.agg #[.int .i64 (k : Int), .int .i64 row, .int .i64 num, .int .i64 x, .int .i64 y, .int .i64 p, .int .i64 q], .int .i64 v, .int .i64 n] w fun e w' => e = .returned (.int .i64 (orL [unl (instB n row num) 52, unl (ballB k n row x y) 53, unl (nackB n row x y p q) 54])) ∧ Below w.heap.size w w' := by
  obtain ⟨X, hX⟩ : ∃ X, X = w.alloc (.cells #[.int .i64 (k : Int), .int .i64 row, .int .i64 num, .int .i64 x, .int .i64 y, .int .i64 p, .int .i64 q] 105) := ⟨_, rfl⟩
  have QX : Hid (Blk X w.heap.size [.int .i64 (k : Int), .int .i64 row, .int .i64 num, .int .i64 x, .int .i64 y, .int .i64 p, .int .i64 q]) := by rw [hX]; exact blk_new w 105 [.int .i64 (k : Int), .int .i64 row, .int .i64 num, .int .i64 x, .int .i64 y, .int .i64 p, .int .i64 q]
  have BX : Hid (Below w.heap.size w X) := by rw [hX]; exact (Below.refl _ w).alloc (Nat.le_refl _) _
  have HKM : Hid (Kmd X) := hK.below BX.out (Nat.le_refl _)
  clear hK
  go_enter Tryz.func195, Tryz.ntmps195
  go_upto_region 1 with fail
  rw [← hX]
  clear hX
  have S0 := belX X
  refine wp_region_held_drew (S := (fun w' => Below X.heap.size X w')) (by kernel_rfl) S0 (fun hHeld => ?_)
  refine tk 0 ?_
  refine tq 1 rfl (yieldsIf_load_mid (by rfl) 88 _ rfl w.heap.size 0 rfl [.int .i64 (k : Int), .int .i64 row, .int .i64 num] _ (fun _ h => QX.out.sub h 0 [.int .i64 (k : Int), .int .i64 row, .int .i64 num] rfl) Tryz.underlying88 rfl (by kernel_rfl)) ?_
  refine tk 2 ?_
  refine tk 4 ?_
  refine tq 5 rfl (yieldsIf_load_mid (by rfl) 88 _ rfl w.heap.size 0 rfl [.int .i64 (k : Int), .int .i64 row, .int .i64 num] _ (fun _ h => QX.out.sub h 0 [.int .i64 (k : Int), .int .i64 row, .int .i64 num] rfl) Tryz.underlying88 rfl (by kernel_rfl)) ?_
  refine tk 6 ?_
  refine tk 7 ?_
  refine tq 8 rfl (yieldsIf_load_mid (by rfl) 25 _ rfl w.heap.size 3 rfl [.int .i64 x, .int .i64 y] _ (fun _ h => QX.out.sub h 3 [.int .i64 x, .int .i64 y] rfl) Tryz.underlying25 rfl (by kernel_rfl)) ?_
  refine tq 10 rfl (yieldsIf_load_mid (by rfl) 105 _ rfl w.heap.size 0 rfl [.int .i64 (k : Int), .int .i64 row, .int .i64 num, .int .i64 x, .int .i64 y, .int .i64 p, .int .i64 q] _ (fun _ h => QX.out.sub h 0 [.int .i64 (k : Int), .int .i64 row, .int .i64 num, .int .i64 x, .int .i64 y, .int .i64 p, .int .i64 q] rfl) Tryz.underlying105 rfl (by kernel_rfl)) ?_
  refine tk 11 ?_
  refine wpAnyH_ready (rs := [3]) (by kernel_rfl) (by simp) ?_
  refine AllReadyH.cons rfl (fun K hK => ?_) AllReadyH.nil
  rw [if_pos (by rfl)]
  go_wp2_with fail
  refine (instFault_any (k : Int) row num n _).mono ?_
  rintro e W0 ⟨rfl, hb0⟩
  have P0 := S0.trans (hb0.mono S0.size)
  clear hb0
  refine hK.out _ _ P0 (fun hHeld => ?_)
  clear hK K
  try simp only [Act.put, List.getElem_toArray, List.getElem_cons_succ, List.getElem_cons_zero, List.setIfInBounds_toArray, List.set_cons_zero, List.set_cons_succ]
  refine wpAnyH_ready (rs := [9]) (by kernel_rfl) (by simp) ?_
  refine AllReadyH.cons rfl (fun K hK => ?_) AllReadyH.nil
  rw [if_pos (by rfl)]
  go_wp2_with fail
  refine (ballotFault_any k row num n x y _ hk (HKM.out.below P0 (Nat.le_refl _))).mono ?_
  rintro e W1 ⟨rfl, hb1⟩
  have P1 := P0.trans (hb1.mono P0.size)
  clear hb1
  refine hK.out _ _ P1 (fun hHeld => ?_)
  clear hK K
  try simp only [Act.put, List.getElem_toArray, List.getElem_cons_succ, List.getElem_cons_zero, List.setIfInBounds_toArray, List.set_cons_zero, List.set_cons_succ]
  refine wpAnyH_ready (rs := [12]) (by kernel_rfl) (by simp) ?_
  refine AllReadyH.cons rfl (fun K hK => ?_) AllReadyH.nil
  rw [if_pos (by rfl)]
  go_wp2_with fail
  refine (voteFaultN_any (k : Int) row num x y p q n _).mono ?_
  rintro e W2 ⟨rfl, hb2⟩
  have P2 := P1.trans (hb2.mono P1.size)
  clear hb2
  refine hK.out _ _ P2 (fun hHeld => ?_)
  clear hK K
  try simp only [Act.put, List.getElem_toArray, List.getElem_cons_succ, List.getElem_cons_zero, List.setIfInBounds_toArray, List.set_cons_zero, List.set_cons_succ]
  refine wpAnyH_ready (rs := [13]) (by kernel_rfl) (by simp) ?_
  refine AllReadyH.cons rfl (fun K hK => ?_) AllReadyH.nil
  rw [if_pos (by rfl)]
  go_wp2_with fail
  have P3 := P2.alloc P2.size (.cells #[.int .i64 (unl (instB n row num) 52), .int .i64 (unl (ballB k n row x y) 53), .int .i64 (unl (nackB n row x y p q) 54)] 33)
  refine hK.out _ _ P3 (fun hHeld => ?_)
  clear hK K
  try simp only [Act.put, List.getElem_toArray, List.getElem_cons_succ, List.getElem_cons_zero, List.setIfInBounds_toArray, List.set_cons_zero, List.set_cons_succ]
  refine wpAnyH_ready (rs := [14]) (by kernel_rfl) (by simp) ?_
  refine AllReadyH.cons rfl (fun K hK => ?_) AllReadyH.nil
  rw [if_pos (by rfl)]
  go_wp2_with fail
  refine (or_any _ [unl (instB n row num) 52, unl (ballB k n row x y) 53, unl (nackB n row x y p q) 54] 3 rfl (by decide) _ (row_cells _ [unl (instB n row num) 52, unl (ballB k n row x y) 53, unl (nackB n row x y p q) 54] _ 3 rfl)).mono ?_
  rintro e W4 ⟨rfl, rfl⟩
  refine hK.out _ _ P3 (fun hHeld => ?_)
  clear hK K
  try simp only [Act.put, List.getElem_toArray, List.getElem_cons_succ, List.getElem_cons_zero, List.setIfInBounds_toArray, List.set_cons_zero, List.set_cons_succ]
  refine tk 15 ?_
  refine wpAnyH_done (by kernel_rfl) ?_ _
  go_wp2
  go_ret
  exact ⟨rfl, BX.out.trans (P3.mono BX.out.size)⟩
set_option maxHeartbeats 4000000 in
set_option maxRecDepth 100000 in
theorem loadFault_any (v n : Int) (may : Bool) (c : Cm) (sq : Int) (ua : Option Addr) (uk uc : Nat) (dl : List Int) (w : World) (hK : Knd w) (hk1 : c.key.size ≤ 140737488351232) (hk2 : c.key2.size ≤ 140737488351232) (hI : SegI w ua uk dl) :
    Calls Tryz.prog 167 #[.agg #[.int .i64 c.kind, .int .i64 c.client, .int .i64 c.req, .string c.key, .string c.key2, .string c.val, .string c.old, .int .i64 c.n, .int .i64 sq, .slice ua uk uc], .int .i64 v, .int .i64 n, .bool may] w fun e w' => e = .returned (.int .i64 (loadF v n may c sq dl)) ∧ Below w.heap.size w w' := by
  obtain ⟨X0, hX⟩ : ∃ X, X = w.alloc (.cells #[.int .i64 c.kind, .int .i64 c.client, .int .i64 c.req, .string c.key, .string c.key2, .string c.val, .string c.old, .int .i64 c.n, .int .i64 sq, .slice ua uk uc] 92) := ⟨_, rfl⟩
  have Q0 : Hid (Blk X0 w.heap.size [.int .i64 c.kind, .int .i64 c.client, .int .i64 c.req, .string c.key, .string c.key2, .string c.val, .string c.old, .int .i64 c.n, .int .i64 sq, .slice ua uk uc]) := by rw [hX]; exact blk_new w 92 [.int .i64 c.kind, .int .i64 c.client, .int .i64 c.req, .string c.key, .string c.key2, .string c.val, .string c.old, .int .i64 c.n, .int .i64 sq, .slice ua uk uc]
  have B0 : Hid (Below w.heap.size w X0) := by rw [hX]; exact (Below.refl _ w).alloc (Nat.le_refl _) _
  obtain ⟨np, hnp⟩ : ∃ np, Hid ((c.kind == 0) = np) := ⟨_, rfl⟩
  have HKC0 := hide hK
  have HSI0 := hide hI
  clear hK hI
  unfold loadF
  rw [hnp.out]
  go_enter Tryz.func167, Tryz.ntmps167
  go_upto_region 1 with fail
  rw [← hX]
  clear hX
  go_wp2_with (first | (refine wpList_load_mid rfl 92 _ rfl w.heap.size 0 rfl [.int .i64 c.kind, .int .i64 c.client, .int .i64 c.req, .string c.key, .string c.key2, .string c.val, .string c.old, .int .i64 c.n, .int .i64 sq, .slice ua uk uc] _ Q0.out.range Tryz.underlying92 rfl (by kernel_rfl) ?_))
  refine (isNoop_any c sq (.slice ua uk uc) _).mono ?_
  rintro e X ⟨rfl, hbX⟩
  rw [hnp.out]
  have QX : Hid (Blk X w.heap.size [.int .i64 c.kind, .int .i64 c.client, .int .i64 c.req, .string c.key, .string c.key2, .string c.val, .string c.old, .int .i64 c.n, .int .i64 sq, .slice ua uk uc]) := Q0.out.on hbX
  have BX : Hid (Below w.heap.size w X) := B0.out.trans (hbX.mono B0.out.size)
  have HKC : Hid (Knd X) := HKC0.out.below BX.out (Nat.le_refl _)
  have HSI : Hid (SegI X ua uk dl) := HSI0.out.below BX.out (Nat.le_refl _)
  clear hbX Q0 B0 HKC0 HSI0
  go_upto_region 2 with fail
  have S0 := belX X
  refine wp_region_held_drew (S := (fun w' => Below X.heap.size X w')) (by kernel_rfl) S0 (fun hHeld => ?_)
  refine tk 0 ?_
  refine tk 1 ?_
  refine tq 2 rfl (yieldsIf_load_mid (by rfl) 27 _ rfl w.heap.size 0 rfl [.int .i64 c.kind, .int .i64 c.client, .int .i64 c.req, .string c.key, .string c.key2, .string c.val, .string c.old, .int .i64 c.n] _ (fun _ h => QX.out.sub h 0 [.int .i64 c.kind, .int .i64 c.client, .int .i64 c.req, .string c.key, .string c.key2, .string c.val, .string c.old, .int .i64 c.n] rfl) Tryz.underlying27 rfl (by kernel_rfl)) ?_
  refine tq 4 rfl (yieldsIf_load_mid (by rfl) 92 _ rfl w.heap.size 0 rfl [.int .i64 c.kind, .int .i64 c.client, .int .i64 c.req, .string c.key, .string c.key2, .string c.val, .string c.old, .int .i64 c.n, .int .i64 sq, .slice ua uk uc] _ (fun _ h => QX.out.sub h 0 [.int .i64 c.kind, .int .i64 c.client, .int .i64 c.req, .string c.key, .string c.key2, .string c.val, .string c.old, .int .i64 c.n, .int .i64 sq, .slice ua uk uc] rfl) Tryz.underlying92 rfl (by kernel_rfl)) ?_
  refine tk 5 ?_
  refine tk 7 ?_
  refine tk 8 ?_
  refine tk 9 ?_
  refine wpAnyH_take (i := 10) (v := ?_) rfl (by kernel_rfl) (by kernel_rfl) (by kernel_rfl) (fun _ _ _ h => h) (Or.inl ⟨by rfl, ?_⟩) (by assumption) ?_
  rotate_left
  · intro w hSw
    try dsimp only at hSw
    have c10 := QX.out.c1 hSw 8 _ rfl
    go_simp
    try with_reducible rfl
  try simp only [Act.put, List.getElem_toArray, List.getElem_cons_succ, List.getElem_cons_zero, List.setIfInBounds_toArray, List.set_cons_zero, List.set_cons_succ]
  refine tk 12 ?_
  refine tk 13 ?_
  refine tk 14 ?_
  refine tk 15 ?_
  refine wpAnyH_take (i := 16) (v := ?_) rfl (by kernel_rfl) (by kernel_rfl) (by kernel_rfl) (fun _ _ _ h => h) (Or.inl ⟨by rfl, ?_⟩) (by assumption) ?_
  rotate_left
  · intro w hSw
    try dsimp only at hSw
    have c16 := QX.out.c1 hSw 9 _ rfl
    go_simp
    try with_reducible rfl
  try simp only [Act.put, List.getElem_toArray, List.getElem_cons_succ, List.getElem_cons_zero, List.setIfInBounds_toArray, List.set_cons_zero, List.set_cons_succ]
  refine wpAnyH_ready (rs := [3]) (by kernel_rfl) (by simp) ?_
  refine AllReadyH.cons rfl (fun K hK => ?_) AllReadyH.nil
  rw [if_pos (by rfl)]
  go_wp2_with fail
  refine (check_any v c _ (HKC.out.below S0 (Nat.le_refl _)) hk1 hk2).mono ?_
  rintro e W0 ⟨rfl, hb0⟩
  have P0 := S0.trans (hb0.mono S0.size)
  clear hb0
  refine hK.out _ _ P0 (fun hHeld => ?_)
  clear hK K
  try simp only [Act.put, List.getElem_toArray, List.getElem_cons_succ, List.getElem_cons_zero, List.setIfInBounds_toArray, List.set_cons_zero, List.set_cons_succ]
  refine wpAnyH_ready (rs := [6]) (by kernel_rfl) (by simp) ?_
  refine AllReadyH.cons rfl (fun K hK => ?_) AllReadyH.nil
  rw [if_pos (by rfl)]
  go_wp2_with fail
  refine (noopFault_any c sq (.slice ua uk uc) may _).mono ?_
  rintro e W1 ⟨rfl, hb1⟩
  have P1 := P0.trans (hb1.mono P0.size)
  clear hb1
  rw [hnp.out]
  refine hK.out _ _ P1 (fun hHeld => ?_)
  clear hK K
  try simp only [Act.put, List.getElem_toArray, List.getElem_cons_succ, List.getElem_cons_zero, List.setIfInBounds_toArray, List.set_cons_zero, List.set_cons_succ]
  refine wpAnyH_ready (rs := [11]) (by kernel_rfl) (by simp) ?_
  refine AllReadyH.cons rfl (fun K hK => ?_) AllReadyH.nil
  rw [if_pos (by rfl)]
  go_wp2_with fail
  refine (seqFault_any np sq _).mono ?_
  rintro e W2 ⟨rfl, rfl⟩
  refine hK.out _ _ P1 (fun hHeld => ?_)
  clear hK K
  try simp only [Act.put, List.getElem_toArray, List.getElem_cons_succ, List.getElem_cons_zero, List.setIfInBounds_toArray, List.set_cons_zero, List.set_cons_succ]
  refine wpAnyH_ready (rs := [17]) (by kernel_rfl) (by simp) ?_
  refine AllReadyH.cons rfl (fun K hK => ?_) AllReadyH.nil
  rw [if_pos (by rfl)]
  go_wp2_with fail
  refine (depsFault_any n np ua uk uc dl _ (HSI.out.below P1 (Nat.le_refl _))).mono ?_
  rintro e W3 ⟨rfl, rfl⟩
  refine hK.out _ _ P1 (fun hHeld => ?_)
  clear hK K
  try simp only [Act.put, List.getElem_toArray, List.getElem_cons_succ, List.getElem_cons_zero, List.setIfInBounds_toArray, List.set_cons_zero, List.set_cons_succ]
  refine wpAnyH_ready (rs := [18]) (by kernel_rfl) (by simp) ?_
  refine AllReadyH.cons rfl (fun K hK => ?_) AllReadyH.nil
  rw [if_pos (by rfl)]
  go_wp2_with fail
  have P4 := P1.alloc P1.size (.cells #[.int .i64 ((chk v c : Int)), .int .i64 (unl (may || !np) 57), .int .i64 (unl (seqB np sq) 55), .int .i64 (unl (depsB n np dl) 56)] 33)
  refine hK.out _ _ P4 (fun hHeld => ?_)
  clear hK K
  try simp only [Act.put, List.getElem_toArray, List.getElem_cons_succ, List.getElem_cons_zero, List.setIfInBounds_toArray, List.set_cons_zero, List.set_cons_succ]
  refine wpAnyH_ready (rs := [19]) (by kernel_rfl) (by simp) ?_
  refine AllReadyH.cons rfl (fun K hK => ?_) AllReadyH.nil
  rw [if_pos (by rfl)]
  go_wp2_with fail
  refine (or_any _ [(chk v c : Int), unl (may || !np) 57, unl (seqB np sq) 55, unl (depsB n np dl) 56] 4 rfl (by decide) _ (row_cells _ [(chk v c : Int), unl (may || !np) 57, unl (seqB np sq) 55, unl (depsB n np dl) 56] _ 4 rfl)).mono ?_
  rintro e W5 ⟨rfl, rfl⟩
  refine hK.out _ _ P4 (fun hHeld => ?_)
  clear hK K
  try simp only [Act.put, List.getElem_toArray, List.getElem_cons_succ, List.getElem_cons_zero, List.setIfInBounds_toArray, List.set_cons_zero, List.set_cons_succ]
  refine tk 20 ?_
  refine wpAnyH_done (by kernel_rfl) ?_ _
  go_wp2
  go_ret
  exact ⟨rfl, BX.out.trans (P4.mono BX.out.size)⟩
set_option maxHeartbeats 4000000 in
set_option maxRecDepth 100000 in
theorem fault_commit (k : Nat) (row num v n : Int) (c : Cm) (sq : Int) (ua : Option Addr) (uk uc : Nat) (dl : List Int) (w : World) (hKc : Knd w) (hk1 : c.key.size ≤ 140737488351232) (hk2 : c.key2.size ≤ 140737488351232) (hI : SegI w ua uk dl) :
    Calls Tryz.prog 189 #[.agg #[.int .i64 (k : Int), .int .i64 row, .int .i64 num, .int .i64 c.kind, .int .i64 c.client, .int .i64 c.req, .string c.key, .string c.key2, .string c.val, .string c.old, .int .i64 c.n, .int .i64 sq, .slice ua uk uc], .int .i64 v, .int .i64 n] w fun e w' => e = .returned (.int .i64 (orL [unl (instB n row num) 52, loadF v n true c sq dl])) ∧ Below w.heap.size w w' := by
  obtain ⟨X, hX⟩ : ∃ X, X = w.alloc (.cells #[.int .i64 (k : Int), .int .i64 row, .int .i64 num, .int .i64 c.kind, .int .i64 c.client, .int .i64 c.req, .string c.key, .string c.key2, .string c.val, .string c.old, .int .i64 c.n, .int .i64 sq, .slice ua uk uc] 100) := ⟨_, rfl⟩
  have QX : Hid (Blk X w.heap.size [.int .i64 (k : Int), .int .i64 row, .int .i64 num, .int .i64 c.kind, .int .i64 c.client, .int .i64 c.req, .string c.key, .string c.key2, .string c.val, .string c.old, .int .i64 c.n, .int .i64 sq, .slice ua uk uc]) := by rw [hX]; exact blk_new w 100 [.int .i64 (k : Int), .int .i64 row, .int .i64 num, .int .i64 c.kind, .int .i64 c.client, .int .i64 c.req, .string c.key, .string c.key2, .string c.val, .string c.old, .int .i64 c.n, .int .i64 sq, .slice ua uk uc]
  have BX : Hid (Below w.heap.size w X) := by rw [hX]; exact (Below.refl _ w).alloc (Nat.le_refl _) _
  have HSI : Hid (SegI X ua uk dl) := hI.below BX.out (Nat.le_refl _)
  clear hI
  have HKC : Hid (Knd X) := hKc.below BX.out (Nat.le_refl _)
  clear hKc
  go_enter Tryz.func189, Tryz.ntmps189
  go_upto_region 1 with fail
  rw [← hX]
  clear hX
  have S0 := belX X
  refine wp_region_held_drew (S := (fun w' => Below X.heap.size X w')) (by kernel_rfl) S0 (fun hHeld => ?_)
  refine tk 0 ?_
  refine tq 1 rfl (yieldsIf_load_mid (by rfl) 88 _ rfl w.heap.size 0 rfl [.int .i64 (k : Int), .int .i64 row, .int .i64 num] _ (fun _ h => QX.out.sub h 0 [.int .i64 (k : Int), .int .i64 row, .int .i64 num] rfl) Tryz.underlying88 rfl (by kernel_rfl)) ?_
  refine tk 2 ?_
  refine tk 4 ?_
  refine tq 5 rfl (yieldsIf_load_mid (by rfl) 92 _ rfl w.heap.size 3 rfl [.int .i64 c.kind, .int .i64 c.client, .int .i64 c.req, .string c.key, .string c.key2, .string c.val, .string c.old, .int .i64 c.n, .int .i64 sq, .slice ua uk uc] _ (fun _ h => QX.out.sub h 3 [.int .i64 c.kind, .int .i64 c.client, .int .i64 c.req, .string c.key, .string c.key2, .string c.val, .string c.old, .int .i64 c.n, .int .i64 sq, .slice ua uk uc] rfl) Tryz.underlying92 rfl (by kernel_rfl)) ?_
  refine tk 6 ?_
  refine tk 7 ?_
  refine wpAnyH_ready (rs := [3]) (by kernel_rfl) (by simp) ?_
  refine AllReadyH.cons rfl (fun K hK => ?_) AllReadyH.nil
  rw [if_pos (by rfl)]
  go_wp2_with fail
  refine (instFault_any (k : Int) row num n _).mono ?_
  rintro e W0 ⟨rfl, hb0⟩
  have P0 := S0.trans (hb0.mono S0.size)
  clear hb0
  refine hK.out _ _ P0 (fun hHeld => ?_)
  clear hK K
  try simp only [Act.put, List.getElem_toArray, List.getElem_cons_succ, List.getElem_cons_zero, List.setIfInBounds_toArray, List.set_cons_zero, List.set_cons_succ]
  refine wpAnyH_ready (rs := [8]) (by kernel_rfl) (by simp) ?_
  refine AllReadyH.cons rfl (fun K hK => ?_) AllReadyH.nil
  rw [if_pos (by rfl)]
  go_wp2_with fail
  refine (loadFault_any v n true c sq ua uk uc dl _ (HKC.out.below P0 (Nat.le_refl _)) hk1 hk2 (HSI.out.below P0 (Nat.le_refl _))).mono ?_
  rintro e W1 ⟨rfl, hb1⟩
  have P1 := P0.trans (hb1.mono P0.size)
  clear hb1
  refine hK.out _ _ P1 (fun hHeld => ?_)
  clear hK K
  try simp only [Act.put, List.getElem_toArray, List.getElem_cons_succ, List.getElem_cons_zero, List.setIfInBounds_toArray, List.set_cons_zero, List.set_cons_succ]
  refine wpAnyH_ready (rs := [9]) (by kernel_rfl) (by simp) ?_
  refine AllReadyH.cons rfl (fun K hK => ?_) AllReadyH.nil
  rw [if_pos (by rfl)]
  go_wp2_with fail
  have P2 := P1.alloc P1.size (.cells #[.int .i64 (unl (instB n row num) 52), .int .i64 (loadF v n true c sq dl)] 33)
  refine hK.out _ _ P2 (fun hHeld => ?_)
  clear hK K
  try simp only [Act.put, List.getElem_toArray, List.getElem_cons_succ, List.getElem_cons_zero, List.setIfInBounds_toArray, List.set_cons_zero, List.set_cons_succ]
  refine wpAnyH_ready (rs := [10]) (by kernel_rfl) (by simp) ?_
  refine AllReadyH.cons rfl (fun K hK => ?_) AllReadyH.nil
  rw [if_pos (by rfl)]
  go_wp2_with fail
  refine (or_any _ [unl (instB n row num) 52, loadF v n true c sq dl] 2 rfl (by decide) _ (row_cells _ [unl (instB n row num) 52, loadF v n true c sq dl] _ 2 rfl)).mono ?_
  rintro e W3 ⟨rfl, rfl⟩
  refine hK.out _ _ P2 (fun hHeld => ?_)
  clear hK K
  try simp only [Act.put, List.getElem_toArray, List.getElem_cons_succ, List.getElem_cons_zero, List.setIfInBounds_toArray, List.set_cons_zero, List.set_cons_succ]
  refine tk 11 ?_
  refine wpAnyH_done (by kernel_rfl) ?_ _
  go_wp2
  go_ret
  exact ⟨rfl, BX.out.trans (P2.mono BX.out.size)⟩
set_option maxHeartbeats 4000000 in
set_option maxRecDepth 100000 in
theorem fault_proposal (k : Nat) (row num x y v n : Int) (c : Cm) (sq : Int) (ua : Option Addr) (uk uc : Nat) (dl : List Int) (may : Bool) (hmay : Hid (((k : Int) != 1) = may)) (w : World) (hk : k < 10) (hK : Kmd w) (hKc : Knd w) (hk1 : c.key.size ≤ 140737488351232) (hk2 : c.key2.size ≤ 140737488351232) (hI : SegI w ua uk dl) :
    Calls Tryz.prog 162 #[.agg #[.int .i64 (k : Int), .int .i64 row, .int .i64 num, .int .i64 x, .int .i64 y, .int .i64 c.kind, .int .i64 c.client, .int .i64 c.req, .string c.key, .string c.key2, .string c.val, .string c.old, .int .i64 c.n, .int .i64 sq, .slice ua uk uc], .int .i64 v, .int .i64 n] w fun e w' => e = .returned (.int .i64 (orL [unl (instB n row num) 52, unl (ballB k n row x y) 53, loadF v n may c sq dl])) ∧ Below w.heap.size w w' := by
  obtain ⟨X, hX⟩ : ∃ X, X = w.alloc (.cells #[.int .i64 (k : Int), .int .i64 row, .int .i64 num, .int .i64 x, .int .i64 y, .int .i64 c.kind, .int .i64 c.client, .int .i64 c.req, .string c.key, .string c.key2, .string c.val, .string c.old, .int .i64 c.n, .int .i64 sq, .slice ua uk uc] 94) := ⟨_, rfl⟩
  have QX : Hid (Blk X w.heap.size [.int .i64 (k : Int), .int .i64 row, .int .i64 num, .int .i64 x, .int .i64 y, .int .i64 c.kind, .int .i64 c.client, .int .i64 c.req, .string c.key, .string c.key2, .string c.val, .string c.old, .int .i64 c.n, .int .i64 sq, .slice ua uk uc]) := by rw [hX]; exact blk_new w 94 [.int .i64 (k : Int), .int .i64 row, .int .i64 num, .int .i64 x, .int .i64 y, .int .i64 c.kind, .int .i64 c.client, .int .i64 c.req, .string c.key, .string c.key2, .string c.val, .string c.old, .int .i64 c.n, .int .i64 sq, .slice ua uk uc]
  have BX : Hid (Below w.heap.size w X) := by rw [hX]; exact (Below.refl _ w).alloc (Nat.le_refl _) _
  have HKM : Hid (Kmd X) := hK.below BX.out (Nat.le_refl _)
  clear hK
  have HSI : Hid (SegI X ua uk dl) := hI.below BX.out (Nat.le_refl _)
  clear hI
  have HKC : Hid (Knd X) := hKc.below BX.out (Nat.le_refl _)
  clear hKc
  go_enter Tryz.func162, Tryz.ntmps162
  go_upto_region 1 with fail
  rw [← hX]
  clear hX
  have S0 := belX X
  refine wp_region_held_drew (S := (fun w' => Below X.heap.size X w')) (by kernel_rfl) S0 (fun hHeld => ?_)
  refine tk 0 ?_
  refine tq 1 rfl (yieldsIf_load_mid (by rfl) 88 _ rfl w.heap.size 0 rfl [.int .i64 (k : Int), .int .i64 row, .int .i64 num] _ (fun _ h => QX.out.sub h 0 [.int .i64 (k : Int), .int .i64 row, .int .i64 num] rfl) Tryz.underlying88 rfl (by kernel_rfl)) ?_
  refine tk 2 ?_
  refine tk 4 ?_
  refine tq 5 rfl (yieldsIf_load_mid (by rfl) 88 _ rfl w.heap.size 0 rfl [.int .i64 (k : Int), .int .i64 row, .int .i64 num] _ (fun _ h => QX.out.sub h 0 [.int .i64 (k : Int), .int .i64 row, .int .i64 num] rfl) Tryz.underlying88 rfl (by kernel_rfl)) ?_
  refine tk 6 ?_
  refine tk 7 ?_
  refine tq 8 rfl (yieldsIf_load_mid (by rfl) 25 _ rfl w.heap.size 3 rfl [.int .i64 x, .int .i64 y] _ (fun _ h => QX.out.sub h 3 [.int .i64 x, .int .i64 y] rfl) Tryz.underlying25 rfl (by kernel_rfl)) ?_
  refine tk 10 ?_
  refine tq 11 rfl (yieldsIf_load_mid (by rfl) 92 _ rfl w.heap.size 5 rfl [.int .i64 c.kind, .int .i64 c.client, .int .i64 c.req, .string c.key, .string c.key2, .string c.val, .string c.old, .int .i64 c.n, .int .i64 sq, .slice ua uk uc] _ (fun _ h => QX.out.sub h 5 [.int .i64 c.kind, .int .i64 c.client, .int .i64 c.req, .string c.key, .string c.key2, .string c.val, .string c.old, .int .i64 c.n, .int .i64 sq, .slice ua uk uc] rfl) Tryz.underlying92 rfl (by kernel_rfl)) ?_
  refine tk 12 ?_
  refine tk 13 ?_
  refine tq 14 rfl (yieldsIf_load_mid (by rfl) 94 _ rfl w.heap.size 0 rfl [.int .i64 (k : Int), .int .i64 row, .int .i64 num, .int .i64 x, .int .i64 y, .int .i64 c.kind, .int .i64 c.client, .int .i64 c.req, .string c.key, .string c.key2, .string c.val, .string c.old, .int .i64 c.n, .int .i64 sq, .slice ua uk uc] _ (fun _ h => QX.out.sub h 0 [.int .i64 (k : Int), .int .i64 row, .int .i64 num, .int .i64 x, .int .i64 y, .int .i64 c.kind, .int .i64 c.client, .int .i64 c.req, .string c.key, .string c.key2, .string c.val, .string c.old, .int .i64 c.n, .int .i64 sq, .slice ua uk uc] rfl) Tryz.underlying94 rfl (by kernel_rfl)) ?_
  refine wpAnyH_ready (rs := [3]) (by kernel_rfl) (by simp) ?_
  refine AllReadyH.cons rfl (fun K hK => ?_) AllReadyH.nil
  rw [if_pos (by rfl)]
  go_wp2_with fail
  refine (instFault_any (k : Int) row num n _).mono ?_
  rintro e W0 ⟨rfl, hb0⟩
  have P0 := S0.trans (hb0.mono S0.size)
  clear hb0
  refine hK.out _ _ P0 (fun hHeld => ?_)
  clear hK K
  try simp only [Act.put, List.getElem_toArray, List.getElem_cons_succ, List.getElem_cons_zero, List.setIfInBounds_toArray, List.set_cons_zero, List.set_cons_succ]
  refine wpAnyH_ready (rs := [9]) (by kernel_rfl) (by simp) ?_
  refine AllReadyH.cons rfl (fun K hK => ?_) AllReadyH.nil
  rw [if_pos (by rfl)]
  go_wp2_with fail
  refine (ballotFault_any k row num n x y _ hk (HKM.out.below P0 (Nat.le_refl _))).mono ?_
  rintro e W1 ⟨rfl, hb1⟩
  have P1 := P0.trans (hb1.mono P0.size)
  clear hb1
  refine hK.out _ _ P1 (fun hHeld => ?_)
  clear hK K
  try simp only [Act.put, List.getElem_toArray, List.getElem_cons_succ, List.getElem_cons_zero, List.setIfInBounds_toArray, List.set_cons_zero, List.set_cons_succ]
  refine wpAnyH_ready (rs := [15]) (by kernel_rfl) (by simp) ?_
  refine AllReadyH.cons rfl (fun K hK => ?_) AllReadyH.nil
  rw [if_pos (by rfl)]
  go_wp2_with fail
  refine (mayNoopP_any (k : Int) row num x y c sq (.slice ua uk uc) _).mono ?_
  rintro e W2 ⟨rfl, hb2⟩
  have P2 := P1.trans (hb2.mono P1.size)
  clear hb2
  rw [hmay.out]
  refine hK.out _ _ P2 (fun hHeld => ?_)
  clear hK K
  try simp only [Act.put, List.getElem_toArray, List.getElem_cons_succ, List.getElem_cons_zero, List.setIfInBounds_toArray, List.set_cons_zero, List.set_cons_succ]
  refine wpAnyH_ready (rs := [16]) (by kernel_rfl) (by simp) ?_
  refine AllReadyH.cons rfl (fun K hK => ?_) AllReadyH.nil
  rw [if_pos (by rfl)]
  go_wp2_with fail
  refine (loadFault_any v n may c sq ua uk uc dl _ (HKC.out.below P2 (Nat.le_refl _)) hk1 hk2 (HSI.out.below P2 (Nat.le_refl _))).mono ?_
  rintro e W3 ⟨rfl, hb3⟩
  have P3 := P2.trans (hb3.mono P2.size)
  clear hb3
  refine hK.out _ _ P3 (fun hHeld => ?_)
  clear hK K
  try simp only [Act.put, List.getElem_toArray, List.getElem_cons_succ, List.getElem_cons_zero, List.setIfInBounds_toArray, List.set_cons_zero, List.set_cons_succ]
  refine wpAnyH_ready (rs := [17]) (by kernel_rfl) (by simp) ?_
  refine AllReadyH.cons rfl (fun K hK => ?_) AllReadyH.nil
  rw [if_pos (by rfl)]
  go_wp2_with fail
  have P4 := P3.alloc P3.size (.cells #[.int .i64 (unl (instB n row num) 52), .int .i64 (unl (ballB k n row x y) 53), .int .i64 (loadF v n may c sq dl)] 33)
  refine hK.out _ _ P4 (fun hHeld => ?_)
  clear hK K
  try simp only [Act.put, List.getElem_toArray, List.getElem_cons_succ, List.getElem_cons_zero, List.setIfInBounds_toArray, List.set_cons_zero, List.set_cons_succ]
  refine wpAnyH_ready (rs := [18]) (by kernel_rfl) (by simp) ?_
  refine AllReadyH.cons rfl (fun K hK => ?_) AllReadyH.nil
  rw [if_pos (by rfl)]
  go_wp2_with fail
  refine (or_any _ [unl (instB n row num) 52, unl (ballB k n row x y) 53, loadF v n may c sq dl] 3 rfl (by decide) _ (row_cells _ [unl (instB n row num) 52, unl (ballB k n row x y) 53, loadF v n may c sq dl] _ 3 rfl)).mono ?_
  rintro e W5 ⟨rfl, rfl⟩
  refine hK.out _ _ P4 (fun hHeld => ?_)
  clear hK K
  try simp only [Act.put, List.getElem_toArray, List.getElem_cons_succ, List.getElem_cons_zero, List.setIfInBounds_toArray, List.set_cons_zero, List.set_cons_succ]
  refine tk 19 ?_
  refine wpAnyH_done (by kernel_rfl) ?_ _
  go_wp2
  go_ret
  exact ⟨rfl, BX.out.trans (P4.mono BX.out.size)⟩
set_option maxHeartbeats 4000000 in
set_option maxRecDepth 100000 in
theorem fault_vote (k : Nat) (row num x y st : Int) (sm : Bool) (p q v n : Int) (c : Cm) (sq : Int) (ua : Option Addr) (uk uc : Nat) (dl : List Int) (may : Bool) (hmay : Hid ((st != 1) = may)) (w : World) (hk : k < 10) (hK : Kmd w) (hKc : Knd w) (hk1 : c.key.size ≤ 140737488351232) (hk2 : c.key2.size ≤ 140737488351232) (hI : SegI w ua uk dl) :
    Calls Tryz.prog 193 #[.agg #[.int .i64 (k : Int), .int .i64 row, .int .i64 num, .int .i64 x, .int .i64 y, .int .i64 st, .bool sm, .int .i64 p, .int .i64 q, .int .i64 c.kind, .int .i64 c.client, .int .i64 c.req, .string c.key, .string c.key2, .string c.val, .string c.old, .int .i64 c.n, .int .i64 sq, .slice ua uk uc], .int .i64 v, .int .i64 n] w fun e w' => e = .returned (.int .i64 (orL [unl (instB n row num) 52, unl (ballB k n row x y) 53, unl (voteB n row x y st sm p q) 54, loadF v n may c sq dl])) ∧ Below w.heap.size w w' := by
  obtain ⟨X, hX⟩ : ∃ X, X = w.alloc (.cells #[.int .i64 (k : Int), .int .i64 row, .int .i64 num, .int .i64 x, .int .i64 y, .int .i64 st, .bool sm, .int .i64 p, .int .i64 q, .int .i64 c.kind, .int .i64 c.client, .int .i64 c.req, .string c.key, .string c.key2, .string c.val, .string c.old, .int .i64 c.n, .int .i64 sq, .slice ua uk uc] 103) := ⟨_, rfl⟩
  have QX : Hid (Blk X w.heap.size [.int .i64 (k : Int), .int .i64 row, .int .i64 num, .int .i64 x, .int .i64 y, .int .i64 st, .bool sm, .int .i64 p, .int .i64 q, .int .i64 c.kind, .int .i64 c.client, .int .i64 c.req, .string c.key, .string c.key2, .string c.val, .string c.old, .int .i64 c.n, .int .i64 sq, .slice ua uk uc]) := by rw [hX]; exact blk_new w 103 [.int .i64 (k : Int), .int .i64 row, .int .i64 num, .int .i64 x, .int .i64 y, .int .i64 st, .bool sm, .int .i64 p, .int .i64 q, .int .i64 c.kind, .int .i64 c.client, .int .i64 c.req, .string c.key, .string c.key2, .string c.val, .string c.old, .int .i64 c.n, .int .i64 sq, .slice ua uk uc]
  have BX : Hid (Below w.heap.size w X) := by rw [hX]; exact (Below.refl _ w).alloc (Nat.le_refl _) _
  have HKM : Hid (Kmd X) := hK.below BX.out (Nat.le_refl _)
  clear hK
  have HSI : Hid (SegI X ua uk dl) := hI.below BX.out (Nat.le_refl _)
  clear hI
  have HKC : Hid (Knd X) := hKc.below BX.out (Nat.le_refl _)
  clear hKc
  go_enter Tryz.func193, Tryz.ntmps193
  go_upto_region 1 with fail
  rw [← hX]
  clear hX
  have S0 := belX X
  refine wp_region_held_drew (S := (fun w' => Below X.heap.size X w')) (by kernel_rfl) S0 (fun hHeld => ?_)
  refine tk 0 ?_
  refine tq 1 rfl (yieldsIf_load_mid (by rfl) 88 _ rfl w.heap.size 0 rfl [.int .i64 (k : Int), .int .i64 row, .int .i64 num] _ (fun _ h => QX.out.sub h 0 [.int .i64 (k : Int), .int .i64 row, .int .i64 num] rfl) Tryz.underlying88 rfl (by kernel_rfl)) ?_
  refine tk 2 ?_
  refine tk 4 ?_
  refine tq 5 rfl (yieldsIf_load_mid (by rfl) 88 _ rfl w.heap.size 0 rfl [.int .i64 (k : Int), .int .i64 row, .int .i64 num] _ (fun _ h => QX.out.sub h 0 [.int .i64 (k : Int), .int .i64 row, .int .i64 num] rfl) Tryz.underlying88 rfl (by kernel_rfl)) ?_
  refine tk 6 ?_
  refine tk 7 ?_
  refine tq 8 rfl (yieldsIf_load_mid (by rfl) 25 _ rfl w.heap.size 3 rfl [.int .i64 x, .int .i64 y] _ (fun _ h => QX.out.sub h 3 [.int .i64 x, .int .i64 y] rfl) Tryz.underlying25 rfl (by kernel_rfl)) ?_
  refine tq 10 rfl (yieldsIf_load_mid (by rfl) 103 _ rfl w.heap.size 0 rfl [.int .i64 (k : Int), .int .i64 row, .int .i64 num, .int .i64 x, .int .i64 y, .int .i64 st, .bool sm, .int .i64 p, .int .i64 q, .int .i64 c.kind, .int .i64 c.client, .int .i64 c.req, .string c.key, .string c.key2, .string c.val, .string c.old, .int .i64 c.n, .int .i64 sq, .slice ua uk uc] _ (fun _ h => QX.out.sub h 0 [.int .i64 (k : Int), .int .i64 row, .int .i64 num, .int .i64 x, .int .i64 y, .int .i64 st, .bool sm, .int .i64 p, .int .i64 q, .int .i64 c.kind, .int .i64 c.client, .int .i64 c.req, .string c.key, .string c.key2, .string c.val, .string c.old, .int .i64 c.n, .int .i64 sq, .slice ua uk uc] rfl) Tryz.underlying103 rfl (by kernel_rfl)) ?_
  refine tk 11 ?_
  refine tk 13 ?_
  refine tq 14 rfl (yieldsIf_load_mid (by rfl) 92 _ rfl w.heap.size 9 rfl [.int .i64 c.kind, .int .i64 c.client, .int .i64 c.req, .string c.key, .string c.key2, .string c.val, .string c.old, .int .i64 c.n, .int .i64 sq, .slice ua uk uc] _ (fun _ h => QX.out.sub h 9 [.int .i64 c.kind, .int .i64 c.client, .int .i64 c.req, .string c.key, .string c.key2, .string c.val, .string c.old, .int .i64 c.n, .int .i64 sq, .slice ua uk uc] rfl) Tryz.underlying92 rfl (by kernel_rfl)) ?_
  refine tk 15 ?_
  refine tk 16 ?_
  refine tq 17 rfl (yieldsIf_load_mid (by rfl) 103 _ rfl w.heap.size 0 rfl [.int .i64 (k : Int), .int .i64 row, .int .i64 num, .int .i64 x, .int .i64 y, .int .i64 st, .bool sm, .int .i64 p, .int .i64 q, .int .i64 c.kind, .int .i64 c.client, .int .i64 c.req, .string c.key, .string c.key2, .string c.val, .string c.old, .int .i64 c.n, .int .i64 sq, .slice ua uk uc] _ (fun _ h => QX.out.sub h 0 [.int .i64 (k : Int), .int .i64 row, .int .i64 num, .int .i64 x, .int .i64 y, .int .i64 st, .bool sm, .int .i64 p, .int .i64 q, .int .i64 c.kind, .int .i64 c.client, .int .i64 c.req, .string c.key, .string c.key2, .string c.val, .string c.old, .int .i64 c.n, .int .i64 sq, .slice ua uk uc] rfl) Tryz.underlying103 rfl (by kernel_rfl)) ?_
  refine wpAnyH_ready (rs := [3]) (by kernel_rfl) (by simp) ?_
  refine AllReadyH.cons rfl (fun K hK => ?_) AllReadyH.nil
  rw [if_pos (by rfl)]
  go_wp2_with fail
  refine (instFault_any (k : Int) row num n _).mono ?_
  rintro e W0 ⟨rfl, hb0⟩
  have P0 := S0.trans (hb0.mono S0.size)
  clear hb0
  refine hK.out _ _ P0 (fun hHeld => ?_)
  clear hK K
  try simp only [Act.put, List.getElem_toArray, List.getElem_cons_succ, List.getElem_cons_zero, List.setIfInBounds_toArray, List.set_cons_zero, List.set_cons_succ]
  refine wpAnyH_ready (rs := [9]) (by kernel_rfl) (by simp) ?_
  refine AllReadyH.cons rfl (fun K hK => ?_) AllReadyH.nil
  rw [if_pos (by rfl)]
  go_wp2_with fail
  refine (ballotFault_any k row num n x y _ hk (HKM.out.below P0 (Nat.le_refl _))).mono ?_
  rintro e W1 ⟨rfl, hb1⟩
  have P1 := P0.trans (hb1.mono P0.size)
  clear hb1
  refine hK.out _ _ P1 (fun hHeld => ?_)
  clear hK K
  try simp only [Act.put, List.getElem_toArray, List.getElem_cons_succ, List.getElem_cons_zero, List.setIfInBounds_toArray, List.set_cons_zero, List.set_cons_succ]
  refine wpAnyH_ready (rs := [12]) (by kernel_rfl) (by simp) ?_
  refine AllReadyH.cons rfl (fun K hK => ?_) AllReadyH.nil
  rw [if_pos (by rfl)]
  go_wp2_with fail
  refine (voteFaultV_any (k : Int) row num x y st sm p q c sq (.slice ua uk uc) n _).mono ?_
  rintro e W2 ⟨rfl, hb2⟩
  have P2 := P1.trans (hb2.mono P1.size)
  clear hb2
  refine hK.out _ _ P2 (fun hHeld => ?_)
  clear hK K
  try simp only [Act.put, List.getElem_toArray, List.getElem_cons_succ, List.getElem_cons_zero, List.setIfInBounds_toArray, List.set_cons_zero, List.set_cons_succ]
  refine wpAnyH_ready (rs := [18]) (by kernel_rfl) (by simp) ?_
  refine AllReadyH.cons rfl (fun K hK => ?_) AllReadyH.nil
  rw [if_pos (by rfl)]
  go_wp2_with fail
  refine (mayNoopV_any (k : Int) row num x y st sm p q c sq (.slice ua uk uc) _).mono ?_
  rintro e W3 ⟨rfl, hb3⟩
  have P3 := P2.trans (hb3.mono P2.size)
  clear hb3
  rw [hmay.out]
  refine hK.out _ _ P3 (fun hHeld => ?_)
  clear hK K
  try simp only [Act.put, List.getElem_toArray, List.getElem_cons_succ, List.getElem_cons_zero, List.setIfInBounds_toArray, List.set_cons_zero, List.set_cons_succ]
  refine wpAnyH_ready (rs := [19]) (by kernel_rfl) (by simp) ?_
  refine AllReadyH.cons rfl (fun K hK => ?_) AllReadyH.nil
  rw [if_pos (by rfl)]
  go_wp2_with fail
  refine (loadFault_any v n may c sq ua uk uc dl _ (HKC.out.below P3 (Nat.le_refl _)) hk1 hk2 (HSI.out.below P3 (Nat.le_refl _))).mono ?_
  rintro e W4 ⟨rfl, hb4⟩
  have P4 := P3.trans (hb4.mono P3.size)
  clear hb4
  refine hK.out _ _ P4 (fun hHeld => ?_)
  clear hK K
  try simp only [Act.put, List.getElem_toArray, List.getElem_cons_succ, List.getElem_cons_zero, List.setIfInBounds_toArray, List.set_cons_zero, List.set_cons_succ]
  refine wpAnyH_ready (rs := [20]) (by kernel_rfl) (by simp) ?_
  refine AllReadyH.cons rfl (fun K hK => ?_) AllReadyH.nil
  rw [if_pos (by rfl)]
  go_wp2_with fail
  have P5 := P4.alloc P4.size (.cells #[.int .i64 (unl (instB n row num) 52), .int .i64 (unl (ballB k n row x y) 53), .int .i64 (unl (voteB n row x y st sm p q) 54), .int .i64 (loadF v n may c sq dl)] 33)
  refine hK.out _ _ P5 (fun hHeld => ?_)
  clear hK K
  try simp only [Act.put, List.getElem_toArray, List.getElem_cons_succ, List.getElem_cons_zero, List.setIfInBounds_toArray, List.set_cons_zero, List.set_cons_succ]
  refine wpAnyH_ready (rs := [21]) (by kernel_rfl) (by simp) ?_
  refine AllReadyH.cons rfl (fun K hK => ?_) AllReadyH.nil
  rw [if_pos (by rfl)]
  go_wp2_with fail
  refine (or_any _ [unl (instB n row num) 52, unl (ballB k n row x y) 53, unl (voteB n row x y st sm p q) 54, loadF v n may c sq dl] 4 rfl (by decide) _ (row_cells _ [unl (instB n row num) 52, unl (ballB k n row x y) 53, unl (voteB n row x y st sm p q) 54, loadF v n may c sq dl] _ 4 rfl)).mono ?_
  rintro e W6 ⟨rfl, rfl⟩
  refine hK.out _ _ P5 (fun hHeld => ?_)
  clear hK K
  try simp only [Act.put, List.getElem_toArray, List.getElem_cons_succ, List.getElem_cons_zero, List.setIfInBounds_toArray, List.set_cons_zero, List.set_cons_succ]
  refine tk 22 ?_
  refine wpAnyH_done (by kernel_rfl) ?_ _
  go_wp2
  go_ret
  exact ⟨rfl, BX.out.trans (P5.mono BX.out.size)⟩
set_option maxHeartbeats 1000000 in
set_option maxRecDepth 100000 in
theorem fault_bare (k row num v n : Int) (w : World) :
    Calls Tryz.prog 197 #[.agg #[.int .i64 k, .int .i64 row, .int .i64 num], .int .i64 v, .int .i64 n] w fun e w' => e = .returned (.int .i64 (unl (instB n row num) 52)) ∧ Below w.heap.size w w' := by
  have BB : ∀ o, Hid (Below w.heap.size w (w.alloc o)) := fun o => (Below.refl _ w).alloc (Nat.le_refl _) _
  go_enter Tryz.func197, Tryz.ntmps197
  go_wp2_with fail
  refine (instFault_any k row num n _).mono ?_
  rintro e w1 ⟨rfl, hb⟩
  have HB := hide ((BB _).out.trans (hb.mono (by simp)))
  clear hb
  go_wp2
  go_ret
  exact ⟨rfl, HB.out⟩
end Go.Proofs.YtdokagebfeejbaaGreatDoor
