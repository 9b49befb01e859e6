/- The contracts of the bytes methods of the shapes, version 1. -/
import Derived.Test.YtooejihnifphkaaGreatDoorMBytesH
namespace Go.Proofs.YtooejihnifphkaaGreatDoor
open Go.RowKit Go.Wire1

set_option maxHeartbeats 4000000 in
set_option maxRecDepth 100000 in
theorem bytes_balloted1 (kd row num x y : Nat) (w : World) (hkd : kd < 128) (hrow : row < 1152921504606846976) (hnum : num < 1152921504606846976) (hx : x < 1152921504606846976) (hy : y < 1152921504606846976) :
    Calls Tryz.prog 165 #[.agg #[.int .i64 (kd : Int), .int .i64 (row : Int), .int .i64 (num : Int), .int .i64 (x : Int), .int .i64 (y : Int)], .agg #[.int .i64 1, .func (.func 32) #[] #[], .func (.func 33) #[] #[], .func (.func 34) #[] #[], .func (.func 35) #[] #[], .func (.func 36) #[] #[], .func (.func 37) #[] #[]]] w fun r w' => Bts w ([staP 1 kd row num, balP 1 x y] : List (List Int)).flatten r w' := by
  obtain ⟨X, hX⟩ : ∃ X, X = (w.alloc (.cells #[.int .i64 (kd : Int), .int .i64 (row : Int), .int .i64 (num : Int), .int .i64 (x : Int), .int .i64 (y : Int)] 91)).alloc (.cells #[.int .i64 1, .func (.func 32) #[] #[], .func (.func 33) #[] #[], .func (.func 34) #[] #[], .func (.func 35) #[] #[], .func (.func 36) #[] #[], .func (.func 37) #[] #[]] 64) := ⟨_, rfl⟩
  have Q0 := blk_new w 91 [.int .i64 (kd : Int), .int .i64 (row : Int), .int .i64 (num : Int), .int .i64 (x : Int), .int .i64 (y : Int)]
  have QL0 := blk_new (w.alloc (.cells #[.int .i64 (kd : Int), .int .i64 (row : Int), .int .i64 (num : Int), .int .i64 (x : Int), .int .i64 (y : Int)] 91)) 64 [.int .i64 1, .func (.func 32) #[] #[], .func (.func 33) #[] #[], .func (.func 34) #[] #[], .func (.func 35) #[] #[], .func (.func 36) #[] #[], .func (.func 37) #[] #[]]
  have QS : Hid (Blk X w.heap.size [.int .i64 (kd : Int), .int .i64 (row : Int), .int .i64 (num : Int), .int .i64 (x : Int), .int .i64 (y : Int)]) := by rw [hX]; exact Q0.on ((Below.refl _ _).alloc (Nat.le_refl _) _)
  have QL : Hid (Blk X (w.heap.size + 1) [.int .i64 1, .func (.func 32) #[] #[], .func (.func 33) #[] #[], .func (.func 34) #[] #[], .func (.func 35) #[] #[], .func (.func 36) #[] #[], .func (.func 37) #[] #[]]) := by rw [hX]; rw [World.size_alloc] at QL0; exact QL0
  have BX : Hid (Below w.heap.size w X) := by rw [hX]; exact ((Below.refl _ w).alloc (Nat.le_refl _) _).alloc (by simp) _
  clear Q0 QL0
  have C0 : Hid (∀ W, Below X.heap.size X W → Calls Tryz.prog 143 #[.agg #[.int .i64 (kd : Int), .int .i64 (row : Int), .int .i64 (num : Int)], .agg #[.int .i64 1, .func (.func 32) #[] #[], .func (.func 33) #[] #[], .func (.func 34) #[] #[], .func (.func 35) #[] #[], .func (.func 36) #[] #[], .func (.func 37) #[] #[]]] W fun r w' => Bts W (staP 1 kd row num) r w') := fun W hW => start1_any kd row num W hkd hrow hnum
  have q0 := staP_len 1 kd row num
  have C1 : Hid (∀ W, Below X.heap.size X W → Calls Tryz.prog 33 #[.agg #[.int .i64 (x : Int), .int .i64 (y : Int)]] W fun r w' => Bts W (balP 1 x y) r w') := fun W hW => putBallot1_any x y W hx hy
  have q1 := balP_len 1 x y
  generalize staP 1 kd row num = SL at *
  generalize balP 1 x y = BL at *
  have hTot : ([SL, BL] : List (List Int)).flatten.length ≤ 1000000 := by simp; omega
  obtain ⟨TL, hTL⟩ : ∃ TL, Hid (([SL, BL] : List (List Int)).flatten = TL) := ⟨_, rfl⟩
  rw [hTL.out]
  go_enter Tryz.func165, Tryz.ntmps165
  go_upto_region 1 with fail
  rw [← hX]
  clear hX
  have S0 := belX X
  refine wp_region_held_drew (S := (fun w' => Below X.heap.size X w')) (by kernel_rfl) S0 (fun hHeld => ?_)
  refine wpAnyH_take (i := 0) (v := ?_) rfl (by kernel_rfl) (by kernel_rfl) (by kernel_rfl) (fun _ _ _ h => h) (Or.inl ⟨by rfl, ?_⟩) (by assumption) ?_
  rotate_left
  · intro w hSw
    try dsimp only at hSw
    go_simp
    try with_reducible rfl
  try simp only [Act.put, List.getElem_toArray, List.getElem_cons_zero, List.setIfInBounds_toArray, List.set_cons_zero, List.set_cons_succ]
  refine wpAnyH_take (i := 1) rfl (by kernel_rfl) (by kernel_rfl) (by kernel_rfl) (fun _ _ _ h => h) (yieldsIf_load_mid (by rfl) 81 _ rfl w.heap.size 0 rfl [.int .i64 (kd : Int), .int .i64 (row : Int), .int .i64 (num : Int)] _ (fun _ h => QS.out.sub h 0 [.int .i64 (kd : Int), .int .i64 (row : Int), .int .i64 (num : Int)] rfl) Tryz.underlying81 rfl (by kernel_rfl)) (by assumption) ?_
  try simp only [Act.put, List.getElem_toArray, List.getElem_cons_succ, List.getElem_cons_zero, List.setIfInBounds_toArray, List.set_cons_zero, List.set_cons_succ]
  refine wpAnyH_take (i := 2) rfl (by kernel_rfl) (by kernel_rfl) (by kernel_rfl) (fun _ _ _ h => h) (yieldsIf_load_mid (by rfl) 64 _ rfl (w.heap.size + 1) 0 rfl [.int .i64 1, .func (.func 32) #[] #[], .func (.func 33) #[] #[], .func (.func 34) #[] #[], .func (.func 35) #[] #[], .func (.func 36) #[] #[], .func (.func 37) #[] #[]] _ (fun _ h => QL.out.sub h 0 [.int .i64 1, .func (.func 32) #[] #[], .func (.func 33) #[] #[], .func (.func 34) #[] #[], .func (.func 35) #[] #[], .func (.func 36) #[] #[], .func (.func 37) #[] #[]] rfl) Tryz.underlying64 rfl (by kernel_rfl)) (by assumption) ?_
  try simp only [Act.put, List.getElem_toArray, List.getElem_cons_succ, List.getElem_cons_zero, List.setIfInBounds_toArray, List.set_cons_zero, List.set_cons_succ]
  refine wpAnyH_take (i := 4) (v := ?_) rfl (by kernel_rfl) (by kernel_rfl) (by kernel_rfl) (fun _ _ _ h => h) (Or.inl ⟨by rfl, ?_⟩) (by assumption) ?_
  rotate_left
  · intro w hSw
    try dsimp only at hSw
    go_simp
    try with_reducible rfl
  try simp only [Act.put, List.getElem_toArray, List.getElem_cons_succ, List.getElem_cons_zero, List.setIfInBounds_toArray, List.set_cons_zero, List.set_cons_succ]
  refine wpAnyH_take (i := 5) (v := ?_) rfl (by kernel_rfl) (by kernel_rfl) (by kernel_rfl) (fun _ _ _ h => h) (Or.inl ⟨by rfl, ?_⟩) (by assumption) ?_
  rotate_left
  · intro w hSw
    try dsimp only at hSw
    have c5 := QL.out.c1 hSw 2 _ rfl
    go_simp
    try with_reducible rfl
  try simp only [Act.put, List.getElem_toArray, List.getElem_cons_succ, List.getElem_cons_zero, List.setIfInBounds_toArray, List.set_cons_zero, List.set_cons_succ]
  refine wpAnyH_take (i := 6) (v := ?_) rfl (by kernel_rfl) (by kernel_rfl) (by kernel_rfl) (fun _ _ _ h => h) (Or.inl ⟨by rfl, ?_⟩) (by assumption) ?_
  rotate_left
  · intro w hSw
    try dsimp only at hSw
    go_simp
    try with_reducible rfl
  try simp only [Act.put, List.getElem_toArray, List.getElem_cons_succ, List.getElem_cons_zero, List.setIfInBounds_toArray, List.set_cons_zero, List.set_cons_succ]
  refine wpAnyH_take (i := 7) rfl (by kernel_rfl) (by kernel_rfl) (by kernel_rfl) (fun _ _ _ h => h) (yieldsIf_load_mid (by rfl) 25 _ rfl w.heap.size 3 rfl [.int .i64 (x : Int), .int .i64 (y : Int)] _ (fun _ h => QS.out.sub h 3 [.int .i64 (x : Int), .int .i64 (y : Int)] rfl) Tryz.underlying25 rfl (by kernel_rfl)) (by assumption) ?_
  try simp only [Act.put, List.getElem_toArray, List.getElem_cons_succ, List.getElem_cons_zero, List.setIfInBounds_toArray, List.set_cons_zero, List.set_cons_succ]
  refine wpAnyH_ready (rs := [3]) (by kernel_rfl) (by simp) ?_
  refine AllReadyH.cons rfl (fun K hK => ?_) AllReadyH.nil
  rw [if_pos (by rfl)]
  go_wp2_with fail
  refine (C0.out _ S0).mono ?_
  rintro e W0 ⟨u0, rfl, o0, b0⟩
  have P0 := S0.trans (b0.mono S0.size)
  clear b0
  obtain ⟨va0, vc0, rfl⟩ := own_shape o0
  refine hK.out _ _ P0 (fun hHeld => ?_)
  clear hK K
  try simp only [Act.put, List.getElem_toArray, List.getElem_cons_succ, List.getElem_cons_zero, List.setIfInBounds_toArray, List.set_cons_zero, List.set_cons_succ]
  refine wpAnyH_ready (rs := [8]) (by kernel_rfl) (by simp) ?_
  refine AllReadyH.cons rfl (fun K hK => ?_) AllReadyH.nil
  rw [if_pos (by rfl)]
  go_wp2_with fail
  refine (C1.out _ P0).mono ?_
  rintro e W1 ⟨u1, rfl, o1, b1⟩
  have P1 := P0.trans (b1.mono P0.size)
  have o0 := own_below o0 b1 (Nat.le_refl _)
  clear b1
  obtain ⟨va1, vc1, rfl⟩ := own_shape o1
  refine hK.out _ _ P1 (fun hHeld => ?_)
  clear hK K
  try simp only [Act.put, List.getElem_toArray, List.getElem_cons_succ, List.getElem_cons_zero, List.setIfInBounds_toArray, List.set_cons_zero, List.set_cons_succ]
  refine wpAnyH_ready (rs := [9]) (by kernel_rfl) (by simp) ?_
  refine AllReadyH.cons rfl (fun K hK => ?_) AllReadyH.nil
  rw [if_pos (by rfl)]
  go_wp2_with fail
  have PA := P1.alloc P1.size (.cells #[.slice va0 SL.length vc0, .slice va1 BL.length vc1] 34)
  refine hK.out _ _ PA (fun hHeld => ?_)
  clear hK K
  try simp only [Act.put, List.getElem_toArray, List.getElem_cons_succ, List.getElem_cons_zero, List.setIfInBounds_toArray, List.set_cons_zero, List.set_cons_succ]
  refine wpAnyH_ready (rs := [10]) (by kernel_rfl) (by simp) ?_
  refine AllReadyH.cons rfl (fun K hK => ?_) AllReadyH.nil
  rw [if_pos (by rfl)]
  go_wp2_with fail
  refine (concat_any _ [.slice va0 SL.length vc0, .slice va1 BL.length vc1] [SL, BL] 2 rfl (by decide) _ (srcs_new _ ⟨⟨_, o0⟩, q0.1, ⟨_, o1⟩, q1.1, trivial⟩) hTot).mono ?_
  rintro e W9 ⟨u9, rfl, o9, b9⟩
  have P9 := PA.trans (b9.mono PA.size)
  have RR : Hid (Bts w TL (.returned u9) W9) := by
    rw [← hTL.out]
    exact bts_box (BX.out.trans (PA.mono BX.out.size)) ⟨u9, rfl, o9, b9⟩
  refine hK.out _ _ P9 (fun hHeld => ?_)
  clear hK K
  try simp only [Act.put, List.getElem_toArray, List.getElem_cons_succ, List.getElem_cons_zero, List.setIfInBounds_toArray, List.set_cons_zero, List.set_cons_succ]
  refine wpAnyH_take (i := 11) (v := ?_) rfl (by kernel_rfl) (by kernel_rfl) (by kernel_rfl) (fun _ _ _ h => h) (Or.inl ⟨by rfl, ?_⟩) (by assumption) ?_
  rotate_left
  · intro w hSw
    try dsimp only at hSw
    go_simp
    try with_reducible rfl
  try simp only [Act.put, List.getElem_toArray, List.getElem_cons_succ, List.getElem_cons_zero, List.setIfInBounds_toArray, List.set_cons_zero, List.set_cons_succ]
  refine wpAnyH_done (by kernel_rfl) ?_ _
  go_wp2
  go_ret
  exact RR.out
set_option maxHeartbeats 4000000 in
set_option maxRecDepth 100000 in
theorem bytes_estimate1 (kd row num x y sq : Nat) (ua : Option Addr) (uk uc : Nat) (dl : List Int) (w : World) (hkd : kd < 128) (hrow : row < 1152921504606846976) (hnum : num < 1152921504606846976) (hx : x < 1152921504606846976) (hy : y < 1152921504606846976) (hsq : sq < 9223372036854775808) (hI : SegI w ua uk dl) (hp0 : 0 < (packR 1 dl).length) (hp1 : (packR 1 dl).length ≤ 1000) :
    Calls Tryz.prog 163 #[.agg #[.int .i64 (kd : Int), .int .i64 (row : Int), .int .i64 (num : Int), .int .i64 (x : Int), .int .i64 (y : Int), .int .i64 (sq : Int), .slice ua uk uc], .agg #[.int .i64 1, .func (.func 32) #[] #[], .func (.func 33) #[] #[], .func (.func 34) #[] #[], .func (.func 35) #[] #[], .func (.func 36) #[] #[], .func (.func 37) #[] #[]]] w fun r w' => Bts w ([staP 1 kd row num, balP 1 x y, attP 1 sq dl] : List (List Int)).flatten r w' := by
  obtain ⟨X, hX⟩ : ∃ X, X = (w.alloc (.cells #[.int .i64 (kd : Int), .int .i64 (row : Int), .int .i64 (num : Int), .int .i64 (x : Int), .int .i64 (y : Int), .int .i64 (sq : Int), .slice ua uk uc] 89)).alloc (.cells #[.int .i64 1, .func (.func 32) #[] #[], .func (.func 33) #[] #[], .func (.func 34) #[] #[], .func (.func 35) #[] #[], .func (.func 36) #[] #[], .func (.func 37) #[] #[]] 64) := ⟨_, rfl⟩
  have Q0 := blk_new w 89 [.int .i64 (kd : Int), .int .i64 (row : Int), .int .i64 (num : Int), .int .i64 (x : Int), .int .i64 (y : Int), .int .i64 (sq : Int), .slice ua uk uc]
  have QL0 := blk_new (w.alloc (.cells #[.int .i64 (kd : Int), .int .i64 (row : Int), .int .i64 (num : Int), .int .i64 (x : Int), .int .i64 (y : Int), .int .i64 (sq : Int), .slice ua uk uc] 89)) 64 [.int .i64 1, .func (.func 32) #[] #[], .func (.func 33) #[] #[], .func (.func 34) #[] #[], .func (.func 35) #[] #[], .func (.func 36) #[] #[], .func (.func 37) #[] #[]]
  have QS : Hid (Blk X w.heap.size [.int .i64 (kd : Int), .int .i64 (row : Int), .int .i64 (num : Int), .int .i64 (x : Int), .int .i64 (y : Int), .int .i64 (sq : Int), .slice ua uk uc]) := by rw [hX]; exact Q0.on ((Below.refl _ _).alloc (Nat.le_refl _) _)
  have QL : Hid (Blk X (w.heap.size + 1) [.int .i64 1, .func (.func 32) #[] #[], .func (.func 33) #[] #[], .func (.func 34) #[] #[], .func (.func 35) #[] #[], .func (.func 36) #[] #[], .func (.func 37) #[] #[]]) := by rw [hX]; rw [World.size_alloc] at QL0; exact QL0
  have BX : Hid (Below w.heap.size w X) := by rw [hX]; exact ((Below.refl _ w).alloc (Nat.le_refl _) _).alloc (by simp) _
  clear Q0 QL0
  have HI : Hid (SegI X ua uk dl) := hI.below BX.out (Nat.le_refl _)
  clear hI
  have C0 : Hid (∀ W, Below X.heap.size X W → Calls Tryz.prog 143 #[.agg #[.int .i64 (kd : Int), .int .i64 (row : Int), .int .i64 (num : Int)], .agg #[.int .i64 1, .func (.func 32) #[] #[], .func (.func 33) #[] #[], .func (.func 34) #[] #[], .func (.func 35) #[] #[], .func (.func 36) #[] #[], .func (.func 37) #[] #[]]] W fun r w' => Bts W (staP 1 kd row num) r w') := fun W hW => start1_any kd row num W hkd hrow hnum
  have q0 := staP_len 1 kd row num
  have C1 : Hid (∀ W, Below X.heap.size X W → Calls Tryz.prog 33 #[.agg #[.int .i64 (x : Int), .int .i64 (y : Int)]] W fun r w' => Bts W (balP 1 x y) r w') := fun W hW => putBallot1_any x y W hx hy
  have q1 := balP_len 1 x y
  have C2 : Hid (∀ W, Below X.heap.size X W → Calls Tryz.prog 149 #[.agg #[.int .i64 1, .func (.func 32) #[] #[], .func (.func 33) #[] #[], .func (.func 34) #[] #[], .func (.func 35) #[] #[], .func (.func 36) #[] #[], .func (.func 37) #[] #[]], .agg #[.int .i64 (sq : Int), .slice ua uk uc]] W fun r w' => Bts W (attP 1 sq dl) r w') := fun W hW => attr1_any sq ua uk uc dl W hsq (HI.out.below hW (Nat.le_refl _)) hp0 hp1
  have q2 := attP_len 1 sq dl hp0 hp1
  generalize staP 1 kd row num = SL at *
  generalize balP 1 x y = BL at *
  generalize attP 1 sq dl = AL at *
  have hTot : ([SL, BL, AL] : List (List Int)).flatten.length ≤ 1000000 := by simp; omega
  obtain ⟨TL, hTL⟩ : ∃ TL, Hid (([SL, BL, AL] : List (List Int)).flatten = TL) := ⟨_, rfl⟩
  rw [hTL.out]
  go_enter Tryz.func163, Tryz.ntmps163
  go_upto_region 1 with fail
  rw [← hX]
  clear hX
  have S0 := belX X
  refine wp_region_held_drew (S := (fun w' => Below X.heap.size X w')) (by kernel_rfl) S0 (fun hHeld => ?_)
  refine wpAnyH_take (i := 0) (v := ?_) rfl (by kernel_rfl) (by kernel_rfl) (by kernel_rfl) (fun _ _ _ h => h) (Or.inl ⟨by rfl, ?_⟩) (by assumption) ?_
  rotate_left
  · intro w hSw
    try dsimp only at hSw
    go_simp
    try with_reducible rfl
  try simp only [Act.put, List.getElem_toArray, List.getElem_cons_zero, List.setIfInBounds_toArray, List.set_cons_zero, List.set_cons_succ]
  refine wpAnyH_take (i := 1) rfl (by kernel_rfl) (by kernel_rfl) (by kernel_rfl) (fun _ _ _ h => h) (yieldsIf_load_mid (by rfl) 81 _ rfl w.heap.size 0 rfl [.int .i64 (kd : Int), .int .i64 (row : Int), .int .i64 (num : Int)] _ (fun _ h => QS.out.sub h 0 [.int .i64 (kd : Int), .int .i64 (row : Int), .int .i64 (num : Int)] rfl) Tryz.underlying81 rfl (by kernel_rfl)) (by assumption) ?_
  try simp only [Act.put, List.getElem_toArray, List.getElem_cons_succ, List.getElem_cons_zero, List.setIfInBounds_toArray, List.set_cons_zero, List.set_cons_succ]
  refine wpAnyH_take (i := 2) rfl (by kernel_rfl) (by kernel_rfl) (by kernel_rfl) (fun _ _ _ h => h) (yieldsIf_load_mid (by rfl) 64 _ rfl (w.heap.size + 1) 0 rfl [.int .i64 1, .func (.func 32) #[] #[], .func (.func 33) #[] #[], .func (.func 34) #[] #[], .func (.func 35) #[] #[], .func (.func 36) #[] #[], .func (.func 37) #[] #[]] _ (fun _ h => QL.out.sub h 0 [.int .i64 1, .func (.func 32) #[] #[], .func (.func 33) #[] #[], .func (.func 34) #[] #[], .func (.func 35) #[] #[], .func (.func 36) #[] #[], .func (.func 37) #[] #[]] rfl) Tryz.underlying64 rfl (by kernel_rfl)) (by assumption) ?_
  try simp only [Act.put, List.getElem_toArray, List.getElem_cons_succ, List.getElem_cons_zero, List.setIfInBounds_toArray, List.set_cons_zero, List.set_cons_succ]
  refine wpAnyH_take (i := 4) (v := ?_) rfl (by kernel_rfl) (by kernel_rfl) (by kernel_rfl) (fun _ _ _ h => h) (Or.inl ⟨by rfl, ?_⟩) (by assumption) ?_
  rotate_left
  · intro w hSw
    try dsimp only at hSw
    go_simp
    try with_reducible rfl
  try simp only [Act.put, List.getElem_toArray, List.getElem_cons_succ, List.getElem_cons_zero, List.setIfInBounds_toArray, List.set_cons_zero, List.set_cons_succ]
  refine wpAnyH_take (i := 5) (v := ?_) rfl (by kernel_rfl) (by kernel_rfl) (by kernel_rfl) (fun _ _ _ h => h) (Or.inl ⟨by rfl, ?_⟩) (by assumption) ?_
  rotate_left
  · intro w hSw
    try dsimp only at hSw
    have c5 := QL.out.c1 hSw 2 _ rfl
    go_simp
    try with_reducible rfl
  try simp only [Act.put, List.getElem_toArray, List.getElem_cons_succ, List.getElem_cons_zero, List.setIfInBounds_toArray, List.set_cons_zero, List.set_cons_succ]
  refine wpAnyH_take (i := 6) (v := ?_) rfl (by kernel_rfl) (by kernel_rfl) (by kernel_rfl) (fun _ _ _ h => h) (Or.inl ⟨by rfl, ?_⟩) (by assumption) ?_
  rotate_left
  · intro w hSw
    try dsimp only at hSw
    go_simp
    try with_reducible rfl
  try simp only [Act.put, List.getElem_toArray, List.getElem_cons_succ, List.getElem_cons_zero, List.setIfInBounds_toArray, List.set_cons_zero, List.set_cons_succ]
  refine wpAnyH_take (i := 7) rfl (by kernel_rfl) (by kernel_rfl) (by kernel_rfl) (fun _ _ _ h => h) (yieldsIf_load_mid (by rfl) 25 _ rfl w.heap.size 3 rfl [.int .i64 (x : Int), .int .i64 (y : Int)] _ (fun _ h => QS.out.sub h 3 [.int .i64 (x : Int), .int .i64 (y : Int)] rfl) Tryz.underlying25 rfl (by kernel_rfl)) (by assumption) ?_
  try simp only [Act.put, List.getElem_toArray, List.getElem_cons_succ, List.getElem_cons_zero, List.setIfInBounds_toArray, List.set_cons_zero, List.set_cons_succ]
  refine wpAnyH_take (i := 9) rfl (by kernel_rfl) (by kernel_rfl) (by kernel_rfl) (fun _ _ _ h => h) (yieldsIf_load_mid (by rfl) 64 _ rfl (w.heap.size + 1) 0 rfl [.int .i64 1, .func (.func 32) #[] #[], .func (.func 33) #[] #[], .func (.func 34) #[] #[], .func (.func 35) #[] #[], .func (.func 36) #[] #[], .func (.func 37) #[] #[]] _ (fun _ h => QL.out.sub h 0 [.int .i64 1, .func (.func 32) #[] #[], .func (.func 33) #[] #[], .func (.func 34) #[] #[], .func (.func 35) #[] #[], .func (.func 36) #[] #[], .func (.func 37) #[] #[]] rfl) Tryz.underlying64 rfl (by kernel_rfl)) (by assumption) ?_
  try simp only [Act.put, List.getElem_toArray, List.getElem_cons_succ, List.getElem_cons_zero, List.setIfInBounds_toArray, List.set_cons_zero, List.set_cons_succ]
  refine wpAnyH_take (i := 10) (v := ?_) rfl (by kernel_rfl) (by kernel_rfl) (by kernel_rfl) (fun _ _ _ h => h) (Or.inl ⟨by rfl, ?_⟩) (by assumption) ?_
  rotate_left
  · intro w hSw
    try dsimp only at hSw
    go_simp
    try with_reducible rfl
  try simp only [Act.put, List.getElem_toArray, List.getElem_cons_succ, List.getElem_cons_zero, List.setIfInBounds_toArray, List.set_cons_zero, List.set_cons_succ]
  refine wpAnyH_take (i := 11) rfl (by kernel_rfl) (by kernel_rfl) (by kernel_rfl) (fun _ _ _ h => h) (yieldsIf_load_mid (by rfl) 83 _ rfl w.heap.size 5 rfl [.int .i64 (sq : Int), .slice ua uk uc] _ (fun _ h => QS.out.sub h 5 [.int .i64 (sq : Int), .slice ua uk uc] rfl) Tryz.underlying83 rfl (by kernel_rfl)) (by assumption) ?_
  try simp only [Act.put, List.getElem_toArray, List.getElem_cons_succ, List.getElem_cons_zero, List.setIfInBounds_toArray, List.set_cons_zero, List.set_cons_succ]
  refine wpAnyH_ready (rs := [3]) (by kernel_rfl) (by simp) ?_
  refine AllReadyH.cons rfl (fun K hK => ?_) AllReadyH.nil
  rw [if_pos (by rfl)]
  go_wp2_with fail
  refine (C0.out _ S0).mono ?_
  rintro e W0 ⟨u0, rfl, o0, b0⟩
  have P0 := S0.trans (b0.mono S0.size)
  clear b0
  obtain ⟨va0, vc0, rfl⟩ := own_shape o0
  refine hK.out _ _ P0 (fun hHeld => ?_)
  clear hK K
  try simp only [Act.put, List.getElem_toArray, List.getElem_cons_succ, List.getElem_cons_zero, List.setIfInBounds_toArray, List.set_cons_zero, List.set_cons_succ]
  refine wpAnyH_ready (rs := [8]) (by kernel_rfl) (by simp) ?_
  refine AllReadyH.cons rfl (fun K hK => ?_) AllReadyH.nil
  rw [if_pos (by rfl)]
  go_wp2_with fail
  refine (C1.out _ P0).mono ?_
  rintro e W1 ⟨u1, rfl, o1, b1⟩
  have P1 := P0.trans (b1.mono P0.size)
  have o0 := own_below o0 b1 (Nat.le_refl _)
  clear b1
  obtain ⟨va1, vc1, rfl⟩ := own_shape o1
  refine hK.out _ _ P1 (fun hHeld => ?_)
  clear hK K
  try simp only [Act.put, List.getElem_toArray, List.getElem_cons_succ, List.getElem_cons_zero, List.setIfInBounds_toArray, List.set_cons_zero, List.set_cons_succ]
  refine wpAnyH_ready (rs := [12]) (by kernel_rfl) (by simp) ?_
  refine AllReadyH.cons rfl (fun K hK => ?_) AllReadyH.nil
  rw [if_pos (by rfl)]
  go_wp2_with fail
  refine (C2.out _ P1).mono ?_
  rintro e W2 ⟨u2, rfl, o2, b2⟩
  have P2 := P1.trans (b2.mono P1.size)
  have o0 := own_below o0 b2 (Nat.le_refl _)
  have o1 := own_below o1 b2 (Nat.le_refl _)
  clear b2
  obtain ⟨va2, vc2, rfl⟩ := own_shape o2
  refine hK.out _ _ P2 (fun hHeld => ?_)
  clear hK K
  try simp only [Act.put, List.getElem_toArray, List.getElem_cons_succ, List.getElem_cons_zero, List.setIfInBounds_toArray, List.set_cons_zero, List.set_cons_succ]
  refine wpAnyH_ready (rs := [13]) (by kernel_rfl) (by simp) ?_
  refine AllReadyH.cons rfl (fun K hK => ?_) AllReadyH.nil
  rw [if_pos (by rfl)]
  go_wp2_with fail
  have PA := P2.alloc P2.size (.cells #[.slice va0 SL.length vc0, .slice va1 BL.length vc1, .slice va2 AL.length vc2] 34)
  refine hK.out _ _ PA (fun hHeld => ?_)
  clear hK K
  try simp only [Act.put, List.getElem_toArray, List.getElem_cons_succ, List.getElem_cons_zero, List.setIfInBounds_toArray, List.set_cons_zero, List.set_cons_succ]
  refine wpAnyH_ready (rs := [14]) (by kernel_rfl) (by simp) ?_
  refine AllReadyH.cons rfl (fun K hK => ?_) AllReadyH.nil
  rw [if_pos (by rfl)]
  go_wp2_with fail
  refine (concat_any _ [.slice va0 SL.length vc0, .slice va1 BL.length vc1, .slice va2 AL.length vc2] [SL, BL, AL] 3 rfl (by decide) _ (srcs_new _ ⟨⟨_, o0⟩, q0.1, ⟨_, o1⟩, q1.1, ⟨_, o2⟩, q2.1, trivial⟩) hTot).mono ?_
  rintro e W9 ⟨u9, rfl, o9, b9⟩
  have P9 := PA.trans (b9.mono PA.size)
  have RR : Hid (Bts w TL (.returned u9) W9) := by
    rw [← hTL.out]
    exact bts_box (BX.out.trans (PA.mono BX.out.size)) ⟨u9, rfl, o9, b9⟩
  refine hK.out _ _ P9 (fun hHeld => ?_)
  clear hK K
  try simp only [Act.put, List.getElem_toArray, List.getElem_cons_succ, List.getElem_cons_zero, List.setIfInBounds_toArray, List.set_cons_zero, List.set_cons_succ]
  refine wpAnyH_take (i := 15) (v := ?_) rfl (by kernel_rfl) (by kernel_rfl) (by kernel_rfl) (fun _ _ _ h => h) (Or.inl ⟨by rfl, ?_⟩) (by assumption) ?_
  rotate_left
  · intro w hSw
    try dsimp only at hSw
    go_simp
    try with_reducible rfl
  try simp only [Act.put, List.getElem_toArray, List.getElem_cons_succ, List.getElem_cons_zero, List.setIfInBounds_toArray, List.set_cons_zero, List.set_cons_succ]
  refine wpAnyH_done (by kernel_rfl) ?_ _
  go_wp2
  go_ret
  exact RR.out
set_option maxHeartbeats 4000000 in
set_option maxRecDepth 100000 in
theorem bytes_proposal1 (kd row num x y : Nat) (c : Cm) (sq : Nat) (ua : Option Addr) (uk uc : Nat) (dl : List Int) (w : World) (hkd : kd < 128) (hrow : row < 1152921504606846976) (hnum : num < 1152921504606846976) (hx : x < 1152921504606846976) (hy : y < 1152921504606846976) (hKc : Knd w) (hk1 : c.key.size ≤ 140737488351232) (hk2 : c.key2.size ≤ 140737488351232) (hn1 : -9223372036854775808 ≤ c.n) (hn2 : c.n ≤ 9223372036854775807) (hz : chk 1 c = 0) (hsq : sq < 9223372036854775808) (hI : SegI w ua uk dl) (hp0 : 0 < (packR 1 dl).length) (hp1 : (packR 1 dl).length ≤ 1000) :
    Calls Tryz.prog 140 #[.agg #[.int .i64 (kd : Int), .int .i64 (row : Int), .int .i64 (num : Int), .int .i64 (x : Int), .int .i64 (y : Int), .int .i64 c.kind, .int .i64 c.client, .int .i64 c.req, .string c.key, .string c.key2, .string c.val, .string c.old, .int .i64 c.n, .int .i64 (sq : Int), .slice ua uk uc], .agg #[.int .i64 1, .func (.func 32) #[] #[], .func (.func 33) #[] #[], .func (.func 34) #[] #[], .func (.func 35) #[] #[], .func (.func 36) #[] #[], .func (.func 37) #[] #[]]] w fun r w' => Bts w ([staP 1 kd row num, balP 1 x y, lodP 1 c sq dl] : List (List Int)).flatten r w' := by
  obtain ⟨X, hX⟩ : ∃ X, X = (w.alloc (.cells #[.int .i64 (kd : Int), .int .i64 (row : Int), .int .i64 (num : Int), .int .i64 (x : Int), .int .i64 (y : Int), .int .i64 c.kind, .int .i64 c.client, .int .i64 c.req, .string c.key, .string c.key2, .string c.val, .string c.old, .int .i64 c.n, .int .i64 (sq : Int), .slice ua uk uc] 87)).alloc (.cells #[.int .i64 1, .func (.func 32) #[] #[], .func (.func 33) #[] #[], .func (.func 34) #[] #[], .func (.func 35) #[] #[], .func (.func 36) #[] #[], .func (.func 37) #[] #[]] 64) := ⟨_, rfl⟩
  have Q0 := blk_new w 87 [.int .i64 (kd : Int), .int .i64 (row : Int), .int .i64 (num : Int), .int .i64 (x : Int), .int .i64 (y : Int), .int .i64 c.kind, .int .i64 c.client, .int .i64 c.req, .string c.key, .string c.key2, .string c.val, .string c.old, .int .i64 c.n, .int .i64 (sq : Int), .slice ua uk uc]
  have QL0 := blk_new (w.alloc (.cells #[.int .i64 (kd : Int), .int .i64 (row : Int), .int .i64 (num : Int), .int .i64 (x : Int), .int .i64 (y : Int), .int .i64 c.kind, .int .i64 c.client, .int .i64 c.req, .string c.key, .string c.key2, .string c.val, .string c.old, .int .i64 c.n, .int .i64 (sq : Int), .slice ua uk uc] 87)) 64 [.int .i64 1, .func (.func 32) #[] #[], .func (.func 33) #[] #[], .func (.func 34) #[] #[], .func (.func 35) #[] #[], .func (.func 36) #[] #[], .func (.func 37) #[] #[]]
  have QS : Hid (Blk X w.heap.size [.int .i64 (kd : Int), .int .i64 (row : Int), .int .i64 (num : Int), .int .i64 (x : Int), .int .i64 (y : Int), .int .i64 c.kind, .int .i64 c.client, .int .i64 c.req, .string c.key, .string c.key2, .string c.val, .string c.old, .int .i64 c.n, .int .i64 (sq : Int), .slice ua uk uc]) := by rw [hX]; exact Q0.on ((Below.refl _ _).alloc (Nat.le_refl _) _)
  have QL : Hid (Blk X (w.heap.size + 1) [.int .i64 1, .func (.func 32) #[] #[], .func (.func 33) #[] #[], .func (.func 34) #[] #[], .func (.func 35) #[] #[], .func (.func 36) #[] #[], .func (.func 37) #[] #[]]) := by rw [hX]; rw [World.size_alloc] at QL0; exact QL0
  have BX : Hid (Below w.heap.size w X) := by rw [hX]; exact ((Below.refl _ w).alloc (Nat.le_refl _) _).alloc (by simp) _
  clear Q0 QL0
  have HI : Hid (SegI X ua uk dl) := hI.below BX.out (Nat.le_refl _)
  clear hI
  have HKC : Hid (Knd X) := hKc.below BX.out (Nat.le_refl _)
  clear hKc
  have C0 : Hid (∀ W, Below X.heap.size X W → Calls Tryz.prog 143 #[.agg #[.int .i64 (kd : Int), .int .i64 (row : Int), .int .i64 (num : Int)], .agg #[.int .i64 1, .func (.func 32) #[] #[], .func (.func 33) #[] #[], .func (.func 34) #[] #[], .func (.func 35) #[] #[], .func (.func 36) #[] #[], .func (.func 37) #[] #[]]] W fun r w' => Bts W (staP 1 kd row num) r w') := fun W hW => start1_any kd row num W hkd hrow hnum
  have q0 := staP_len 1 kd row num
  have C1 : Hid (∀ W, Below X.heap.size X W → Calls Tryz.prog 33 #[.agg #[.int .i64 (x : Int), .int .i64 (y : Int)]] W fun r w' => Bts W (balP 1 x y) r w') := fun W hW => putBallot1_any x y W hx hy
  have q1 := balP_len 1 x y
  have C2 : Hid (∀ W, Below X.heap.size X W → Calls Tryz.prog 144 #[.agg #[.int .i64 c.kind, .int .i64 c.client, .int .i64 c.req, .string c.key, .string c.key2, .string c.val, .string c.old, .int .i64 c.n, .int .i64 (sq : Int), .slice ua uk uc], .agg #[.int .i64 1, .func (.func 32) #[] #[], .func (.func 33) #[] #[], .func (.func 34) #[] #[], .func (.func 35) #[] #[], .func (.func 36) #[] #[], .func (.func 37) #[] #[]]] W fun r w' => Bts W (lodP 1 c sq dl) r w') := fun W hW => load1_any c sq ua uk uc dl W (HKC.out.below hW (Nat.le_refl _)) hk1 hk2 hn1 hn2 hz hsq (HI.out.below hW (Nat.le_refl _)) hp0 hp1
  have q2 := lodP_len 1 c sq dl hz hp0 hp1
  generalize staP 1 kd row num = SL at *
  generalize balP 1 x y = BL at *
  generalize lodP 1 c sq dl = LL at *
  have hTot : ([SL, BL, LL] : List (List Int)).flatten.length ≤ 1000000 := by simp; omega
  obtain ⟨TL, hTL⟩ : ∃ TL, Hid (([SL, BL, LL] : List (List Int)).flatten = TL) := ⟨_, rfl⟩
  rw [hTL.out]
  go_enter Tryz.func140, Tryz.ntmps140
  go_upto_region 1 with fail
  rw [← hX]
  clear hX
  have S0 := belX X
  refine wp_region_held_drew (S := (fun w' => Below X.heap.size X w')) (by kernel_rfl) S0 (fun hHeld => ?_)
  refine wpAnyH_take (i := 0) (v := ?_) rfl (by kernel_rfl) (by kernel_rfl) (by kernel_rfl) (fun _ _ _ h => h) (Or.inl ⟨by rfl, ?_⟩) (by assumption) ?_
  rotate_left
  · intro w hSw
    try dsimp only at hSw
    go_simp
    try with_reducible rfl
  try simp only [Act.put, List.getElem_toArray, List.getElem_cons_zero, List.setIfInBounds_toArray, List.set_cons_zero, List.set_cons_succ]
  refine wpAnyH_take (i := 1) rfl (by kernel_rfl) (by kernel_rfl) (by kernel_rfl) (fun _ _ _ h => h) (yieldsIf_load_mid (by rfl) 81 _ rfl w.heap.size 0 rfl [.int .i64 (kd : Int), .int .i64 (row : Int), .int .i64 (num : Int)] _ (fun _ h => QS.out.sub h 0 [.int .i64 (kd : Int), .int .i64 (row : Int), .int .i64 (num : Int)] rfl) Tryz.underlying81 rfl (by kernel_rfl)) (by assumption) ?_
  try simp only [Act.put, List.getElem_toArray, List.getElem_cons_succ, List.getElem_cons_zero, List.setIfInBounds_toArray, List.set_cons_zero, List.set_cons_succ]
  refine wpAnyH_take (i := 2) rfl (by kernel_rfl) (by kernel_rfl) (by kernel_rfl) (fun _ _ _ h => h) (yieldsIf_load_mid (by rfl) 64 _ rfl (w.heap.size + 1) 0 rfl [.int .i64 1, .func (.func 32) #[] #[], .func (.func 33) #[] #[], .func (.func 34) #[] #[], .func (.func 35) #[] #[], .func (.func 36) #[] #[], .func (.func 37) #[] #[]] _ (fun _ h => QL.out.sub h 0 [.int .i64 1, .func (.func 32) #[] #[], .func (.func 33) #[] #[], .func (.func 34) #[] #[], .func (.func 35) #[] #[], .func (.func 36) #[] #[], .func (.func 37) #[] #[]] rfl) Tryz.underlying64 rfl (by kernel_rfl)) (by assumption) ?_
  try simp only [Act.put, List.getElem_toArray, List.getElem_cons_succ, List.getElem_cons_zero, List.setIfInBounds_toArray, List.set_cons_zero, List.set_cons_succ]
  refine wpAnyH_take (i := 4) (v := ?_) rfl (by kernel_rfl) (by kernel_rfl) (by kernel_rfl) (fun _ _ _ h => h) (Or.inl ⟨by rfl, ?_⟩) (by assumption) ?_
  rotate_left
  · intro w hSw
    try dsimp only at hSw
    go_simp
    try with_reducible rfl
  try simp only [Act.put, List.getElem_toArray, List.getElem_cons_succ, List.getElem_cons_zero, List.setIfInBounds_toArray, List.set_cons_zero, List.set_cons_succ]
  refine wpAnyH_take (i := 5) (v := ?_) rfl (by kernel_rfl) (by kernel_rfl) (by kernel_rfl) (fun _ _ _ h => h) (Or.inl ⟨by rfl, ?_⟩) (by assumption) ?_
  rotate_left
  · intro w hSw
    try dsimp only at hSw
    have c5 := QL.out.c1 hSw 2 _ rfl
    go_simp
    try with_reducible rfl
  try simp only [Act.put, List.getElem_toArray, List.getElem_cons_succ, List.getElem_cons_zero, List.setIfInBounds_toArray, List.set_cons_zero, List.set_cons_succ]
  refine wpAnyH_take (i := 6) (v := ?_) rfl (by kernel_rfl) (by kernel_rfl) (by kernel_rfl) (fun _ _ _ h => h) (Or.inl ⟨by rfl, ?_⟩) (by assumption) ?_
  rotate_left
  · intro w hSw
    try dsimp only at hSw
    go_simp
    try with_reducible rfl
  try simp only [Act.put, List.getElem_toArray, List.getElem_cons_succ, List.getElem_cons_zero, List.setIfInBounds_toArray, List.set_cons_zero, List.set_cons_succ]
  refine wpAnyH_take (i := 7) rfl (by kernel_rfl) (by kernel_rfl) (by kernel_rfl) (fun _ _ _ h => h) (yieldsIf_load_mid (by rfl) 25 _ rfl w.heap.size 3 rfl [.int .i64 (x : Int), .int .i64 (y : Int)] _ (fun _ h => QS.out.sub h 3 [.int .i64 (x : Int), .int .i64 (y : Int)] rfl) Tryz.underlying25 rfl (by kernel_rfl)) (by assumption) ?_
  try simp only [Act.put, List.getElem_toArray, List.getElem_cons_succ, List.getElem_cons_zero, List.setIfInBounds_toArray, List.set_cons_zero, List.set_cons_succ]
  refine wpAnyH_take (i := 9) (v := ?_) rfl (by kernel_rfl) (by kernel_rfl) (by kernel_rfl) (fun _ _ _ h => h) (Or.inl ⟨by rfl, ?_⟩) (by assumption) ?_
  rotate_left
  · intro w hSw
    try dsimp only at hSw
    go_simp
    try with_reducible rfl
  try simp only [Act.put, List.getElem_toArray, List.getElem_cons_succ, List.getElem_cons_zero, List.setIfInBounds_toArray, List.set_cons_zero, List.set_cons_succ]
  refine wpAnyH_take (i := 10) rfl (by kernel_rfl) (by kernel_rfl) (by kernel_rfl) (fun _ _ _ h => h) (yieldsIf_load_mid (by rfl) 85 _ rfl w.heap.size 5 rfl [.int .i64 c.kind, .int .i64 c.client, .int .i64 c.req, .string c.key, .string c.key2, .string c.val, .string c.old, .int .i64 c.n, .int .i64 (sq : Int), .slice ua uk uc] _ (fun _ h => QS.out.sub h 5 [.int .i64 c.kind, .int .i64 c.client, .int .i64 c.req, .string c.key, .string c.key2, .string c.val, .string c.old, .int .i64 c.n, .int .i64 (sq : Int), .slice ua uk uc] rfl) Tryz.underlying85 rfl (by kernel_rfl)) (by assumption) ?_
  try simp only [Act.put, List.getElem_toArray, List.getElem_cons_succ, List.getElem_cons_zero, List.setIfInBounds_toArray, List.set_cons_zero, List.set_cons_succ]
  refine wpAnyH_take (i := 11) rfl (by kernel_rfl) (by kernel_rfl) (by kernel_rfl) (fun _ _ _ h => h) (yieldsIf_load_mid (by rfl) 64 _ rfl (w.heap.size + 1) 0 rfl [.int .i64 1, .func (.func 32) #[] #[], .func (.func 33) #[] #[], .func (.func 34) #[] #[], .func (.func 35) #[] #[], .func (.func 36) #[] #[], .func (.func 37) #[] #[]] _ (fun _ h => QL.out.sub h 0 [.int .i64 1, .func (.func 32) #[] #[], .func (.func 33) #[] #[], .func (.func 34) #[] #[], .func (.func 35) #[] #[], .func (.func 36) #[] #[], .func (.func 37) #[] #[]] rfl) Tryz.underlying64 rfl (by kernel_rfl)) (by assumption) ?_
  try simp only [Act.put, List.getElem_toArray, List.getElem_cons_succ, List.getElem_cons_zero, List.setIfInBounds_toArray, List.set_cons_zero, List.set_cons_succ]
  refine wpAnyH_ready (rs := [3]) (by kernel_rfl) (by simp) ?_
  refine AllReadyH.cons rfl (fun K hK => ?_) AllReadyH.nil
  rw [if_pos (by rfl)]
  go_wp2_with fail
  refine (C0.out _ S0).mono ?_
  rintro e W0 ⟨u0, rfl, o0, b0⟩
  have P0 := S0.trans (b0.mono S0.size)
  clear b0
  obtain ⟨va0, vc0, rfl⟩ := own_shape o0
  refine hK.out _ _ P0 (fun hHeld => ?_)
  clear hK K
  try simp only [Act.put, List.getElem_toArray, List.getElem_cons_succ, List.getElem_cons_zero, List.setIfInBounds_toArray, List.set_cons_zero, List.set_cons_succ]
  refine wpAnyH_ready (rs := [8]) (by kernel_rfl) (by simp) ?_
  refine AllReadyH.cons rfl (fun K hK => ?_) AllReadyH.nil
  rw [if_pos (by rfl)]
  go_wp2_with fail
  refine (C1.out _ P0).mono ?_
  rintro e W1 ⟨u1, rfl, o1, b1⟩
  have P1 := P0.trans (b1.mono P0.size)
  have o0 := own_below o0 b1 (Nat.le_refl _)
  clear b1
  obtain ⟨va1, vc1, rfl⟩ := own_shape o1
  refine hK.out _ _ P1 (fun hHeld => ?_)
  clear hK K
  try simp only [Act.put, List.getElem_toArray, List.getElem_cons_succ, List.getElem_cons_zero, List.setIfInBounds_toArray, List.set_cons_zero, List.set_cons_succ]
  refine wpAnyH_ready (rs := [12]) (by kernel_rfl) (by simp) ?_
  refine AllReadyH.cons rfl (fun K hK => ?_) AllReadyH.nil
  rw [if_pos (by rfl)]
  go_wp2_with fail
  refine (C2.out _ P1).mono ?_
  rintro e W2 ⟨u2, rfl, o2, b2⟩
  have P2 := P1.trans (b2.mono P1.size)
  have o0 := own_below o0 b2 (Nat.le_refl _)
  have o1 := own_below o1 b2 (Nat.le_refl _)
  clear b2
  obtain ⟨va2, vc2, rfl⟩ := own_shape o2
  refine hK.out _ _ P2 (fun hHeld => ?_)
  clear hK K
  try simp only [Act.put, List.getElem_toArray, List.getElem_cons_succ, List.getElem_cons_zero, List.setIfInBounds_toArray, List.set_cons_zero, List.set_cons_succ]
  refine wpAnyH_ready (rs := [13]) (by kernel_rfl) (by simp) ?_
  refine AllReadyH.cons rfl (fun K hK => ?_) AllReadyH.nil
  rw [if_pos (by rfl)]
  go_wp2_with fail
  have PA := P2.alloc P2.size (.cells #[.slice va0 SL.length vc0, .slice va1 BL.length vc1, .slice va2 LL.length vc2] 34)
  refine hK.out _ _ PA (fun hHeld => ?_)
  clear hK K
  try simp only [Act.put, List.getElem_toArray, List.getElem_cons_succ, List.getElem_cons_zero, List.setIfInBounds_toArray, List.set_cons_zero, List.set_cons_succ]
  refine wpAnyH_ready (rs := [14]) (by kernel_rfl) (by simp) ?_
  refine AllReadyH.cons rfl (fun K hK => ?_) AllReadyH.nil
  rw [if_pos (by rfl)]
  go_wp2_with fail
  refine (concat_any _ [.slice va0 SL.length vc0, .slice va1 BL.length vc1, .slice va2 LL.length vc2] [SL, BL, LL] 3 rfl (by decide) _ (srcs_new _ ⟨⟨_, o0⟩, q0.1, ⟨_, o1⟩, q1.1, ⟨_, o2⟩, q2.1, trivial⟩) hTot).mono ?_
  rintro e W9 ⟨u9, rfl, o9, b9⟩
  have P9 := PA.trans (b9.mono PA.size)
  have RR : Hid (Bts w TL (.returned u9) W9) := by
    rw [← hTL.out]
    exact bts_box (BX.out.trans (PA.mono BX.out.size)) ⟨u9, rfl, o9, b9⟩
  refine hK.out _ _ P9 (fun hHeld => ?_)
  clear hK K
  try simp only [Act.put, List.getElem_toArray, List.getElem_cons_succ, List.getElem_cons_zero, List.setIfInBounds_toArray, List.set_cons_zero, List.set_cons_succ]
  refine wpAnyH_take (i := 15) (v := ?_) rfl (by kernel_rfl) (by kernel_rfl) (by kernel_rfl) (fun _ _ _ h => h) (Or.inl ⟨by rfl, ?_⟩) (by assumption) ?_
  rotate_left
  · intro w hSw
    try dsimp only at hSw
    go_simp
    try with_reducible rfl
  try simp only [Act.put, List.getElem_toArray, List.getElem_cons_succ, List.getElem_cons_zero, List.setIfInBounds_toArray, List.set_cons_zero, List.set_cons_succ]
  refine wpAnyH_done (by kernel_rfl) ?_ _
  go_wp2
  go_ret
  exact RR.out
set_option maxHeartbeats 4000000 in
set_option maxRecDepth 100000 in
theorem bytes_commit1 (kd row num : Nat) (c : Cm) (sq : Nat) (ua : Option Addr) (uk uc : Nat) (dl : List Int) (w : World) (hkd : kd < 128) (hrow : row < 1152921504606846976) (hnum : num < 1152921504606846976) (hKc : Knd w) (hk1 : c.key.size ≤ 140737488351232) (hk2 : c.key2.size ≤ 140737488351232) (hn1 : -9223372036854775808 ≤ c.n) (hn2 : c.n ≤ 9223372036854775807) (hz : chk 1 c = 0) (hsq : sq < 9223372036854775808) (hI : SegI w ua uk dl) (hp0 : 0 < (packR 1 dl).length) (hp1 : (packR 1 dl).length ≤ 1000) :
    Calls Tryz.prog 167 #[.agg #[.int .i64 (kd : Int), .int .i64 (row : Int), .int .i64 (num : Int), .int .i64 c.kind, .int .i64 c.client, .int .i64 c.req, .string c.key, .string c.key2, .string c.val, .string c.old, .int .i64 c.n, .int .i64 (sq : Int), .slice ua uk uc], .agg #[.int .i64 1, .func (.func 32) #[] #[], .func (.func 33) #[] #[], .func (.func 34) #[] #[], .func (.func 35) #[] #[], .func (.func 36) #[] #[], .func (.func 37) #[] #[]]] w fun r w' => Bts w ([staP 1 kd row num, lodP 1 c sq dl] : List (List Int)).flatten r w' := by
  obtain ⟨X, hX⟩ : ∃ X, X = (w.alloc (.cells #[.int .i64 (kd : Int), .int .i64 (row : Int), .int .i64 (num : Int), .int .i64 c.kind, .int .i64 c.client, .int .i64 c.req, .string c.key, .string c.key2, .string c.val, .string c.old, .int .i64 c.n, .int .i64 (sq : Int), .slice ua uk uc] 93)).alloc (.cells #[.int .i64 1, .func (.func 32) #[] #[], .func (.func 33) #[] #[], .func (.func 34) #[] #[], .func (.func 35) #[] #[], .func (.func 36) #[] #[], .func (.func 37) #[] #[]] 64) := ⟨_, rfl⟩
  have Q0 := blk_new w 93 [.int .i64 (kd : Int), .int .i64 (row : Int), .int .i64 (num : Int), .int .i64 c.kind, .int .i64 c.client, .int .i64 c.req, .string c.key, .string c.key2, .string c.val, .string c.old, .int .i64 c.n, .int .i64 (sq : Int), .slice ua uk uc]
  have QL0 := blk_new (w.alloc (.cells #[.int .i64 (kd : Int), .int .i64 (row : Int), .int .i64 (num : Int), .int .i64 c.kind, .int .i64 c.client, .int .i64 c.req, .string c.key, .string c.key2, .string c.val, .string c.old, .int .i64 c.n, .int .i64 (sq : Int), .slice ua uk uc] 93)) 64 [.int .i64 1, .func (.func 32) #[] #[], .func (.func 33) #[] #[], .func (.func 34) #[] #[], .func (.func 35) #[] #[], .func (.func 36) #[] #[], .func (.func 37) #[] #[]]
  have QS : Hid (Blk X w.heap.size [.int .i64 (kd : Int), .int .i64 (row : Int), .int .i64 (num : Int), .int .i64 c.kind, .int .i64 c.client, .int .i64 c.req, .string c.key, .string c.key2, .string c.val, .string c.old, .int .i64 c.n, .int .i64 (sq : Int), .slice ua uk uc]) := by rw [hX]; exact Q0.on ((Below.refl _ _).alloc (Nat.le_refl _) _)
  have QL : Hid (Blk X (w.heap.size + 1) [.int .i64 1, .func (.func 32) #[] #[], .func (.func 33) #[] #[], .func (.func 34) #[] #[], .func (.func 35) #[] #[], .func (.func 36) #[] #[], .func (.func 37) #[] #[]]) := by rw [hX]; rw [World.size_alloc] at QL0; exact QL0
  have BX : Hid (Below w.heap.size w X) := by rw [hX]; exact ((Below.refl _ w).alloc (Nat.le_refl _) _).alloc (by simp) _
  clear Q0 QL0
  have HI : Hid (SegI X ua uk dl) := hI.below BX.out (Nat.le_refl _)
  clear hI
  have HKC : Hid (Knd X) := hKc.below BX.out (Nat.le_refl _)
  clear hKc
  have C0 : Hid (∀ W, Below X.heap.size X W → Calls Tryz.prog 143 #[.agg #[.int .i64 (kd : Int), .int .i64 (row : Int), .int .i64 (num : Int)], .agg #[.int .i64 1, .func (.func 32) #[] #[], .func (.func 33) #[] #[], .func (.func 34) #[] #[], .func (.func 35) #[] #[], .func (.func 36) #[] #[], .func (.func 37) #[] #[]]] W fun r w' => Bts W (staP 1 kd row num) r w') := fun W hW => start1_any kd row num W hkd hrow hnum
  have q0 := staP_len 1 kd row num
  have C1 : Hid (∀ W, Below X.heap.size X W → Calls Tryz.prog 144 #[.agg #[.int .i64 c.kind, .int .i64 c.client, .int .i64 c.req, .string c.key, .string c.key2, .string c.val, .string c.old, .int .i64 c.n, .int .i64 (sq : Int), .slice ua uk uc], .agg #[.int .i64 1, .func (.func 32) #[] #[], .func (.func 33) #[] #[], .func (.func 34) #[] #[], .func (.func 35) #[] #[], .func (.func 36) #[] #[], .func (.func 37) #[] #[]]] W fun r w' => Bts W (lodP 1 c sq dl) r w') := fun W hW => load1_any c sq ua uk uc dl W (HKC.out.below hW (Nat.le_refl _)) hk1 hk2 hn1 hn2 hz hsq (HI.out.below hW (Nat.le_refl _)) hp0 hp1
  have q1 := lodP_len 1 c sq dl hz hp0 hp1
  generalize staP 1 kd row num = SL at *
  generalize lodP 1 c sq dl = LL at *
  have hTot : ([SL, LL] : List (List Int)).flatten.length ≤ 1000000 := by simp; omega
  obtain ⟨TL, hTL⟩ : ∃ TL, Hid (([SL, LL] : List (List Int)).flatten = TL) := ⟨_, rfl⟩
  rw [hTL.out]
  go_enter Tryz.func167, Tryz.ntmps167
  go_upto_region 1 with fail
  rw [← hX]
  clear hX
  have S0 := belX X
  refine wp_region_held_drew (S := (fun w' => Below X.heap.size X w')) (by kernel_rfl) S0 (fun hHeld => ?_)
  refine wpAnyH_take (i := 0) (v := ?_) rfl (by kernel_rfl) (by kernel_rfl) (by kernel_rfl) (fun _ _ _ h => h) (Or.inl ⟨by rfl, ?_⟩) (by assumption) ?_
  rotate_left
  · intro w hSw
    try dsimp only at hSw
    go_simp
    try with_reducible rfl
  try simp only [Act.put, List.getElem_toArray, List.getElem_cons_zero, List.setIfInBounds_toArray, List.set_cons_zero, List.set_cons_succ]
  refine wpAnyH_take (i := 1) rfl (by kernel_rfl) (by kernel_rfl) (by kernel_rfl) (fun _ _ _ h => h) (yieldsIf_load_mid (by rfl) 81 _ rfl w.heap.size 0 rfl [.int .i64 (kd : Int), .int .i64 (row : Int), .int .i64 (num : Int)] _ (fun _ h => QS.out.sub h 0 [.int .i64 (kd : Int), .int .i64 (row : Int), .int .i64 (num : Int)] rfl) Tryz.underlying81 rfl (by kernel_rfl)) (by assumption) ?_
  try simp only [Act.put, List.getElem_toArray, List.getElem_cons_succ, List.getElem_cons_zero, List.setIfInBounds_toArray, List.set_cons_zero, List.set_cons_succ]
  refine wpAnyH_take (i := 2) rfl (by kernel_rfl) (by kernel_rfl) (by kernel_rfl) (fun _ _ _ h => h) (yieldsIf_load_mid (by rfl) 64 _ rfl (w.heap.size + 1) 0 rfl [.int .i64 1, .func (.func 32) #[] #[], .func (.func 33) #[] #[], .func (.func 34) #[] #[], .func (.func 35) #[] #[], .func (.func 36) #[] #[], .func (.func 37) #[] #[]] _ (fun _ h => QL.out.sub h 0 [.int .i64 1, .func (.func 32) #[] #[], .func (.func 33) #[] #[], .func (.func 34) #[] #[], .func (.func 35) #[] #[], .func (.func 36) #[] #[], .func (.func 37) #[] #[]] rfl) Tryz.underlying64 rfl (by kernel_rfl)) (by assumption) ?_
  try simp only [Act.put, List.getElem_toArray, List.getElem_cons_succ, List.getElem_cons_zero, List.setIfInBounds_toArray, List.set_cons_zero, List.set_cons_succ]
  refine wpAnyH_take (i := 4) (v := ?_) rfl (by kernel_rfl) (by kernel_rfl) (by kernel_rfl) (fun _ _ _ h => h) (Or.inl ⟨by rfl, ?_⟩) (by assumption) ?_
  rotate_left
  · intro w hSw
    try dsimp only at hSw
    go_simp
    try with_reducible rfl
  try simp only [Act.put, List.getElem_toArray, List.getElem_cons_succ, List.getElem_cons_zero, List.setIfInBounds_toArray, List.set_cons_zero, List.set_cons_succ]
  refine wpAnyH_take (i := 5) rfl (by kernel_rfl) (by kernel_rfl) (by kernel_rfl) (fun _ _ _ h => h) (yieldsIf_load_mid (by rfl) 85 _ rfl w.heap.size 3 rfl [.int .i64 c.kind, .int .i64 c.client, .int .i64 c.req, .string c.key, .string c.key2, .string c.val, .string c.old, .int .i64 c.n, .int .i64 (sq : Int), .slice ua uk uc] _ (fun _ h => QS.out.sub h 3 [.int .i64 c.kind, .int .i64 c.client, .int .i64 c.req, .string c.key, .string c.key2, .string c.val, .string c.old, .int .i64 c.n, .int .i64 (sq : Int), .slice ua uk uc] rfl) Tryz.underlying85 rfl (by kernel_rfl)) (by assumption) ?_
  try simp only [Act.put, List.getElem_toArray, List.getElem_cons_succ, List.getElem_cons_zero, List.setIfInBounds_toArray, List.set_cons_zero, List.set_cons_succ]
  refine wpAnyH_take (i := 6) rfl (by kernel_rfl) (by kernel_rfl) (by kernel_rfl) (fun _ _ _ h => h) (yieldsIf_load_mid (by rfl) 64 _ rfl (w.heap.size + 1) 0 rfl [.int .i64 1, .func (.func 32) #[] #[], .func (.func 33) #[] #[], .func (.func 34) #[] #[], .func (.func 35) #[] #[], .func (.func 36) #[] #[], .func (.func 37) #[] #[]] _ (fun _ h => QL.out.sub h 0 [.int .i64 1, .func (.func 32) #[] #[], .func (.func 33) #[] #[], .func (.func 34) #[] #[], .func (.func 35) #[] #[], .func (.func 36) #[] #[], .func (.func 37) #[] #[]] rfl) Tryz.underlying64 rfl (by kernel_rfl)) (by assumption) ?_
  try simp only [Act.put, List.getElem_toArray, List.getElem_cons_succ, List.getElem_cons_zero, List.setIfInBounds_toArray, List.set_cons_zero, List.set_cons_succ]
  refine wpAnyH_ready (rs := [3]) (by kernel_rfl) (by simp) ?_
  refine AllReadyH.cons rfl (fun K hK => ?_) AllReadyH.nil
  rw [if_pos (by rfl)]
  go_wp2_with fail
  refine (C0.out _ S0).mono ?_
  rintro e W0 ⟨u0, rfl, o0, b0⟩
  have P0 := S0.trans (b0.mono S0.size)
  clear b0
  obtain ⟨va0, vc0, rfl⟩ := own_shape o0
  refine hK.out _ _ P0 (fun hHeld => ?_)
  clear hK K
  try simp only [Act.put, List.getElem_toArray, List.getElem_cons_succ, List.getElem_cons_zero, List.setIfInBounds_toArray, List.set_cons_zero, List.set_cons_succ]
  refine wpAnyH_ready (rs := [7]) (by kernel_rfl) (by simp) ?_
  refine AllReadyH.cons rfl (fun K hK => ?_) AllReadyH.nil
  rw [if_pos (by rfl)]
  go_wp2_with fail
  refine (C1.out _ P0).mono ?_
  rintro e W1 ⟨u1, rfl, o1, b1⟩
  have P1 := P0.trans (b1.mono P0.size)
  have o0 := own_below o0 b1 (Nat.le_refl _)
  clear b1
  obtain ⟨va1, vc1, rfl⟩ := own_shape o1
  refine hK.out _ _ P1 (fun hHeld => ?_)
  clear hK K
  try simp only [Act.put, List.getElem_toArray, List.getElem_cons_succ, List.getElem_cons_zero, List.setIfInBounds_toArray, List.set_cons_zero, List.set_cons_succ]
  refine wpAnyH_ready (rs := [8]) (by kernel_rfl) (by simp) ?_
  refine AllReadyH.cons rfl (fun K hK => ?_) AllReadyH.nil
  rw [if_pos (by rfl)]
  go_wp2_with fail
  have PA := P1.alloc P1.size (.cells #[.slice va0 SL.length vc0, .slice va1 LL.length vc1] 34)
  refine hK.out _ _ PA (fun hHeld => ?_)
  clear hK K
  try simp only [Act.put, List.getElem_toArray, List.getElem_cons_succ, List.getElem_cons_zero, List.setIfInBounds_toArray, List.set_cons_zero, List.set_cons_succ]
  refine wpAnyH_ready (rs := [9]) (by kernel_rfl) (by simp) ?_
  refine AllReadyH.cons rfl (fun K hK => ?_) AllReadyH.nil
  rw [if_pos (by rfl)]
  go_wp2_with fail
  refine (concat_any _ [.slice va0 SL.length vc0, .slice va1 LL.length vc1] [SL, LL] 2 rfl (by decide) _ (srcs_new _ ⟨⟨_, o0⟩, q0.1, ⟨_, o1⟩, q1.1, trivial⟩) hTot).mono ?_
  rintro e W9 ⟨u9, rfl, o9, b9⟩
  have P9 := PA.trans (b9.mono PA.size)
  have RR : Hid (Bts w TL (.returned u9) W9) := by
    rw [← hTL.out]
    exact bts_box (BX.out.trans (PA.mono BX.out.size)) ⟨u9, rfl, o9, b9⟩
  refine hK.out _ _ P9 (fun hHeld => ?_)
  clear hK K
  try simp only [Act.put, List.getElem_toArray, List.getElem_cons_succ, List.getElem_cons_zero, List.setIfInBounds_toArray, List.set_cons_zero, List.set_cons_succ]
  refine wpAnyH_take (i := 10) (v := ?_) rfl (by kernel_rfl) (by kernel_rfl) (by kernel_rfl) (fun _ _ _ h => h) (Or.inl ⟨by rfl, ?_⟩) (by assumption) ?_
  rotate_left
  · intro w hSw
    try dsimp only at hSw
    go_simp
    try with_reducible rfl
  try simp only [Act.put, List.getElem_toArray, List.getElem_cons_succ, List.getElem_cons_zero, List.setIfInBounds_toArray, List.set_cons_zero, List.set_cons_succ]
  refine wpAnyH_done (by kernel_rfl) ?_ _
  go_wp2
  go_ret
  exact RR.out
set_option maxHeartbeats 4000000 in
set_option maxRecDepth 100000 in
theorem bytes_noVote1 (kd row num x y : Nat) (w : World) (hkd : kd < 128) (hrow : row < 1152921504606846976) (hnum : num < 1152921504606846976) (hx : x < 1152921504606846976) (hy : y < 1152921504606846976) :
    Calls Tryz.prog 169 #[.agg #[.int .i64 (kd : Int), .int .i64 (row : Int), .int .i64 (num : Int), .int .i64 (x : Int), .int .i64 (y : Int)], .agg #[.int .i64 1, .func (.func 32) #[] #[], .func (.func 33) #[] #[], .func (.func 34) #[] #[], .func (.func 35) #[] #[], .func (.func 36) #[] #[], .func (.func 37) #[] #[]]] w fun r w' => Bts w ([staP 1 kd row num, balP 1 x y, votP 1 0 false] : List (List Int)).flatten r w' := by
  obtain ⟨X, hX⟩ : ∃ X, X = (w.alloc (.cells #[.int .i64 (kd : Int), .int .i64 (row : Int), .int .i64 (num : Int), .int .i64 (x : Int), .int .i64 (y : Int)] 94)).alloc (.cells #[.int .i64 1, .func (.func 32) #[] #[], .func (.func 33) #[] #[], .func (.func 34) #[] #[], .func (.func 35) #[] #[], .func (.func 36) #[] #[], .func (.func 37) #[] #[]] 64) := ⟨_, rfl⟩
  have Q0 := blk_new w 94 [.int .i64 (kd : Int), .int .i64 (row : Int), .int .i64 (num : Int), .int .i64 (x : Int), .int .i64 (y : Int)]
  have QL0 := blk_new (w.alloc (.cells #[.int .i64 (kd : Int), .int .i64 (row : Int), .int .i64 (num : Int), .int .i64 (x : Int), .int .i64 (y : Int)] 94)) 64 [.int .i64 1, .func (.func 32) #[] #[], .func (.func 33) #[] #[], .func (.func 34) #[] #[], .func (.func 35) #[] #[], .func (.func 36) #[] #[], .func (.func 37) #[] #[]]
  have QS : Hid (Blk X w.heap.size [.int .i64 (kd : Int), .int .i64 (row : Int), .int .i64 (num : Int), .int .i64 (x : Int), .int .i64 (y : Int)]) := by rw [hX]; exact Q0.on ((Below.refl _ _).alloc (Nat.le_refl _) _)
  have QL : Hid (Blk X (w.heap.size + 1) [.int .i64 1, .func (.func 32) #[] #[], .func (.func 33) #[] #[], .func (.func 34) #[] #[], .func (.func 35) #[] #[], .func (.func 36) #[] #[], .func (.func 37) #[] #[]]) := by rw [hX]; rw [World.size_alloc] at QL0; exact QL0
  have BX : Hid (Below w.heap.size w X) := by rw [hX]; exact ((Below.refl _ w).alloc (Nat.le_refl _) _).alloc (by simp) _
  clear Q0 QL0
  have C0 : Hid (∀ W, Below X.heap.size X W → Calls Tryz.prog 143 #[.agg #[.int .i64 (kd : Int), .int .i64 (row : Int), .int .i64 (num : Int)], .agg #[.int .i64 1, .func (.func 32) #[] #[], .func (.func 33) #[] #[], .func (.func 34) #[] #[], .func (.func 35) #[] #[], .func (.func 36) #[] #[], .func (.func 37) #[] #[]]] W fun r w' => Bts W (staP 1 kd row num) r w') := fun W hW => start1_any kd row num W hkd hrow hnum
  have q0 := staP_len 1 kd row num
  have C1 : Hid (∀ W, Below X.heap.size X W → Calls Tryz.prog 33 #[.agg #[.int .i64 (x : Int), .int .i64 (y : Int)]] W fun r w' => Bts W (balP 1 x y) r w') := fun W hW => putBallot1_any x y W hx hy
  have q1 := balP_len 1 x y
  have C2 : Hid (∀ W, Below X.heap.size X W → Calls Tryz.prog 34 #[.int .i64 0, .bool false] W fun r w' => Bts W (votP 1 0 false) r w') := fun W hW => putVote1_any 0 false W (by decide)
  have q2 := votP_len 1 0 false
  generalize staP 1 kd row num = SL at *
  generalize balP 1 x y = BL at *
  generalize votP 1 0 false = VL at *
  have hTot : ([SL, BL, VL] : List (List Int)).flatten.length ≤ 1000000 := by simp; omega
  obtain ⟨TL, hTL⟩ : ∃ TL, Hid (([SL, BL, VL] : List (List Int)).flatten = TL) := ⟨_, rfl⟩
  rw [hTL.out]
  go_enter Tryz.func169, Tryz.ntmps169
  go_upto_region 1 with fail
  rw [← hX]
  clear hX
  have S0 := belX X
  refine wp_region_held_drew (S := (fun w' => Below X.heap.size X w')) (by kernel_rfl) S0 (fun hHeld => ?_)
  refine wpAnyH_take (i := 0) (v := ?_) rfl (by kernel_rfl) (by kernel_rfl) (by kernel_rfl) (fun _ _ _ h => h) (Or.inl ⟨by rfl, ?_⟩) (by assumption) ?_
  rotate_left
  · intro w hSw
    try dsimp only at hSw
    go_simp
    try with_reducible rfl
  try simp only [Act.put, List.getElem_toArray, List.getElem_cons_zero, List.setIfInBounds_toArray, List.set_cons_zero, List.set_cons_succ]
  refine wpAnyH_take (i := 1) rfl (by kernel_rfl) (by kernel_rfl) (by kernel_rfl) (fun _ _ _ h => h) (yieldsIf_load_mid (by rfl) 81 _ rfl w.heap.size 0 rfl [.int .i64 (kd : Int), .int .i64 (row : Int), .int .i64 (num : Int)] _ (fun _ h => QS.out.sub h 0 [.int .i64 (kd : Int), .int .i64 (row : Int), .int .i64 (num : Int)] rfl) Tryz.underlying81 rfl (by kernel_rfl)) (by assumption) ?_
  try simp only [Act.put, List.getElem_toArray, List.getElem_cons_succ, List.getElem_cons_zero, List.setIfInBounds_toArray, List.set_cons_zero, List.set_cons_succ]
  refine wpAnyH_take (i := 2) rfl (by kernel_rfl) (by kernel_rfl) (by kernel_rfl) (fun _ _ _ h => h) (yieldsIf_load_mid (by rfl) 64 _ rfl (w.heap.size + 1) 0 rfl [.int .i64 1, .func (.func 32) #[] #[], .func (.func 33) #[] #[], .func (.func 34) #[] #[], .func (.func 35) #[] #[], .func (.func 36) #[] #[], .func (.func 37) #[] #[]] _ (fun _ h => QL.out.sub h 0 [.int .i64 1, .func (.func 32) #[] #[], .func (.func 33) #[] #[], .func (.func 34) #[] #[], .func (.func 35) #[] #[], .func (.func 36) #[] #[], .func (.func 37) #[] #[]] rfl) Tryz.underlying64 rfl (by kernel_rfl)) (by assumption) ?_
  try simp only [Act.put, List.getElem_toArray, List.getElem_cons_succ, List.getElem_cons_zero, List.setIfInBounds_toArray, List.set_cons_zero, List.set_cons_succ]
  refine wpAnyH_take (i := 4) (v := ?_) rfl (by kernel_rfl) (by kernel_rfl) (by kernel_rfl) (fun _ _ _ h => h) (Or.inl ⟨by rfl, ?_⟩) (by assumption) ?_
  rotate_left
  · intro w hSw
    try dsimp only at hSw
    go_simp
    try with_reducible rfl
  try simp only [Act.put, List.getElem_toArray, List.getElem_cons_succ, List.getElem_cons_zero, List.setIfInBounds_toArray, List.set_cons_zero, List.set_cons_succ]
  refine wpAnyH_take (i := 5) (v := ?_) rfl (by kernel_rfl) (by kernel_rfl) (by kernel_rfl) (fun _ _ _ h => h) (Or.inl ⟨by rfl, ?_⟩) (by assumption) ?_
  rotate_left
  · intro w hSw
    try dsimp only at hSw
    have c5 := QL.out.c1 hSw 2 _ rfl
    go_simp
    try with_reducible rfl
  try simp only [Act.put, List.getElem_toArray, List.getElem_cons_succ, List.getElem_cons_zero, List.setIfInBounds_toArray, List.set_cons_zero, List.set_cons_succ]
  refine wpAnyH_take (i := 6) (v := ?_) rfl (by kernel_rfl) (by kernel_rfl) (by kernel_rfl) (fun _ _ _ h => h) (Or.inl ⟨by rfl, ?_⟩) (by assumption) ?_
  rotate_left
  · intro w hSw
    try dsimp only at hSw
    go_simp
    try with_reducible rfl
  try simp only [Act.put, List.getElem_toArray, List.getElem_cons_succ, List.getElem_cons_zero, List.setIfInBounds_toArray, List.set_cons_zero, List.set_cons_succ]
  refine wpAnyH_take (i := 7) rfl (by kernel_rfl) (by kernel_rfl) (by kernel_rfl) (fun _ _ _ h => h) (yieldsIf_load_mid (by rfl) 25 _ rfl w.heap.size 3 rfl [.int .i64 (x : Int), .int .i64 (y : Int)] _ (fun _ h => QS.out.sub h 3 [.int .i64 (x : Int), .int .i64 (y : Int)] rfl) Tryz.underlying25 rfl (by kernel_rfl)) (by assumption) ?_
  try simp only [Act.put, List.getElem_toArray, List.getElem_cons_succ, List.getElem_cons_zero, List.setIfInBounds_toArray, List.set_cons_zero, List.set_cons_succ]
  refine wpAnyH_take (i := 9) (v := ?_) rfl (by kernel_rfl) (by kernel_rfl) (by kernel_rfl) (fun _ _ _ h => h) (Or.inl ⟨by rfl, ?_⟩) (by assumption) ?_
  rotate_left
  · intro w hSw
    try dsimp only at hSw
    go_simp
    try with_reducible rfl
  try simp only [Act.put, List.getElem_toArray, List.getElem_cons_succ, List.getElem_cons_zero, List.setIfInBounds_toArray, List.set_cons_zero, List.set_cons_succ]
  refine wpAnyH_take (i := 10) (v := ?_) rfl (by kernel_rfl) (by kernel_rfl) (by kernel_rfl) (fun _ _ _ h => h) (Or.inl ⟨by rfl, ?_⟩) (by assumption) ?_
  rotate_left
  · intro w hSw
    try dsimp only at hSw
    have c10 := QL.out.c1 hSw 3 _ rfl
    go_simp
    try with_reducible rfl
  try simp only [Act.put, List.getElem_toArray, List.getElem_cons_succ, List.getElem_cons_zero, List.setIfInBounds_toArray, List.set_cons_zero, List.set_cons_succ]
  refine wpAnyH_ready (rs := [3]) (by kernel_rfl) (by simp) ?_
  refine AllReadyH.cons rfl (fun K hK => ?_) AllReadyH.nil
  rw [if_pos (by rfl)]
  go_wp2_with fail
  refine (C0.out _ S0).mono ?_
  rintro e W0 ⟨u0, rfl, o0, b0⟩
  have P0 := S0.trans (b0.mono S0.size)
  clear b0
  obtain ⟨va0, vc0, rfl⟩ := own_shape o0
  refine hK.out _ _ P0 (fun hHeld => ?_)
  clear hK K
  try simp only [Act.put, List.getElem_toArray, List.getElem_cons_succ, List.getElem_cons_zero, List.setIfInBounds_toArray, List.set_cons_zero, List.set_cons_succ]
  refine wpAnyH_ready (rs := [8]) (by kernel_rfl) (by simp) ?_
  refine AllReadyH.cons rfl (fun K hK => ?_) AllReadyH.nil
  rw [if_pos (by rfl)]
  go_wp2_with fail
  refine (C1.out _ P0).mono ?_
  rintro e W1 ⟨u1, rfl, o1, b1⟩
  have P1 := P0.trans (b1.mono P0.size)
  have o0 := own_below o0 b1 (Nat.le_refl _)
  clear b1
  obtain ⟨va1, vc1, rfl⟩ := own_shape o1
  refine hK.out _ _ P1 (fun hHeld => ?_)
  clear hK K
  try simp only [Act.put, List.getElem_toArray, List.getElem_cons_succ, List.getElem_cons_zero, List.setIfInBounds_toArray, List.set_cons_zero, List.set_cons_succ]
  refine wpAnyH_ready (rs := [11]) (by kernel_rfl) (by simp) ?_
  refine AllReadyH.cons rfl (fun K hK => ?_) AllReadyH.nil
  rw [if_pos (by rfl)]
  go_wp2_with fail
  refine (C2.out _ P1).mono ?_
  rintro e W2 ⟨u2, rfl, o2, b2⟩
  have P2 := P1.trans (b2.mono P1.size)
  have o0 := own_below o0 b2 (Nat.le_refl _)
  have o1 := own_below o1 b2 (Nat.le_refl _)
  clear b2
  obtain ⟨va2, vc2, rfl⟩ := own_shape o2
  refine hK.out _ _ P2 (fun hHeld => ?_)
  clear hK K
  try simp only [Act.put, List.getElem_toArray, List.getElem_cons_succ, List.getElem_cons_zero, List.setIfInBounds_toArray, List.set_cons_zero, List.set_cons_succ]
  refine wpAnyH_ready (rs := [12]) (by kernel_rfl) (by simp) ?_
  refine AllReadyH.cons rfl (fun K hK => ?_) AllReadyH.nil
  rw [if_pos (by rfl)]
  go_wp2_with fail
  have PA := P2.alloc P2.size (.cells #[.slice va0 SL.length vc0, .slice va1 BL.length vc1, .slice va2 VL.length vc2] 34)
  refine hK.out _ _ PA (fun hHeld => ?_)
  clear hK K
  try simp only [Act.put, List.getElem_toArray, List.getElem_cons_succ, List.getElem_cons_zero, List.setIfInBounds_toArray, List.set_cons_zero, List.set_cons_succ]
  refine wpAnyH_ready (rs := [13]) (by kernel_rfl) (by simp) ?_
  refine AllReadyH.cons rfl (fun K hK => ?_) AllReadyH.nil
  rw [if_pos (by rfl)]
  go_wp2_with fail
  refine (concat_any _ [.slice va0 SL.length vc0, .slice va1 BL.length vc1, .slice va2 VL.length vc2] [SL, BL, VL] 3 rfl (by decide) _ (srcs_new _ ⟨⟨_, o0⟩, q0.1, ⟨_, o1⟩, q1.1, ⟨_, o2⟩, q2.1, trivial⟩) hTot).mono ?_
  rintro e W9 ⟨u9, rfl, o9, b9⟩
  have P9 := PA.trans (b9.mono PA.size)
  have RR : Hid (Bts w TL (.returned u9) W9) := by
    rw [← hTL.out]
    exact bts_box (BX.out.trans (PA.mono BX.out.size)) ⟨u9, rfl, o9, b9⟩
  refine hK.out _ _ P9 (fun hHeld => ?_)
  clear hK K
  try simp only [Act.put, List.getElem_toArray, List.getElem_cons_succ, List.getElem_cons_zero, List.setIfInBounds_toArray, List.set_cons_zero, List.set_cons_succ]
  refine wpAnyH_take (i := 14) (v := ?_) rfl (by kernel_rfl) (by kernel_rfl) (by kernel_rfl) (fun _ _ _ h => h) (Or.inl ⟨by rfl, ?_⟩) (by assumption) ?_
  rotate_left
  · intro w hSw
    try dsimp only at hSw
    go_simp
    try with_reducible rfl
  try simp only [Act.put, List.getElem_toArray, List.getElem_cons_succ, List.getElem_cons_zero, List.setIfInBounds_toArray, List.set_cons_zero, List.set_cons_succ]
  refine wpAnyH_done (by kernel_rfl) ?_ _
  go_wp2
  go_ret
  exact RR.out
set_option maxHeartbeats 4000000 in
set_option maxRecDepth 100000 in
theorem bytes_vote1 (kd row num x y st : Nat) (sm : Bool) (p q : Nat) (c : Cm) (sq : Nat) (ua : Option Addr) (uk uc : Nat) (dl : List Int) (w : World) (hkd : kd < 128) (hrow : row < 1152921504606846976) (hnum : num < 1152921504606846976) (hx : x < 1152921504606846976) (hy : y < 1152921504606846976) (hst : st < 128) (hp : p < 1152921504606846976) (hq : q < 1152921504606846976) (hKc : Knd w) (hk1 : c.key.size ≤ 140737488351232) (hk2 : c.key2.size ≤ 140737488351232) (hn1 : -9223372036854775808 ≤ c.n) (hn2 : c.n ≤ 9223372036854775807) (hz : chk 1 c = 0) (hsq : sq < 9223372036854775808) (hI : SegI w ua uk dl) (hp0 : 0 < (packR 1 dl).length) (hp1 : (packR 1 dl).length ≤ 1000) :
    Calls Tryz.prog 171 #[.agg #[.int .i64 (kd : Int), .int .i64 (row : Int), .int .i64 (num : Int), .int .i64 (x : Int), .int .i64 (y : Int), .int .i64 (st : Int), .bool sm, .int .i64 (p : Int), .int .i64 (q : Int), .int .i64 c.kind, .int .i64 c.client, .int .i64 c.req, .string c.key, .string c.key2, .string c.val, .string c.old, .int .i64 c.n, .int .i64 (sq : Int), .slice ua uk uc], .agg #[.int .i64 1, .func (.func 32) #[] #[], .func (.func 33) #[] #[], .func (.func 34) #[] #[], .func (.func 35) #[] #[], .func (.func 36) #[] #[], .func (.func 37) #[] #[]]] w fun r w' => Bts w ([staP 1 kd row num, balP 1 x y, votP 1 st sm, balP 1 p q, lodP 1 c sq dl] : List (List Int)).flatten r w' := by
  obtain ⟨X, hX⟩ : ∃ X, X = (w.alloc (.cells #[.int .i64 (kd : Int), .int .i64 (row : Int), .int .i64 (num : Int), .int .i64 (x : Int), .int .i64 (y : Int), .int .i64 (st : Int), .bool sm, .int .i64 (p : Int), .int .i64 (q : Int), .int .i64 c.kind, .int .i64 c.client, .int .i64 c.req, .string c.key, .string c.key2, .string c.val, .string c.old, .int .i64 c.n, .int .i64 (sq : Int), .slice ua uk uc] 96)).alloc (.cells #[.int .i64 1, .func (.func 32) #[] #[], .func (.func 33) #[] #[], .func (.func 34) #[] #[], .func (.func 35) #[] #[], .func (.func 36) #[] #[], .func (.func 37) #[] #[]] 64) := ⟨_, rfl⟩
  have Q0 := blk_new w 96 [.int .i64 (kd : Int), .int .i64 (row : Int), .int .i64 (num : Int), .int .i64 (x : Int), .int .i64 (y : Int), .int .i64 (st : Int), .bool sm, .int .i64 (p : Int), .int .i64 (q : Int), .int .i64 c.kind, .int .i64 c.client, .int .i64 c.req, .string c.key, .string c.key2, .string c.val, .string c.old, .int .i64 c.n, .int .i64 (sq : Int), .slice ua uk uc]
  have QL0 := blk_new (w.alloc (.cells #[.int .i64 (kd : Int), .int .i64 (row : Int), .int .i64 (num : Int), .int .i64 (x : Int), .int .i64 (y : Int), .int .i64 (st : Int), .bool sm, .int .i64 (p : Int), .int .i64 (q : Int), .int .i64 c.kind, .int .i64 c.client, .int .i64 c.req, .string c.key, .string c.key2, .string c.val, .string c.old, .int .i64 c.n, .int .i64 (sq : Int), .slice ua uk uc] 96)) 64 [.int .i64 1, .func (.func 32) #[] #[], .func (.func 33) #[] #[], .func (.func 34) #[] #[], .func (.func 35) #[] #[], .func (.func 36) #[] #[], .func (.func 37) #[] #[]]
  have QS : Hid (Blk X w.heap.size [.int .i64 (kd : Int), .int .i64 (row : Int), .int .i64 (num : Int), .int .i64 (x : Int), .int .i64 (y : Int), .int .i64 (st : Int), .bool sm, .int .i64 (p : Int), .int .i64 (q : Int), .int .i64 c.kind, .int .i64 c.client, .int .i64 c.req, .string c.key, .string c.key2, .string c.val, .string c.old, .int .i64 c.n, .int .i64 (sq : Int), .slice ua uk uc]) := by rw [hX]; exact Q0.on ((Below.refl _ _).alloc (Nat.le_refl _) _)
  have QL : Hid (Blk X (w.heap.size + 1) [.int .i64 1, .func (.func 32) #[] #[], .func (.func 33) #[] #[], .func (.func 34) #[] #[], .func (.func 35) #[] #[], .func (.func 36) #[] #[], .func (.func 37) #[] #[]]) := by rw [hX]; rw [World.size_alloc] at QL0; exact QL0
  have BX : Hid (Below w.heap.size w X) := by rw [hX]; exact ((Below.refl _ w).alloc (Nat.le_refl _) _).alloc (by simp) _
  clear Q0 QL0
  have HI : Hid (SegI X ua uk dl) := hI.below BX.out (Nat.le_refl _)
  clear hI
  have HKC : Hid (Knd X) := hKc.below BX.out (Nat.le_refl _)
  clear hKc
  have C0 : Hid (∀ W, Below X.heap.size X W → Calls Tryz.prog 143 #[.agg #[.int .i64 (kd : Int), .int .i64 (row : Int), .int .i64 (num : Int)], .agg #[.int .i64 1, .func (.func 32) #[] #[], .func (.func 33) #[] #[], .func (.func 34) #[] #[], .func (.func 35) #[] #[], .func (.func 36) #[] #[], .func (.func 37) #[] #[]]] W fun r w' => Bts W (staP 1 kd row num) r w') := fun W hW => start1_any kd row num W hkd hrow hnum
  have q0 := staP_len 1 kd row num
  have C1 : Hid (∀ W, Below X.heap.size X W → Calls Tryz.prog 33 #[.agg #[.int .i64 (x : Int), .int .i64 (y : Int)]] W fun r w' => Bts W (balP 1 x y) r w') := fun W hW => putBallot1_any x y W hx hy
  have q1 := balP_len 1 x y
  have C2 : Hid (∀ W, Below X.heap.size X W → Calls Tryz.prog 34 #[.int .i64 (st : Int), .bool sm] W fun r w' => Bts W (votP 1 st sm) r w') := fun W hW => putVote1_any st sm W hst
  have q2 := votP_len 1 st sm
  have C3 : Hid (∀ W, Below X.heap.size X W → Calls Tryz.prog 33 #[.agg #[.int .i64 (p : Int), .int .i64 (q : Int)]] W fun r w' => Bts W (balP 1 p q) r w') := fun W hW => putBallot1_any p q W hp hq
  have q3 := balP_len 1 p q
  have C4 : Hid (∀ W, Below X.heap.size X W → Calls Tryz.prog 144 #[.agg #[.int .i64 c.kind, .int .i64 c.client, .int .i64 c.req, .string c.key, .string c.key2, .string c.val, .string c.old, .int .i64 c.n, .int .i64 (sq : Int), .slice ua uk uc], .agg #[.int .i64 1, .func (.func 32) #[] #[], .func (.func 33) #[] #[], .func (.func 34) #[] #[], .func (.func 35) #[] #[], .func (.func 36) #[] #[], .func (.func 37) #[] #[]]] W fun r w' => Bts W (lodP 1 c sq dl) r w') := fun W hW => load1_any c sq ua uk uc dl W (HKC.out.below hW (Nat.le_refl _)) hk1 hk2 hn1 hn2 hz hsq (HI.out.below hW (Nat.le_refl _)) hp0 hp1
  have q4 := lodP_len 1 c sq dl hz hp0 hp1
  generalize staP 1 kd row num = SL at *
  generalize balP 1 x y = BL at *
  generalize votP 1 st sm = VL at *
  generalize balP 1 p q = PL_ at *
  generalize lodP 1 c sq dl = LL at *
  have hTot : ([SL, BL, VL, PL_, LL] : List (List Int)).flatten.length ≤ 1000000 := by simp; omega
  obtain ⟨TL, hTL⟩ : ∃ TL, Hid (([SL, BL, VL, PL_, LL] : List (List Int)).flatten = TL) := ⟨_, rfl⟩
  rw [hTL.out]
  go_enter Tryz.func171, Tryz.ntmps171
  go_upto_region 1 with fail
  rw [← hX]
  clear hX
  have S0 := belX X
  refine wp_region_held_drew (S := (fun w' => Below X.heap.size X w')) (by kernel_rfl) S0 (fun hHeld => ?_)
  refine wpAnyH_take (i := 0) (v := ?_) rfl (by kernel_rfl) (by kernel_rfl) (by kernel_rfl) (fun _ _ _ h => h) (Or.inl ⟨by rfl, ?_⟩) (by assumption) ?_
  rotate_left
  · intro w hSw
    try dsimp only at hSw
    go_simp
    try with_reducible rfl
  try simp only [Act.put, List.getElem_toArray, List.getElem_cons_zero, List.setIfInBounds_toArray, List.set_cons_zero, List.set_cons_succ]
  refine wpAnyH_take (i := 1) rfl (by kernel_rfl) (by kernel_rfl) (by kernel_rfl) (fun _ _ _ h => h) (yieldsIf_load_mid (by rfl) 81 _ rfl w.heap.size 0 rfl [.int .i64 (kd : Int), .int .i64 (row : Int), .int .i64 (num : Int)] _ (fun _ h => QS.out.sub h 0 [.int .i64 (kd : Int), .int .i64 (row : Int), .int .i64 (num : Int)] rfl) Tryz.underlying81 rfl (by kernel_rfl)) (by assumption) ?_
  try simp only [Act.put, List.getElem_toArray, List.getElem_cons_succ, List.getElem_cons_zero, List.setIfInBounds_toArray, List.set_cons_zero, List.set_cons_succ]
  refine wpAnyH_take (i := 2) rfl (by kernel_rfl) (by kernel_rfl) (by kernel_rfl) (fun _ _ _ h => h) (yieldsIf_load_mid (by rfl) 64 _ rfl (w.heap.size + 1) 0 rfl [.int .i64 1, .func (.func 32) #[] #[], .func (.func 33) #[] #[], .func (.func 34) #[] #[], .func (.func 35) #[] #[], .func (.func 36) #[] #[], .func (.func 37) #[] #[]] _ (fun _ h => QL.out.sub h 0 [.int .i64 1, .func (.func 32) #[] #[], .func (.func 33) #[] #[], .func (.func 34) #[] #[], .func (.func 35) #[] #[], .func (.func 36) #[] #[], .func (.func 37) #[] #[]] rfl) Tryz.underlying64 rfl (by kernel_rfl)) (by assumption) ?_
  try simp only [Act.put, List.getElem_toArray, List.getElem_cons_succ, List.getElem_cons_zero, List.setIfInBounds_toArray, List.set_cons_zero, List.set_cons_succ]
  refine wpAnyH_take (i := 4) (v := ?_) rfl (by kernel_rfl) (by kernel_rfl) (by kernel_rfl) (fun _ _ _ h => h) (Or.inl ⟨by rfl, ?_⟩) (by assumption) ?_
  rotate_left
  · intro w hSw
    try dsimp only at hSw
    go_simp
    try with_reducible rfl
  try simp only [Act.put, List.getElem_toArray, List.getElem_cons_succ, List.getElem_cons_zero, List.setIfInBounds_toArray, List.set_cons_zero, List.set_cons_succ]
  refine wpAnyH_take (i := 5) (v := ?_) rfl (by kernel_rfl) (by kernel_rfl) (by kernel_rfl) (fun _ _ _ h => h) (Or.inl ⟨by rfl, ?_⟩) (by assumption) ?_
  rotate_left
  · intro w hSw
    try dsimp only at hSw
    have c5 := QL.out.c1 hSw 2 _ rfl
    go_simp
    try with_reducible rfl
  try simp only [Act.put, List.getElem_toArray, List.getElem_cons_succ, List.getElem_cons_zero, List.setIfInBounds_toArray, List.set_cons_zero, List.set_cons_succ]
  refine wpAnyH_take (i := 6) (v := ?_) rfl (by kernel_rfl) (by kernel_rfl) (by kernel_rfl) (fun _ _ _ h => h) (Or.inl ⟨by rfl, ?_⟩) (by assumption) ?_
  rotate_left
  · intro w hSw
    try dsimp only at hSw
    go_simp
    try with_reducible rfl
  try simp only [Act.put, List.getElem_toArray, List.getElem_cons_succ, List.getElem_cons_zero, List.setIfInBounds_toArray, List.set_cons_zero, List.set_cons_succ]
  refine wpAnyH_take (i := 7) rfl (by kernel_rfl) (by kernel_rfl) (by kernel_rfl) (fun _ _ _ h => h) (yieldsIf_load_mid (by rfl) 25 _ rfl w.heap.size 3 rfl [.int .i64 (x : Int), .int .i64 (y : Int)] _ (fun _ h => QS.out.sub h 3 [.int .i64 (x : Int), .int .i64 (y : Int)] rfl) Tryz.underlying25 rfl (by kernel_rfl)) (by assumption) ?_
  try simp only [Act.put, List.getElem_toArray, List.getElem_cons_succ, List.getElem_cons_zero, List.setIfInBounds_toArray, List.set_cons_zero, List.set_cons_succ]
  refine wpAnyH_take (i := 9) (v := ?_) rfl (by kernel_rfl) (by kernel_rfl) (by kernel_rfl) (fun _ _ _ h => h) (Or.inl ⟨by rfl, ?_⟩) (by assumption) ?_
  rotate_left
  · intro w hSw
    try dsimp only at hSw
    go_simp
    try with_reducible rfl
  try simp only [Act.put, List.getElem_toArray, List.getElem_cons_succ, List.getElem_cons_zero, List.setIfInBounds_toArray, List.set_cons_zero, List.set_cons_succ]
  refine wpAnyH_take (i := 10) (v := ?_) rfl (by kernel_rfl) (by kernel_rfl) (by kernel_rfl) (fun _ _ _ h => h) (Or.inl ⟨by rfl, ?_⟩) (by assumption) ?_
  rotate_left
  · intro w hSw
    try dsimp only at hSw
    have c10 := QL.out.c1 hSw 3 _ rfl
    go_simp
    try with_reducible rfl
  try simp only [Act.put, List.getElem_toArray, List.getElem_cons_succ, List.getElem_cons_zero, List.setIfInBounds_toArray, List.set_cons_zero, List.set_cons_succ]
  refine wpAnyH_take (i := 11) (v := ?_) rfl (by kernel_rfl) (by kernel_rfl) (by kernel_rfl) (fun _ _ _ h => h) (Or.inl ⟨by rfl, ?_⟩) (by assumption) ?_
  rotate_left
  · intro w hSw
    try dsimp only at hSw
    go_simp
    try with_reducible rfl
  try simp only [Act.put, List.getElem_toArray, List.getElem_cons_succ, List.getElem_cons_zero, List.setIfInBounds_toArray, List.set_cons_zero, List.set_cons_succ]
  refine wpAnyH_take (i := 12) (v := ?_) rfl (by kernel_rfl) (by kernel_rfl) (by kernel_rfl) (fun _ _ _ h => h) (Or.inl ⟨by rfl, ?_⟩) (by assumption) ?_
  rotate_left
  · intro w hSw
    try dsimp only at hSw
    have c12 := QS.out.c1 hSw 5 _ rfl
    go_simp
    try with_reducible rfl
  try simp only [Act.put, List.getElem_toArray, List.getElem_cons_succ, List.getElem_cons_zero, List.setIfInBounds_toArray, List.set_cons_zero, List.set_cons_succ]
  refine wpAnyH_take (i := 13) (v := ?_) rfl (by kernel_rfl) (by kernel_rfl) (by kernel_rfl) (fun _ _ _ h => h) (Or.inl ⟨by rfl, ?_⟩) (by assumption) ?_
  rotate_left
  · intro w hSw
    try dsimp only at hSw
    go_simp
    try with_reducible rfl
  try simp only [Act.put, List.getElem_toArray, List.getElem_cons_succ, List.getElem_cons_zero, List.setIfInBounds_toArray, List.set_cons_zero, List.set_cons_succ]
  refine wpAnyH_take (i := 14) (v := ?_) rfl (by kernel_rfl) (by kernel_rfl) (by kernel_rfl) (fun _ _ _ h => h) (Or.inl ⟨by rfl, ?_⟩) (by assumption) ?_
  rotate_left
  · intro w hSw
    try dsimp only at hSw
    have c14 := QS.out.c1 hSw 6 _ rfl
    go_simp
    try with_reducible rfl
  try simp only [Act.put, List.getElem_toArray, List.getElem_cons_succ, List.getElem_cons_zero, List.setIfInBounds_toArray, List.set_cons_zero, List.set_cons_succ]
  refine wpAnyH_take (i := 16) (v := ?_) rfl (by kernel_rfl) (by kernel_rfl) (by kernel_rfl) (fun _ _ _ h => h) (Or.inl ⟨by rfl, ?_⟩) (by assumption) ?_
  rotate_left
  · intro w hSw
    try dsimp only at hSw
    go_simp
    try with_reducible rfl
  try simp only [Act.put, List.getElem_toArray, List.getElem_cons_succ, List.getElem_cons_zero, List.setIfInBounds_toArray, List.set_cons_zero, List.set_cons_succ]
  refine wpAnyH_take (i := 17) (v := ?_) rfl (by kernel_rfl) (by kernel_rfl) (by kernel_rfl) (fun _ _ _ h => h) (Or.inl ⟨by rfl, ?_⟩) (by assumption) ?_
  rotate_left
  · intro w hSw
    try dsimp only at hSw
    have c17 := QL.out.c1 hSw 2 _ rfl
    go_simp
    try with_reducible rfl
  try simp only [Act.put, List.getElem_toArray, List.getElem_cons_succ, List.getElem_cons_zero, List.setIfInBounds_toArray, List.set_cons_zero, List.set_cons_succ]
  refine wpAnyH_take (i := 18) (v := ?_) rfl (by kernel_rfl) (by kernel_rfl) (by kernel_rfl) (fun _ _ _ h => h) (Or.inl ⟨by rfl, ?_⟩) (by assumption) ?_
  rotate_left
  · intro w hSw
    try dsimp only at hSw
    go_simp
    try with_reducible rfl
  try simp only [Act.put, List.getElem_toArray, List.getElem_cons_succ, List.getElem_cons_zero, List.setIfInBounds_toArray, List.set_cons_zero, List.set_cons_succ]
  refine wpAnyH_take (i := 19) rfl (by kernel_rfl) (by kernel_rfl) (by kernel_rfl) (fun _ _ _ h => h) (yieldsIf_load_mid (by rfl) 25 _ rfl w.heap.size 7 rfl [.int .i64 (p : Int), .int .i64 (q : Int)] _ (fun _ h => QS.out.sub h 7 [.int .i64 (p : Int), .int .i64 (q : Int)] rfl) Tryz.underlying25 rfl (by kernel_rfl)) (by assumption) ?_
  try simp only [Act.put, List.getElem_toArray, List.getElem_cons_succ, List.getElem_cons_zero, List.setIfInBounds_toArray, List.set_cons_zero, List.set_cons_succ]
  refine wpAnyH_take (i := 21) (v := ?_) rfl (by kernel_rfl) (by kernel_rfl) (by kernel_rfl) (fun _ _ _ h => h) (Or.inl ⟨by rfl, ?_⟩) (by assumption) ?_
  rotate_left
  · intro w hSw
    try dsimp only at hSw
    go_simp
    try with_reducible rfl
  try simp only [Act.put, List.getElem_toArray, List.getElem_cons_succ, List.getElem_cons_zero, List.setIfInBounds_toArray, List.set_cons_zero, List.set_cons_succ]
  refine wpAnyH_take (i := 22) rfl (by kernel_rfl) (by kernel_rfl) (by kernel_rfl) (fun _ _ _ h => h) (yieldsIf_load_mid (by rfl) 85 _ rfl w.heap.size 9 rfl [.int .i64 c.kind, .int .i64 c.client, .int .i64 c.req, .string c.key, .string c.key2, .string c.val, .string c.old, .int .i64 c.n, .int .i64 (sq : Int), .slice ua uk uc] _ (fun _ h => QS.out.sub h 9 [.int .i64 c.kind, .int .i64 c.client, .int .i64 c.req, .string c.key, .string c.key2, .string c.val, .string c.old, .int .i64 c.n, .int .i64 (sq : Int), .slice ua uk uc] rfl) Tryz.underlying85 rfl (by kernel_rfl)) (by assumption) ?_
  try simp only [Act.put, List.getElem_toArray, List.getElem_cons_succ, List.getElem_cons_zero, List.setIfInBounds_toArray, List.set_cons_zero, List.set_cons_succ]
  refine wpAnyH_take (i := 23) rfl (by kernel_rfl) (by kernel_rfl) (by kernel_rfl) (fun _ _ _ h => h) (yieldsIf_load_mid (by rfl) 64 _ rfl (w.heap.size + 1) 0 rfl [.int .i64 1, .func (.func 32) #[] #[], .func (.func 33) #[] #[], .func (.func 34) #[] #[], .func (.func 35) #[] #[], .func (.func 36) #[] #[], .func (.func 37) #[] #[]] _ (fun _ h => QL.out.sub h 0 [.int .i64 1, .func (.func 32) #[] #[], .func (.func 33) #[] #[], .func (.func 34) #[] #[], .func (.func 35) #[] #[], .func (.func 36) #[] #[], .func (.func 37) #[] #[]] rfl) Tryz.underlying64 rfl (by kernel_rfl)) (by assumption) ?_
  try simp only [Act.put, List.getElem_toArray, List.getElem_cons_succ, List.getElem_cons_zero, List.setIfInBounds_toArray, List.set_cons_zero, List.set_cons_succ]
  refine wpAnyH_ready (rs := [3]) (by kernel_rfl) (by simp) ?_
  refine AllReadyH.cons rfl (fun K hK => ?_) AllReadyH.nil
  rw [if_pos (by rfl)]
  go_wp2_with fail
  refine (C0.out _ S0).mono ?_
  rintro e W0 ⟨u0, rfl, o0, b0⟩
  have P0 := S0.trans (b0.mono S0.size)
  clear b0
  obtain ⟨va0, vc0, rfl⟩ := own_shape o0
  refine hK.out _ _ P0 (fun hHeld => ?_)
  clear hK K
  try simp only [Act.put, List.getElem_toArray, List.getElem_cons_succ, List.getElem_cons_zero, List.setIfInBounds_toArray, List.set_cons_zero, List.set_cons_succ]
  refine wpAnyH_ready (rs := [8]) (by kernel_rfl) (by simp) ?_
  refine AllReadyH.cons rfl (fun K hK => ?_) AllReadyH.nil
  rw [if_pos (by rfl)]
  go_wp2_with fail
  refine (C1.out _ P0).mono ?_
  rintro e W1 ⟨u1, rfl, o1, b1⟩
  have P1 := P0.trans (b1.mono P0.size)
  have o0 := own_below o0 b1 (Nat.le_refl _)
  clear b1
  obtain ⟨va1, vc1, rfl⟩ := own_shape o1
  refine hK.out _ _ P1 (fun hHeld => ?_)
  clear hK K
  try simp only [Act.put, List.getElem_toArray, List.getElem_cons_succ, List.getElem_cons_zero, List.setIfInBounds_toArray, List.set_cons_zero, List.set_cons_succ]
  refine wpAnyH_ready (rs := [15]) (by kernel_rfl) (by simp) ?_
  refine AllReadyH.cons rfl (fun K hK => ?_) AllReadyH.nil
  rw [if_pos (by rfl)]
  go_wp2_with fail
  refine (C2.out _ P1).mono ?_
  rintro e W2 ⟨u2, rfl, o2, b2⟩
  have P2 := P1.trans (b2.mono P1.size)
  have o0 := own_below o0 b2 (Nat.le_refl _)
  have o1 := own_below o1 b2 (Nat.le_refl _)
  clear b2
  obtain ⟨va2, vc2, rfl⟩ := own_shape o2
  refine hK.out _ _ P2 (fun hHeld => ?_)
  clear hK K
  try simp only [Act.put, List.getElem_toArray, List.getElem_cons_succ, List.getElem_cons_zero, List.setIfInBounds_toArray, List.set_cons_zero, List.set_cons_succ]
  refine wpAnyH_ready (rs := [20]) (by kernel_rfl) (by simp) ?_
  refine AllReadyH.cons rfl (fun K hK => ?_) AllReadyH.nil
  rw [if_pos (by rfl)]
  go_wp2_with fail
  refine (C3.out _ P2).mono ?_
  rintro e W3 ⟨u3, rfl, o3, b3⟩
  have P3 := P2.trans (b3.mono P2.size)
  have o0 := own_below o0 b3 (Nat.le_refl _)
  have o1 := own_below o1 b3 (Nat.le_refl _)
  have o2 := own_below o2 b3 (Nat.le_refl _)
  clear b3
  obtain ⟨va3, vc3, rfl⟩ := own_shape o3
  refine hK.out _ _ P3 (fun hHeld => ?_)
  clear hK K
  try simp only [Act.put, List.getElem_toArray, List.getElem_cons_succ, List.getElem_cons_zero, List.setIfInBounds_toArray, List.set_cons_zero, List.set_cons_succ]
  refine wpAnyH_ready (rs := [24]) (by kernel_rfl) (by simp) ?_
  refine AllReadyH.cons rfl (fun K hK => ?_) AllReadyH.nil
  rw [if_pos (by rfl)]
  go_wp2_with fail
  refine (C4.out _ P3).mono ?_
  rintro e W4 ⟨u4, rfl, o4, b4⟩
  have P4 := P3.trans (b4.mono P3.size)
  have o0 := own_below o0 b4 (Nat.le_refl _)
  have o1 := own_below o1 b4 (Nat.le_refl _)
  have o2 := own_below o2 b4 (Nat.le_refl _)
  have o3 := own_below o3 b4 (Nat.le_refl _)
  clear b4
  obtain ⟨va4, vc4, rfl⟩ := own_shape o4
  refine hK.out _ _ P4 (fun hHeld => ?_)
  clear hK K
  try simp only [Act.put, List.getElem_toArray, List.getElem_cons_succ, List.getElem_cons_zero, List.setIfInBounds_toArray, List.set_cons_zero, List.set_cons_succ]
  refine wpAnyH_ready (rs := [25]) (by kernel_rfl) (by simp) ?_
  refine AllReadyH.cons rfl (fun K hK => ?_) AllReadyH.nil
  rw [if_pos (by rfl)]
  go_wp2_with fail
  have PA := P4.alloc P4.size (.cells #[.slice va0 SL.length vc0, .slice va1 BL.length vc1, .slice va2 VL.length vc2, .slice va3 PL_.length vc3, .slice va4 LL.length vc4] 34)
  refine hK.out _ _ PA (fun hHeld => ?_)
  clear hK K
  try simp only [Act.put, List.getElem_toArray, List.getElem_cons_succ, List.getElem_cons_zero, List.setIfInBounds_toArray, List.set_cons_zero, List.set_cons_succ]
  refine wpAnyH_ready (rs := [26]) (by kernel_rfl) (by simp) ?_
  refine AllReadyH.cons rfl (fun K hK => ?_) AllReadyH.nil
  rw [if_pos (by rfl)]
  go_wp2_with fail
  refine (concat_any _ [.slice va0 SL.length vc0, .slice va1 BL.length vc1, .slice va2 VL.length vc2, .slice va3 PL_.length vc3, .slice va4 LL.length vc4] [SL, BL, VL, PL_, LL] 5 rfl (by decide) _ (srcs_new _ ⟨⟨_, o0⟩, q0.1, ⟨_, o1⟩, q1.1, ⟨_, o2⟩, q2.1, ⟨_, o3⟩, q3.1, ⟨_, o4⟩, q4.1, trivial⟩) hTot).mono ?_
  rintro e W9 ⟨u9, rfl, o9, b9⟩
  have P9 := PA.trans (b9.mono PA.size)
  have RR : Hid (Bts w TL (.returned u9) W9) := by
    rw [← hTL.out]
    exact bts_box (BX.out.trans (PA.mono BX.out.size)) ⟨u9, rfl, o9, b9⟩
  refine hK.out _ _ P9 (fun hHeld => ?_)
  clear hK K
  try simp only [Act.put, List.getElem_toArray, List.getElem_cons_succ, List.getElem_cons_zero, List.setIfInBounds_toArray, List.set_cons_zero, List.set_cons_succ]
  refine wpAnyH_take (i := 27) (v := ?_) rfl (by kernel_rfl) (by kernel_rfl) (by kernel_rfl) (fun _ _ _ h => h) (Or.inl ⟨by rfl, ?_⟩) (by assumption) ?_
  rotate_left
  · intro w hSw
    try dsimp only at hSw
    go_simp
    try with_reducible rfl
  try simp only [Act.put, List.getElem_toArray, List.getElem_cons_succ, List.getElem_cons_zero, List.setIfInBounds_toArray, List.set_cons_zero, List.set_cons_succ]
  refine wpAnyH_done (by kernel_rfl) ?_ _
  go_wp2
  go_ret
  exact RR.out
set_option maxHeartbeats 4000000 in
set_option maxRecDepth 100000 in
theorem bytes_nack1 (kd row num x y p q : Nat) (w : World) (hkd : kd < 128) (hrow : row < 1152921504606846976) (hnum : num < 1152921504606846976) (hx : x < 1152921504606846976) (hy : y < 1152921504606846976) (hp : p < 1152921504606846976) (hq : q < 1152921504606846976) :
    Calls Tryz.prog 173 #[.agg #[.int .i64 (kd : Int), .int .i64 (row : Int), .int .i64 (num : Int), .int .i64 (x : Int), .int .i64 (y : Int), .int .i64 (p : Int), .int .i64 (q : Int)], .agg #[.int .i64 1, .func (.func 32) #[] #[], .func (.func 33) #[] #[], .func (.func 34) #[] #[], .func (.func 35) #[] #[], .func (.func 36) #[] #[], .func (.func 37) #[] #[]]] w fun r w' => Bts w ([staP 1 kd row num, balP 1 x y, balP 1 p q] : List (List Int)).flatten r w' := by
  obtain ⟨X, hX⟩ : ∃ X, X = (w.alloc (.cells #[.int .i64 (kd : Int), .int .i64 (row : Int), .int .i64 (num : Int), .int .i64 (x : Int), .int .i64 (y : Int), .int .i64 (p : Int), .int .i64 (q : Int)] 98)).alloc (.cells #[.int .i64 1, .func (.func 32) #[] #[], .func (.func 33) #[] #[], .func (.func 34) #[] #[], .func (.func 35) #[] #[], .func (.func 36) #[] #[], .func (.func 37) #[] #[]] 64) := ⟨_, rfl⟩
  have Q0 := blk_new w 98 [.int .i64 (kd : Int), .int .i64 (row : Int), .int .i64 (num : Int), .int .i64 (x : Int), .int .i64 (y : Int), .int .i64 (p : Int), .int .i64 (q : Int)]
  have QL0 := blk_new (w.alloc (.cells #[.int .i64 (kd : Int), .int .i64 (row : Int), .int .i64 (num : Int), .int .i64 (x : Int), .int .i64 (y : Int), .int .i64 (p : Int), .int .i64 (q : Int)] 98)) 64 [.int .i64 1, .func (.func 32) #[] #[], .func (.func 33) #[] #[], .func (.func 34) #[] #[], .func (.func 35) #[] #[], .func (.func 36) #[] #[], .func (.func 37) #[] #[]]
  have QS : Hid (Blk X w.heap.size [.int .i64 (kd : Int), .int .i64 (row : Int), .int .i64 (num : Int), .int .i64 (x : Int), .int .i64 (y : Int), .int .i64 (p : Int), .int .i64 (q : Int)]) := by rw [hX]; exact Q0.on ((Below.refl _ _).alloc (Nat.le_refl _) _)
  have QL : Hid (Blk X (w.heap.size + 1) [.int .i64 1, .func (.func 32) #[] #[], .func (.func 33) #[] #[], .func (.func 34) #[] #[], .func (.func 35) #[] #[], .func (.func 36) #[] #[], .func (.func 37) #[] #[]]) := by rw [hX]; rw [World.size_alloc] at QL0; exact QL0
  have BX : Hid (Below w.heap.size w X) := by rw [hX]; exact ((Below.refl _ w).alloc (Nat.le_refl _) _).alloc (by simp) _
  clear Q0 QL0
  have C0 : Hid (∀ W, Below X.heap.size X W → Calls Tryz.prog 143 #[.agg #[.int .i64 (kd : Int), .int .i64 (row : Int), .int .i64 (num : Int)], .agg #[.int .i64 1, .func (.func 32) #[] #[], .func (.func 33) #[] #[], .func (.func 34) #[] #[], .func (.func 35) #[] #[], .func (.func 36) #[] #[], .func (.func 37) #[] #[]]] W fun r w' => Bts W (staP 1 kd row num) r w') := fun W hW => start1_any kd row num W hkd hrow hnum
  have q0 := staP_len 1 kd row num
  have C1 : Hid (∀ W, Below X.heap.size X W → Calls Tryz.prog 33 #[.agg #[.int .i64 (x : Int), .int .i64 (y : Int)]] W fun r w' => Bts W (balP 1 x y) r w') := fun W hW => putBallot1_any x y W hx hy
  have q1 := balP_len 1 x y
  have C2 : Hid (∀ W, Below X.heap.size X W → Calls Tryz.prog 33 #[.agg #[.int .i64 (p : Int), .int .i64 (q : Int)]] W fun r w' => Bts W (balP 1 p q) r w') := fun W hW => putBallot1_any p q W hp hq
  have q2 := balP_len 1 p q
  generalize staP 1 kd row num = SL at *
  generalize balP 1 x y = BL at *
  generalize balP 1 p q = PL_ at *
  have hTot : ([SL, BL, PL_] : List (List Int)).flatten.length ≤ 1000000 := by simp; omega
  obtain ⟨TL, hTL⟩ : ∃ TL, Hid (([SL, BL, PL_] : List (List Int)).flatten = TL) := ⟨_, rfl⟩
  rw [hTL.out]
  go_enter Tryz.func173, Tryz.ntmps173
  go_upto_region 1 with fail
  rw [← hX]
  clear hX
  have S0 := belX X
  refine wp_region_held_drew (S := (fun w' => Below X.heap.size X w')) (by kernel_rfl) S0 (fun hHeld => ?_)
  refine wpAnyH_take (i := 0) (v := ?_) rfl (by kernel_rfl) (by kernel_rfl) (by kernel_rfl) (fun _ _ _ h => h) (Or.inl ⟨by rfl, ?_⟩) (by assumption) ?_
  rotate_left
  · intro w hSw
    try dsimp only at hSw
    go_simp
    try with_reducible rfl
  try simp only [Act.put, List.getElem_toArray, List.getElem_cons_zero, List.setIfInBounds_toArray, List.set_cons_zero, List.set_cons_succ]
  refine wpAnyH_take (i := 1) rfl (by kernel_rfl) (by kernel_rfl) (by kernel_rfl) (fun _ _ _ h => h) (yieldsIf_load_mid (by rfl) 81 _ rfl w.heap.size 0 rfl [.int .i64 (kd : Int), .int .i64 (row : Int), .int .i64 (num : Int)] _ (fun _ h => QS.out.sub h 0 [.int .i64 (kd : Int), .int .i64 (row : Int), .int .i64 (num : Int)] rfl) Tryz.underlying81 rfl (by kernel_rfl)) (by assumption) ?_
  try simp only [Act.put, List.getElem_toArray, List.getElem_cons_succ, List.getElem_cons_zero, List.setIfInBounds_toArray, List.set_cons_zero, List.set_cons_succ]
  refine wpAnyH_take (i := 2) rfl (by kernel_rfl) (by kernel_rfl) (by kernel_rfl) (fun _ _ _ h => h) (yieldsIf_load_mid (by rfl) 64 _ rfl (w.heap.size + 1) 0 rfl [.int .i64 1, .func (.func 32) #[] #[], .func (.func 33) #[] #[], .func (.func 34) #[] #[], .func (.func 35) #[] #[], .func (.func 36) #[] #[], .func (.func 37) #[] #[]] _ (fun _ h => QL.out.sub h 0 [.int .i64 1, .func (.func 32) #[] #[], .func (.func 33) #[] #[], .func (.func 34) #[] #[], .func (.func 35) #[] #[], .func (.func 36) #[] #[], .func (.func 37) #[] #[]] rfl) Tryz.underlying64 rfl (by kernel_rfl)) (by assumption) ?_
  try simp only [Act.put, List.getElem_toArray, List.getElem_cons_succ, List.getElem_cons_zero, List.setIfInBounds_toArray, List.set_cons_zero, List.set_cons_succ]
  refine wpAnyH_take (i := 4) (v := ?_) rfl (by kernel_rfl) (by kernel_rfl) (by kernel_rfl) (fun _ _ _ h => h) (Or.inl ⟨by rfl, ?_⟩) (by assumption) ?_
  rotate_left
  · intro w hSw
    try dsimp only at hSw
    go_simp
    try with_reducible rfl
  try simp only [Act.put, List.getElem_toArray, List.getElem_cons_succ, List.getElem_cons_zero, List.setIfInBounds_toArray, List.set_cons_zero, List.set_cons_succ]
  refine wpAnyH_take (i := 5) (v := ?_) rfl (by kernel_rfl) (by kernel_rfl) (by kernel_rfl) (fun _ _ _ h => h) (Or.inl ⟨by rfl, ?_⟩) (by assumption) ?_
  rotate_left
  · intro w hSw
    try dsimp only at hSw
    have c5 := QL.out.c1 hSw 2 _ rfl
    go_simp
    try with_reducible rfl
  try simp only [Act.put, List.getElem_toArray, List.getElem_cons_succ, List.getElem_cons_zero, List.setIfInBounds_toArray, List.set_cons_zero, List.set_cons_succ]
  refine wpAnyH_take (i := 6) (v := ?_) rfl (by kernel_rfl) (by kernel_rfl) (by kernel_rfl) (fun _ _ _ h => h) (Or.inl ⟨by rfl, ?_⟩) (by assumption) ?_
  rotate_left
  · intro w hSw
    try dsimp only at hSw
    go_simp
    try with_reducible rfl
  try simp only [Act.put, List.getElem_toArray, List.getElem_cons_succ, List.getElem_cons_zero, List.setIfInBounds_toArray, List.set_cons_zero, List.set_cons_succ]
  refine wpAnyH_take (i := 7) rfl (by kernel_rfl) (by kernel_rfl) (by kernel_rfl) (fun _ _ _ h => h) (yieldsIf_load_mid (by rfl) 25 _ rfl w.heap.size 3 rfl [.int .i64 (x : Int), .int .i64 (y : Int)] _ (fun _ h => QS.out.sub h 3 [.int .i64 (x : Int), .int .i64 (y : Int)] rfl) Tryz.underlying25 rfl (by kernel_rfl)) (by assumption) ?_
  try simp only [Act.put, List.getElem_toArray, List.getElem_cons_succ, List.getElem_cons_zero, List.setIfInBounds_toArray, List.set_cons_zero, List.set_cons_succ]
  refine wpAnyH_take (i := 9) (v := ?_) rfl (by kernel_rfl) (by kernel_rfl) (by kernel_rfl) (fun _ _ _ h => h) (Or.inl ⟨by rfl, ?_⟩) (by assumption) ?_
  rotate_left
  · intro w hSw
    try dsimp only at hSw
    go_simp
    try with_reducible rfl
  try simp only [Act.put, List.getElem_toArray, List.getElem_cons_succ, List.getElem_cons_zero, List.setIfInBounds_toArray, List.set_cons_zero, List.set_cons_succ]
  refine wpAnyH_take (i := 10) (v := ?_) rfl (by kernel_rfl) (by kernel_rfl) (by kernel_rfl) (fun _ _ _ h => h) (Or.inl ⟨by rfl, ?_⟩) (by assumption) ?_
  rotate_left
  · intro w hSw
    try dsimp only at hSw
    have c10 := QL.out.c1 hSw 2 _ rfl
    go_simp
    try with_reducible rfl
  try simp only [Act.put, List.getElem_toArray, List.getElem_cons_succ, List.getElem_cons_zero, List.setIfInBounds_toArray, List.set_cons_zero, List.set_cons_succ]
  refine wpAnyH_take (i := 11) (v := ?_) rfl (by kernel_rfl) (by kernel_rfl) (by kernel_rfl) (fun _ _ _ h => h) (Or.inl ⟨by rfl, ?_⟩) (by assumption) ?_
  rotate_left
  · intro w hSw
    try dsimp only at hSw
    go_simp
    try with_reducible rfl
  try simp only [Act.put, List.getElem_toArray, List.getElem_cons_succ, List.getElem_cons_zero, List.setIfInBounds_toArray, List.set_cons_zero, List.set_cons_succ]
  refine wpAnyH_take (i := 12) rfl (by kernel_rfl) (by kernel_rfl) (by kernel_rfl) (fun _ _ _ h => h) (yieldsIf_load_mid (by rfl) 25 _ rfl w.heap.size 5 rfl [.int .i64 (p : Int), .int .i64 (q : Int)] _ (fun _ h => QS.out.sub h 5 [.int .i64 (p : Int), .int .i64 (q : Int)] rfl) Tryz.underlying25 rfl (by kernel_rfl)) (by assumption) ?_
  try simp only [Act.put, List.getElem_toArray, List.getElem_cons_succ, List.getElem_cons_zero, List.setIfInBounds_toArray, List.set_cons_zero, List.set_cons_succ]
  refine wpAnyH_ready (rs := [3]) (by kernel_rfl) (by simp) ?_
  refine AllReadyH.cons rfl (fun K hK => ?_) AllReadyH.nil
  rw [if_pos (by rfl)]
  go_wp2_with fail
  refine (C0.out _ S0).mono ?_
  rintro e W0 ⟨u0, rfl, o0, b0⟩
  have P0 := S0.trans (b0.mono S0.size)
  clear b0
  obtain ⟨va0, vc0, rfl⟩ := own_shape o0
  refine hK.out _ _ P0 (fun hHeld => ?_)
  clear hK K
  try simp only [Act.put, List.getElem_toArray, List.getElem_cons_succ, List.getElem_cons_zero, List.setIfInBounds_toArray, List.set_cons_zero, List.set_cons_succ]
  refine wpAnyH_ready (rs := [8]) (by kernel_rfl) (by simp) ?_
  refine AllReadyH.cons rfl (fun K hK => ?_) AllReadyH.nil
  rw [if_pos (by rfl)]
  go_wp2_with fail
  refine (C1.out _ P0).mono ?_
  rintro e W1 ⟨u1, rfl, o1, b1⟩
  have P1 := P0.trans (b1.mono P0.size)
  have o0 := own_below o0 b1 (Nat.le_refl _)
  clear b1
  obtain ⟨va1, vc1, rfl⟩ := own_shape o1
  refine hK.out _ _ P1 (fun hHeld => ?_)
  clear hK K
  try simp only [Act.put, List.getElem_toArray, List.getElem_cons_succ, List.getElem_cons_zero, List.setIfInBounds_toArray, List.set_cons_zero, List.set_cons_succ]
  refine wpAnyH_ready (rs := [13]) (by kernel_rfl) (by simp) ?_
  refine AllReadyH.cons rfl (fun K hK => ?_) AllReadyH.nil
  rw [if_pos (by rfl)]
  go_wp2_with fail
  refine (C2.out _ P1).mono ?_
  rintro e W2 ⟨u2, rfl, o2, b2⟩
  have P2 := P1.trans (b2.mono P1.size)
  have o0 := own_below o0 b2 (Nat.le_refl _)
  have o1 := own_below o1 b2 (Nat.le_refl _)
  clear b2
  obtain ⟨va2, vc2, rfl⟩ := own_shape o2
  refine hK.out _ _ P2 (fun hHeld => ?_)
  clear hK K
  try simp only [Act.put, List.getElem_toArray, List.getElem_cons_succ, List.getElem_cons_zero, List.setIfInBounds_toArray, List.set_cons_zero, List.set_cons_succ]
  refine wpAnyH_ready (rs := [14]) (by kernel_rfl) (by simp) ?_
  refine AllReadyH.cons rfl (fun K hK => ?_) AllReadyH.nil
  rw [if_pos (by rfl)]
  go_wp2_with fail
  have PA := P2.alloc P2.size (.cells #[.slice va0 SL.length vc0, .slice va1 BL.length vc1, .slice va2 PL_.length vc2] 34)
  refine hK.out _ _ PA (fun hHeld => ?_)
  clear hK K
  try simp only [Act.put, List.getElem_toArray, List.getElem_cons_succ, List.getElem_cons_zero, List.setIfInBounds_toArray, List.set_cons_zero, List.set_cons_succ]
  refine wpAnyH_ready (rs := [15]) (by kernel_rfl) (by simp) ?_
  refine AllReadyH.cons rfl (fun K hK => ?_) AllReadyH.nil
  rw [if_pos (by rfl)]
  go_wp2_with fail
  refine (concat_any _ [.slice va0 SL.length vc0, .slice va1 BL.length vc1, .slice va2 PL_.length vc2] [SL, BL, PL_] 3 rfl (by decide) _ (srcs_new _ ⟨⟨_, o0⟩, q0.1, ⟨_, o1⟩, q1.1, ⟨_, o2⟩, q2.1, trivial⟩) hTot).mono ?_
  rintro e W9 ⟨u9, rfl, o9, b9⟩
  have P9 := PA.trans (b9.mono PA.size)
  have RR : Hid (Bts w TL (.returned u9) W9) := by
    rw [← hTL.out]
    exact bts_box (BX.out.trans (PA.mono BX.out.size)) ⟨u9, rfl, o9, b9⟩
  refine hK.out _ _ P9 (fun hHeld => ?_)
  clear hK K
  try simp only [Act.put, List.getElem_toArray, List.getElem_cons_succ, List.getElem_cons_zero, List.setIfInBounds_toArray, List.set_cons_zero, List.set_cons_succ]
  refine wpAnyH_take (i := 16) (v := ?_) rfl (by kernel_rfl) (by kernel_rfl) (by kernel_rfl) (fun _ _ _ h => h) (Or.inl ⟨by rfl, ?_⟩) (by assumption) ?_
  rotate_left
  · intro w hSw
    try dsimp only at hSw
    go_simp
    try with_reducible rfl
  try simp only [Act.put, List.getElem_toArray, List.getElem_cons_succ, List.getElem_cons_zero, List.setIfInBounds_toArray, List.set_cons_zero, List.set_cons_succ]
  refine wpAnyH_done (by kernel_rfl) ?_ _
  go_wp2
  go_ret
  exact RR.out
set_option maxHeartbeats 4000000 in
set_option maxRecDepth 100000 in
theorem bytes_bare1 (kd row num : Nat) (w : World) (hkd : kd < 128) (hrow : row < 1152921504606846976) (hnum : num < 1152921504606846976) :
    Calls Tryz.prog 175 #[.agg #[.int .i64 (kd : Int), .int .i64 (row : Int), .int .i64 (num : Int)], .agg #[.int .i64 1, .func (.func 32) #[] #[], .func (.func 33) #[] #[], .func (.func 34) #[] #[], .func (.func 35) #[] #[], .func (.func 36) #[] #[], .func (.func 37) #[] #[]]] w fun r w' => Bts w ([staP 1 kd row num] : List (List Int)).flatten r w' := by
  obtain ⟨X, hX⟩ : ∃ X, X = (w.alloc (.cells #[.int .i64 (kd : Int), .int .i64 (row : Int), .int .i64 (num : Int)] 100)).alloc (.cells #[.int .i64 1, .func (.func 32) #[] #[], .func (.func 33) #[] #[], .func (.func 34) #[] #[], .func (.func 35) #[] #[], .func (.func 36) #[] #[], .func (.func 37) #[] #[]] 64) := ⟨_, rfl⟩
  have Q0 := blk_new w 100 [.int .i64 (kd : Int), .int .i64 (row : Int), .int .i64 (num : Int)]
  have QL0 := blk_new (w.alloc (.cells #[.int .i64 (kd : Int), .int .i64 (row : Int), .int .i64 (num : Int)] 100)) 64 [.int .i64 1, .func (.func 32) #[] #[], .func (.func 33) #[] #[], .func (.func 34) #[] #[], .func (.func 35) #[] #[], .func (.func 36) #[] #[], .func (.func 37) #[] #[]]
  have QS : Hid (Blk X w.heap.size [.int .i64 (kd : Int), .int .i64 (row : Int), .int .i64 (num : Int)]) := by rw [hX]; exact Q0.on ((Below.refl _ _).alloc (Nat.le_refl _) _)
  have QL : Hid (Blk X (w.heap.size + 1) [.int .i64 1, .func (.func 32) #[] #[], .func (.func 33) #[] #[], .func (.func 34) #[] #[], .func (.func 35) #[] #[], .func (.func 36) #[] #[], .func (.func 37) #[] #[]]) := by rw [hX]; rw [World.size_alloc] at QL0; exact QL0
  have BX : Hid (Below w.heap.size w X) := by rw [hX]; exact ((Below.refl _ w).alloc (Nat.le_refl _) _).alloc (by simp) _
  have C0 : Hid (∀ W, Calls Tryz.prog 143 #[.agg #[.int .i64 (kd : Int), .int .i64 (row : Int), .int .i64 (num : Int)], .agg #[.int .i64 1, .func (.func 32) #[] #[], .func (.func 33) #[] #[], .func (.func 34) #[] #[], .func (.func 35) #[] #[], .func (.func 36) #[] #[], .func (.func 37) #[] #[]]] W fun r w' => Bts W (staP 1 kd row num) r w') := fun W => start1_any kd row num W hkd hrow hnum
  have e1 : ([staP 1 kd row num] : List (List Int)).flatten = staP 1 kd row num := by simp
  rw [e1]
  clear e1 Q0 QL0
  generalize staP 1 kd row num = SL at *
  have s0 := QS.out.cell 0 _ rfl
  have s1 := QS.out.cell 1 _ rfl
  have s2 := QS.out.cell 2 _ rfl
  go_enter Tryz.func175, Tryz.ntmps175
  go_upto_region 1 with fail
  rw [← hX]
  clear hX
  go_wp2_with (first | (refine wpList_load_mid rfl 64 _ rfl (w.heap.size + 1) 0 rfl [.int .i64 1, .func (.func 32) #[] #[], .func (.func 33) #[] #[], .func (.func 34) #[] #[], .func (.func 35) #[] #[], .func (.func 36) #[] #[], .func (.func 37) #[] #[]] _ QL.out.range Tryz.underlying64 rfl (by kernel_rfl) ?_))
  refine (C0.out X).mono ?_
  rintro e W1 ⟨u, rfl, ho, hb⟩
  have RR := hide (bts_box BX.out ⟨u, rfl, ho, hb⟩)
  clear ho hb
  go_wp2
  go_ret
  exact RR.out
end Go.Proofs.YtooejihnifphkaaGreatDoor
