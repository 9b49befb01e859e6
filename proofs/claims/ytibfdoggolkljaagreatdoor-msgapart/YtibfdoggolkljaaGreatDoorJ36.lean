import Derived.Test.YtibfdoggolkljaaGreatDoorJ34
import Derived.Test.YtibfdoggolkljaaGreatDoorJ35
set_option maxHeartbeats 2000000
set_option maxRecDepth 100000
namespace Go.Proofs.YtibfdoggolkljaaGreatDoor
open Go.RowKit Go.Wire1
def Bts (w : World) (L : List Int) (r : Ending) (w' : World) : Prop := ∃ u, r = .returned u ∧ w'.ownsRow w.heap.size 5 1 u L.length (L.map (Value.int .u8)) ∧ Below w.heap.size w w'
theorem bts_box {w X w' : World} {L : List Int} {r : Ending} (hb : Below w.heap.size w X) (h : Bts X L r w') : Bts w L r w' := by
 obtain ⟨u, e, ho, b⟩ := h
 exact ⟨u, e, own_more ho hb.size, hb.trans (b.mono hb.size)⟩
theorem wp_join {w : World} {o : Oper} {a : Act} {K : Act → World → Prop} {Q : Exit → Act → World → Prop} (s x : Operand)
  (ho : o.op = .call { callee := .builtin .append, args := #[s, x], argTypes := #[32, 32] })
  (B C : Nat) (v u : Value) (l E M : List Int) (hM : Hid (l ++ E = M)) (hs : a.eval s = v) (hx : a.eval x = u) (hown : w.ownsRow B 5 1 v l.length (l.map (Value.int .u8))) (hsrc : w.ownsRow C 5 1 u E.length (E.map (Value.int .u8)))
  (hE : 0 < E.length) (hlen : l.length + E.length ≤ 1000000) (hB : B ≤ w.heap.size)
  (h : ∀ v' w', w'.ownsRow B 5 1 v' M.length (M.map (Value.int .u8)) → w.grownBy w' v.ownBlock → K (a.put o.dst v') w') : o.wp Tryz.prog a w K Q := by
 obtain ⟨i0, hi, hz0, hz1, hz2⟩ := info_parts Tryz.info5
 obtain ⟨g, cap, rfl, hc⟩ := own_cells hsrc hE
 obtain ⟨v', w', hr, h2, h3, _⟩ := run_append_own (P := Tryz.prog) w B 32 o.type 5 i0 (.int .u8 0) 1 1 Tryz.underlying32 hi hz0 hz1 hz2 rfl (by decide) v l.length (l.map (Value.int .u8)) hown ⟨g, 0, none⟩ E.length cap (E.map (Value.int .u8)) (by rw [List.length_map, Nat.mul_one]) hc (by intro y hy; obtain ⟨z, _, rfl⟩ := List.mem_map.1 hy; rfl) (by unfold maxLen; omega) (by omega) hB
 unfold Oper.wp execOp
 simp only [ho, resolve, invoke, builtin, Sem.run_bind, Sem.run_pure, Result.andThen_ok, List.map_toArray, List.map_cons, List.map_nil, hs, hx, hr]
 refine h v' w' ?_ h3
 rw [← hM.out, zL, List.map_append]
 exact h2
theorem encF_pos (x : Nat) : 0 < (enc x).length := by show 0 < (encF 10 x).length; unfold encF; split <;> simp
theorem encF_ten (f x : Nat) : (encF f x).length ≤ f := by
 induction f generalizing x with
 | zero => simp [encF]
 | succ f ih =>
  unfold encF
  split
  ·simp
  ·have := ih (x / 128); simp; omega
theorem enc_ten (x : Nat) : (enc x).length ≤ 10 := encF_ten 10 x
theorem putTwo_any (x y : Nat) (w : World) (hx : x < 9223372036854775808) (hy : y < 9223372036854775808) :
  Calls Tryz.prog 44 #[.int .i64 x, .int .i64 y] w fun r w' => Bts w (enc x ++ enc y) r w' := by
 have p2 := encF_pos y
 have t1 := enc_ten x
 have t2 := enc_ten y
 have P1 := hide (putUint_any x w (by omega))
 have P2 := fun W => hide (putUint_any y W (by omega))
 generalize enc x = EX at *
 generalize enc y = EY at *
 obtain ⟨EE, hEE⟩ : ∃ EE, Hid (EX ++ EY = EE) := ⟨_, rfl⟩
 rw [hEE.out]
 go_enter Tryz.func44, Tryz.ntmps44
 go_wp2_with fail
 refine P1.out.mono ?_
 rintro e w1 ⟨v1, rfl, h1, b1⟩
 have B1 := hide b1
 have O1 := hide h1
 clear b1 h1
 go_wp2_with fail
 refine (P2 w1).out.mono ?_
 rintro e w2 ⟨v2, rfl, h2, b2⟩
 have B2 : Hid (Below w.heap.size w w2) := B1.out.trans (b2.mono B1.out.size)
 have O1' := hide (own_below O1.out b2 zN)
 have O2 := hide h2
 have hs2 : w.heap.size ≤ w2.heap.size := B2.out.size
 clear b2 h2 O1
 go_wp2_with (first | (at_builtin; refine wpList_join rfl _ _ rfl w.heap.size w1.heap.size v1 v2 EX EY EE hEE rfl rfl O1'.out O2.out p2 (by omega) hs2 ?_))
 intro v' w3 ho hg
 have R : Hid (w3.ownsRow w.heap.size 5 1 v' EE.length (EE.map (Value.int .u8)) ∧ Below w.heap.size w w3) := ⟨ho, B2.out.grown hg hs2 (fun j hj => (O1'.out.lt j hj).1)⟩
 clear ho hg
 go_wp2
 go_ret
 exact ⟨v', rfl, R.out⟩
theorem putPacked_any (x y : Nat) (w : World) (hx : x < 1152921504606846976) (hy : y < 1152921504606846976) :
  Calls Tryz.prog 48 #[.int .i64 x, .int .i64 y] w fun r w' => Bts w (enc (8 * x + y)) r w' := by
 have P1 := fun W => hide (putUint_any (8 * x + y) W (by omega))
 have ee : (8 : Int) * (x : Int) + (y : Int) = ((8 * x + y : Nat) : Int) := by omega
 obtain ⟨z, hz⟩ : ∃ z, 8 * x + y = z := ⟨_, rfl⟩
 rw [hz] at P1 ee ⊢
 have hzb : z < 18446744073709551616 := by omega
 clear hz
 go_enter Tryz.func48, Tryz.ntmps48
 go_wp2_with fail
 refine (P1 _).out.mono ?_
 rintro e w1 ⟨v1, rfl, h1, b1⟩
 have R := hide (And.intro h1 b1)
 clear h1 b1
 go_wp2
 go_ret
 exact ⟨v1, rfl, R.out⟩
theorem putInst1_any (x y : Nat) (w : World) (hx : x < 1152921504606846976) (hy : y < 1152921504606846976) :
  Calls Tryz.prog 25 #[.agg #[.int .i64 x, .int .i64 y]] w fun r w' => Bts w (enc x ++ enc y) r w' := by
 have BB : ∀ o, Hid (Below w.heap.size w (w.alloc o)) := fun o => (Below.refl _ w).alloc zN _
 go_enter Tryz.func25, Tryz.ntmps25
 go_wp2_with fail
 refine (putTwo_any x y _ (by omega) (by omega)).mono ?_
 rintro e w1 ⟨u, rfl, ho, hb⟩
 have R := hide (bts_box (BB _).out ⟨u, rfl, ho, hb⟩)
 clear ho hb
 go_wp2
 go_ret
 exact R.out
theorem putInst2_any (x y : Nat) (w : World) (hx : x < 1152921504606846976) (hy : y < 1152921504606846976) :
  Calls Tryz.prog 31 #[.agg #[.int .i64 x, .int .i64 y]] w fun r w' => Bts w (enc (8 * y + x)) r w' := by
 have BB : ∀ o, Hid (Below w.heap.size w (w.alloc o)) := fun o => (Below.refl _ w).alloc zN _
 go_enter Tryz.func31, Tryz.ntmps31
 go_wp2_with fail
 refine (putPacked_any y x _ hy hx).mono ?_
 rintro e w1 ⟨u, rfl, ho, hb⟩
 have R := hide (bts_box (BB _).out ⟨u, rfl, ho, hb⟩)
 clear ho hb
 go_wp2
 go_ret
 exact R.out
theorem putBallot1_any (x y : Nat) (w : World) (hx : x < 1152921504606846976) (hy : y < 1152921504606846976) :
  Calls Tryz.prog 26 #[.agg #[.int .i64 x, .int .i64 y]] w fun r w' => Bts w (enc x ++ enc y) r w' := by
 have BB : ∀ o, Hid (Below w.heap.size w (w.alloc o)) := fun o => (Below.refl _ w).alloc zN _
 go_enter Tryz.func26, Tryz.ntmps26
 go_wp2_with fail
 refine (putTwo_any x y _ (by omega) (by omega)).mono ?_
 rintro e w1 ⟨u, rfl, ho, hb⟩
 have R := hide (bts_box (BB _).out ⟨u, rfl, ho, hb⟩)
 clear ho hb
 go_wp2
 go_ret
 exact R.out
theorem putBallot2_any (x y : Nat) (w : World) (hx : x < 1152921504606846976) (hy : y < 1152921504606846976) :
  Calls Tryz.prog 32 #[.agg #[.int .i64 x, .int .i64 y]] w fun r w' => Bts w (enc (8 * x + y)) r w' := by
 have BB : ∀ o, Hid (Below w.heap.size w (w.alloc o)) := fun o => (Below.refl _ w).alloc zN _
 go_enter Tryz.func32, Tryz.ntmps32
 go_wp2_with fail
 refine (putPacked_any x y _ hx hy).mono ?_
 rintro e w1 ⟨u, rfl, ho, hb⟩
 have R := hide (bts_box (BB _).out ⟨u, rfl, ho, hb⟩)
 clear ho hb
 go_wp2
 go_ret
 exact R.out
def votP1 (st : Nat) (sm : Bool) : List Int := if st = 0 then [0] else [(st : Int), if sm then 1 else 0]
def votP2 (st : Nat) (sm : Bool) : List Int := [if sm then (st : Int) + 4 else (st : Int)]
theorem own_two (w : World) (B : Nat) (hB : B ≤ w.heap.size) (y z : Int) : (w.alloc (.cells #[.int .u8 y, .int .u8 z] 5)).ownsRow B 5 1 (.slice (some ⟨w.heap.size, 0, none⟩) 2 2) [y, z].length ([y, z].map (Value.int .u8)) :=
 ⟨rfl, .inr ⟨w.heap.size, 2, _, rfl, hB, heap_alloc_new w _, Nat.le_refl _, by unfold maxLen; omega, rfl, rfl⟩⟩
theorem putVote1_none (sm : Bool) (w : World) : Calls Tryz.prog 27 #[.int .i64 0, .bool sm] w fun r w' => Bts w ([0]) r w' := by
 go_enter Tryz.func27, Tryz.ntmps27
 go_wp2
 go_ret
 exact ⟨_, rfl, own_one w _ zN 0, (Below.refl _ w).alloc zN _⟩
theorem putVote1_same (st : Nat) (h0 : 0 < st) (h1 : st < 128) (w : World) : Calls Tryz.prog 27 #[.int .i64 st, .bool true] w fun r w' => Bts w ([(st : Int), 1]) r w' := by
 have q : ((st : Int) == 0) = false := by rw [beq_eq_false_iff_ne]; omega
 go_enter Tryz.func27, Tryz.ntmps27
 go_wp2
 go_ret
 exact ⟨_, rfl, own_two w _ zN _ _, (Below.refl _ w).alloc zN _⟩
theorem putVote1_other (st : Nat) (h0 : 0 < st) (h1 : st < 128) (w : World) : Calls Tryz.prog 27 #[.int .i64 st, .bool false] w fun r w' => Bts w ([(st : Int), 0]) r w' := by
 have q : ((st : Int) == 0) = false := by rw [beq_eq_false_iff_ne]; omega
 go_enter Tryz.func27, Tryz.ntmps27
 go_wp2
 go_ret
 exact ⟨_, rfl, own_two w _ zN _ _, (Below.refl _ w).alloc zN _⟩
theorem putVote2_same (st : Nat) (h1 : st < 128) (w : World) : Calls Tryz.prog 33 #[.int .i64 st, .bool true] w fun r w' => Bts w ([(st : Int) + 4]) r w' := by
 go_enter Tryz.func33, Tryz.ntmps33
 go_wp2
 go_ret
 exact ⟨_, rfl, own_one w _ zN _, (Below.refl _ w).alloc zN _⟩
theorem putVote2_other (st : Nat) (h1 : st < 128) (w : World) : Calls Tryz.prog 33 #[.int .i64 st, .bool false] w fun r w' => Bts w ([(st : Int)]) r w' := by
 go_enter Tryz.func33, Tryz.ntmps33
 go_wp2
 go_ret
 exact ⟨_, rfl, own_one w _ zN _, (Below.refl _ w).alloc zN _⟩
theorem putVote1_any (st : Nat) (sm : Bool) (w : World) (h1 : st < 128) : Calls Tryz.prog 27 #[.int .i64 st, .bool sm] w fun r w' => Bts w (votP1 st sm) r w' := by
 unfold votP1
 by_cases h0 : st = 0
 ·subst h0; exact putVote1_none sm w
 ·rw [if_neg h0]
  cases sm with
  | true => exact putVote1_same st (by omega) h1 w
  | false => exact putVote1_other st (by omega) h1 w
theorem putVote2_any (st : Nat) (sm : Bool) (w : World) (h1 : st < 128) : Calls Tryz.prog 33 #[.int .i64 st, .bool sm] w fun r w' => Bts w (votP2 st sm) r w' := by
 unfold votP2
 cases sm with
 | true => exact putVote2_same st h1 w
 | false => exact putVote2_other st h1 w
theorem start1_any (kd x y : Nat) (w : World) (hkd : kd < 128) (hx : x < 1152921504606846976) (hy : y < 1152921504606846976) :
  Calls Tryz.prog 136 #[.agg #[.int .i64 kd, .int .i64 x, .int .i64 y], .agg #[.int .i64 1, .func (.func 25) #[] #[], .func (.func 26) #[] #[], .func (.func 27) #[] #[], .func (.func 28) #[] #[], .func (.func 29) #[] #[], .func (.func 30) #[] #[]]] w fun r w' => Bts w ((kd : Int) :: (enc x ++ enc y)) r w' := by
 obtain ⟨X, hX, QH, QL, BX⟩ := zY w 72 [.int .i64 kd, .int .i64 x, .int .i64 y] 55 [.int .i64 1, .func (.func 25) #[] #[], .func (.func 26) #[] #[], .func (.func 27) #[] #[], .func (.func 28) #[] #[], .func (.func 29) #[] #[], .func (.func 30) #[] #[]]
 have p1 : 0 < (enc x ++ enc y).length := by rw [zL]; have := encF_pos x; omega
 have t1 : (enc x ++ enc y).length ≤ 20 := by rw [zL]; have := enc_ten x; have := enc_ten y; omega
 have PI := fun W => putInst1_any x y W hx hy
 generalize enc x ++ enc y = EI at *
 obtain ⟨EE, hEE⟩ : ∃ EE, Hid ([(kd : Int)] ++ EI = EE) := ⟨_, rfl⟩
 rw [show (kd : Int) :: EI = EE from hEE.out]
 have HPI := hide PI
 clear PI
 go_enter Tryz.func136, Tryz.ntmps136
 go_upto_region 1 with fail
 rw [← hX]
 clear hX
 have S0 := belX X
 refine wp_region_held_drew (S := (fun w' => Below X.heap.size X w')) (by kernel_rfl) S0 (fun hHeld => ?_)
 refine tk 0 ?_
 refine wpAnyH_take (i := 1) (v := ?_) rfl (by kernel_rfl) (by kernel_rfl) (by kernel_rfl) (fun _ _ _ h => h) (Or.inl ⟨by rfl, ?_⟩) (by assumption) ?_
 rotate_left
 ·intro w hSw
  try dsimp only at hSw
  have c1 := QH.out.c1 hSw 0 _ rfl
  go_simp
  try with_reducible rfl
 try simp only [Act.put, zA, zB, zC, zD, zE, zF]
 refine tk 2 ?_
 refine tk 4 ?_
 refine wpAnyH_take (i := 5) (v := ?_) rfl (by kernel_rfl) (by kernel_rfl) (by kernel_rfl) (fun _ _ _ h => h) (Or.inl ⟨by rfl, ?_⟩) (by assumption) ?_
 rotate_left
 ·intro w hSw
  try dsimp only at hSw
  have c5 := QL.out.c1 hSw 1 _ rfl
  go_simp
  try with_reducible rfl
 try simp only [Act.put, zA, zB, zC, zD, zE, zF]
 refine tk 6 ?_
 refine tq 7 rfl (yieldsIf_load_mid (by rfl) 23 _ rfl w.heap.size 1 rfl [.int .i64 x, .int .i64 y] _ (fun _ h => QH.out.sub h 1 [.int .i64 x, .int .i64 y] rfl) Tryz.underlying23 rfl (by kernel_rfl)) ?_
 refine wpAnyH_ready (rs := [3, 8]) (by kernel_rfl) (by simp) ?_
 refine AllReadyH.cons rfl (fun K hK => ?_) (AllReadyH.cons rfl (fun K hK => ?_) AllReadyH.nil)
 ·rw [if_pos (by rfl)]
  go_wp2_with fail
  have S1 := S0.alloc S0.size (.cells #[.int .u8 (kd : Int)] 5)
  have OA := hide (own_one X.drew X.heap.size zN (kd : Int))
  refine hK.out _ _ S1 (fun hHeld => ?_)
  clear hK K
  try simp only [Act.put, zA, zB, zC, zD, zE, zF]
  refine zR 8 fun K hK => ?_
  go_wp2_with fail
  refine (HPI.out _).mono ?_
  rintro e W1 ⟨u1, rfl, o1, b1⟩
  have P1 := S1.trans (b1.mono S1.size)
  refine hK.out _ _ P1 (fun hHeld => ?_)
  clear hK K
  try simp only [Act.put, zA, zB, zC, zD, zE, zF]
  refine zR 9 fun K hK => ?_
  have oA := own_below OA.out b1 zN
  refine wp_join _ _ rfl X.heap.size (X.drew.alloc (.cells #[.int .u8 (kd : Int)] 5)).heap.size (.slice (some ⟨X.heap.size, 0, none⟩) 1 1) u1 [(kd : Int)] EI EE hEE rfl rfl oA o1 p1 (by simp; omega) P1.size ?_
  intro v' W9 ho hg
  have P9 : Below X.heap.size X W9 := P1.grown hg P1.size (fun j hj => by cases hj; exact Nat.le_refl _)
  have RR : Hid (W9.ownsRow w.heap.size 5 1 v' EE.length (EE.map (Value.int .u8)) ∧ Below w.heap.size w W9) := ⟨own_more ho BX.out.size, BX.out.trans (P9.mono BX.out.size)⟩
  refine hK.out _ _ P9 (fun hHeld => ?_)
  clear hK K
  try simp only [Act.put, zA, zB, zC, zD, zE, zF]
  refine tk 10 ?_
  refine wpAnyH_done (by kernel_rfl) ?_ _
  go_wp2
  go_ret
  exact ⟨v', rfl, RR.out⟩
 ·rw [if_pos (by rfl)]
  go_wp2_with fail
  refine (HPI.out _).mono ?_
  rintro e W1 ⟨u1, rfl, o1, b1⟩
  have P1 := S0.trans (b1.mono S0.size)
  refine hK.out _ _ P1 (fun hHeld => ?_)
  clear hK K
  try simp only [Act.put, zA, zB, zC, zD, zE, zF]
  refine zR 3 fun K hK => ?_
  go_wp2_with fail
  have S2 := P1.alloc P1.size (.cells #[.int .u8 (kd : Int)] 5)
  have oB := own_one W1 X.heap.size P1.size (kd : Int)
  have o1' := own_below o1 ((Below.refl _ W1).alloc zN (.cells #[.int .u8 (kd : Int)] 5)) zN
  refine hK.out _ _ S2 (fun hHeld => ?_)
  clear hK K
  try simp only [Act.put, zA, zB, zC, zD, zE, zF]
  refine zR 9 fun K hK => ?_
  refine wp_join _ _ rfl X.heap.size X.heap.size (.slice (some ⟨W1.heap.size, 0, none⟩) 1 1) u1 [(kd : Int)] EI EE hEE rfl rfl oB o1' p1 (by simp; omega) S2.size ?_
  intro v' W9 ho hg
  have P9 : Below X.heap.size X W9 := S2.grown hg S2.size (fun j hj => by cases hj; exact P1.size)
  have RR : Hid (W9.ownsRow w.heap.size 5 1 v' EE.length (EE.map (Value.int .u8)) ∧ Below w.heap.size w W9) := ⟨own_more ho BX.out.size, BX.out.trans (P9.mono BX.out.size)⟩
  refine hK.out _ _ P9 (fun hHeld => ?_)
  clear hK K
  try simp only [Act.put, zA, zB, zC, zD, zE, zF]
  refine tk 10 ?_
  refine wpAnyH_done (by kernel_rfl) ?_ _
  go_wp2
  go_ret
  exact ⟨v', rfl, RR.out⟩
theorem start2_any (kd x y : Nat) (w : World) (hkd : kd < 128) (hx : x < 1152921504606846976) (hy : y < 1152921504606846976) :
  Calls Tryz.prog 136 #[.agg #[.int .i64 kd, .int .i64 x, .int .i64 y], .agg #[.int .i64 2, .func (.func 31) #[] #[], .func (.func 32) #[] #[], .func (.func 33) #[] #[], .func (.func 34) #[] #[], .func (.func 35) #[] #[], .func (.func 36) #[] #[]]] w fun r w' => Bts w ((kd : Int) :: (enc (8 * y + x))) r w' := by
 obtain ⟨X, hX, QH, QL, BX⟩ := zY w 72 [.int .i64 kd, .int .i64 x, .int .i64 y] 55 [.int .i64 2, .func (.func 31) #[] #[], .func (.func 32) #[] #[], .func (.func 33) #[] #[], .func (.func 34) #[] #[], .func (.func 35) #[] #[], .func (.func 36) #[] #[]]
 have p1 := encF_pos (8 * y + x)
 have t1 := enc_ten (8 * y + x)
 have PI := fun W => putInst2_any x y W hx hy
 generalize enc (8 * y + x) = EI at *
 obtain ⟨EE, hEE⟩ : ∃ EE, Hid ([(kd : Int)] ++ EI = EE) := ⟨_, rfl⟩
 rw [show (kd : Int) :: EI = EE from hEE.out]
 have HPI := hide PI
 clear PI
 go_enter Tryz.func136, Tryz.ntmps136
 go_upto_region 1 with fail
 rw [← hX]
 clear hX
 have S0 := belX X
 refine wp_region_held_drew (S := (fun w' => Below X.heap.size X w')) (by kernel_rfl) S0 (fun hHeld => ?_)
 refine tk 0 ?_
 refine wpAnyH_take (i := 1) (v := ?_) rfl (by kernel_rfl) (by kernel_rfl) (by kernel_rfl) (fun _ _ _ h => h) (Or.inl ⟨by rfl, ?_⟩) (by assumption) ?_
 rotate_left
 ·intro w hSw
  try dsimp only at hSw
  have c1 := QH.out.c1 hSw 0 _ rfl
  go_simp
  try with_reducible rfl
 try simp only [Act.put, zA, zB, zC, zD, zE, zF]
 refine tk 2 ?_
 refine tk 4 ?_
 refine wpAnyH_take (i := 5) (v := ?_) rfl (by kernel_rfl) (by kernel_rfl) (by kernel_rfl) (fun _ _ _ h => h) (Or.inl ⟨by rfl, ?_⟩) (by assumption) ?_
 rotate_left
 ·intro w hSw
  try dsimp only at hSw
  have c5 := QL.out.c1 hSw 1 _ rfl
  go_simp
  try with_reducible rfl
 try simp only [Act.put, zA, zB, zC, zD, zE, zF]
 refine tk 6 ?_
 refine tq 7 rfl (yieldsIf_load_mid (by rfl) 23 _ rfl w.heap.size 1 rfl [.int .i64 x, .int .i64 y] _ (fun _ h => QH.out.sub h 1 [.int .i64 x, .int .i64 y] rfl) Tryz.underlying23 rfl (by kernel_rfl)) ?_
 refine wpAnyH_ready (rs := [3, 8]) (by kernel_rfl) (by simp) ?_
 refine AllReadyH.cons rfl (fun K hK => ?_) (AllReadyH.cons rfl (fun K hK => ?_) AllReadyH.nil)
 ·rw [if_pos (by rfl)]
  go_wp2_with fail
  have S1 := S0.alloc S0.size (.cells #[.int .u8 (kd : Int)] 5)
  have OA := hide (own_one X.drew X.heap.size zN (kd : Int))
  refine hK.out _ _ S1 (fun hHeld => ?_)
  clear hK K
  try simp only [Act.put, zA, zB, zC, zD, zE, zF]
  refine zR 8 fun K hK => ?_
  go_wp2_with fail
  refine (HPI.out _).mono ?_
  rintro e W1 ⟨u1, rfl, o1, b1⟩
  have P1 := S1.trans (b1.mono S1.size)
  refine hK.out _ _ P1 (fun hHeld => ?_)
  clear hK K
  try simp only [Act.put, zA, zB, zC, zD, zE, zF]
  refine zR 9 fun K hK => ?_
  have oA := own_below OA.out b1 zN
  refine wp_join _ _ rfl X.heap.size (X.drew.alloc (.cells #[.int .u8 (kd : Int)] 5)).heap.size (.slice (some ⟨X.heap.size, 0, none⟩) 1 1) u1 [(kd : Int)] EI EE hEE rfl rfl oA o1 p1 (by simp; omega) P1.size ?_
  intro v' W9 ho hg
  have P9 : Below X.heap.size X W9 := P1.grown hg P1.size (fun j hj => by cases hj; exact Nat.le_refl _)
  have RR : Hid (W9.ownsRow w.heap.size 5 1 v' EE.length (EE.map (Value.int .u8)) ∧ Below w.heap.size w W9) := ⟨own_more ho BX.out.size, BX.out.trans (P9.mono BX.out.size)⟩
  refine hK.out _ _ P9 (fun hHeld => ?_)
  clear hK K
  try simp only [Act.put, zA, zB, zC, zD, zE, zF]
  refine tk 10 ?_
  refine wpAnyH_done (by kernel_rfl) ?_ _
  go_wp2
  go_ret
  exact ⟨v', rfl, RR.out⟩
 ·rw [if_pos (by rfl)]
  go_wp2_with fail
  refine (HPI.out _).mono ?_
  rintro e W1 ⟨u1, rfl, o1, b1⟩
  have P1 := S0.trans (b1.mono S0.size)
  refine hK.out _ _ P1 (fun hHeld => ?_)
  clear hK K
  try simp only [Act.put, zA, zB, zC, zD, zE, zF]
  refine zR 3 fun K hK => ?_
  go_wp2_with fail
  have S2 := P1.alloc P1.size (.cells #[.int .u8 (kd : Int)] 5)
  have oB := own_one W1 X.heap.size P1.size (kd : Int)
  have o1' := own_below o1 ((Below.refl _ W1).alloc zN (.cells #[.int .u8 (kd : Int)] 5)) zN
  refine hK.out _ _ S2 (fun hHeld => ?_)
  clear hK K
  try simp only [Act.put, zA, zB, zC, zD, zE, zF]
  refine zR 9 fun K hK => ?_
  refine wp_join _ _ rfl X.heap.size X.heap.size (.slice (some ⟨W1.heap.size, 0, none⟩) 1 1) u1 [(kd : Int)] EI EE hEE rfl rfl oB o1' p1 (by simp; omega) S2.size ?_
  intro v' W9 ho hg
  have P9 : Below X.heap.size X W9 := S2.grown hg S2.size (fun j hj => by cases hj; exact P1.size)
  have RR : Hid (W9.ownsRow w.heap.size 5 1 v' EE.length (EE.map (Value.int .u8)) ∧ Below w.heap.size w W9) := ⟨own_more ho BX.out.size, BX.out.trans (P9.mono BX.out.size)⟩
  refine hK.out _ _ P9 (fun hHeld => ?_)
  clear hK K
  try simp only [Act.put, zA, zB, zC, zD, zE, zF]
  refine tk 10 ?_
  refine wpAnyH_done (by kernel_rfl) ?_ _
  go_wp2
  go_ret
  exact ⟨v', rfl, RR.out⟩
end Go.Proofs.YtibfdoggolkljaaGreatDoor
