import Derived.Shelf.Abstract
import Derived.Test.YtibfdoggolkljaaGreatDoorJ37
set_option maxHeartbeats 4000000
set_option maxRecDepth 100000
namespace Go.Proofs.YtibfdoggolkljaaGreatDoor
open Go.RowKit Go.Wire1
structure LayC (vv : Int) (f1 f2 f3 f4 f5 f6 : Nat) : Prop where
 st : ∀ (kd x y : Nat) (w : World), kd < 128 → x < 1152921504606846976 → y < 1152921504606846976 →
  Calls Tryz.prog 136 #[.agg #[.int .i64 kd, .int .i64 x, .int .i64 y], .agg #[.int .i64 vv, .func (.func f1) #[] #[], .func (.func f2) #[] #[], .func (.func f3) #[] #[], .func (.func f4) #[] #[], .func (.func f5) #[] #[], .func (.func f6) #[] #[]]] w fun r w' => Bts w (staP vv kd x y) r w'
 pb : ∀ (x y : Nat) (w : World), x < 1152921504606846976 → y < 1152921504606846976 →
  Calls Tryz.prog f2 #[.agg #[.int .i64 x, .int .i64 y]] w fun r w' => Bts w (balP vv x y) r w'
 pv : ∀ (st : Nat) (sm : Bool) (w : World), st < 128 → Calls Tryz.prog f3 #[.int .i64 st, .bool sm] w fun r w' => Bts w (votP vv st sm) r w'
 ab : ∀ (sq : Nat) (ua : Option Addr) (uk uc : Nat) (dl : List Int) (w : World), sq < 9223372036854775808 → SegI w ua uk dl → 0 < (packR vv dl).length → (packR vv dl).length ≤ 1000 →
  Calls Tryz.prog 142 #[.agg #[.int .i64 vv, .func (.func f1) #[] #[], .func (.func f2) #[] #[], .func (.func f3) #[] #[], .func (.func f4) #[] #[], .func (.func f5) #[] #[], .func (.func f6) #[] #[]], .agg #[.int .i64 sq, .slice ua uk uc]] w fun r w' => Bts w (attP vv sq dl) r w'
 e2 : ∀ args w, (callFunc f2 args).run Tryz.prog w = .ok (.enter f2 args) w
 e3 : ∀ args w, (callFunc f3 args).run Tryz.prog w = .ok (.enter f3 args) w
 lo : ∀ (c : Cm) (sq : Nat) (ua : Option Addr) (uk uc : Nat) (dl : List Int) (w : World), Knd w → c.key.size ≤ 140737488351232 → c.key2.size ≤ 140737488351232 → -9223372036854775808 ≤ c.n → c.n ≤ 9223372036854775807 → chk vv c = 0 → sq < 9223372036854775808 → SegI w ua uk dl → 0 < (packR vv dl).length → (packR vv dl).length ≤ 1000 →
  Calls Tryz.prog 137 #[.agg #[.int .i64 c.kind, .int .i64 c.client, .int .i64 c.req, .string c.key, .string c.key2, .string c.val, .string c.old, .int .i64 c.n, .int .i64 sq, .slice ua uk uc], .agg #[.int .i64 vv, .func (.func f1) #[] #[], .func (.func f2) #[] #[], .func (.func f3) #[] #[], .func (.func f4) #[] #[], .func (.func f5) #[] #[], .func (.func f6) #[] #[]]] w fun r w' => Bts w (lodP vv c sq dl) r w'
theorem lc1 : LayC 1 25 26 27 28 29 30 := ⟨start1_any, putBallot1_any, putVote1_any, attr1_any, enters_of Tryz.func26 (by kernel_rfl) rfl, enters_of Tryz.func27 (by kernel_rfl) rfl, load1_any⟩
theorem lc2 : LayC 2 31 32 33 34 35 36 := ⟨start2_any, putBallot2_any, putVote2_any, attr2_any, enters_of Tryz.func32 (by kernel_rfl) rfl, enters_of Tryz.func33 (by kernel_rfl) rfl, load2_any⟩
theorem bytes_balloted {vv : Int} {f1 f2 f3 f4 f5 f6 : Nat} (lc : LayC vv f1 f2 f3 f4 f5 f6) (kd row num x y : Nat) (w : World) (hkd : kd < 128) (hrow : row < 1152921504606846976) (hnum : num < 1152921504606846976) (hx : x < 1152921504606846976) (hy : y < 1152921504606846976) :
  Calls Tryz.prog 158 #[.agg #[.int .i64 kd, .int .i64 row, .int .i64 num, .int .i64 x, .int .i64 y], .agg #[.int .i64 vv, .func (.func f1) #[] #[], .func (.func f2) #[] #[], .func (.func f3) #[] #[], .func (.func f4) #[] #[], .func (.func f5) #[] #[], .func (.func f6) #[] #[]]] w fun r w' => Bts w ([staP vv kd row num, balP vv x y] : List (List Int)).flatten r w' := by
 obtain ⟨X, hX, QS, QL, BX⟩ := zY w 82 [.int .i64 kd, .int .i64 row, .int .i64 num, .int .i64 x, .int .i64 y] 55 [.int .i64 vv, .func (.func f1) #[] #[], .func (.func f2) #[] #[], .func (.func f3) #[] #[], .func (.func f4) #[] #[], .func (.func f5) #[] #[], .func (.func f6) #[] #[]]
 have C0 : Hid (∀ W, Below X.heap.size X W → Calls Tryz.prog 136 #[.agg #[.int .i64 kd, .int .i64 row, .int .i64 num], .agg #[.int .i64 vv, .func (.func f1) #[] #[], .func (.func f2) #[] #[], .func (.func f3) #[] #[], .func (.func f4) #[] #[], .func (.func f5) #[] #[], .func (.func f6) #[] #[]]] W fun r w' => Bts W (staP vv kd row num) r w') := fun W hW => lc.st kd row num W hkd hrow hnum
 have q0 := staP_len vv kd row num
 have C1 : Hid (∀ W, Below X.heap.size X W → Calls Tryz.prog f2 #[.agg #[.int .i64 x, .int .i64 y]] W fun r w' => Bts W (balP vv x y) r w') := fun W hW => lc.pb x y W hx hy
 have q1 := balP_len vv x y
 generalize staP vv kd row num = SL at *
 generalize balP vv x y = BL at *
 have hTot : ([SL, BL] : List (List Int)).flatten.length ≤ 1000000 := by simp; omega
 obtain ⟨TL, hTL⟩ : ∃ TL, Hid (([SL, BL] : List (List Int)).flatten = TL) := ⟨_, rfl⟩
 rw [hTL.out]
 have E2 := lc.e2
 have E3 := lc.e3
 go_enter Tryz.func158, Tryz.ntmps158
 go_upto_region 1 with fail
 rw [← hX]
 clear hX
 have S0 := belX X
 refine wp_region_held_drew (S := (fun w' => Below X.heap.size X w')) (by kernel_rfl) S0 (fun hHeld => ?_)
 refine tk 0 ?_
 refine tq 1 rfl (yieldsIf_load_mid (by rfl) 72 _ rfl w.heap.size 0 rfl [.int .i64 kd, .int .i64 row, .int .i64 num] _ (fun _ h => QS.out.sub h 0 [.int .i64 kd, .int .i64 row, .int .i64 num] rfl) Tryz.underlying72 rfl (by kernel_rfl)) ?_
 refine tq 2 rfl (yieldsIf_load_mid (by rfl) 55 _ rfl (w.heap.size + 1) 0 rfl [.int .i64 vv, .func (.func f1) #[] #[], .func (.func f2) #[] #[], .func (.func f3) #[] #[], .func (.func f4) #[] #[], .func (.func f5) #[] #[], .func (.func f6) #[] #[]] _ (fun _ h => QL.out.sub h 0 [.int .i64 vv, .func (.func f1) #[] #[], .func (.func f2) #[] #[], .func (.func f3) #[] #[], .func (.func f4) #[] #[], .func (.func f5) #[] #[], .func (.func f6) #[] #[]] rfl) Tryz.underlying55 rfl (by kernel_rfl)) ?_
 refine tk 4 ?_
 refine wpAnyH_take (i := 5) (v := ?_) rfl (by kernel_rfl) (by kernel_rfl) (by kernel_rfl) (fun _ _ _ h => h) (Or.inl ⟨by rfl, ?_⟩) (by assumption) ?_
 rotate_left
 ·intro w hSw
  try dsimp only at hSw
  have c5 := QL.out.c1 hSw 2 _ rfl
  go_simp
  try with_reducible rfl
 try simp only [Act.put, zA, zB, zC, zD, zE, zF]
 refine tk 6 ?_
 refine tq 7 rfl (yieldsIf_load_mid (by rfl) 25 _ rfl w.heap.size 3 rfl [.int .i64 x, .int .i64 y] _ (fun _ h => QS.out.sub h 3 [.int .i64 x, .int .i64 y] rfl) Tryz.underlying25 rfl (by kernel_rfl)) ?_
 refine zR 3 fun K hK => ?_
 go_wp2_with fail
 refine (C0.out _ S0).mono ?_
 rintro e W0 ⟨u0, rfl, o0, b0⟩
 have P0 := S0.trans (b0.mono S0.size)
 clear b0
 obtain ⟨va0, vc0, rfl⟩ := own_shape o0
 refine hK.out _ _ P0 (fun hHeld => ?_)
 clear hK K
 try simp only [Act.put, zA, zB, zC, zD, zE, zF]
 refine zR 8 fun K hK => ?_
 go_wp2_with fail
 refine (C1.out _ P0).mono ?_
 rintro e W1 ⟨u1, rfl, o1, b1⟩
 have P1 := P0.trans (b1.mono P0.size)
 have o0 := own_below o0 b1 zN
 clear b1
 obtain ⟨va1, vc1, rfl⟩ := own_shape o1
 refine hK.out _ _ P1 (fun hHeld => ?_)
 clear hK K
 try simp only [Act.put, zA, zB, zC, zD, zE, zF]
 refine zR 9 fun K hK => ?_
 go_wp2_with fail
 have PA := P1.alloc P1.size (.cells #[.slice va0 SL.length vc0, .slice va1 BL.length vc1] 32)
 refine hK.out _ _ PA (fun hHeld => ?_)
 clear hK K
 try simp only [Act.put, zA, zB, zC, zD, zE, zF]
 refine zR 10 fun K hK => ?_
 go_wp2_with fail
 refine (concat_any _ [.slice va0 SL.length vc0, .slice va1 BL.length vc1] [SL, BL] 2 rfl (by decide) _ (srcs_new _ ⟨⟨_, o0⟩, q0.1, ⟨_, o1⟩, q1.1, trivial⟩) hTot).mono ?_
 rintro e W9 ⟨u9, rfl, o9, b9⟩
 have P9 := PA.trans (b9.mono PA.size)
 have RR : Hid (Bts w TL (.returned u9) W9) := by
  rw [← hTL.out]
  exact bts_box (BX.out.trans (PA.mono BX.out.size)) ⟨u9, rfl, o9, b9⟩
 refine hK.out _ _ P9 (fun hHeld => ?_)
 clear hK K
 try simp only [Act.put, zA, zB, zC, zD, zE, zF]
 refine tk 11 ?_
 refine wpAnyH_done (by kernel_rfl) ?_ _
 go_wp2
 go_ret
 exact RR.out
theorem bytes_estimate {vv : Int} {f1 f2 f3 f4 f5 f6 : Nat} (lc : LayC vv f1 f2 f3 f4 f5 f6) (kd row num x y sq : Nat) (ua : Option Addr) (uk uc : Nat) (dl : List Int) (w : World) (hkd : kd < 128) (hrow : row < 1152921504606846976) (hnum : num < 1152921504606846976) (hx : x < 1152921504606846976) (hy : y < 1152921504606846976) (hsq : sq < 9223372036854775808) (hI : SegI w ua uk dl) (hp0 : 0 < (packR vv dl).length) (hp1 : (packR vv dl).length ≤ 1000) :
  Calls Tryz.prog 156 #[.agg #[.int .i64 kd, .int .i64 row, .int .i64 num, .int .i64 x, .int .i64 y, .int .i64 sq, .slice ua uk uc], .agg #[.int .i64 vv, .func (.func f1) #[] #[], .func (.func f2) #[] #[], .func (.func f3) #[] #[], .func (.func f4) #[] #[], .func (.func f5) #[] #[], .func (.func f6) #[] #[]]] w fun r w' => Bts w ([staP vv kd row num, balP vv x y, attP vv sq dl] : List (List Int)).flatten r w' := by
 obtain ⟨X, hX, QS, QL, BX⟩ := zY w 80 [.int .i64 kd, .int .i64 row, .int .i64 num, .int .i64 x, .int .i64 y, .int .i64 sq, .slice ua uk uc] 55 [.int .i64 vv, .func (.func f1) #[] #[], .func (.func f2) #[] #[], .func (.func f3) #[] #[], .func (.func f4) #[] #[], .func (.func f5) #[] #[], .func (.func f6) #[] #[]]
 have HI : Hid (SegI X ua uk dl) := hI.below BX.out zN
 clear hI
 have C0 : Hid (∀ W, Below X.heap.size X W → Calls Tryz.prog 136 #[.agg #[.int .i64 kd, .int .i64 row, .int .i64 num], .agg #[.int .i64 vv, .func (.func f1) #[] #[], .func (.func f2) #[] #[], .func (.func f3) #[] #[], .func (.func f4) #[] #[], .func (.func f5) #[] #[], .func (.func f6) #[] #[]]] W fun r w' => Bts W (staP vv kd row num) r w') := fun W hW => lc.st kd row num W hkd hrow hnum
 have q0 := staP_len vv kd row num
 have C1 : Hid (∀ W, Below X.heap.size X W → Calls Tryz.prog f2 #[.agg #[.int .i64 x, .int .i64 y]] W fun r w' => Bts W (balP vv x y) r w') := fun W hW => lc.pb x y W hx hy
 have q1 := balP_len vv x y
 have C2 : Hid (∀ W, Below X.heap.size X W → Calls Tryz.prog 142 #[.agg #[.int .i64 vv, .func (.func f1) #[] #[], .func (.func f2) #[] #[], .func (.func f3) #[] #[], .func (.func f4) #[] #[], .func (.func f5) #[] #[], .func (.func f6) #[] #[]], .agg #[.int .i64 sq, .slice ua uk uc]] W fun r w' => Bts W (attP vv sq dl) r w') := fun W hW => lc.ab sq ua uk uc dl W hsq (HI.out.below hW zN) hp0 hp1
 have q2 := attP_len vv sq dl hp0 hp1
 generalize staP vv kd row num = SL at *
 generalize balP vv x y = BL at *
 generalize attP vv sq dl = AL at *
 have hTot : ([SL, BL, AL] : List (List Int)).flatten.length ≤ 1000000 := by simp; omega
 obtain ⟨TL, hTL⟩ : ∃ TL, Hid (([SL, BL, AL] : List (List Int)).flatten = TL) := ⟨_, rfl⟩
 rw [hTL.out]
 have E2 := lc.e2
 have E3 := lc.e3
 go_enter Tryz.func156, Tryz.ntmps156
 go_upto_region 1 with fail
 rw [← hX]
 clear hX
 have S0 := belX X
 refine wp_region_held_drew (S := (fun w' => Below X.heap.size X w')) (by kernel_rfl) S0 (fun hHeld => ?_)
 refine tk 0 ?_
 refine tq 1 rfl (yieldsIf_load_mid (by rfl) 72 _ rfl w.heap.size 0 rfl [.int .i64 kd, .int .i64 row, .int .i64 num] _ (fun _ h => QS.out.sub h 0 [.int .i64 kd, .int .i64 row, .int .i64 num] rfl) Tryz.underlying72 rfl (by kernel_rfl)) ?_
 refine tq 2 rfl (yieldsIf_load_mid (by rfl) 55 _ rfl (w.heap.size + 1) 0 rfl [.int .i64 vv, .func (.func f1) #[] #[], .func (.func f2) #[] #[], .func (.func f3) #[] #[], .func (.func f4) #[] #[], .func (.func f5) #[] #[], .func (.func f6) #[] #[]] _ (fun _ h => QL.out.sub h 0 [.int .i64 vv, .func (.func f1) #[] #[], .func (.func f2) #[] #[], .func (.func f3) #[] #[], .func (.func f4) #[] #[], .func (.func f5) #[] #[], .func (.func f6) #[] #[]] rfl) Tryz.underlying55 rfl (by kernel_rfl)) ?_
 refine tk 4 ?_
 refine wpAnyH_take (i := 5) (v := ?_) rfl (by kernel_rfl) (by kernel_rfl) (by kernel_rfl) (fun _ _ _ h => h) (Or.inl ⟨by rfl, ?_⟩) (by assumption) ?_
 rotate_left
 ·intro w hSw
  try dsimp only at hSw
  have c5 := QL.out.c1 hSw 2 _ rfl
  go_simp
  try with_reducible rfl
 try simp only [Act.put, zA, zB, zC, zD, zE, zF]
 refine tk 6 ?_
 refine tq 7 rfl (yieldsIf_load_mid (by rfl) 25 _ rfl w.heap.size 3 rfl [.int .i64 x, .int .i64 y] _ (fun _ h => QS.out.sub h 3 [.int .i64 x, .int .i64 y] rfl) Tryz.underlying25 rfl (by kernel_rfl)) ?_
 refine tq 9 rfl (yieldsIf_load_mid (by rfl) 55 _ rfl (w.heap.size + 1) 0 rfl [.int .i64 vv, .func (.func f1) #[] #[], .func (.func f2) #[] #[], .func (.func f3) #[] #[], .func (.func f4) #[] #[], .func (.func f5) #[] #[], .func (.func f6) #[] #[]] _ (fun _ h => QL.out.sub h 0 [.int .i64 vv, .func (.func f1) #[] #[], .func (.func f2) #[] #[], .func (.func f3) #[] #[], .func (.func f4) #[] #[], .func (.func f5) #[] #[], .func (.func f6) #[] #[]] rfl) Tryz.underlying55 rfl (by kernel_rfl)) ?_
 refine tk 10 ?_
 refine tq 11 rfl (yieldsIf_load_mid (by rfl) 74 _ rfl w.heap.size 5 rfl [.int .i64 sq, .slice ua uk uc] _ (fun _ h => QS.out.sub h 5 [.int .i64 sq, .slice ua uk uc] rfl) Tryz.underlying74 rfl (by kernel_rfl)) ?_
 refine zR 3 fun K hK => ?_
 go_wp2_with fail
 refine (C0.out _ S0).mono ?_
 rintro e W0 ⟨u0, rfl, o0, b0⟩
 have P0 := S0.trans (b0.mono S0.size)
 clear b0
 obtain ⟨va0, vc0, rfl⟩ := own_shape o0
 refine hK.out _ _ P0 (fun hHeld => ?_)
 clear hK K
 try simp only [Act.put, zA, zB, zC, zD, zE, zF]
 refine zR 8 fun K hK => ?_
 go_wp2_with fail
 refine (C1.out _ P0).mono ?_
 rintro e W1 ⟨u1, rfl, o1, b1⟩
 have P1 := P0.trans (b1.mono P0.size)
 have o0 := own_below o0 b1 zN
 clear b1
 obtain ⟨va1, vc1, rfl⟩ := own_shape o1
 refine hK.out _ _ P1 (fun hHeld => ?_)
 clear hK K
 try simp only [Act.put, zA, zB, zC, zD, zE, zF]
 refine zR 12 fun K hK => ?_
 go_wp2_with fail
 refine (C2.out _ P1).mono ?_
 rintro e W2 ⟨u2, rfl, o2, b2⟩
 have P2 := P1.trans (b2.mono P1.size)
 have o0 := own_below o0 b2 zN
 have o1 := own_below o1 b2 zN
 clear b2
 obtain ⟨va2, vc2, rfl⟩ := own_shape o2
 refine hK.out _ _ P2 (fun hHeld => ?_)
 clear hK K
 try simp only [Act.put, zA, zB, zC, zD, zE, zF]
 refine zR 13 fun K hK => ?_
 go_wp2_with fail
 have PA := P2.alloc P2.size (.cells #[.slice va0 SL.length vc0, .slice va1 BL.length vc1, .slice va2 AL.length vc2] 32)
 refine hK.out _ _ PA (fun hHeld => ?_)
 clear hK K
 try simp only [Act.put, zA, zB, zC, zD, zE, zF]
 refine zR 14 fun K hK => ?_
 go_wp2_with fail
 refine (concat_any _ [.slice va0 SL.length vc0, .slice va1 BL.length vc1, .slice va2 AL.length vc2] [SL, BL, AL] 3 rfl (by decide) _ (srcs_new _ ⟨⟨_, o0⟩, q0.1, ⟨_, o1⟩, q1.1, ⟨_, o2⟩, q2.1, trivial⟩) hTot).mono ?_
 rintro e W9 ⟨u9, rfl, o9, b9⟩
 have P9 := PA.trans (b9.mono PA.size)
 have RR : Hid (Bts w TL (.returned u9) W9) := by
  rw [← hTL.out]
  exact bts_box (BX.out.trans (PA.mono BX.out.size)) ⟨u9, rfl, o9, b9⟩
 refine hK.out _ _ P9 (fun hHeld => ?_)
 clear hK K
 try simp only [Act.put, zA, zB, zC, zD, zE, zF]
 refine tk 15 ?_
 refine wpAnyH_done (by kernel_rfl) ?_ _
 go_wp2
 go_ret
 exact RR.out
theorem bytes_proposal {vv : Int} {f1 f2 f3 f4 f5 f6 : Nat} (lc : LayC vv f1 f2 f3 f4 f5 f6) (kd row num x y : Nat) (c : Cm) (sq : Nat) (ua : Option Addr) (uk uc : Nat) (dl : List Int) (w : World) (hkd : kd < 128) (hrow : row < 1152921504606846976) (hnum : num < 1152921504606846976) (hx : x < 1152921504606846976) (hy : y < 1152921504606846976) (hKc : Knd w) (hk1 : c.key.size ≤ 140737488351232) (hk2 : c.key2.size ≤ 140737488351232) (hn1 : -9223372036854775808 ≤ c.n) (hn2 : c.n ≤ 9223372036854775807) (hz : chk vv c = 0) (hsq : sq < 9223372036854775808) (hI : SegI w ua uk dl) (hp0 : 0 < (packR vv dl).length) (hp1 : (packR vv dl).length ≤ 1000) :
  Calls Tryz.prog 133 #[.agg #[.int .i64 kd, .int .i64 row, .int .i64 num, .int .i64 x, .int .i64 y, .int .i64 c.kind, .int .i64 c.client, .int .i64 c.req, .string c.key, .string c.key2, .string c.val, .string c.old, .int .i64 c.n, .int .i64 sq, .slice ua uk uc], .agg #[.int .i64 vv, .func (.func f1) #[] #[], .func (.func f2) #[] #[], .func (.func f3) #[] #[], .func (.func f4) #[] #[], .func (.func f5) #[] #[], .func (.func f6) #[] #[]]] w fun r w' => Bts w ([staP vv kd row num, balP vv x y, lodP vv c sq dl] : List (List Int)).flatten r w' := by
 obtain ⟨X, hX, QS, QL, BX⟩ := zY w 78 [.int .i64 kd, .int .i64 row, .int .i64 num, .int .i64 x, .int .i64 y, .int .i64 c.kind, .int .i64 c.client, .int .i64 c.req, .string c.key, .string c.key2, .string c.val, .string c.old, .int .i64 c.n, .int .i64 sq, .slice ua uk uc] 55 [.int .i64 vv, .func (.func f1) #[] #[], .func (.func f2) #[] #[], .func (.func f3) #[] #[], .func (.func f4) #[] #[], .func (.func f5) #[] #[], .func (.func f6) #[] #[]]
 have HI : Hid (SegI X ua uk dl) := hI.below BX.out zN
 clear hI
 have HKC : Hid (Knd X) := hKc.below BX.out zN
 clear hKc
 have C0 : Hid (∀ W, Below X.heap.size X W → Calls Tryz.prog 136 #[.agg #[.int .i64 kd, .int .i64 row, .int .i64 num], .agg #[.int .i64 vv, .func (.func f1) #[] #[], .func (.func f2) #[] #[], .func (.func f3) #[] #[], .func (.func f4) #[] #[], .func (.func f5) #[] #[], .func (.func f6) #[] #[]]] W fun r w' => Bts W (staP vv kd row num) r w') := fun W hW => lc.st kd row num W hkd hrow hnum
 have q0 := staP_len vv kd row num
 have C1 : Hid (∀ W, Below X.heap.size X W → Calls Tryz.prog f2 #[.agg #[.int .i64 x, .int .i64 y]] W fun r w' => Bts W (balP vv x y) r w') := fun W hW => lc.pb x y W hx hy
 have q1 := balP_len vv x y
 have C2 : Hid (∀ W, Below X.heap.size X W → Calls Tryz.prog 137 #[.agg #[.int .i64 c.kind, .int .i64 c.client, .int .i64 c.req, .string c.key, .string c.key2, .string c.val, .string c.old, .int .i64 c.n, .int .i64 sq, .slice ua uk uc], .agg #[.int .i64 vv, .func (.func f1) #[] #[], .func (.func f2) #[] #[], .func (.func f3) #[] #[], .func (.func f4) #[] #[], .func (.func f5) #[] #[], .func (.func f6) #[] #[]]] W fun r w' => Bts W (lodP vv c sq dl) r w') := fun W hW => lc.lo c sq ua uk uc dl W (HKC.out.below hW zN) hk1 hk2 hn1 hn2 hz hsq (HI.out.below hW zN) hp0 hp1
 have q2 := lodP_len vv c sq dl hz hp0 hp1
 generalize staP vv kd row num = SL at *
 generalize balP vv x y = BL at *
 generalize lodP vv c sq dl = LL at *
 have hTot : ([SL, BL, LL] : List (List Int)).flatten.length ≤ 1000000 := by simp; omega
 obtain ⟨TL, hTL⟩ : ∃ TL, Hid (([SL, BL, LL] : List (List Int)).flatten = TL) := ⟨_, rfl⟩
 rw [hTL.out]
 have E2 := lc.e2
 have E3 := lc.e3
 go_enter Tryz.func133, Tryz.ntmps133
 go_upto_region 1 with fail
 rw [← hX]
 clear hX
 have S0 := belX X
 refine wp_region_held_drew (S := (fun w' => Below X.heap.size X w')) (by kernel_rfl) S0 (fun hHeld => ?_)
 refine tk 0 ?_
 refine tq 1 rfl (yieldsIf_load_mid (by rfl) 72 _ rfl w.heap.size 0 rfl [.int .i64 kd, .int .i64 row, .int .i64 num] _ (fun _ h => QS.out.sub h 0 [.int .i64 kd, .int .i64 row, .int .i64 num] rfl) Tryz.underlying72 rfl (by kernel_rfl)) ?_
 refine tq 2 rfl (yieldsIf_load_mid (by rfl) 55 _ rfl (w.heap.size + 1) 0 rfl [.int .i64 vv, .func (.func f1) #[] #[], .func (.func f2) #[] #[], .func (.func f3) #[] #[], .func (.func f4) #[] #[], .func (.func f5) #[] #[], .func (.func f6) #[] #[]] _ (fun _ h => QL.out.sub h 0 [.int .i64 vv, .func (.func f1) #[] #[], .func (.func f2) #[] #[], .func (.func f3) #[] #[], .func (.func f4) #[] #[], .func (.func f5) #[] #[], .func (.func f6) #[] #[]] rfl) Tryz.underlying55 rfl (by kernel_rfl)) ?_
 refine tk 4 ?_
 refine wpAnyH_take (i := 5) (v := ?_) rfl (by kernel_rfl) (by kernel_rfl) (by kernel_rfl) (fun _ _ _ h => h) (Or.inl ⟨by rfl, ?_⟩) (by assumption) ?_
 rotate_left
 ·intro w hSw
  try dsimp only at hSw
  have c5 := QL.out.c1 hSw 2 _ rfl
  go_simp
  try with_reducible rfl
 try simp only [Act.put, zA, zB, zC, zD, zE, zF]
 refine tk 6 ?_
 refine tq 7 rfl (yieldsIf_load_mid (by rfl) 25 _ rfl w.heap.size 3 rfl [.int .i64 x, .int .i64 y] _ (fun _ h => QS.out.sub h 3 [.int .i64 x, .int .i64 y] rfl) Tryz.underlying25 rfl (by kernel_rfl)) ?_
 refine tk 9 ?_
 refine tq 10 rfl (yieldsIf_load_mid (by rfl) 76 _ rfl w.heap.size 5 rfl [.int .i64 c.kind, .int .i64 c.client, .int .i64 c.req, .string c.key, .string c.key2, .string c.val, .string c.old, .int .i64 c.n, .int .i64 sq, .slice ua uk uc] _ (fun _ h => QS.out.sub h 5 [.int .i64 c.kind, .int .i64 c.client, .int .i64 c.req, .string c.key, .string c.key2, .string c.val, .string c.old, .int .i64 c.n, .int .i64 sq, .slice ua uk uc] rfl) Tryz.underlying76 rfl (by kernel_rfl)) ?_
 refine tq 11 rfl (yieldsIf_load_mid (by rfl) 55 _ rfl (w.heap.size + 1) 0 rfl [.int .i64 vv, .func (.func f1) #[] #[], .func (.func f2) #[] #[], .func (.func f3) #[] #[], .func (.func f4) #[] #[], .func (.func f5) #[] #[], .func (.func f6) #[] #[]] _ (fun _ h => QL.out.sub h 0 [.int .i64 vv, .func (.func f1) #[] #[], .func (.func f2) #[] #[], .func (.func f3) #[] #[], .func (.func f4) #[] #[], .func (.func f5) #[] #[], .func (.func f6) #[] #[]] rfl) Tryz.underlying55 rfl (by kernel_rfl)) ?_
 refine zR 3 fun K hK => ?_
 go_wp2_with fail
 refine (C0.out _ S0).mono ?_
 rintro e W0 ⟨u0, rfl, o0, b0⟩
 have P0 := S0.trans (b0.mono S0.size)
 clear b0
 obtain ⟨va0, vc0, rfl⟩ := own_shape o0
 refine hK.out _ _ P0 (fun hHeld => ?_)
 clear hK K
 try simp only [Act.put, zA, zB, zC, zD, zE, zF]
 refine zR 8 fun K hK => ?_
 go_wp2_with fail
 refine (C1.out _ P0).mono ?_
 rintro e W1 ⟨u1, rfl, o1, b1⟩
 have P1 := P0.trans (b1.mono P0.size)
 have o0 := own_below o0 b1 zN
 clear b1
 obtain ⟨va1, vc1, rfl⟩ := own_shape o1
 refine hK.out _ _ P1 (fun hHeld => ?_)
 clear hK K
 try simp only [Act.put, zA, zB, zC, zD, zE, zF]
 refine zR 12 fun K hK => ?_
 go_wp2_with fail
 refine (C2.out _ P1).mono ?_
 rintro e W2 ⟨u2, rfl, o2, b2⟩
 have P2 := P1.trans (b2.mono P1.size)
 have o0 := own_below o0 b2 zN
 have o1 := own_below o1 b2 zN
 clear b2
 obtain ⟨va2, vc2, rfl⟩ := own_shape o2
 refine hK.out _ _ P2 (fun hHeld => ?_)
 clear hK K
 try simp only [Act.put, zA, zB, zC, zD, zE, zF]
 refine zR 13 fun K hK => ?_
 go_wp2_with fail
 have PA := P2.alloc P2.size (.cells #[.slice va0 SL.length vc0, .slice va1 BL.length vc1, .slice va2 LL.length vc2] 32)
 refine hK.out _ _ PA (fun hHeld => ?_)
 clear hK K
 try simp only [Act.put, zA, zB, zC, zD, zE, zF]
 refine zR 14 fun K hK => ?_
 go_wp2_with fail
 refine (concat_any _ [.slice va0 SL.length vc0, .slice va1 BL.length vc1, .slice va2 LL.length vc2] [SL, BL, LL] 3 rfl (by decide) _ (srcs_new _ ⟨⟨_, o0⟩, q0.1, ⟨_, o1⟩, q1.1, ⟨_, o2⟩, q2.1, trivial⟩) hTot).mono ?_
 rintro e W9 ⟨u9, rfl, o9, b9⟩
 have P9 := PA.trans (b9.mono PA.size)
 have RR : Hid (Bts w TL (.returned u9) W9) := by
  rw [← hTL.out]
  exact bts_box (BX.out.trans (PA.mono BX.out.size)) ⟨u9, rfl, o9, b9⟩
 refine hK.out _ _ P9 (fun hHeld => ?_)
 clear hK K
 try simp only [Act.put, zA, zB, zC, zD, zE, zF]
 refine tk 15 ?_
 refine wpAnyH_done (by kernel_rfl) ?_ _
 go_wp2
 go_ret
 exact RR.out
theorem bytes_commit {vv : Int} {f1 f2 f3 f4 f5 f6 : Nat} (lc : LayC vv f1 f2 f3 f4 f5 f6) (kd row num : Nat) (c : Cm) (sq : Nat) (ua : Option Addr) (uk uc : Nat) (dl : List Int) (w : World) (hkd : kd < 128) (hrow : row < 1152921504606846976) (hnum : num < 1152921504606846976) (hKc : Knd w) (hk1 : c.key.size ≤ 140737488351232) (hk2 : c.key2.size ≤ 140737488351232) (hn1 : -9223372036854775808 ≤ c.n) (hn2 : c.n ≤ 9223372036854775807) (hz : chk vv c = 0) (hsq : sq < 9223372036854775808) (hI : SegI w ua uk dl) (hp0 : 0 < (packR vv dl).length) (hp1 : (packR vv dl).length ≤ 1000) :
  Calls Tryz.prog 160 #[.agg #[.int .i64 kd, .int .i64 row, .int .i64 num, .int .i64 c.kind, .int .i64 c.client, .int .i64 c.req, .string c.key, .string c.key2, .string c.val, .string c.old, .int .i64 c.n, .int .i64 sq, .slice ua uk uc], .agg #[.int .i64 vv, .func (.func f1) #[] #[], .func (.func f2) #[] #[], .func (.func f3) #[] #[], .func (.func f4) #[] #[], .func (.func f5) #[] #[], .func (.func f6) #[] #[]]] w fun r w' => Bts w ([staP vv kd row num, lodP vv c sq dl] : List (List Int)).flatten r w' := by
 obtain ⟨X, hX, QS, QL, BX⟩ := zY w 84 [.int .i64 kd, .int .i64 row, .int .i64 num, .int .i64 c.kind, .int .i64 c.client, .int .i64 c.req, .string c.key, .string c.key2, .string c.val, .string c.old, .int .i64 c.n, .int .i64 sq, .slice ua uk uc] 55 [.int .i64 vv, .func (.func f1) #[] #[], .func (.func f2) #[] #[], .func (.func f3) #[] #[], .func (.func f4) #[] #[], .func (.func f5) #[] #[], .func (.func f6) #[] #[]]
 have HI : Hid (SegI X ua uk dl) := hI.below BX.out zN
 clear hI
 have HKC : Hid (Knd X) := hKc.below BX.out zN
 clear hKc
 have C0 : Hid (∀ W, Below X.heap.size X W → Calls Tryz.prog 136 #[.agg #[.int .i64 kd, .int .i64 row, .int .i64 num], .agg #[.int .i64 vv, .func (.func f1) #[] #[], .func (.func f2) #[] #[], .func (.func f3) #[] #[], .func (.func f4) #[] #[], .func (.func f5) #[] #[], .func (.func f6) #[] #[]]] W fun r w' => Bts W (staP vv kd row num) r w') := fun W hW => lc.st kd row num W hkd hrow hnum
 have q0 := staP_len vv kd row num
 have C1 : Hid (∀ W, Below X.heap.size X W → Calls Tryz.prog 137 #[.agg #[.int .i64 c.kind, .int .i64 c.client, .int .i64 c.req, .string c.key, .string c.key2, .string c.val, .string c.old, .int .i64 c.n, .int .i64 sq, .slice ua uk uc], .agg #[.int .i64 vv, .func (.func f1) #[] #[], .func (.func f2) #[] #[], .func (.func f3) #[] #[], .func (.func f4) #[] #[], .func (.func f5) #[] #[], .func (.func f6) #[] #[]]] W fun r w' => Bts W (lodP vv c sq dl) r w') := fun W hW => lc.lo c sq ua uk uc dl W (HKC.out.below hW zN) hk1 hk2 hn1 hn2 hz hsq (HI.out.below hW zN) hp0 hp1
 have q1 := lodP_len vv c sq dl hz hp0 hp1
 generalize staP vv kd row num = SL at *
 generalize lodP vv c sq dl = LL at *
 have hTot : ([SL, LL] : List (List Int)).flatten.length ≤ 1000000 := by simp; omega
 obtain ⟨TL, hTL⟩ : ∃ TL, Hid (([SL, LL] : List (List Int)).flatten = TL) := ⟨_, rfl⟩
 rw [hTL.out]
 have E2 := lc.e2
 have E3 := lc.e3
 go_enter Tryz.func160, Tryz.ntmps160
 go_upto_region 1 with fail
 rw [← hX]
 clear hX
 have S0 := belX X
 refine wp_region_held_drew (S := (fun w' => Below X.heap.size X w')) (by kernel_rfl) S0 (fun hHeld => ?_)
 refine tk 0 ?_
 refine tq 1 rfl (yieldsIf_load_mid (by rfl) 72 _ rfl w.heap.size 0 rfl [.int .i64 kd, .int .i64 row, .int .i64 num] _ (fun _ h => QS.out.sub h 0 [.int .i64 kd, .int .i64 row, .int .i64 num] rfl) Tryz.underlying72 rfl (by kernel_rfl)) ?_
 refine tq 2 rfl (yieldsIf_load_mid (by rfl) 55 _ rfl (w.heap.size + 1) 0 rfl [.int .i64 vv, .func (.func f1) #[] #[], .func (.func f2) #[] #[], .func (.func f3) #[] #[], .func (.func f4) #[] #[], .func (.func f5) #[] #[], .func (.func f6) #[] #[]] _ (fun _ h => QL.out.sub h 0 [.int .i64 vv, .func (.func f1) #[] #[], .func (.func f2) #[] #[], .func (.func f3) #[] #[], .func (.func f4) #[] #[], .func (.func f5) #[] #[], .func (.func f6) #[] #[]] rfl) Tryz.underlying55 rfl (by kernel_rfl)) ?_
 refine tk 4 ?_
 refine tq 5 rfl (yieldsIf_load_mid (by rfl) 76 _ rfl w.heap.size 3 rfl [.int .i64 c.kind, .int .i64 c.client, .int .i64 c.req, .string c.key, .string c.key2, .string c.val, .string c.old, .int .i64 c.n, .int .i64 sq, .slice ua uk uc] _ (fun _ h => QS.out.sub h 3 [.int .i64 c.kind, .int .i64 c.client, .int .i64 c.req, .string c.key, .string c.key2, .string c.val, .string c.old, .int .i64 c.n, .int .i64 sq, .slice ua uk uc] rfl) Tryz.underlying76 rfl (by kernel_rfl)) ?_
 refine tq 6 rfl (yieldsIf_load_mid (by rfl) 55 _ rfl (w.heap.size + 1) 0 rfl [.int .i64 vv, .func (.func f1) #[] #[], .func (.func f2) #[] #[], .func (.func f3) #[] #[], .func (.func f4) #[] #[], .func (.func f5) #[] #[], .func (.func f6) #[] #[]] _ (fun _ h => QL.out.sub h 0 [.int .i64 vv, .func (.func f1) #[] #[], .func (.func f2) #[] #[], .func (.func f3) #[] #[], .func (.func f4) #[] #[], .func (.func f5) #[] #[], .func (.func f6) #[] #[]] rfl) Tryz.underlying55 rfl (by kernel_rfl)) ?_
 refine zR 3 fun K hK => ?_
 go_wp2_with fail
 refine (C0.out _ S0).mono ?_
 rintro e W0 ⟨u0, rfl, o0, b0⟩
 have P0 := S0.trans (b0.mono S0.size)
 clear b0
 obtain ⟨va0, vc0, rfl⟩ := own_shape o0
 refine hK.out _ _ P0 (fun hHeld => ?_)
 clear hK K
 try simp only [Act.put, zA, zB, zC, zD, zE, zF]
 refine zR 7 fun K hK => ?_
 go_wp2_with fail
 refine (C1.out _ P0).mono ?_
 rintro e W1 ⟨u1, rfl, o1, b1⟩
 have P1 := P0.trans (b1.mono P0.size)
 have o0 := own_below o0 b1 zN
 clear b1
 obtain ⟨va1, vc1, rfl⟩ := own_shape o1
 refine hK.out _ _ P1 (fun hHeld => ?_)
 clear hK K
 try simp only [Act.put, zA, zB, zC, zD, zE, zF]
 refine zR 8 fun K hK => ?_
 go_wp2_with fail
 have PA := P1.alloc P1.size (.cells #[.slice va0 SL.length vc0, .slice va1 LL.length vc1] 32)
 refine hK.out _ _ PA (fun hHeld => ?_)
 clear hK K
 try simp only [Act.put, zA, zB, zC, zD, zE, zF]
 refine zR 9 fun K hK => ?_
 go_wp2_with fail
 refine (concat_any _ [.slice va0 SL.length vc0, .slice va1 LL.length vc1] [SL, LL] 2 rfl (by decide) _ (srcs_new _ ⟨⟨_, o0⟩, q0.1, ⟨_, o1⟩, q1.1, trivial⟩) hTot).mono ?_
 rintro e W9 ⟨u9, rfl, o9, b9⟩
 have P9 := PA.trans (b9.mono PA.size)
 have RR : Hid (Bts w TL (.returned u9) W9) := by
  rw [← hTL.out]
  exact bts_box (BX.out.trans (PA.mono BX.out.size)) ⟨u9, rfl, o9, b9⟩
 refine hK.out _ _ P9 (fun hHeld => ?_)
 clear hK K
 try simp only [Act.put, zA, zB, zC, zD, zE, zF]
 refine tk 10 ?_
 refine wpAnyH_done (by kernel_rfl) ?_ _
 go_wp2
 go_ret
 exact RR.out
theorem bytes_noVote {vv : Int} {f1 f2 f3 f4 f5 f6 : Nat} (lc : LayC vv f1 f2 f3 f4 f5 f6) (kd row num x y : Nat) (w : World) (hkd : kd < 128) (hrow : row < 1152921504606846976) (hnum : num < 1152921504606846976) (hx : x < 1152921504606846976) (hy : y < 1152921504606846976) :
  Calls Tryz.prog 162 #[.agg #[.int .i64 kd, .int .i64 row, .int .i64 num, .int .i64 x, .int .i64 y], .agg #[.int .i64 vv, .func (.func f1) #[] #[], .func (.func f2) #[] #[], .func (.func f3) #[] #[], .func (.func f4) #[] #[], .func (.func f5) #[] #[], .func (.func f6) #[] #[]]] w fun r w' => Bts w ([staP vv kd row num, balP vv x y, votP vv 0 false] : List (List Int)).flatten r w' := by
 obtain ⟨X, hX, QS, QL, BX⟩ := zY w 85 [.int .i64 kd, .int .i64 row, .int .i64 num, .int .i64 x, .int .i64 y] 55 [.int .i64 vv, .func (.func f1) #[] #[], .func (.func f2) #[] #[], .func (.func f3) #[] #[], .func (.func f4) #[] #[], .func (.func f5) #[] #[], .func (.func f6) #[] #[]]
 have C0 : Hid (∀ W, Below X.heap.size X W → Calls Tryz.prog 136 #[.agg #[.int .i64 kd, .int .i64 row, .int .i64 num], .agg #[.int .i64 vv, .func (.func f1) #[] #[], .func (.func f2) #[] #[], .func (.func f3) #[] #[], .func (.func f4) #[] #[], .func (.func f5) #[] #[], .func (.func f6) #[] #[]]] W fun r w' => Bts W (staP vv kd row num) r w') := fun W hW => lc.st kd row num W hkd hrow hnum
 have q0 := staP_len vv kd row num
 have C1 : Hid (∀ W, Below X.heap.size X W → Calls Tryz.prog f2 #[.agg #[.int .i64 x, .int .i64 y]] W fun r w' => Bts W (balP vv x y) r w') := fun W hW => lc.pb x y W hx hy
 have q1 := balP_len vv x y
 have C2 : Hid (∀ W, Below X.heap.size X W → Calls Tryz.prog f3 #[.int .i64 0, .bool false] W fun r w' => Bts W (votP vv 0 false) r w') := fun W hW => lc.pv 0 false W (by decide)
 have q2 := votP_len vv 0 false
 generalize staP vv kd row num = SL at *
 generalize balP vv x y = BL at *
 generalize votP vv 0 false = VL at *
 have hTot : ([SL, BL, VL] : List (List Int)).flatten.length ≤ 1000000 := by simp; omega
 obtain ⟨TL, hTL⟩ : ∃ TL, Hid (([SL, BL, VL] : List (List Int)).flatten = TL) := ⟨_, rfl⟩
 rw [hTL.out]
 have E2 := lc.e2
 have E3 := lc.e3
 go_enter Tryz.func162, Tryz.ntmps162
 go_upto_region 1 with fail
 rw [← hX]
 clear hX
 have S0 := belX X
 refine wp_region_held_drew (S := (fun w' => Below X.heap.size X w')) (by kernel_rfl) S0 (fun hHeld => ?_)
 refine tk 0 ?_
 refine tq 1 rfl (yieldsIf_load_mid (by rfl) 72 _ rfl w.heap.size 0 rfl [.int .i64 kd, .int .i64 row, .int .i64 num] _ (fun _ h => QS.out.sub h 0 [.int .i64 kd, .int .i64 row, .int .i64 num] rfl) Tryz.underlying72 rfl (by kernel_rfl)) ?_
 refine tq 2 rfl (yieldsIf_load_mid (by rfl) 55 _ rfl (w.heap.size + 1) 0 rfl [.int .i64 vv, .func (.func f1) #[] #[], .func (.func f2) #[] #[], .func (.func f3) #[] #[], .func (.func f4) #[] #[], .func (.func f5) #[] #[], .func (.func f6) #[] #[]] _ (fun _ h => QL.out.sub h 0 [.int .i64 vv, .func (.func f1) #[] #[], .func (.func f2) #[] #[], .func (.func f3) #[] #[], .func (.func f4) #[] #[], .func (.func f5) #[] #[], .func (.func f6) #[] #[]] rfl) Tryz.underlying55 rfl (by kernel_rfl)) ?_
 refine tk 4 ?_
 refine wpAnyH_take (i := 5) (v := ?_) rfl (by kernel_rfl) (by kernel_rfl) (by kernel_rfl) (fun _ _ _ h => h) (Or.inl ⟨by rfl, ?_⟩) (by assumption) ?_
 rotate_left
 ·intro w hSw
  try dsimp only at hSw
  have c5 := QL.out.c1 hSw 2 _ rfl
  go_simp
  try with_reducible rfl
 try simp only [Act.put, zA, zB, zC, zD, zE, zF]
 refine tk 6 ?_
 refine tq 7 rfl (yieldsIf_load_mid (by rfl) 25 _ rfl w.heap.size 3 rfl [.int .i64 x, .int .i64 y] _ (fun _ h => QS.out.sub h 3 [.int .i64 x, .int .i64 y] rfl) Tryz.underlying25 rfl (by kernel_rfl)) ?_
 refine tk 9 ?_
 refine wpAnyH_take (i := 10) (v := ?_) rfl (by kernel_rfl) (by kernel_rfl) (by kernel_rfl) (fun _ _ _ h => h) (Or.inl ⟨by rfl, ?_⟩) (by assumption) ?_
 rotate_left
 ·intro w hSw
  try dsimp only at hSw
  have c10 := QL.out.c1 hSw 3 _ rfl
  go_simp
  try with_reducible rfl
 try simp only [Act.put, zA, zB, zC, zD, zE, zF]
 refine zR 3 fun K hK => ?_
 go_wp2_with fail
 refine (C0.out _ S0).mono ?_
 rintro e W0 ⟨u0, rfl, o0, b0⟩
 have P0 := S0.trans (b0.mono S0.size)
 clear b0
 obtain ⟨va0, vc0, rfl⟩ := own_shape o0
 refine hK.out _ _ P0 (fun hHeld => ?_)
 clear hK K
 try simp only [Act.put, zA, zB, zC, zD, zE, zF]
 refine zR 8 fun K hK => ?_
 go_wp2_with fail
 refine (C1.out _ P0).mono ?_
 rintro e W1 ⟨u1, rfl, o1, b1⟩
 have P1 := P0.trans (b1.mono P0.size)
 have o0 := own_below o0 b1 zN
 clear b1
 obtain ⟨va1, vc1, rfl⟩ := own_shape o1
 refine hK.out _ _ P1 (fun hHeld => ?_)
 clear hK K
 try simp only [Act.put, zA, zB, zC, zD, zE, zF]
 refine zR 11 fun K hK => ?_
 go_wp2_with fail
 refine (C2.out _ P1).mono ?_
 rintro e W2 ⟨u2, rfl, o2, b2⟩
 have P2 := P1.trans (b2.mono P1.size)
 have o0 := own_below o0 b2 zN
 have o1 := own_below o1 b2 zN
 clear b2
 obtain ⟨va2, vc2, rfl⟩ := own_shape o2
 refine hK.out _ _ P2 (fun hHeld => ?_)
 clear hK K
 try simp only [Act.put, zA, zB, zC, zD, zE, zF]
 refine zR 12 fun K hK => ?_
 go_wp2_with fail
 have PA := P2.alloc P2.size (.cells #[.slice va0 SL.length vc0, .slice va1 BL.length vc1, .slice va2 VL.length vc2] 32)
 refine hK.out _ _ PA (fun hHeld => ?_)
 clear hK K
 try simp only [Act.put, zA, zB, zC, zD, zE, zF]
 refine zR 13 fun K hK => ?_
 go_wp2_with fail
 refine (concat_any _ [.slice va0 SL.length vc0, .slice va1 BL.length vc1, .slice va2 VL.length vc2] [SL, BL, VL] 3 rfl (by decide) _ (srcs_new _ ⟨⟨_, o0⟩, q0.1, ⟨_, o1⟩, q1.1, ⟨_, o2⟩, q2.1, trivial⟩) hTot).mono ?_
 rintro e W9 ⟨u9, rfl, o9, b9⟩
 have P9 := PA.trans (b9.mono PA.size)
 have RR : Hid (Bts w TL (.returned u9) W9) := by
  rw [← hTL.out]
  exact bts_box (BX.out.trans (PA.mono BX.out.size)) ⟨u9, rfl, o9, b9⟩
 refine hK.out _ _ P9 (fun hHeld => ?_)
 clear hK K
 try simp only [Act.put, zA, zB, zC, zD, zE, zF]
 refine tk 14 ?_
 refine wpAnyH_done (by kernel_rfl) ?_ _
 go_wp2
 go_ret
 exact RR.out
theorem bytes_vote {vv : Int} {f1 f2 f3 f4 f5 f6 : Nat} (lc : LayC vv f1 f2 f3 f4 f5 f6) (kd row num x y st : Nat) (sm : Bool) (p q : Nat) (c : Cm) (sq : Nat) (ua : Option Addr) (uk uc : Nat) (dl : List Int) (w : World) (hkd : kd < 128) (hrow : row < 1152921504606846976) (hnum : num < 1152921504606846976) (hx : x < 1152921504606846976) (hy : y < 1152921504606846976) (hst : st < 128) (hp : p < 1152921504606846976) (hq : q < 1152921504606846976) (hKc : Knd w) (hk1 : c.key.size ≤ 140737488351232) (hk2 : c.key2.size ≤ 140737488351232) (hn1 : -9223372036854775808 ≤ c.n) (hn2 : c.n ≤ 9223372036854775807) (hz : chk vv c = 0) (hsq : sq < 9223372036854775808) (hI : SegI w ua uk dl) (hp0 : 0 < (packR vv dl).length) (hp1 : (packR vv dl).length ≤ 1000) :
  Calls Tryz.prog 164 #[.agg #[.int .i64 kd, .int .i64 row, .int .i64 num, .int .i64 x, .int .i64 y, .int .i64 st, .bool sm, .int .i64 p, .int .i64 q, .int .i64 c.kind, .int .i64 c.client, .int .i64 c.req, .string c.key, .string c.key2, .string c.val, .string c.old, .int .i64 c.n, .int .i64 sq, .slice ua uk uc], .agg #[.int .i64 vv, .func (.func f1) #[] #[], .func (.func f2) #[] #[], .func (.func f3) #[] #[], .func (.func f4) #[] #[], .func (.func f5) #[] #[], .func (.func f6) #[] #[]]] w fun r w' => Bts w ([staP vv kd row num, balP vv x y, votP vv st sm, balP vv p q, lodP vv c sq dl] : List (List Int)).flatten r w' := by
 obtain ⟨X, hX, QS, QL, BX⟩ := zY w 87 [.int .i64 kd, .int .i64 row, .int .i64 num, .int .i64 x, .int .i64 y, .int .i64 st, .bool sm, .int .i64 p, .int .i64 q, .int .i64 c.kind, .int .i64 c.client, .int .i64 c.req, .string c.key, .string c.key2, .string c.val, .string c.old, .int .i64 c.n, .int .i64 sq, .slice ua uk uc] 55 [.int .i64 vv, .func (.func f1) #[] #[], .func (.func f2) #[] #[], .func (.func f3) #[] #[], .func (.func f4) #[] #[], .func (.func f5) #[] #[], .func (.func f6) #[] #[]]
 have HI : Hid (SegI X ua uk dl) := hI.below BX.out zN
 clear hI
 have HKC : Hid (Knd X) := hKc.below BX.out zN
 clear hKc
 have C0 : Hid (∀ W, Below X.heap.size X W → Calls Tryz.prog 136 #[.agg #[.int .i64 kd, .int .i64 row, .int .i64 num], .agg #[.int .i64 vv, .func (.func f1) #[] #[], .func (.func f2) #[] #[], .func (.func f3) #[] #[], .func (.func f4) #[] #[], .func (.func f5) #[] #[], .func (.func f6) #[] #[]]] W fun r w' => Bts W (staP vv kd row num) r w') := fun W hW => lc.st kd row num W hkd hrow hnum
 have q0 := staP_len vv kd row num
 have C1 : Hid (∀ W, Below X.heap.size X W → Calls Tryz.prog f2 #[.agg #[.int .i64 x, .int .i64 y]] W fun r w' => Bts W (balP vv x y) r w') := fun W hW => lc.pb x y W hx hy
 have q1 := balP_len vv x y
 have C2 : Hid (∀ W, Below X.heap.size X W → Calls Tryz.prog f3 #[.int .i64 st, .bool sm] W fun r w' => Bts W (votP vv st sm) r w') := fun W hW => lc.pv st sm W hst
 have q2 := votP_len vv st sm
 have C3 : Hid (∀ W, Below X.heap.size X W → Calls Tryz.prog f2 #[.agg #[.int .i64 p, .int .i64 q]] W fun r w' => Bts W (balP vv p q) r w') := fun W hW => lc.pb p q W hp hq
 have q3 := balP_len vv p q
 have C4 : Hid (∀ W, Below X.heap.size X W → Calls Tryz.prog 137 #[.agg #[.int .i64 c.kind, .int .i64 c.client, .int .i64 c.req, .string c.key, .string c.key2, .string c.val, .string c.old, .int .i64 c.n, .int .i64 sq, .slice ua uk uc], .agg #[.int .i64 vv, .func (.func f1) #[] #[], .func (.func f2) #[] #[], .func (.func f3) #[] #[], .func (.func f4) #[] #[], .func (.func f5) #[] #[], .func (.func f6) #[] #[]]] W fun r w' => Bts W (lodP vv c sq dl) r w') := fun W hW => lc.lo c sq ua uk uc dl W (HKC.out.below hW zN) hk1 hk2 hn1 hn2 hz hsq (HI.out.below hW zN) hp0 hp1
 have q4 := lodP_len vv c sq dl hz hp0 hp1
 generalize staP vv kd row num = SL at *
 generalize balP vv x y = BL at *
 generalize votP vv st sm = VL at *
 generalize balP vv p q = PL_ at *
 generalize lodP vv c sq dl = LL at *
 have hTot : ([SL, BL, VL, PL_, LL] : List (List Int)).flatten.length ≤ 1000000 := by simp; omega
 obtain ⟨TL, hTL⟩ : ∃ TL, Hid (([SL, BL, VL, PL_, LL] : List (List Int)).flatten = TL) := ⟨_, rfl⟩
 rw [hTL.out]
 have E2 := lc.e2
 have E3 := lc.e3
 go_enter Tryz.func164, Tryz.ntmps164
 go_upto_region 1 with fail
 rw [← hX]
 clear hX
 have S0 := belX X
 refine wp_region_held_drew (S := (fun w' => Below X.heap.size X w')) (by kernel_rfl) S0 (fun hHeld => ?_)
 refine tk 0 ?_
 refine tq 1 rfl (yieldsIf_load_mid (by rfl) 72 _ rfl w.heap.size 0 rfl [.int .i64 kd, .int .i64 row, .int .i64 num] _ (fun _ h => QS.out.sub h 0 [.int .i64 kd, .int .i64 row, .int .i64 num] rfl) Tryz.underlying72 rfl (by kernel_rfl)) ?_
 refine tq 2 rfl (yieldsIf_load_mid (by rfl) 55 _ rfl (w.heap.size + 1) 0 rfl [.int .i64 vv, .func (.func f1) #[] #[], .func (.func f2) #[] #[], .func (.func f3) #[] #[], .func (.func f4) #[] #[], .func (.func f5) #[] #[], .func (.func f6) #[] #[]] _ (fun _ h => QL.out.sub h 0 [.int .i64 vv, .func (.func f1) #[] #[], .func (.func f2) #[] #[], .func (.func f3) #[] #[], .func (.func f4) #[] #[], .func (.func f5) #[] #[], .func (.func f6) #[] #[]] rfl) Tryz.underlying55 rfl (by kernel_rfl)) ?_
 refine tk 4 ?_
 refine wpAnyH_take (i := 5) (v := ?_) rfl (by kernel_rfl) (by kernel_rfl) (by kernel_rfl) (fun _ _ _ h => h) (Or.inl ⟨by rfl, ?_⟩) (by assumption) ?_
 rotate_left
 ·intro w hSw
  try dsimp only at hSw
  have c5 := QL.out.c1 hSw 2 _ rfl
  go_simp
  try with_reducible rfl
 try simp only [Act.put, zA, zB, zC, zD, zE, zF]
 refine tk 6 ?_
 refine tq 7 rfl (yieldsIf_load_mid (by rfl) 25 _ rfl w.heap.size 3 rfl [.int .i64 x, .int .i64 y] _ (fun _ h => QS.out.sub h 3 [.int .i64 x, .int .i64 y] rfl) Tryz.underlying25 rfl (by kernel_rfl)) ?_
 refine tk 9 ?_
 refine wpAnyH_take (i := 10) (v := ?_) rfl (by kernel_rfl) (by kernel_rfl) (by kernel_rfl) (fun _ _ _ h => h) (Or.inl ⟨by rfl, ?_⟩) (by assumption) ?_
 rotate_left
 ·intro w hSw
  try dsimp only at hSw
  have c10 := QL.out.c1 hSw 3 _ rfl
  go_simp
  try with_reducible rfl
 try simp only [Act.put, zA, zB, zC, zD, zE, zF]
 refine tk 11 ?_
 refine wpAnyH_take (i := 12) (v := ?_) rfl (by kernel_rfl) (by kernel_rfl) (by kernel_rfl) (fun _ _ _ h => h) (Or.inl ⟨by rfl, ?_⟩) (by assumption) ?_
 rotate_left
 ·intro w hSw
  try dsimp only at hSw
  have c12 := QS.out.c1 hSw 5 _ rfl
  go_simp
  try with_reducible rfl
 try simp only [Act.put, zA, zB, zC, zD, zE, zF]
 refine tk 13 ?_
 refine wpAnyH_take (i := 14) (v := ?_) rfl (by kernel_rfl) (by kernel_rfl) (by kernel_rfl) (fun _ _ _ h => h) (Or.inl ⟨by rfl, ?_⟩) (by assumption) ?_
 rotate_left
 ·intro w hSw
  try dsimp only at hSw
  have c14 := QS.out.c1 hSw 6 _ rfl
  go_simp
  try with_reducible rfl
 try simp only [Act.put, zA, zB, zC, zD, zE, zF]
 refine tk 16 ?_
 refine wpAnyH_take (i := 17) (v := ?_) rfl (by kernel_rfl) (by kernel_rfl) (by kernel_rfl) (fun _ _ _ h => h) (Or.inl ⟨by rfl, ?_⟩) (by assumption) ?_
 rotate_left
 ·intro w hSw
  try dsimp only at hSw
  have c17 := QL.out.c1 hSw 2 _ rfl
  go_simp
  try with_reducible rfl
 try simp only [Act.put, zA, zB, zC, zD, zE, zF]
 refine tk 18 ?_
 refine tq 19 rfl (yieldsIf_load_mid (by rfl) 25 _ rfl w.heap.size 7 rfl [.int .i64 p, .int .i64 q] _ (fun _ h => QS.out.sub h 7 [.int .i64 p, .int .i64 q] rfl) Tryz.underlying25 rfl (by kernel_rfl)) ?_
 refine tk 21 ?_
 refine tq 22 rfl (yieldsIf_load_mid (by rfl) 76 _ rfl w.heap.size 9 rfl [.int .i64 c.kind, .int .i64 c.client, .int .i64 c.req, .string c.key, .string c.key2, .string c.val, .string c.old, .int .i64 c.n, .int .i64 sq, .slice ua uk uc] _ (fun _ h => QS.out.sub h 9 [.int .i64 c.kind, .int .i64 c.client, .int .i64 c.req, .string c.key, .string c.key2, .string c.val, .string c.old, .int .i64 c.n, .int .i64 sq, .slice ua uk uc] rfl) Tryz.underlying76 rfl (by kernel_rfl)) ?_
 refine tq 23 rfl (yieldsIf_load_mid (by rfl) 55 _ rfl (w.heap.size + 1) 0 rfl [.int .i64 vv, .func (.func f1) #[] #[], .func (.func f2) #[] #[], .func (.func f3) #[] #[], .func (.func f4) #[] #[], .func (.func f5) #[] #[], .func (.func f6) #[] #[]] _ (fun _ h => QL.out.sub h 0 [.int .i64 vv, .func (.func f1) #[] #[], .func (.func f2) #[] #[], .func (.func f3) #[] #[], .func (.func f4) #[] #[], .func (.func f5) #[] #[], .func (.func f6) #[] #[]] rfl) Tryz.underlying55 rfl (by kernel_rfl)) ?_
 refine zR 3 fun K hK => ?_
 go_wp2_with fail
 refine (C0.out _ S0).mono ?_
 rintro e W0 ⟨u0, rfl, o0, b0⟩
 have P0 := S0.trans (b0.mono S0.size)
 clear b0
 obtain ⟨va0, vc0, rfl⟩ := own_shape o0
 refine hK.out _ _ P0 (fun hHeld => ?_)
 clear hK K
 try simp only [Act.put, zA, zB, zC, zD, zE, zF]
 refine zR 8 fun K hK => ?_
 go_wp2_with fail
 refine (C1.out _ P0).mono ?_
 rintro e W1 ⟨u1, rfl, o1, b1⟩
 have P1 := P0.trans (b1.mono P0.size)
 have o0 := own_below o0 b1 zN
 clear b1
 obtain ⟨va1, vc1, rfl⟩ := own_shape o1
 refine hK.out _ _ P1 (fun hHeld => ?_)
 clear hK K
 try simp only [Act.put, zA, zB, zC, zD, zE, zF]
 refine zR 15 fun K hK => ?_
 go_wp2_with fail
 refine (C2.out _ P1).mono ?_
 rintro e W2 ⟨u2, rfl, o2, b2⟩
 have P2 := P1.trans (b2.mono P1.size)
 have o0 := own_below o0 b2 zN
 have o1 := own_below o1 b2 zN
 clear b2
 obtain ⟨va2, vc2, rfl⟩ := own_shape o2
 refine hK.out _ _ P2 (fun hHeld => ?_)
 clear hK K
 try simp only [Act.put, zA, zB, zC, zD, zE, zF]
 refine zR 20 fun K hK => ?_
 go_wp2_with fail
 refine (C3.out _ P2).mono ?_
 rintro e W3 ⟨u3, rfl, o3, b3⟩
 have P3 := P2.trans (b3.mono P2.size)
 have o0 := own_below o0 b3 zN
 have o1 := own_below o1 b3 zN
 have o2 := own_below o2 b3 zN
 clear b3
 obtain ⟨va3, vc3, rfl⟩ := own_shape o3
 refine hK.out _ _ P3 (fun hHeld => ?_)
 clear hK K
 try simp only [Act.put, zA, zB, zC, zD, zE, zF]
 refine zR 24 fun K hK => ?_
 go_wp2_with fail
 refine (C4.out _ P3).mono ?_
 rintro e W4 ⟨u4, rfl, o4, b4⟩
 have P4 := P3.trans (b4.mono P3.size)
 have o0 := own_below o0 b4 zN
 have o1 := own_below o1 b4 zN
 have o2 := own_below o2 b4 zN
 have o3 := own_below o3 b4 zN
 clear b4
 obtain ⟨va4, vc4, rfl⟩ := own_shape o4
 refine hK.out _ _ P4 (fun hHeld => ?_)
 clear hK K
 try simp only [Act.put, zA, zB, zC, zD, zE, zF]
 refine zR 25 fun K hK => ?_
 go_wp2_with fail
 have PA := P4.alloc P4.size (.cells #[.slice va0 SL.length vc0, .slice va1 BL.length vc1, .slice va2 VL.length vc2, .slice va3 PL_.length vc3, .slice va4 LL.length vc4] 32)
 refine hK.out _ _ PA (fun hHeld => ?_)
 clear hK K
 try simp only [Act.put, zA, zB, zC, zD, zE, zF]
 refine zR 26 fun K hK => ?_
 go_wp2_with fail
 refine (concat_any _ [.slice va0 SL.length vc0, .slice va1 BL.length vc1, .slice va2 VL.length vc2, .slice va3 PL_.length vc3, .slice va4 LL.length vc4] [SL, BL, VL, PL_, LL] 5 rfl (by decide) _ (srcs_new _ ⟨⟨_, o0⟩, q0.1, ⟨_, o1⟩, q1.1, ⟨_, o2⟩, q2.1, ⟨_, o3⟩, q3.1, ⟨_, o4⟩, q4.1, trivial⟩) hTot).mono ?_
 rintro e W9 ⟨u9, rfl, o9, b9⟩
 have P9 := PA.trans (b9.mono PA.size)
 have RR : Hid (Bts w TL (.returned u9) W9) := by
  rw [← hTL.out]
  exact bts_box (BX.out.trans (PA.mono BX.out.size)) ⟨u9, rfl, o9, b9⟩
 refine hK.out _ _ P9 (fun hHeld => ?_)
 clear hK K
 try simp only [Act.put, zA, zB, zC, zD, zE, zF]
 refine tk 27 ?_
 refine wpAnyH_done (by kernel_rfl) ?_ _
 go_wp2
 go_ret
 exact RR.out
theorem bytes_nack {vv : Int} {f1 f2 f3 f4 f5 f6 : Nat} (lc : LayC vv f1 f2 f3 f4 f5 f6) (kd row num x y p q : Nat) (w : World) (hkd : kd < 128) (hrow : row < 1152921504606846976) (hnum : num < 1152921504606846976) (hx : x < 1152921504606846976) (hy : y < 1152921504606846976) (hp : p < 1152921504606846976) (hq : q < 1152921504606846976) :
  Calls Tryz.prog 166 #[.agg #[.int .i64 kd, .int .i64 row, .int .i64 num, .int .i64 x, .int .i64 y, .int .i64 p, .int .i64 q], .agg #[.int .i64 vv, .func (.func f1) #[] #[], .func (.func f2) #[] #[], .func (.func f3) #[] #[], .func (.func f4) #[] #[], .func (.func f5) #[] #[], .func (.func f6) #[] #[]]] w fun r w' => Bts w ([staP vv kd row num, balP vv x y, balP vv p q] : List (List Int)).flatten r w' := by
 obtain ⟨X, hX, QS, QL, BX⟩ := zY w 89 [.int .i64 kd, .int .i64 row, .int .i64 num, .int .i64 x, .int .i64 y, .int .i64 p, .int .i64 q] 55 [.int .i64 vv, .func (.func f1) #[] #[], .func (.func f2) #[] #[], .func (.func f3) #[] #[], .func (.func f4) #[] #[], .func (.func f5) #[] #[], .func (.func f6) #[] #[]]
 have C0 : Hid (∀ W, Below X.heap.size X W → Calls Tryz.prog 136 #[.agg #[.int .i64 kd, .int .i64 row, .int .i64 num], .agg #[.int .i64 vv, .func (.func f1) #[] #[], .func (.func f2) #[] #[], .func (.func f3) #[] #[], .func (.func f4) #[] #[], .func (.func f5) #[] #[], .func (.func f6) #[] #[]]] W fun r w' => Bts W (staP vv kd row num) r w') := fun W hW => lc.st kd row num W hkd hrow hnum
 have q0 := staP_len vv kd row num
 have C1 : Hid (∀ W, Below X.heap.size X W → Calls Tryz.prog f2 #[.agg #[.int .i64 x, .int .i64 y]] W fun r w' => Bts W (balP vv x y) r w') := fun W hW => lc.pb x y W hx hy
 have q1 := balP_len vv x y
 have C2 : Hid (∀ W, Below X.heap.size X W → Calls Tryz.prog f2 #[.agg #[.int .i64 p, .int .i64 q]] W fun r w' => Bts W (balP vv p q) r w') := fun W hW => lc.pb p q W hp hq
 have q2 := balP_len vv p q
 generalize staP vv kd row num = SL at *
 generalize balP vv x y = BL at *
 generalize balP vv p q = PL_ at *
 have hTot : ([SL, BL, PL_] : List (List Int)).flatten.length ≤ 1000000 := by simp; omega
 obtain ⟨TL, hTL⟩ : ∃ TL, Hid (([SL, BL, PL_] : List (List Int)).flatten = TL) := ⟨_, rfl⟩
 rw [hTL.out]
 have E2 := lc.e2
 have E3 := lc.e3
 go_enter Tryz.func166, Tryz.ntmps166
 go_upto_region 1 with fail
 rw [← hX]
 clear hX
 have S0 := belX X
 refine wp_region_held_drew (S := (fun w' => Below X.heap.size X w')) (by kernel_rfl) S0 (fun hHeld => ?_)
 refine tk 0 ?_
 refine tq 1 rfl (yieldsIf_load_mid (by rfl) 72 _ rfl w.heap.size 0 rfl [.int .i64 kd, .int .i64 row, .int .i64 num] _ (fun _ h => QS.out.sub h 0 [.int .i64 kd, .int .i64 row, .int .i64 num] rfl) Tryz.underlying72 rfl (by kernel_rfl)) ?_
 refine tq 2 rfl (yieldsIf_load_mid (by rfl) 55 _ rfl (w.heap.size + 1) 0 rfl [.int .i64 vv, .func (.func f1) #[] #[], .func (.func f2) #[] #[], .func (.func f3) #[] #[], .func (.func f4) #[] #[], .func (.func f5) #[] #[], .func (.func f6) #[] #[]] _ (fun _ h => QL.out.sub h 0 [.int .i64 vv, .func (.func f1) #[] #[], .func (.func f2) #[] #[], .func (.func f3) #[] #[], .func (.func f4) #[] #[], .func (.func f5) #[] #[], .func (.func f6) #[] #[]] rfl) Tryz.underlying55 rfl (by kernel_rfl)) ?_
 refine tk 4 ?_
 refine wpAnyH_take (i := 5) (v := ?_) rfl (by kernel_rfl) (by kernel_rfl) (by kernel_rfl) (fun _ _ _ h => h) (Or.inl ⟨by rfl, ?_⟩) (by assumption) ?_
 rotate_left
 ·intro w hSw
  try dsimp only at hSw
  have c5 := QL.out.c1 hSw 2 _ rfl
  go_simp
  try with_reducible rfl
 try simp only [Act.put, zA, zB, zC, zD, zE, zF]
 refine tk 6 ?_
 refine tq 7 rfl (yieldsIf_load_mid (by rfl) 25 _ rfl w.heap.size 3 rfl [.int .i64 x, .int .i64 y] _ (fun _ h => QS.out.sub h 3 [.int .i64 x, .int .i64 y] rfl) Tryz.underlying25 rfl (by kernel_rfl)) ?_
 refine tk 9 ?_
 refine wpAnyH_take (i := 10) (v := ?_) rfl (by kernel_rfl) (by kernel_rfl) (by kernel_rfl) (fun _ _ _ h => h) (Or.inl ⟨by rfl, ?_⟩) (by assumption) ?_
 rotate_left
 ·intro w hSw
  try dsimp only at hSw
  have c10 := QL.out.c1 hSw 2 _ rfl
  go_simp
  try with_reducible rfl
 try simp only [Act.put, zA, zB, zC, zD, zE, zF]
 refine tk 11 ?_
 refine tq 12 rfl (yieldsIf_load_mid (by rfl) 25 _ rfl w.heap.size 5 rfl [.int .i64 p, .int .i64 q] _ (fun _ h => QS.out.sub h 5 [.int .i64 p, .int .i64 q] rfl) Tryz.underlying25 rfl (by kernel_rfl)) ?_
 refine zR 3 fun K hK => ?_
 go_wp2_with fail
 refine (C0.out _ S0).mono ?_
 rintro e W0 ⟨u0, rfl, o0, b0⟩
 have P0 := S0.trans (b0.mono S0.size)
 clear b0
 obtain ⟨va0, vc0, rfl⟩ := own_shape o0
 refine hK.out _ _ P0 (fun hHeld => ?_)
 clear hK K
 try simp only [Act.put, zA, zB, zC, zD, zE, zF]
 refine zR 8 fun K hK => ?_
 go_wp2_with fail
 refine (C1.out _ P0).mono ?_
 rintro e W1 ⟨u1, rfl, o1, b1⟩
 have P1 := P0.trans (b1.mono P0.size)
 have o0 := own_below o0 b1 zN
 clear b1
 obtain ⟨va1, vc1, rfl⟩ := own_shape o1
 refine hK.out _ _ P1 (fun hHeld => ?_)
 clear hK K
 try simp only [Act.put, zA, zB, zC, zD, zE, zF]
 refine zR 13 fun K hK => ?_
 go_wp2_with fail
 refine (C2.out _ P1).mono ?_
 rintro e W2 ⟨u2, rfl, o2, b2⟩
 have P2 := P1.trans (b2.mono P1.size)
 have o0 := own_below o0 b2 zN
 have o1 := own_below o1 b2 zN
 clear b2
 obtain ⟨va2, vc2, rfl⟩ := own_shape o2
 refine hK.out _ _ P2 (fun hHeld => ?_)
 clear hK K
 try simp only [Act.put, zA, zB, zC, zD, zE, zF]
 refine zR 14 fun K hK => ?_
 go_wp2_with fail
 have PA := P2.alloc P2.size (.cells #[.slice va0 SL.length vc0, .slice va1 BL.length vc1, .slice va2 PL_.length vc2] 32)
 refine hK.out _ _ PA (fun hHeld => ?_)
 clear hK K
 try simp only [Act.put, zA, zB, zC, zD, zE, zF]
 refine zR 15 fun K hK => ?_
 go_wp2_with fail
 refine (concat_any _ [.slice va0 SL.length vc0, .slice va1 BL.length vc1, .slice va2 PL_.length vc2] [SL, BL, PL_] 3 rfl (by decide) _ (srcs_new _ ⟨⟨_, o0⟩, q0.1, ⟨_, o1⟩, q1.1, ⟨_, o2⟩, q2.1, trivial⟩) hTot).mono ?_
 rintro e W9 ⟨u9, rfl, o9, b9⟩
 have P9 := PA.trans (b9.mono PA.size)
 have RR : Hid (Bts w TL (.returned u9) W9) := by
  rw [← hTL.out]
  exact bts_box (BX.out.trans (PA.mono BX.out.size)) ⟨u9, rfl, o9, b9⟩
 refine hK.out _ _ P9 (fun hHeld => ?_)
 clear hK K
 try simp only [Act.put, zA, zB, zC, zD, zE, zF]
 refine tk 16 ?_
 refine wpAnyH_done (by kernel_rfl) ?_ _
 go_wp2
 go_ret
 exact RR.out
theorem bytes_bare {vv : Int} {f1 f2 f3 f4 f5 f6 : Nat} (lc : LayC vv f1 f2 f3 f4 f5 f6) (kd row num : Nat) (w : World) (hkd : kd < 128) (hrow : row < 1152921504606846976) (hnum : num < 1152921504606846976) :
  Calls Tryz.prog 168 #[.agg #[.int .i64 kd, .int .i64 row, .int .i64 num], .agg #[.int .i64 vv, .func (.func f1) #[] #[], .func (.func f2) #[] #[], .func (.func f3) #[] #[], .func (.func f4) #[] #[], .func (.func f5) #[] #[], .func (.func f6) #[] #[]]] w fun r w' => Bts w ([staP vv kd row num] : List (List Int)).flatten r w' := by
 obtain ⟨X, hX⟩ : ∃ X, X = (w.alloc (.cells #[.int .i64 kd, .int .i64 row, .int .i64 num] 91)).alloc (.cells #[.int .i64 vv, .func (.func f1) #[] #[], .func (.func f2) #[] #[], .func (.func f3) #[] #[], .func (.func f4) #[] #[], .func (.func f5) #[] #[], .func (.func f6) #[] #[]] 55) := ⟨_, rfl⟩
 have Q0 := blk_new w 91 [.int .i64 kd, .int .i64 row, .int .i64 num]
 have QL0 := blk_new (w.alloc (.cells #[.int .i64 kd, .int .i64 row, .int .i64 num] 91)) 55 [.int .i64 vv, .func (.func f1) #[] #[], .func (.func f2) #[] #[], .func (.func f3) #[] #[], .func (.func f4) #[] #[], .func (.func f5) #[] #[], .func (.func f6) #[] #[]]
 have QS : Hid (Blk X w.heap.size [.int .i64 kd, .int .i64 row, .int .i64 num]) := by rw [hX]; exact Q0.on ((Below.refl _ _).alloc zN _)
 have QL : Hid (Blk X (w.heap.size + 1) [.int .i64 vv, .func (.func f1) #[] #[], .func (.func f2) #[] #[], .func (.func f3) #[] #[], .func (.func f4) #[] #[], .func (.func f5) #[] #[], .func (.func f6) #[] #[]]) := by rw [hX]; rw [World.size_alloc] at QL0; exact QL0
 have BX : Hid (Below w.heap.size w X) := by rw [hX]; exact ((Below.refl _ w).alloc zN _).alloc (by simp) _
 have C0 : Hid (∀ W, Calls Tryz.prog 136 #[.agg #[.int .i64 kd, .int .i64 row, .int .i64 num], .agg #[.int .i64 vv, .func (.func f1) #[] #[], .func (.func f2) #[] #[], .func (.func f3) #[] #[], .func (.func f4) #[] #[], .func (.func f5) #[] #[], .func (.func f6) #[] #[]]] W fun r w' => Bts W (staP vv kd row num) r w') := fun W => lc.st kd row num W hkd hrow hnum
 have e1 : ([staP vv kd row num] : List (List Int)).flatten = staP vv kd row num := by simp
 rw [e1]
 clear e1 Q0 QL0
 generalize staP vv kd row num = SL at *
 have s0 := QS.out.cell 0 _ rfl
 have s1 := QS.out.cell 1 _ rfl
 have s2 := QS.out.cell 2 _ rfl
 have E2 := lc.e2
 have E3 := lc.e3
 go_enter Tryz.func168, Tryz.ntmps168
 go_upto_region 1 with fail
 rw [← hX]
 clear hX
 go_wp2_with (first | (refine wpList_load_mid rfl 55 _ rfl (w.heap.size + 1) 0 rfl [.int .i64 vv, .func (.func f1) #[] #[], .func (.func f2) #[] #[], .func (.func f3) #[] #[], .func (.func f4) #[] #[], .func (.func f5) #[] #[], .func (.func f6) #[] #[]] _ QL.out.range Tryz.underlying55 rfl (by kernel_rfl) ?_))
 refine (C0.out X).mono ?_
 rintro e W1 ⟨u, rfl, ho, hb⟩
 have RR := hide (bts_box BX.out ⟨u, rfl, ho, hb⟩)
 clear ho hb
 go_wp2
 go_ret
 exact RR.out
end Go.Proofs.YtibfdoggolkljaaGreatDoor
