import Derived.Test.YtibfdoggolkljaaGreatDoorJ33
import Derived.Test.YtibfdoggolkljaaGreatDoorJ38
set_option maxHeartbeats 2000000
set_option maxRecDepth 100000
namespace Go.Proofs.YtibfdoggolkljaaGreatDoor
open Go.RowKit Go.Wire1
theorem menc_no (v n : Int) (k row num x y p q st : Int) (sm : Bool) (c : Cm) (sq : Int) (ua : Option Addr) (uk uc : Nat) (w : World) (e : Int) (he : e ≠ 0) (hC : Hid (∀ W, Below w.heap.size w W → Calls Tryz.prog 12 #[.int .i64 v, .int .i64 n, .agg #[.int .i64 k, .int .i64 row, .int .i64 num, .int .i64 x, .int .i64 y, .int .i64 p, .int .i64 q, .int .i64 st, .bool sm, .int .i64 c.kind, .int .i64 c.client, .int .i64 c.req, .string c.key, .string c.key2, .string c.val, .string c.old, .int .i64 c.n, .int .i64 sq, .slice ua uk uc]] W fun r w' => r = .returned (.int .i64 e) ∧ Below W.heap.size W w')) :
  Calls Tryz.prog 5 #[.int .i64 v, .int .i64 n, .agg #[.int .i64 k, .int .i64 row, .int .i64 num, .int .i64 x, .int .i64 y, .int .i64 p, .int .i64 q, .int .i64 st, .bool sm, .int .i64 c.kind, .int .i64 c.client, .int .i64 c.req, .string c.key, .string c.key2, .string c.val, .string c.old, .int .i64 c.n, .int .i64 sq, .slice ua uk uc]] w fun r w' => r = .returned (.tuple #[.slice none 0 0, .int .i64 e]) ∧ Below w.heap.size w w' := by
 obtain ⟨X, hX, QX⟩ := zX w 30 [.int .i64 k, .int .i64 row, .int .i64 num, .int .i64 x, .int .i64 y, .int .i64 p, .int .i64 q, .int .i64 st, .bool sm, .int .i64 c.kind, .int .i64 c.client, .int .i64 c.req, .string c.key, .string c.key2, .string c.val, .string c.old, .int .i64 c.n, .int .i64 sq, .slice ua uk uc]
 have BX : Hid (Below w.heap.size w X) := by rw [hX]; exact (Below.refl _ w).alloc zN _
 have q1 : (e != 0) = true := by rw [bne_iff_ne]; exact he
 clear he
 go_enter Tryz.func5, Tryz.ntmps5
 go_upto_region 1 with fail
 rw [← hX]
 clear hX
 go_wp2_with (first | (refine wpList_load_mid rfl 30 _ rfl w.heap.size 0 rfl [.int .i64 k, .int .i64 row, .int .i64 num, .int .i64 x, .int .i64 y, .int .i64 p, .int .i64 q, .int .i64 st, .bool sm, .int .i64 c.kind, .int .i64 c.client, .int .i64 c.req, .string c.key, .string c.key2, .string c.val, .string c.old, .int .i64 c.n, .int .i64 sq, .slice ua uk uc] _ (QX.out.range) Tryz.underlying30 rfl (by kernel_rfl) ?_))
 refine (hC.out X BX.out).mono ?_
 rintro r w1 ⟨rfl, b1⟩
 have B1 : Hid (Below w.heap.size w w1) := BX.out.trans (b1.mono BX.out.size)
 clear b1
 go_wp2
 go_ret2
 exact ⟨rfl, B1.out⟩
theorem menc_bare (v n : Int) (k row num x y p q st : Int) (sm : Bool) (c : Cm) (sq : Int) (ua : Option Addr) (uk uc : Nat) (w : World) (Z LY : Value) (L : List Int) (hC : Hid (∀ W, Below w.heap.size w W → Calls Tryz.prog 12 #[.int .i64 v, .int .i64 n, .agg #[.int .i64 k, .int .i64 row, .int .i64 num, .int .i64 x, .int .i64 y, .int .i64 p, .int .i64 q, .int .i64 st, .bool sm, .int .i64 c.kind, .int .i64 c.client, .int .i64 c.req, .string c.key, .string c.key2, .string c.val, .string c.old, .int .i64 c.n, .int .i64 sq, .slice ua uk uc]] W fun r w' => r = .returned (.int .i64 0) ∧ Below W.heap.size W w'))
  (hS : Hid (∀ W, Calls Tryz.prog 13 #[.agg #[.int .i64 k, .int .i64 row, .int .i64 num, .int .i64 x, .int .i64 y, .int .i64 p, .int .i64 q, .int .i64 st, .bool sm, .int .i64 c.kind, .int .i64 c.client, .int .i64 c.req, .string c.key, .string c.key2, .string c.val, .string c.old, .int .i64 c.n, .int .i64 sq, .slice ua uk uc]] W fun r w' => r = .returned (.iface 91 Z) ∧ Below W.heap.size W w')) (hL : Hid (∀ W, Calls Tryz.prog 14 #[.int .i64 v] W fun r w' => r = .returned LY ∧ Below W.heap.size W w'))
  (hB : Hid (∀ W, Below w.heap.size w W → Calls Tryz.prog 168 #[Z, LY] W fun r w' => Bts W L r w')) :
  Calls Tryz.prog 5 #[.int .i64 v, .int .i64 n, .agg #[.int .i64 k, .int .i64 row, .int .i64 num, .int .i64 x, .int .i64 y, .int .i64 p, .int .i64 q, .int .i64 st, .bool sm, .int .i64 c.kind, .int .i64 c.client, .int .i64 c.req, .string c.key, .string c.key2, .string c.val, .string c.old, .int .i64 c.n, .int .i64 sq, .slice ua uk uc]] w fun r w' => ∃ u, r = .returned (.tuple #[u, .int .i64 0]) ∧ w'.ownsRow w.heap.size 5 1 u L.length (L.map (Value.int .u8)) ∧ Below w.heap.size w w' := by
 obtain ⟨X, hX, QX⟩ := zX w 30 [.int .i64 k, .int .i64 row, .int .i64 num, .int .i64 x, .int .i64 y, .int .i64 p, .int .i64 q, .int .i64 st, .bool sm, .int .i64 c.kind, .int .i64 c.client, .int .i64 c.req, .string c.key, .string c.key2, .string c.val, .string c.old, .int .i64 c.n, .int .i64 sq, .slice ua uk uc]
 have BX : Hid (Below w.heap.size w X) := by rw [hX]; exact (Below.refl _ w).alloc zN _
 have hm : ∀ w, (Go.method 345 91 Z "moot/msg.bytes").run Tryz.prog w = .ok (168, Z) w := fun _ => by kernel_rfl
 have hna : ∀ w, (Go.nilAhead 345 91 Z "moot/msg.bytes").run Tryz.prog w = .ok (some false) w := fun _ => by kernel_rfl
 go_enter Tryz.func5, Tryz.ntmps5
 go_upto_region 1 with fail
 rw [← hX]
 clear hX
 go_wp2_with (first | (refine wpList_load_mid rfl 30 _ rfl w.heap.size 0 rfl [.int .i64 k, .int .i64 row, .int .i64 num, .int .i64 x, .int .i64 y, .int .i64 p, .int .i64 q, .int .i64 st, .bool sm, .int .i64 c.kind, .int .i64 c.client, .int .i64 c.req, .string c.key, .string c.key2, .string c.val, .string c.old, .int .i64 c.n, .int .i64 sq, .slice ua uk uc] _ (QX.out.range) Tryz.underlying30 rfl (by kernel_rfl) ?_))
 refine (hC.out X BX.out).mono ?_
 rintro r X1 ⟨rfl, b1⟩
 have Q1 := hide (QX.out.on b1)
 have B1 : Hid (Below w.heap.size w X1) := BX.out.trans (b1.mono BX.out.size)
 clear b1 QX BX
 go_upto_region 4 with fail
 have S0 := belX X1
 refine wp_region_noPanic ?_
 refine wp_region_held_drew (S := (fun w' => Below X1.heap.size X1 w')) (by kernel_rfl) S0 (fun hHeld => ?_)
 refine tq 0 rfl (yieldsIf_load_mid (by rfl) 30 _ rfl w.heap.size 0 rfl [.int .i64 k, .int .i64 row, .int .i64 num, .int .i64 x, .int .i64 y, .int .i64 p, .int .i64 q, .int .i64 st, .bool sm, .int .i64 c.kind, .int .i64 c.client, .int .i64 c.req, .string c.key, .string c.key2, .string c.val, .string c.old, .int .i64 c.n, .int .i64 sq, .slice ua uk uc] _ (fun _ h => Q1.out.sub h 0 [.int .i64 k, .int .i64 row, .int .i64 num, .int .i64 x, .int .i64 y, .int .i64 p, .int .i64 q, .int .i64 st, .bool sm, .int .i64 c.kind, .int .i64 c.client, .int .i64 c.req, .string c.key, .string c.key2, .string c.val, .string c.old, .int .i64 c.n, .int .i64 sq, .slice ua uk uc] rfl) Tryz.underlying30 rfl (by kernel_rfl)) ?_
 refine tk 2 ?_
 refine zR 1 fun K hK => ?_
 go_wp2_with fail
 refine (hS.out _).mono ?_
 rintro e W1 ⟨rfl, b2⟩
 have P1 := S0.trans (b2.mono S0.size)
 clear b2
 refine hK.out _ _ P1 (fun hHeld => ?_)
 clear hK K
 try simp only [Act.put, zA, zB, zC, zD, zE, zF]
 refine tk 4 ?_
 refine tk 5 ?_
 refine tk 6 ?_
 refine zR 3 fun K hK => ?_
 go_wp2_with fail
 refine (hL.out _).mono ?_
 rintro e W2 ⟨rfl, b3⟩
 have P2 := P1.trans (b3.mono P1.size)
 clear b3
 refine hK.out _ _ P2 (fun hHeld => ?_)
 clear hK K
 try simp only [Act.put, zA, zB, zC, zD, zE, zF]
 refine zR 7 fun K hK => ?_
 go_wp2_with fail
 refine (hB.out W2 (B1.out.trans (P2.mono B1.out.size))).mono ?_
 rintro e W3 ⟨u, rfl, o3, b3⟩
 have P3 := P2.trans (b3.mono P2.size)
 have RR := hide (bts_box (B1.out.trans (P2.mono B1.out.size)) ⟨u, rfl, o3, b3⟩)
 refine hK.out _ _ P3 (fun hHeld => ?_)
 clear hK K
 try simp only [Act.put, zA, zB, zC, zD, zE, zF]
 refine tk 8 ?_
 refine tk 9 ?_
 refine wpAnyH_done (by kernel_rfl) ?_ _
 refine NoPanic.normal ?_
 go_wp2
 go_ret2
 obtain ⟨u', e', r1, r2⟩ := RR.out
 cases e'
 exact ⟨_, rfl, r1, r2⟩
theorem menc_proposal (v n : Int) (k row num x y p q st : Int) (sm : Bool) (c : Cm) (sq : Int) (ua : Option Addr) (uk uc : Nat) (w : World) (Z LY : Value) (L : List Int) (hC : Hid (∀ W, Below w.heap.size w W → Calls Tryz.prog 12 #[.int .i64 v, .int .i64 n, .agg #[.int .i64 k, .int .i64 row, .int .i64 num, .int .i64 x, .int .i64 y, .int .i64 p, .int .i64 q, .int .i64 st, .bool sm, .int .i64 c.kind, .int .i64 c.client, .int .i64 c.req, .string c.key, .string c.key2, .string c.val, .string c.old, .int .i64 c.n, .int .i64 sq, .slice ua uk uc]] W fun r w' => r = .returned (.int .i64 0) ∧ Below W.heap.size W w'))
  (hS : Hid (∀ W, Calls Tryz.prog 13 #[.agg #[.int .i64 k, .int .i64 row, .int .i64 num, .int .i64 x, .int .i64 y, .int .i64 p, .int .i64 q, .int .i64 st, .bool sm, .int .i64 c.kind, .int .i64 c.client, .int .i64 c.req, .string c.key, .string c.key2, .string c.val, .string c.old, .int .i64 c.n, .int .i64 sq, .slice ua uk uc]] W fun r w' => r = .returned (.iface 78 Z) ∧ Below W.heap.size W w')) (hL : Hid (∀ W, Calls Tryz.prog 14 #[.int .i64 v] W fun r w' => r = .returned LY ∧ Below W.heap.size W w'))
  (hB : Hid (∀ W, Below w.heap.size w W → Calls Tryz.prog 133 #[Z, LY] W fun r w' => Bts W L r w')) :
  Calls Tryz.prog 5 #[.int .i64 v, .int .i64 n, .agg #[.int .i64 k, .int .i64 row, .int .i64 num, .int .i64 x, .int .i64 y, .int .i64 p, .int .i64 q, .int .i64 st, .bool sm, .int .i64 c.kind, .int .i64 c.client, .int .i64 c.req, .string c.key, .string c.key2, .string c.val, .string c.old, .int .i64 c.n, .int .i64 sq, .slice ua uk uc]] w fun r w' => ∃ u, r = .returned (.tuple #[u, .int .i64 0]) ∧ w'.ownsRow w.heap.size 5 1 u L.length (L.map (Value.int .u8)) ∧ Below w.heap.size w w' := by
 obtain ⟨X, hX, QX⟩ := zX w 30 [.int .i64 k, .int .i64 row, .int .i64 num, .int .i64 x, .int .i64 y, .int .i64 p, .int .i64 q, .int .i64 st, .bool sm, .int .i64 c.kind, .int .i64 c.client, .int .i64 c.req, .string c.key, .string c.key2, .string c.val, .string c.old, .int .i64 c.n, .int .i64 sq, .slice ua uk uc]
 have BX : Hid (Below w.heap.size w X) := by rw [hX]; exact (Below.refl _ w).alloc zN _
 have hm : ∀ w, (Go.method 345 78 Z "moot/msg.bytes").run Tryz.prog w = .ok (133, Z) w := fun _ => by kernel_rfl
 have hna : ∀ w, (Go.nilAhead 345 78 Z "moot/msg.bytes").run Tryz.prog w = .ok (some false) w := fun _ => by kernel_rfl
 go_enter Tryz.func5, Tryz.ntmps5
 go_upto_region 1 with fail
 rw [← hX]
 clear hX
 go_wp2_with (first | (refine wpList_load_mid rfl 30 _ rfl w.heap.size 0 rfl [.int .i64 k, .int .i64 row, .int .i64 num, .int .i64 x, .int .i64 y, .int .i64 p, .int .i64 q, .int .i64 st, .bool sm, .int .i64 c.kind, .int .i64 c.client, .int .i64 c.req, .string c.key, .string c.key2, .string c.val, .string c.old, .int .i64 c.n, .int .i64 sq, .slice ua uk uc] _ (QX.out.range) Tryz.underlying30 rfl (by kernel_rfl) ?_))
 refine (hC.out X BX.out).mono ?_
 rintro r X1 ⟨rfl, b1⟩
 have Q1 := hide (QX.out.on b1)
 have B1 : Hid (Below w.heap.size w X1) := BX.out.trans (b1.mono BX.out.size)
 clear b1 QX BX
 go_upto_region 4 with fail
 have S0 := belX X1
 refine wp_region_noPanic ?_
 refine wp_region_held_drew (S := (fun w' => Below X1.heap.size X1 w')) (by kernel_rfl) S0 (fun hHeld => ?_)
 refine tq 0 rfl (yieldsIf_load_mid (by rfl) 30 _ rfl w.heap.size 0 rfl [.int .i64 k, .int .i64 row, .int .i64 num, .int .i64 x, .int .i64 y, .int .i64 p, .int .i64 q, .int .i64 st, .bool sm, .int .i64 c.kind, .int .i64 c.client, .int .i64 c.req, .string c.key, .string c.key2, .string c.val, .string c.old, .int .i64 c.n, .int .i64 sq, .slice ua uk uc] _ (fun _ h => Q1.out.sub h 0 [.int .i64 k, .int .i64 row, .int .i64 num, .int .i64 x, .int .i64 y, .int .i64 p, .int .i64 q, .int .i64 st, .bool sm, .int .i64 c.kind, .int .i64 c.client, .int .i64 c.req, .string c.key, .string c.key2, .string c.val, .string c.old, .int .i64 c.n, .int .i64 sq, .slice ua uk uc] rfl) Tryz.underlying30 rfl (by kernel_rfl)) ?_
 refine tk 2 ?_
 refine zR 1 fun K hK => ?_
 go_wp2_with fail
 refine (hS.out _).mono ?_
 rintro e W1 ⟨rfl, b2⟩
 have P1 := S0.trans (b2.mono S0.size)
 clear b2
 refine hK.out _ _ P1 (fun hHeld => ?_)
 clear hK K
 try simp only [Act.put, zA, zB, zC, zD, zE, zF]
 refine tk 4 ?_
 refine tk 5 ?_
 refine tk 6 ?_
 refine zR 3 fun K hK => ?_
 go_wp2_with fail
 refine (hL.out _).mono ?_
 rintro e W2 ⟨rfl, b3⟩
 have P2 := P1.trans (b3.mono P1.size)
 clear b3
 refine hK.out _ _ P2 (fun hHeld => ?_)
 clear hK K
 try simp only [Act.put, zA, zB, zC, zD, zE, zF]
 refine zR 7 fun K hK => ?_
 go_wp2_with fail
 refine (hB.out W2 (B1.out.trans (P2.mono B1.out.size))).mono ?_
 rintro e W3 ⟨u, rfl, o3, b3⟩
 have P3 := P2.trans (b3.mono P2.size)
 have RR := hide (bts_box (B1.out.trans (P2.mono B1.out.size)) ⟨u, rfl, o3, b3⟩)
 refine hK.out _ _ P3 (fun hHeld => ?_)
 clear hK K
 try simp only [Act.put, zA, zB, zC, zD, zE, zF]
 refine tk 8 ?_
 refine tk 9 ?_
 refine wpAnyH_done (by kernel_rfl) ?_ _
 refine NoPanic.normal ?_
 go_wp2
 go_ret2
 obtain ⟨u', e', r1, r2⟩ := RR.out
 cases e'
 exact ⟨_, rfl, r1, r2⟩
theorem menc_estimate (v n : Int) (k row num x y p q st : Int) (sm : Bool) (c : Cm) (sq : Int) (ua : Option Addr) (uk uc : Nat) (w : World) (Z LY : Value) (L : List Int) (hC : Hid (∀ W, Below w.heap.size w W → Calls Tryz.prog 12 #[.int .i64 v, .int .i64 n, .agg #[.int .i64 k, .int .i64 row, .int .i64 num, .int .i64 x, .int .i64 y, .int .i64 p, .int .i64 q, .int .i64 st, .bool sm, .int .i64 c.kind, .int .i64 c.client, .int .i64 c.req, .string c.key, .string c.key2, .string c.val, .string c.old, .int .i64 c.n, .int .i64 sq, .slice ua uk uc]] W fun r w' => r = .returned (.int .i64 0) ∧ Below W.heap.size W w'))
  (hS : Hid (∀ W, Calls Tryz.prog 13 #[.agg #[.int .i64 k, .int .i64 row, .int .i64 num, .int .i64 x, .int .i64 y, .int .i64 p, .int .i64 q, .int .i64 st, .bool sm, .int .i64 c.kind, .int .i64 c.client, .int .i64 c.req, .string c.key, .string c.key2, .string c.val, .string c.old, .int .i64 c.n, .int .i64 sq, .slice ua uk uc]] W fun r w' => r = .returned (.iface 80 Z) ∧ Below W.heap.size W w')) (hL : Hid (∀ W, Calls Tryz.prog 14 #[.int .i64 v] W fun r w' => r = .returned LY ∧ Below W.heap.size W w'))
  (hB : Hid (∀ W, Below w.heap.size w W → Calls Tryz.prog 156 #[Z, LY] W fun r w' => Bts W L r w')) :
  Calls Tryz.prog 5 #[.int .i64 v, .int .i64 n, .agg #[.int .i64 k, .int .i64 row, .int .i64 num, .int .i64 x, .int .i64 y, .int .i64 p, .int .i64 q, .int .i64 st, .bool sm, .int .i64 c.kind, .int .i64 c.client, .int .i64 c.req, .string c.key, .string c.key2, .string c.val, .string c.old, .int .i64 c.n, .int .i64 sq, .slice ua uk uc]] w fun r w' => ∃ u, r = .returned (.tuple #[u, .int .i64 0]) ∧ w'.ownsRow w.heap.size 5 1 u L.length (L.map (Value.int .u8)) ∧ Below w.heap.size w w' := by
 obtain ⟨X, hX, QX⟩ := zX w 30 [.int .i64 k, .int .i64 row, .int .i64 num, .int .i64 x, .int .i64 y, .int .i64 p, .int .i64 q, .int .i64 st, .bool sm, .int .i64 c.kind, .int .i64 c.client, .int .i64 c.req, .string c.key, .string c.key2, .string c.val, .string c.old, .int .i64 c.n, .int .i64 sq, .slice ua uk uc]
 have BX : Hid (Below w.heap.size w X) := by rw [hX]; exact (Below.refl _ w).alloc zN _
 have hm : ∀ w, (Go.method 345 80 Z "moot/msg.bytes").run Tryz.prog w = .ok (156, Z) w := fun _ => by kernel_rfl
 have hna : ∀ w, (Go.nilAhead 345 80 Z "moot/msg.bytes").run Tryz.prog w = .ok (some false) w := fun _ => by kernel_rfl
 go_enter Tryz.func5, Tryz.ntmps5
 go_upto_region 1 with fail
 rw [← hX]
 clear hX
 go_wp2_with (first | (refine wpList_load_mid rfl 30 _ rfl w.heap.size 0 rfl [.int .i64 k, .int .i64 row, .int .i64 num, .int .i64 x, .int .i64 y, .int .i64 p, .int .i64 q, .int .i64 st, .bool sm, .int .i64 c.kind, .int .i64 c.client, .int .i64 c.req, .string c.key, .string c.key2, .string c.val, .string c.old, .int .i64 c.n, .int .i64 sq, .slice ua uk uc] _ (QX.out.range) Tryz.underlying30 rfl (by kernel_rfl) ?_))
 refine (hC.out X BX.out).mono ?_
 rintro r X1 ⟨rfl, b1⟩
 have Q1 := hide (QX.out.on b1)
 have B1 : Hid (Below w.heap.size w X1) := BX.out.trans (b1.mono BX.out.size)
 clear b1 QX BX
 go_upto_region 4 with fail
 have S0 := belX X1
 refine wp_region_noPanic ?_
 refine wp_region_held_drew (S := (fun w' => Below X1.heap.size X1 w')) (by kernel_rfl) S0 (fun hHeld => ?_)
 refine tq 0 rfl (yieldsIf_load_mid (by rfl) 30 _ rfl w.heap.size 0 rfl [.int .i64 k, .int .i64 row, .int .i64 num, .int .i64 x, .int .i64 y, .int .i64 p, .int .i64 q, .int .i64 st, .bool sm, .int .i64 c.kind, .int .i64 c.client, .int .i64 c.req, .string c.key, .string c.key2, .string c.val, .string c.old, .int .i64 c.n, .int .i64 sq, .slice ua uk uc] _ (fun _ h => Q1.out.sub h 0 [.int .i64 k, .int .i64 row, .int .i64 num, .int .i64 x, .int .i64 y, .int .i64 p, .int .i64 q, .int .i64 st, .bool sm, .int .i64 c.kind, .int .i64 c.client, .int .i64 c.req, .string c.key, .string c.key2, .string c.val, .string c.old, .int .i64 c.n, .int .i64 sq, .slice ua uk uc] rfl) Tryz.underlying30 rfl (by kernel_rfl)) ?_
 refine tk 2 ?_
 refine zR 1 fun K hK => ?_
 go_wp2_with fail
 refine (hS.out _).mono ?_
 rintro e W1 ⟨rfl, b2⟩
 have P1 := S0.trans (b2.mono S0.size)
 clear b2
 refine hK.out _ _ P1 (fun hHeld => ?_)
 clear hK K
 try simp only [Act.put, zA, zB, zC, zD, zE, zF]
 refine tk 4 ?_
 refine tk 5 ?_
 refine tk 6 ?_
 refine zR 3 fun K hK => ?_
 go_wp2_with fail
 refine (hL.out _).mono ?_
 rintro e W2 ⟨rfl, b3⟩
 have P2 := P1.trans (b3.mono P1.size)
 clear b3
 refine hK.out _ _ P2 (fun hHeld => ?_)
 clear hK K
 try simp only [Act.put, zA, zB, zC, zD, zE, zF]
 refine zR 7 fun K hK => ?_
 go_wp2_with fail
 refine (hB.out W2 (B1.out.trans (P2.mono B1.out.size))).mono ?_
 rintro e W3 ⟨u, rfl, o3, b3⟩
 have P3 := P2.trans (b3.mono P2.size)
 have RR := hide (bts_box (B1.out.trans (P2.mono B1.out.size)) ⟨u, rfl, o3, b3⟩)
 refine hK.out _ _ P3 (fun hHeld => ?_)
 clear hK K
 try simp only [Act.put, zA, zB, zC, zD, zE, zF]
 refine tk 8 ?_
 refine tk 9 ?_
 refine wpAnyH_done (by kernel_rfl) ?_ _
 refine NoPanic.normal ?_
 go_wp2
 go_ret2
 obtain ⟨u', e', r1, r2⟩ := RR.out
 cases e'
 exact ⟨_, rfl, r1, r2⟩
theorem menc_balloted (v n : Int) (k row num x y p q st : Int) (sm : Bool) (c : Cm) (sq : Int) (ua : Option Addr) (uk uc : Nat) (w : World) (Z LY : Value) (L : List Int) (hC : Hid (∀ W, Below w.heap.size w W → Calls Tryz.prog 12 #[.int .i64 v, .int .i64 n, .agg #[.int .i64 k, .int .i64 row, .int .i64 num, .int .i64 x, .int .i64 y, .int .i64 p, .int .i64 q, .int .i64 st, .bool sm, .int .i64 c.kind, .int .i64 c.client, .int .i64 c.req, .string c.key, .string c.key2, .string c.val, .string c.old, .int .i64 c.n, .int .i64 sq, .slice ua uk uc]] W fun r w' => r = .returned (.int .i64 0) ∧ Below W.heap.size W w'))
  (hS : Hid (∀ W, Calls Tryz.prog 13 #[.agg #[.int .i64 k, .int .i64 row, .int .i64 num, .int .i64 x, .int .i64 y, .int .i64 p, .int .i64 q, .int .i64 st, .bool sm, .int .i64 c.kind, .int .i64 c.client, .int .i64 c.req, .string c.key, .string c.key2, .string c.val, .string c.old, .int .i64 c.n, .int .i64 sq, .slice ua uk uc]] W fun r w' => r = .returned (.iface 82 Z) ∧ Below W.heap.size W w')) (hL : Hid (∀ W, Calls Tryz.prog 14 #[.int .i64 v] W fun r w' => r = .returned LY ∧ Below W.heap.size W w'))
  (hB : Hid (∀ W, Below w.heap.size w W → Calls Tryz.prog 158 #[Z, LY] W fun r w' => Bts W L r w')) :
  Calls Tryz.prog 5 #[.int .i64 v, .int .i64 n, .agg #[.int .i64 k, .int .i64 row, .int .i64 num, .int .i64 x, .int .i64 y, .int .i64 p, .int .i64 q, .int .i64 st, .bool sm, .int .i64 c.kind, .int .i64 c.client, .int .i64 c.req, .string c.key, .string c.key2, .string c.val, .string c.old, .int .i64 c.n, .int .i64 sq, .slice ua uk uc]] w fun r w' => ∃ u, r = .returned (.tuple #[u, .int .i64 0]) ∧ w'.ownsRow w.heap.size 5 1 u L.length (L.map (Value.int .u8)) ∧ Below w.heap.size w w' := by
 obtain ⟨X, hX, QX⟩ := zX w 30 [.int .i64 k, .int .i64 row, .int .i64 num, .int .i64 x, .int .i64 y, .int .i64 p, .int .i64 q, .int .i64 st, .bool sm, .int .i64 c.kind, .int .i64 c.client, .int .i64 c.req, .string c.key, .string c.key2, .string c.val, .string c.old, .int .i64 c.n, .int .i64 sq, .slice ua uk uc]
 have BX : Hid (Below w.heap.size w X) := by rw [hX]; exact (Below.refl _ w).alloc zN _
 have hm : ∀ w, (Go.method 345 82 Z "moot/msg.bytes").run Tryz.prog w = .ok (158, Z) w := fun _ => by kernel_rfl
 have hna : ∀ w, (Go.nilAhead 345 82 Z "moot/msg.bytes").run Tryz.prog w = .ok (some false) w := fun _ => by kernel_rfl
 go_enter Tryz.func5, Tryz.ntmps5
 go_upto_region 1 with fail
 rw [← hX]
 clear hX
 go_wp2_with (first | (refine wpList_load_mid rfl 30 _ rfl w.heap.size 0 rfl [.int .i64 k, .int .i64 row, .int .i64 num, .int .i64 x, .int .i64 y, .int .i64 p, .int .i64 q, .int .i64 st, .bool sm, .int .i64 c.kind, .int .i64 c.client, .int .i64 c.req, .string c.key, .string c.key2, .string c.val, .string c.old, .int .i64 c.n, .int .i64 sq, .slice ua uk uc] _ (QX.out.range) Tryz.underlying30 rfl (by kernel_rfl) ?_))
 refine (hC.out X BX.out).mono ?_
 rintro r X1 ⟨rfl, b1⟩
 have Q1 := hide (QX.out.on b1)
 have B1 : Hid (Below w.heap.size w X1) := BX.out.trans (b1.mono BX.out.size)
 clear b1 QX BX
 go_upto_region 4 with fail
 have S0 := belX X1
 refine wp_region_noPanic ?_
 refine wp_region_held_drew (S := (fun w' => Below X1.heap.size X1 w')) (by kernel_rfl) S0 (fun hHeld => ?_)
 refine tq 0 rfl (yieldsIf_load_mid (by rfl) 30 _ rfl w.heap.size 0 rfl [.int .i64 k, .int .i64 row, .int .i64 num, .int .i64 x, .int .i64 y, .int .i64 p, .int .i64 q, .int .i64 st, .bool sm, .int .i64 c.kind, .int .i64 c.client, .int .i64 c.req, .string c.key, .string c.key2, .string c.val, .string c.old, .int .i64 c.n, .int .i64 sq, .slice ua uk uc] _ (fun _ h => Q1.out.sub h 0 [.int .i64 k, .int .i64 row, .int .i64 num, .int .i64 x, .int .i64 y, .int .i64 p, .int .i64 q, .int .i64 st, .bool sm, .int .i64 c.kind, .int .i64 c.client, .int .i64 c.req, .string c.key, .string c.key2, .string c.val, .string c.old, .int .i64 c.n, .int .i64 sq, .slice ua uk uc] rfl) Tryz.underlying30 rfl (by kernel_rfl)) ?_
 refine tk 2 ?_
 refine zR 1 fun K hK => ?_
 go_wp2_with fail
 refine (hS.out _).mono ?_
 rintro e W1 ⟨rfl, b2⟩
 have P1 := S0.trans (b2.mono S0.size)
 clear b2
 refine hK.out _ _ P1 (fun hHeld => ?_)
 clear hK K
 try simp only [Act.put, zA, zB, zC, zD, zE, zF]
 refine tk 4 ?_
 refine tk 5 ?_
 refine tk 6 ?_
 refine zR 3 fun K hK => ?_
 go_wp2_with fail
 refine (hL.out _).mono ?_
 rintro e W2 ⟨rfl, b3⟩
 have P2 := P1.trans (b3.mono P1.size)
 clear b3
 refine hK.out _ _ P2 (fun hHeld => ?_)
 clear hK K
 try simp only [Act.put, zA, zB, zC, zD, zE, zF]
 refine zR 7 fun K hK => ?_
 go_wp2_with fail
 refine (hB.out W2 (B1.out.trans (P2.mono B1.out.size))).mono ?_
 rintro e W3 ⟨u, rfl, o3, b3⟩
 have P3 := P2.trans (b3.mono P2.size)
 have RR := hide (bts_box (B1.out.trans (P2.mono B1.out.size)) ⟨u, rfl, o3, b3⟩)
 refine hK.out _ _ P3 (fun hHeld => ?_)
 clear hK K
 try simp only [Act.put, zA, zB, zC, zD, zE, zF]
 refine tk 8 ?_
 refine tk 9 ?_
 refine wpAnyH_done (by kernel_rfl) ?_ _
 refine NoPanic.normal ?_
 go_wp2
 go_ret2
 obtain ⟨u', e', r1, r2⟩ := RR.out
 cases e'
 exact ⟨_, rfl, r1, r2⟩
theorem menc_commit (v n : Int) (k row num x y p q st : Int) (sm : Bool) (c : Cm) (sq : Int) (ua : Option Addr) (uk uc : Nat) (w : World) (Z LY : Value) (L : List Int) (hC : Hid (∀ W, Below w.heap.size w W → Calls Tryz.prog 12 #[.int .i64 v, .int .i64 n, .agg #[.int .i64 k, .int .i64 row, .int .i64 num, .int .i64 x, .int .i64 y, .int .i64 p, .int .i64 q, .int .i64 st, .bool sm, .int .i64 c.kind, .int .i64 c.client, .int .i64 c.req, .string c.key, .string c.key2, .string c.val, .string c.old, .int .i64 c.n, .int .i64 sq, .slice ua uk uc]] W fun r w' => r = .returned (.int .i64 0) ∧ Below W.heap.size W w'))
  (hS : Hid (∀ W, Calls Tryz.prog 13 #[.agg #[.int .i64 k, .int .i64 row, .int .i64 num, .int .i64 x, .int .i64 y, .int .i64 p, .int .i64 q, .int .i64 st, .bool sm, .int .i64 c.kind, .int .i64 c.client, .int .i64 c.req, .string c.key, .string c.key2, .string c.val, .string c.old, .int .i64 c.n, .int .i64 sq, .slice ua uk uc]] W fun r w' => r = .returned (.iface 84 Z) ∧ Below W.heap.size W w')) (hL : Hid (∀ W, Calls Tryz.prog 14 #[.int .i64 v] W fun r w' => r = .returned LY ∧ Below W.heap.size W w'))
  (hB : Hid (∀ W, Below w.heap.size w W → Calls Tryz.prog 160 #[Z, LY] W fun r w' => Bts W L r w')) :
  Calls Tryz.prog 5 #[.int .i64 v, .int .i64 n, .agg #[.int .i64 k, .int .i64 row, .int .i64 num, .int .i64 x, .int .i64 y, .int .i64 p, .int .i64 q, .int .i64 st, .bool sm, .int .i64 c.kind, .int .i64 c.client, .int .i64 c.req, .string c.key, .string c.key2, .string c.val, .string c.old, .int .i64 c.n, .int .i64 sq, .slice ua uk uc]] w fun r w' => ∃ u, r = .returned (.tuple #[u, .int .i64 0]) ∧ w'.ownsRow w.heap.size 5 1 u L.length (L.map (Value.int .u8)) ∧ Below w.heap.size w w' := by
 obtain ⟨X, hX, QX⟩ := zX w 30 [.int .i64 k, .int .i64 row, .int .i64 num, .int .i64 x, .int .i64 y, .int .i64 p, .int .i64 q, .int .i64 st, .bool sm, .int .i64 c.kind, .int .i64 c.client, .int .i64 c.req, .string c.key, .string c.key2, .string c.val, .string c.old, .int .i64 c.n, .int .i64 sq, .slice ua uk uc]
 have BX : Hid (Below w.heap.size w X) := by rw [hX]; exact (Below.refl _ w).alloc zN _
 have hm : ∀ w, (Go.method 345 84 Z "moot/msg.bytes").run Tryz.prog w = .ok (160, Z) w := fun _ => by kernel_rfl
 have hna : ∀ w, (Go.nilAhead 345 84 Z "moot/msg.bytes").run Tryz.prog w = .ok (some false) w := fun _ => by kernel_rfl
 go_enter Tryz.func5, Tryz.ntmps5
 go_upto_region 1 with fail
 rw [← hX]
 clear hX
 go_wp2_with (first | (refine wpList_load_mid rfl 30 _ rfl w.heap.size 0 rfl [.int .i64 k, .int .i64 row, .int .i64 num, .int .i64 x, .int .i64 y, .int .i64 p, .int .i64 q, .int .i64 st, .bool sm, .int .i64 c.kind, .int .i64 c.client, .int .i64 c.req, .string c.key, .string c.key2, .string c.val, .string c.old, .int .i64 c.n, .int .i64 sq, .slice ua uk uc] _ (QX.out.range) Tryz.underlying30 rfl (by kernel_rfl) ?_))
 refine (hC.out X BX.out).mono ?_
 rintro r X1 ⟨rfl, b1⟩
 have Q1 := hide (QX.out.on b1)
 have B1 : Hid (Below w.heap.size w X1) := BX.out.trans (b1.mono BX.out.size)
 clear b1 QX BX
 go_upto_region 4 with fail
 have S0 := belX X1
 refine wp_region_noPanic ?_
 refine wp_region_held_drew (S := (fun w' => Below X1.heap.size X1 w')) (by kernel_rfl) S0 (fun hHeld => ?_)
 refine tq 0 rfl (yieldsIf_load_mid (by rfl) 30 _ rfl w.heap.size 0 rfl [.int .i64 k, .int .i64 row, .int .i64 num, .int .i64 x, .int .i64 y, .int .i64 p, .int .i64 q, .int .i64 st, .bool sm, .int .i64 c.kind, .int .i64 c.client, .int .i64 c.req, .string c.key, .string c.key2, .string c.val, .string c.old, .int .i64 c.n, .int .i64 sq, .slice ua uk uc] _ (fun _ h => Q1.out.sub h 0 [.int .i64 k, .int .i64 row, .int .i64 num, .int .i64 x, .int .i64 y, .int .i64 p, .int .i64 q, .int .i64 st, .bool sm, .int .i64 c.kind, .int .i64 c.client, .int .i64 c.req, .string c.key, .string c.key2, .string c.val, .string c.old, .int .i64 c.n, .int .i64 sq, .slice ua uk uc] rfl) Tryz.underlying30 rfl (by kernel_rfl)) ?_
 refine tk 2 ?_
 refine zR 1 fun K hK => ?_
 go_wp2_with fail
 refine (hS.out _).mono ?_
 rintro e W1 ⟨rfl, b2⟩
 have P1 := S0.trans (b2.mono S0.size)
 clear b2
 refine hK.out _ _ P1 (fun hHeld => ?_)
 clear hK K
 try simp only [Act.put, zA, zB, zC, zD, zE, zF]
 refine tk 4 ?_
 refine tk 5 ?_
 refine tk 6 ?_
 refine zR 3 fun K hK => ?_
 go_wp2_with fail
 refine (hL.out _).mono ?_
 rintro e W2 ⟨rfl, b3⟩
 have P2 := P1.trans (b3.mono P1.size)
 clear b3
 refine hK.out _ _ P2 (fun hHeld => ?_)
 clear hK K
 try simp only [Act.put, zA, zB, zC, zD, zE, zF]
 refine zR 7 fun K hK => ?_
 go_wp2_with fail
 refine (hB.out W2 (B1.out.trans (P2.mono B1.out.size))).mono ?_
 rintro e W3 ⟨u, rfl, o3, b3⟩
 have P3 := P2.trans (b3.mono P2.size)
 have RR := hide (bts_box (B1.out.trans (P2.mono B1.out.size)) ⟨u, rfl, o3, b3⟩)
 refine hK.out _ _ P3 (fun hHeld => ?_)
 clear hK K
 try simp only [Act.put, zA, zB, zC, zD, zE, zF]
 refine tk 8 ?_
 refine tk 9 ?_
 refine wpAnyH_done (by kernel_rfl) ?_ _
 refine NoPanic.normal ?_
 go_wp2
 go_ret2
 obtain ⟨u', e', r1, r2⟩ := RR.out
 cases e'
 exact ⟨_, rfl, r1, r2⟩
theorem menc_noVote (v n : Int) (k row num x y p q st : Int) (sm : Bool) (c : Cm) (sq : Int) (ua : Option Addr) (uk uc : Nat) (w : World) (Z LY : Value) (L : List Int) (hC : Hid (∀ W, Below w.heap.size w W → Calls Tryz.prog 12 #[.int .i64 v, .int .i64 n, .agg #[.int .i64 k, .int .i64 row, .int .i64 num, .int .i64 x, .int .i64 y, .int .i64 p, .int .i64 q, .int .i64 st, .bool sm, .int .i64 c.kind, .int .i64 c.client, .int .i64 c.req, .string c.key, .string c.key2, .string c.val, .string c.old, .int .i64 c.n, .int .i64 sq, .slice ua uk uc]] W fun r w' => r = .returned (.int .i64 0) ∧ Below W.heap.size W w'))
  (hS : Hid (∀ W, Calls Tryz.prog 13 #[.agg #[.int .i64 k, .int .i64 row, .int .i64 num, .int .i64 x, .int .i64 y, .int .i64 p, .int .i64 q, .int .i64 st, .bool sm, .int .i64 c.kind, .int .i64 c.client, .int .i64 c.req, .string c.key, .string c.key2, .string c.val, .string c.old, .int .i64 c.n, .int .i64 sq, .slice ua uk uc]] W fun r w' => r = .returned (.iface 85 Z) ∧ Below W.heap.size W w')) (hL : Hid (∀ W, Calls Tryz.prog 14 #[.int .i64 v] W fun r w' => r = .returned LY ∧ Below W.heap.size W w'))
  (hB : Hid (∀ W, Below w.heap.size w W → Calls Tryz.prog 162 #[Z, LY] W fun r w' => Bts W L r w')) :
  Calls Tryz.prog 5 #[.int .i64 v, .int .i64 n, .agg #[.int .i64 k, .int .i64 row, .int .i64 num, .int .i64 x, .int .i64 y, .int .i64 p, .int .i64 q, .int .i64 st, .bool sm, .int .i64 c.kind, .int .i64 c.client, .int .i64 c.req, .string c.key, .string c.key2, .string c.val, .string c.old, .int .i64 c.n, .int .i64 sq, .slice ua uk uc]] w fun r w' => ∃ u, r = .returned (.tuple #[u, .int .i64 0]) ∧ w'.ownsRow w.heap.size 5 1 u L.length (L.map (Value.int .u8)) ∧ Below w.heap.size w w' := by
 obtain ⟨X, hX, QX⟩ := zX w 30 [.int .i64 k, .int .i64 row, .int .i64 num, .int .i64 x, .int .i64 y, .int .i64 p, .int .i64 q, .int .i64 st, .bool sm, .int .i64 c.kind, .int .i64 c.client, .int .i64 c.req, .string c.key, .string c.key2, .string c.val, .string c.old, .int .i64 c.n, .int .i64 sq, .slice ua uk uc]
 have BX : Hid (Below w.heap.size w X) := by rw [hX]; exact (Below.refl _ w).alloc zN _
 have hm : ∀ w, (Go.method 345 85 Z "moot/msg.bytes").run Tryz.prog w = .ok (162, Z) w := fun _ => by kernel_rfl
 have hna : ∀ w, (Go.nilAhead 345 85 Z "moot/msg.bytes").run Tryz.prog w = .ok (some false) w := fun _ => by kernel_rfl
 go_enter Tryz.func5, Tryz.ntmps5
 go_upto_region 1 with fail
 rw [← hX]
 clear hX
 go_wp2_with (first | (refine wpList_load_mid rfl 30 _ rfl w.heap.size 0 rfl [.int .i64 k, .int .i64 row, .int .i64 num, .int .i64 x, .int .i64 y, .int .i64 p, .int .i64 q, .int .i64 st, .bool sm, .int .i64 c.kind, .int .i64 c.client, .int .i64 c.req, .string c.key, .string c.key2, .string c.val, .string c.old, .int .i64 c.n, .int .i64 sq, .slice ua uk uc] _ (QX.out.range) Tryz.underlying30 rfl (by kernel_rfl) ?_))
 refine (hC.out X BX.out).mono ?_
 rintro r X1 ⟨rfl, b1⟩
 have Q1 := hide (QX.out.on b1)
 have B1 : Hid (Below w.heap.size w X1) := BX.out.trans (b1.mono BX.out.size)
 clear b1 QX BX
 go_upto_region 4 with fail
 have S0 := belX X1
 refine wp_region_noPanic ?_
 refine wp_region_held_drew (S := (fun w' => Below X1.heap.size X1 w')) (by kernel_rfl) S0 (fun hHeld => ?_)
 refine tq 0 rfl (yieldsIf_load_mid (by rfl) 30 _ rfl w.heap.size 0 rfl [.int .i64 k, .int .i64 row, .int .i64 num, .int .i64 x, .int .i64 y, .int .i64 p, .int .i64 q, .int .i64 st, .bool sm, .int .i64 c.kind, .int .i64 c.client, .int .i64 c.req, .string c.key, .string c.key2, .string c.val, .string c.old, .int .i64 c.n, .int .i64 sq, .slice ua uk uc] _ (fun _ h => Q1.out.sub h 0 [.int .i64 k, .int .i64 row, .int .i64 num, .int .i64 x, .int .i64 y, .int .i64 p, .int .i64 q, .int .i64 st, .bool sm, .int .i64 c.kind, .int .i64 c.client, .int .i64 c.req, .string c.key, .string c.key2, .string c.val, .string c.old, .int .i64 c.n, .int .i64 sq, .slice ua uk uc] rfl) Tryz.underlying30 rfl (by kernel_rfl)) ?_
 refine tk 2 ?_
 refine zR 1 fun K hK => ?_
 go_wp2_with fail
 refine (hS.out _).mono ?_
 rintro e W1 ⟨rfl, b2⟩
 have P1 := S0.trans (b2.mono S0.size)
 clear b2
 refine hK.out _ _ P1 (fun hHeld => ?_)
 clear hK K
 try simp only [Act.put, zA, zB, zC, zD, zE, zF]
 refine tk 4 ?_
 refine tk 5 ?_
 refine tk 6 ?_
 refine zR 3 fun K hK => ?_
 go_wp2_with fail
 refine (hL.out _).mono ?_
 rintro e W2 ⟨rfl, b3⟩
 have P2 := P1.trans (b3.mono P1.size)
 clear b3
 refine hK.out _ _ P2 (fun hHeld => ?_)
 clear hK K
 try simp only [Act.put, zA, zB, zC, zD, zE, zF]
 refine zR 7 fun K hK => ?_
 go_wp2_with fail
 refine (hB.out W2 (B1.out.trans (P2.mono B1.out.size))).mono ?_
 rintro e W3 ⟨u, rfl, o3, b3⟩
 have P3 := P2.trans (b3.mono P2.size)
 have RR := hide (bts_box (B1.out.trans (P2.mono B1.out.size)) ⟨u, rfl, o3, b3⟩)
 refine hK.out _ _ P3 (fun hHeld => ?_)
 clear hK K
 try simp only [Act.put, zA, zB, zC, zD, zE, zF]
 refine tk 8 ?_
 refine tk 9 ?_
 refine wpAnyH_done (by kernel_rfl) ?_ _
 refine NoPanic.normal ?_
 go_wp2
 go_ret2
 obtain ⟨u', e', r1, r2⟩ := RR.out
 cases e'
 exact ⟨_, rfl, r1, r2⟩
theorem menc_vote (v n : Int) (k row num x y p q st : Int) (sm : Bool) (c : Cm) (sq : Int) (ua : Option Addr) (uk uc : Nat) (w : World) (Z LY : Value) (L : List Int) (hC : Hid (∀ W, Below w.heap.size w W → Calls Tryz.prog 12 #[.int .i64 v, .int .i64 n, .agg #[.int .i64 k, .int .i64 row, .int .i64 num, .int .i64 x, .int .i64 y, .int .i64 p, .int .i64 q, .int .i64 st, .bool sm, .int .i64 c.kind, .int .i64 c.client, .int .i64 c.req, .string c.key, .string c.key2, .string c.val, .string c.old, .int .i64 c.n, .int .i64 sq, .slice ua uk uc]] W fun r w' => r = .returned (.int .i64 0) ∧ Below W.heap.size W w'))
  (hS : Hid (∀ W, Calls Tryz.prog 13 #[.agg #[.int .i64 k, .int .i64 row, .int .i64 num, .int .i64 x, .int .i64 y, .int .i64 p, .int .i64 q, .int .i64 st, .bool sm, .int .i64 c.kind, .int .i64 c.client, .int .i64 c.req, .string c.key, .string c.key2, .string c.val, .string c.old, .int .i64 c.n, .int .i64 sq, .slice ua uk uc]] W fun r w' => r = .returned (.iface 87 Z) ∧ Below W.heap.size W w')) (hL : Hid (∀ W, Calls Tryz.prog 14 #[.int .i64 v] W fun r w' => r = .returned LY ∧ Below W.heap.size W w'))
  (hB : Hid (∀ W, Below w.heap.size w W → Calls Tryz.prog 164 #[Z, LY] W fun r w' => Bts W L r w')) :
  Calls Tryz.prog 5 #[.int .i64 v, .int .i64 n, .agg #[.int .i64 k, .int .i64 row, .int .i64 num, .int .i64 x, .int .i64 y, .int .i64 p, .int .i64 q, .int .i64 st, .bool sm, .int .i64 c.kind, .int .i64 c.client, .int .i64 c.req, .string c.key, .string c.key2, .string c.val, .string c.old, .int .i64 c.n, .int .i64 sq, .slice ua uk uc]] w fun r w' => ∃ u, r = .returned (.tuple #[u, .int .i64 0]) ∧ w'.ownsRow w.heap.size 5 1 u L.length (L.map (Value.int .u8)) ∧ Below w.heap.size w w' := by
 obtain ⟨X, hX, QX⟩ := zX w 30 [.int .i64 k, .int .i64 row, .int .i64 num, .int .i64 x, .int .i64 y, .int .i64 p, .int .i64 q, .int .i64 st, .bool sm, .int .i64 c.kind, .int .i64 c.client, .int .i64 c.req, .string c.key, .string c.key2, .string c.val, .string c.old, .int .i64 c.n, .int .i64 sq, .slice ua uk uc]
 have BX : Hid (Below w.heap.size w X) := by rw [hX]; exact (Below.refl _ w).alloc zN _
 have hm : ∀ w, (Go.method 345 87 Z "moot/msg.bytes").run Tryz.prog w = .ok (164, Z) w := fun _ => by kernel_rfl
 have hna : ∀ w, (Go.nilAhead 345 87 Z "moot/msg.bytes").run Tryz.prog w = .ok (some false) w := fun _ => by kernel_rfl
 go_enter Tryz.func5, Tryz.ntmps5
 go_upto_region 1 with fail
 rw [← hX]
 clear hX
 go_wp2_with (first | (refine wpList_load_mid rfl 30 _ rfl w.heap.size 0 rfl [.int .i64 k, .int .i64 row, .int .i64 num, .int .i64 x, .int .i64 y, .int .i64 p, .int .i64 q, .int .i64 st, .bool sm, .int .i64 c.kind, .int .i64 c.client, .int .i64 c.req, .string c.key, .string c.key2, .string c.val, .string c.old, .int .i64 c.n, .int .i64 sq, .slice ua uk uc] _ (QX.out.range) Tryz.underlying30 rfl (by kernel_rfl) ?_))
 refine (hC.out X BX.out).mono ?_
 rintro r X1 ⟨rfl, b1⟩
 have Q1 := hide (QX.out.on b1)
 have B1 : Hid (Below w.heap.size w X1) := BX.out.trans (b1.mono BX.out.size)
 clear b1 QX BX
 go_upto_region 4 with fail
 have S0 := belX X1
 refine wp_region_noPanic ?_
 refine wp_region_held_drew (S := (fun w' => Below X1.heap.size X1 w')) (by kernel_rfl) S0 (fun hHeld => ?_)
 refine tq 0 rfl (yieldsIf_load_mid (by rfl) 30 _ rfl w.heap.size 0 rfl [.int .i64 k, .int .i64 row, .int .i64 num, .int .i64 x, .int .i64 y, .int .i64 p, .int .i64 q, .int .i64 st, .bool sm, .int .i64 c.kind, .int .i64 c.client, .int .i64 c.req, .string c.key, .string c.key2, .string c.val, .string c.old, .int .i64 c.n, .int .i64 sq, .slice ua uk uc] _ (fun _ h => Q1.out.sub h 0 [.int .i64 k, .int .i64 row, .int .i64 num, .int .i64 x, .int .i64 y, .int .i64 p, .int .i64 q, .int .i64 st, .bool sm, .int .i64 c.kind, .int .i64 c.client, .int .i64 c.req, .string c.key, .string c.key2, .string c.val, .string c.old, .int .i64 c.n, .int .i64 sq, .slice ua uk uc] rfl) Tryz.underlying30 rfl (by kernel_rfl)) ?_
 refine tk 2 ?_
 refine zR 1 fun K hK => ?_
 go_wp2_with fail
 refine (hS.out _).mono ?_
 rintro e W1 ⟨rfl, b2⟩
 have P1 := S0.trans (b2.mono S0.size)
 clear b2
 refine hK.out _ _ P1 (fun hHeld => ?_)
 clear hK K
 try simp only [Act.put, zA, zB, zC, zD, zE, zF]
 refine tk 4 ?_
 refine tk 5 ?_
 refine tk 6 ?_
 refine zR 3 fun K hK => ?_
 go_wp2_with fail
 refine (hL.out _).mono ?_
 rintro e W2 ⟨rfl, b3⟩
 have P2 := P1.trans (b3.mono P1.size)
 clear b3
 refine hK.out _ _ P2 (fun hHeld => ?_)
 clear hK K
 try simp only [Act.put, zA, zB, zC, zD, zE, zF]
 refine zR 7 fun K hK => ?_
 go_wp2_with fail
 refine (hB.out W2 (B1.out.trans (P2.mono B1.out.size))).mono ?_
 rintro e W3 ⟨u, rfl, o3, b3⟩
 have P3 := P2.trans (b3.mono P2.size)
 have RR := hide (bts_box (B1.out.trans (P2.mono B1.out.size)) ⟨u, rfl, o3, b3⟩)
 refine hK.out _ _ P3 (fun hHeld => ?_)
 clear hK K
 try simp only [Act.put, zA, zB, zC, zD, zE, zF]
 refine tk 8 ?_
 refine tk 9 ?_
 refine wpAnyH_done (by kernel_rfl) ?_ _
 refine NoPanic.normal ?_
 go_wp2
 go_ret2
 obtain ⟨u', e', r1, r2⟩ := RR.out
 cases e'
 exact ⟨_, rfl, r1, r2⟩
theorem menc_nack (v n : Int) (k row num x y p q st : Int) (sm : Bool) (c : Cm) (sq : Int) (ua : Option Addr) (uk uc : Nat) (w : World) (Z LY : Value) (L : List Int) (hC : Hid (∀ W, Below w.heap.size w W → Calls Tryz.prog 12 #[.int .i64 v, .int .i64 n, .agg #[.int .i64 k, .int .i64 row, .int .i64 num, .int .i64 x, .int .i64 y, .int .i64 p, .int .i64 q, .int .i64 st, .bool sm, .int .i64 c.kind, .int .i64 c.client, .int .i64 c.req, .string c.key, .string c.key2, .string c.val, .string c.old, .int .i64 c.n, .int .i64 sq, .slice ua uk uc]] W fun r w' => r = .returned (.int .i64 0) ∧ Below W.heap.size W w'))
  (hS : Hid (∀ W, Calls Tryz.prog 13 #[.agg #[.int .i64 k, .int .i64 row, .int .i64 num, .int .i64 x, .int .i64 y, .int .i64 p, .int .i64 q, .int .i64 st, .bool sm, .int .i64 c.kind, .int .i64 c.client, .int .i64 c.req, .string c.key, .string c.key2, .string c.val, .string c.old, .int .i64 c.n, .int .i64 sq, .slice ua uk uc]] W fun r w' => r = .returned (.iface 89 Z) ∧ Below W.heap.size W w')) (hL : Hid (∀ W, Calls Tryz.prog 14 #[.int .i64 v] W fun r w' => r = .returned LY ∧ Below W.heap.size W w'))
  (hB : Hid (∀ W, Below w.heap.size w W → Calls Tryz.prog 166 #[Z, LY] W fun r w' => Bts W L r w')) :
  Calls Tryz.prog 5 #[.int .i64 v, .int .i64 n, .agg #[.int .i64 k, .int .i64 row, .int .i64 num, .int .i64 x, .int .i64 y, .int .i64 p, .int .i64 q, .int .i64 st, .bool sm, .int .i64 c.kind, .int .i64 c.client, .int .i64 c.req, .string c.key, .string c.key2, .string c.val, .string c.old, .int .i64 c.n, .int .i64 sq, .slice ua uk uc]] w fun r w' => ∃ u, r = .returned (.tuple #[u, .int .i64 0]) ∧ w'.ownsRow w.heap.size 5 1 u L.length (L.map (Value.int .u8)) ∧ Below w.heap.size w w' := by
 obtain ⟨X, hX, QX⟩ := zX w 30 [.int .i64 k, .int .i64 row, .int .i64 num, .int .i64 x, .int .i64 y, .int .i64 p, .int .i64 q, .int .i64 st, .bool sm, .int .i64 c.kind, .int .i64 c.client, .int .i64 c.req, .string c.key, .string c.key2, .string c.val, .string c.old, .int .i64 c.n, .int .i64 sq, .slice ua uk uc]
 have BX : Hid (Below w.heap.size w X) := by rw [hX]; exact (Below.refl _ w).alloc zN _
 have hm : ∀ w, (Go.method 345 89 Z "moot/msg.bytes").run Tryz.prog w = .ok (166, Z) w := fun _ => by kernel_rfl
 have hna : ∀ w, (Go.nilAhead 345 89 Z "moot/msg.bytes").run Tryz.prog w = .ok (some false) w := fun _ => by kernel_rfl
 go_enter Tryz.func5, Tryz.ntmps5
 go_upto_region 1 with fail
 rw [← hX]
 clear hX
 go_wp2_with (first | (refine wpList_load_mid rfl 30 _ rfl w.heap.size 0 rfl [.int .i64 k, .int .i64 row, .int .i64 num, .int .i64 x, .int .i64 y, .int .i64 p, .int .i64 q, .int .i64 st, .bool sm, .int .i64 c.kind, .int .i64 c.client, .int .i64 c.req, .string c.key, .string c.key2, .string c.val, .string c.old, .int .i64 c.n, .int .i64 sq, .slice ua uk uc] _ (QX.out.range) Tryz.underlying30 rfl (by kernel_rfl) ?_))
 refine (hC.out X BX.out).mono ?_
 rintro r X1 ⟨rfl, b1⟩
 have Q1 := hide (QX.out.on b1)
 have B1 : Hid (Below w.heap.size w X1) := BX.out.trans (b1.mono BX.out.size)
 clear b1 QX BX
 go_upto_region 4 with fail
 have S0 := belX X1
 refine wp_region_noPanic ?_
 refine wp_region_held_drew (S := (fun w' => Below X1.heap.size X1 w')) (by kernel_rfl) S0 (fun hHeld => ?_)
 refine tq 0 rfl (yieldsIf_load_mid (by rfl) 30 _ rfl w.heap.size 0 rfl [.int .i64 k, .int .i64 row, .int .i64 num, .int .i64 x, .int .i64 y, .int .i64 p, .int .i64 q, .int .i64 st, .bool sm, .int .i64 c.kind, .int .i64 c.client, .int .i64 c.req, .string c.key, .string c.key2, .string c.val, .string c.old, .int .i64 c.n, .int .i64 sq, .slice ua uk uc] _ (fun _ h => Q1.out.sub h 0 [.int .i64 k, .int .i64 row, .int .i64 num, .int .i64 x, .int .i64 y, .int .i64 p, .int .i64 q, .int .i64 st, .bool sm, .int .i64 c.kind, .int .i64 c.client, .int .i64 c.req, .string c.key, .string c.key2, .string c.val, .string c.old, .int .i64 c.n, .int .i64 sq, .slice ua uk uc] rfl) Tryz.underlying30 rfl (by kernel_rfl)) ?_
 refine tk 2 ?_
 refine zR 1 fun K hK => ?_
 go_wp2_with fail
 refine (hS.out _).mono ?_
 rintro e W1 ⟨rfl, b2⟩
 have P1 := S0.trans (b2.mono S0.size)
 clear b2
 refine hK.out _ _ P1 (fun hHeld => ?_)
 clear hK K
 try simp only [Act.put, zA, zB, zC, zD, zE, zF]
 refine tk 4 ?_
 refine tk 5 ?_
 refine tk 6 ?_
 refine zR 3 fun K hK => ?_
 go_wp2_with fail
 refine (hL.out _).mono ?_
 rintro e W2 ⟨rfl, b3⟩
 have P2 := P1.trans (b3.mono P1.size)
 clear b3
 refine hK.out _ _ P2 (fun hHeld => ?_)
 clear hK K
 try simp only [Act.put, zA, zB, zC, zD, zE, zF]
 refine zR 7 fun K hK => ?_
 go_wp2_with fail
 refine (hB.out W2 (B1.out.trans (P2.mono B1.out.size))).mono ?_
 rintro e W3 ⟨u, rfl, o3, b3⟩
 have P3 := P2.trans (b3.mono P2.size)
 have RR := hide (bts_box (B1.out.trans (P2.mono B1.out.size)) ⟨u, rfl, o3, b3⟩)
 refine hK.out _ _ P3 (fun hHeld => ?_)
 clear hK K
 try simp only [Act.put, zA, zB, zC, zD, zE, zF]
 refine tk 8 ?_
 refine tk 9 ?_
 refine wpAnyH_done (by kernel_rfl) ?_ _
 refine NoPanic.normal ?_
 go_wp2
 go_ret2
 obtain ⟨u', e', r1, r2⟩ := RR.out
 cases e'
 exact ⟨_, rfl, r1, r2⟩
end Go.Proofs.YtibfdoggolkljaaGreatDoor
