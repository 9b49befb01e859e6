/- Texts of the proof, joined. -/
import Derived.Test.YtdokagebfeejbaaGreatDoorJ23
import Derived.Test.YtdokagebfeejbaaGreatDoorJ21
import Derived.Test.YtdokagebfeejbaaGreatDoorJ25
/- The contract of Check. -/
namespace Go.Proofs.YtdokagebfeejbaaGreatDoor
open Go.RowKit Go.Wire1

/-- What is amiss with a message's shape. -/
def shF (v n : Int) (m : Ms) : Nat → Int
  | 1 => orL [unl (instB n m.row m.num) 52, unl (ballB m.kind.toNat n m.row m.x m.y) 53, loadF v n (m.kind != 1) m.c m.sq m.dl]
  | 2 => orL [unl (instB n m.row m.num) 52, unl (ballB m.kind.toNat n m.row m.x m.y) 53, unl (seqB false m.sq) 55, unl (depsB n false m.dl) 56]
  | 3 => orL [unl (instB n m.row m.num) 52, unl (ballB m.kind.toNat n m.row m.x m.y) 53]
  | 4 => orL [unl (instB n m.row m.num) 52, loadF v n true m.c m.sq m.dl]
  | 5 => orL [unl (instB n m.row m.num) 52, unl (ballB m.kind.toNat n m.row m.x m.y) 53]
  | 6 => orL [unl (instB n m.row m.num) 52, unl (ballB m.kind.toNat n m.row m.x m.y) 53, unl (voteB n m.row m.x m.y m.st m.sm m.p m.q) 54, loadF v n (m.st != 1) m.c m.sq m.dl]
  | 7 => orL [unl (instB n m.row m.num) 52, unl (ballB m.kind.toNat n m.row m.x m.y) 53, unl (nackB n m.row m.x m.y m.p m.q) 54]
  | _ => unl (instB n m.row m.num) 52
/-- What Check answers. -/
def chkM (v n : Int) (m : Ms) : Int := if callF v n = 0 then (if isMK v m.kind = true then (if extraM m = true then 58 else shF v n m (shK m)) else 51) else callF v n
set_option maxHeartbeats 2000000 in
set_option maxRecDepth 100000 in
theorem check_call (v n : Int) (k row num x y p q st : Int) (sm : Bool) (c : Cm) (sq : Int) (_dl : List Int) (ua : Option Addr) (uk uc : Nat) (w : World) (hc : callF v n ≠ 0) :
    Calls Tryz.prog 7 #[.int .i64 v, .int .i64 n, .agg #[.int .i64 k, .int .i64 row, .int .i64 num, .int .i64 x, .int .i64 y, .int .i64 p, .int .i64 q, .int .i64 st, .bool sm, .int .i64 c.kind, .int .i64 c.client, .int .i64 c.req, .string c.key, .string c.key2, .string c.val, .string c.old, .int .i64 c.n, .int .i64 sq, .slice ua uk uc]] w fun r w' => r = .returned (.int .i64 (callF v n)) ∧ Below w.heap.size w w' := by
  obtain ⟨X, hX⟩ : ∃ X, X = w.alloc (.cells #[.int .i64 k, .int .i64 row, .int .i64 num, .int .i64 x, .int .i64 y, .int .i64 p, .int .i64 q, .int .i64 st, .bool sm, .int .i64 c.kind, .int .i64 c.client, .int .i64 c.req, .string c.key, .string c.key2, .string c.val, .string c.old, .int .i64 c.n, .int .i64 sq, .slice ua uk uc] 30) := ⟨_, rfl⟩
  have QX : Hid (Blk X w.heap.size [.int .i64 k, .int .i64 row, .int .i64 num, .int .i64 x, .int .i64 y, .int .i64 p, .int .i64 q, .int .i64 st, .bool sm, .int .i64 c.kind, .int .i64 c.client, .int .i64 c.req, .string c.key, .string c.key2, .string c.val, .string c.old, .int .i64 c.n, .int .i64 sq, .slice ua uk uc]) := by rw [hX]; exact blk_new w 30 [.int .i64 k, .int .i64 row, .int .i64 num, .int .i64 x, .int .i64 y, .int .i64 p, .int .i64 q, .int .i64 st, .bool sm, .int .i64 c.kind, .int .i64 c.client, .int .i64 c.req, .string c.key, .string c.key2, .string c.val, .string c.old, .int .i64 c.n, .int .i64 sq, .slice ua uk uc]
  have BX : Hid (Below w.heap.size w X) := by rw [hX]; exact (Below.refl _ w).alloc (Nat.le_refl _) _
  have hCF := hide (callFault_any v n X)
  have q1 : (callF v n != 0) = true := by rw [bne_iff_ne]; exact hc
  clear hc
  generalize callF v n = cf at *
  go_enter Tryz.func7, Tryz.ntmps7
  go_upto_region 1 with fail
  rw [← hX]
  clear hX
  go_wp2_with fail
  refine hCF.out.mono ?_
  rintro r w1 ⟨rfl, rfl⟩
  go_wp2
  go_ret
  exact ⟨rfl, BX.out⟩
set_option maxHeartbeats 2000000 in
set_option maxRecDepth 100000 in
theorem check_kind (v n : Int) (k row num x y p q st : Int) (sm : Bool) (c : Cm) (sq : Int) (_dl : List Int) (ua : Option Addr) (uk uc : Nat) (w : World) (hc : callF v n = 0) (hK : Kmd w) (hk : isMK v k = false) :
    Calls Tryz.prog 7 #[.int .i64 v, .int .i64 n, .agg #[.int .i64 k, .int .i64 row, .int .i64 num, .int .i64 x, .int .i64 y, .int .i64 p, .int .i64 q, .int .i64 st, .bool sm, .int .i64 c.kind, .int .i64 c.client, .int .i64 c.req, .string c.key, .string c.key2, .string c.val, .string c.old, .int .i64 c.n, .int .i64 sq, .slice ua uk uc]] w fun r w' => r = .returned (.int .i64 51) ∧ Below w.heap.size w w' := by
  obtain ⟨X, hX⟩ : ∃ X, X = w.alloc (.cells #[.int .i64 k, .int .i64 row, .int .i64 num, .int .i64 x, .int .i64 y, .int .i64 p, .int .i64 q, .int .i64 st, .bool sm, .int .i64 c.kind, .int .i64 c.client, .int .i64 c.req, .string c.key, .string c.key2, .string c.val, .string c.old, .int .i64 c.n, .int .i64 sq, .slice ua uk uc] 30) := ⟨_, rfl⟩
  have QX : Hid (Blk X w.heap.size [.int .i64 k, .int .i64 row, .int .i64 num, .int .i64 x, .int .i64 y, .int .i64 p, .int .i64 q, .int .i64 st, .bool sm, .int .i64 c.kind, .int .i64 c.client, .int .i64 c.req, .string c.key, .string c.key2, .string c.val, .string c.old, .int .i64 c.n, .int .i64 sq, .slice ua uk uc]) := by rw [hX]; exact blk_new w 30 [.int .i64 k, .int .i64 row, .int .i64 num, .int .i64 x, .int .i64 y, .int .i64 p, .int .i64 q, .int .i64 st, .bool sm, .int .i64 c.kind, .int .i64 c.client, .int .i64 c.req, .string c.key, .string c.key2, .string c.val, .string c.old, .int .i64 c.n, .int .i64 sq, .slice ua uk uc]
  have BX : Hid (Below w.heap.size w X) := by rw [hX]; exact (Below.refl _ w).alloc (Nat.le_refl _) _
  have hCF := hide (callFault_any v n X)
  rw [hc] at hCF
  have c0 := QX.out.cell 0 _ rfl
  have MK := hide (mKind_any v k X (hK.below BX.out (Nat.le_refl _)))
  rw [hk] at MK
  clear hc hK hk
  go_enter Tryz.func7, Tryz.ntmps7
  go_upto_region 1 with fail
  rw [← hX]
  clear hX
  go_wp2_with fail
  refine hCF.out.mono ?_
  rintro r w1 ⟨rfl, rfl⟩
  go_wp2_with fail
  refine MK.out.mono ?_
  rintro r w1 ⟨rfl, rfl⟩
  go_wp2
  go_ret
  exact ⟨rfl, BX.out⟩
set_option maxHeartbeats 2000000 in
set_option maxRecDepth 100000 in
theorem check_extra (v n : Int) (k row num x y p q st : Int) (sm : Bool) (c : Cm) (sq : Int) (dl : List Int) (ua : Option Addr) (uk uc : Nat) (w : World) (hc : callF v n = 0) (hK : Kmd w) (hk : isMK v k = true) (hu : uk = dl.length) (hb : uk ≤ 9223372036854775807) (hx : extraM (⟨k, row, num, x, y, p, q, st, sm, c, sq, dl⟩ : Ms) = true) :
    Calls Tryz.prog 7 #[.int .i64 v, .int .i64 n, .agg #[.int .i64 k, .int .i64 row, .int .i64 num, .int .i64 x, .int .i64 y, .int .i64 p, .int .i64 q, .int .i64 st, .bool sm, .int .i64 c.kind, .int .i64 c.client, .int .i64 c.req, .string c.key, .string c.key2, .string c.val, .string c.old, .int .i64 c.n, .int .i64 sq, .slice ua uk uc]] w fun r w' => r = .returned (.int .i64 58) ∧ Below w.heap.size w w' := by
  obtain ⟨X, hX⟩ : ∃ X, X = w.alloc (.cells #[.int .i64 k, .int .i64 row, .int .i64 num, .int .i64 x, .int .i64 y, .int .i64 p, .int .i64 q, .int .i64 st, .bool sm, .int .i64 c.kind, .int .i64 c.client, .int .i64 c.req, .string c.key, .string c.key2, .string c.val, .string c.old, .int .i64 c.n, .int .i64 sq, .slice ua uk uc] 30) := ⟨_, rfl⟩
  have QX : Hid (Blk X w.heap.size [.int .i64 k, .int .i64 row, .int .i64 num, .int .i64 x, .int .i64 y, .int .i64 p, .int .i64 q, .int .i64 st, .bool sm, .int .i64 c.kind, .int .i64 c.client, .int .i64 c.req, .string c.key, .string c.key2, .string c.val, .string c.old, .int .i64 c.n, .int .i64 sq, .slice ua uk uc]) := by rw [hX]; exact blk_new w 30 [.int .i64 k, .int .i64 row, .int .i64 num, .int .i64 x, .int .i64 y, .int .i64 p, .int .i64 q, .int .i64 st, .bool sm, .int .i64 c.kind, .int .i64 c.client, .int .i64 c.req, .string c.key, .string c.key2, .string c.val, .string c.old, .int .i64 c.n, .int .i64 sq, .slice ua uk uc]
  have BX : Hid (Below w.heap.size w X) := by rw [hX]; exact (Below.refl _ w).alloc (Nat.le_refl _) _
  have hCF := hide (callFault_any v n X)
  rw [hc] at hCF
  have c0 := QX.out.cell 0 _ rfl
  have MK := hide (mKind_any v k X (hK.below BX.out (Nat.le_refl _)))
  rw [hk] at MK
  have SO := hide (shapeOf_any (⟨k, row, num, x, y, p, q, st, sm, c, sq, dl⟩ : Ms) ua uk uc X)
  have HX := fun W => hide (hasExtra_any (⟨k, row, num, x, y, p, q, st, sm, c, sq, dl⟩ : Ms) ua uk uc W hu hb)
  rw [hx] at HX
  simp only [mgc] at SO HX
  obtain ⟨SV, hSV⟩ : ∃ SV, Hid (shV (⟨k, row, num, x, y, p, q, st, sm, c, sq, dl⟩ : Ms) (.slice ua uk uc) = SV) := ⟨_, rfl⟩
  rw [hSV.out] at SO
  simp only [hSV.out] at HX
  clear hc hK hk hx hu
  go_enter Tryz.func7, Tryz.ntmps7
  go_upto_region 1 with fail
  rw [← hX]
  clear hX
  go_wp2_with fail
  refine hCF.out.mono ?_
  rintro r w1 ⟨rfl, rfl⟩
  go_wp2_with fail
  refine MK.out.mono ?_
  rintro r w1 ⟨rfl, rfl⟩
  go_wp2_with (first | (refine wpList_load_mid rfl 30 _ rfl w.heap.size 0 rfl [.int .i64 k, .int .i64 row, .int .i64 num, .int .i64 x, .int .i64 y, .int .i64 p, .int .i64 q, .int .i64 st, .bool sm, .int .i64 c.kind, .int .i64 c.client, .int .i64 c.req, .string c.key, .string c.key2, .string c.val, .string c.old, .int .i64 c.n, .int .i64 sq, .slice ua uk uc] _ (QX.out.range) Tryz.underlying30 rfl (by kernel_rfl) ?_))
  refine SO.out.mono ?_
  rintro r w1 ⟨rfl, b1⟩
  have Q1 := hide (QX.out.on b1)
  have B1 : Hid (Below w.heap.size w w1) := BX.out.trans (b1.mono BX.out.size)
  clear b1 QX c0
  go_wp2_with (first | (refine wpList_load_mid rfl 30 _ rfl w.heap.size 0 rfl [.int .i64 k, .int .i64 row, .int .i64 num, .int .i64 x, .int .i64 y, .int .i64 p, .int .i64 q, .int .i64 st, .bool sm, .int .i64 c.kind, .int .i64 c.client, .int .i64 c.req, .string c.key, .string c.key2, .string c.val, .string c.old, .int .i64 c.n, .int .i64 sq, .slice ua uk uc] _ (Q1.out.range) Tryz.underlying30 rfl (by kernel_rfl) ?_))
  refine (HX w1).out.mono ?_
  rintro r w2 ⟨rfl, b2⟩
  have B2 : Hid (Below w.heap.size w w2) := B1.out.trans (b2.mono B1.out.size)
  clear b2
  go_wp2
  go_ret
  exact ⟨rfl, B2.out⟩
set_option maxHeartbeats 2000000 in
set_option maxRecDepth 100000 in
theorem check_bare (v n : Int) (k row num x y p q st : Int) (sm : Bool) (c : Cm) (sq : Int) (dl : List Int) (ua : Option Addr) (uk uc : Nat) (w : World) (Z : Value) (FV : Int) (hc : callF v n = 0) (hK : Kmd w) (hk : isMK v k = true) (hu : uk = dl.length) (hb : uk ≤ 9223372036854775807) (hx : extraM (⟨k, row, num, x, y, p, q, st, sm, c, sq, dl⟩ : Ms) = false)
    (hSV : shV (⟨k, row, num, x, y, p, q, st, sm, c, sq, dl⟩ : Ms) (.slice ua uk uc) = .iface 107 Z) (hF : ∀ W, Below w.heap.size w W → Calls Tryz.prog 197 #[Z, .int .i64 v, .int .i64 n] W fun r w' => r = .returned (.int .i64 FV) ∧ Below W.heap.size W w') :
    Calls Tryz.prog 7 #[.int .i64 v, .int .i64 n, .agg #[.int .i64 k, .int .i64 row, .int .i64 num, .int .i64 x, .int .i64 y, .int .i64 p, .int .i64 q, .int .i64 st, .bool sm, .int .i64 c.kind, .int .i64 c.client, .int .i64 c.req, .string c.key, .string c.key2, .string c.val, .string c.old, .int .i64 c.n, .int .i64 sq, .slice ua uk uc]] w fun r w' => r = .returned (.int .i64 FV) ∧ Below w.heap.size w w' := by
  obtain ⟨X, hX⟩ : ∃ X, X = w.alloc (.cells #[.int .i64 k, .int .i64 row, .int .i64 num, .int .i64 x, .int .i64 y, .int .i64 p, .int .i64 q, .int .i64 st, .bool sm, .int .i64 c.kind, .int .i64 c.client, .int .i64 c.req, .string c.key, .string c.key2, .string c.val, .string c.old, .int .i64 c.n, .int .i64 sq, .slice ua uk uc] 30) := ⟨_, rfl⟩
  have QX : Hid (Blk X w.heap.size [.int .i64 k, .int .i64 row, .int .i64 num, .int .i64 x, .int .i64 y, .int .i64 p, .int .i64 q, .int .i64 st, .bool sm, .int .i64 c.kind, .int .i64 c.client, .int .i64 c.req, .string c.key, .string c.key2, .string c.val, .string c.old, .int .i64 c.n, .int .i64 sq, .slice ua uk uc]) := by rw [hX]; exact blk_new w 30 [.int .i64 k, .int .i64 row, .int .i64 num, .int .i64 x, .int .i64 y, .int .i64 p, .int .i64 q, .int .i64 st, .bool sm, .int .i64 c.kind, .int .i64 c.client, .int .i64 c.req, .string c.key, .string c.key2, .string c.val, .string c.old, .int .i64 c.n, .int .i64 sq, .slice ua uk uc]
  have BX : Hid (Below w.heap.size w X) := by rw [hX]; exact (Below.refl _ w).alloc (Nat.le_refl _) _
  have hCF := hide (callFault_any v n X)
  rw [hc] at hCF
  have c0 := QX.out.cell 0 _ rfl
  have MK := hide (mKind_any v k X (hK.below BX.out (Nat.le_refl _)))
  rw [hk] at MK
  have SO := hide (shapeOf_any (⟨k, row, num, x, y, p, q, st, sm, c, sq, dl⟩ : Ms) ua uk uc X)
  have HX := fun W => hide (hasExtra_any (⟨k, row, num, x, y, p, q, st, sm, c, sq, dl⟩ : Ms) ua uk uc W hu hb)
  rw [hx] at HX
  simp only [mgc] at SO HX
  rw [hSV] at SO
  simp only [hSV] at HX
  have HF := hide hF
  have hm : ∀ w, (Go.method 361 107 Z "moot/msg.fault").run Tryz.prog w = .ok (197, Z) w := fun _ => by kernel_rfl
  clear hc hK hk hx hu hSV hF
  go_enter Tryz.func7, Tryz.ntmps7
  go_upto_region 1 with fail
  rw [← hX]
  clear hX
  go_wp2_with fail
  refine hCF.out.mono ?_
  rintro r w1 ⟨rfl, rfl⟩
  go_wp2_with fail
  refine MK.out.mono ?_
  rintro r w1 ⟨rfl, rfl⟩
  go_wp2_with (first | (refine wpList_load_mid rfl 30 _ rfl w.heap.size 0 rfl [.int .i64 k, .int .i64 row, .int .i64 num, .int .i64 x, .int .i64 y, .int .i64 p, .int .i64 q, .int .i64 st, .bool sm, .int .i64 c.kind, .int .i64 c.client, .int .i64 c.req, .string c.key, .string c.key2, .string c.val, .string c.old, .int .i64 c.n, .int .i64 sq, .slice ua uk uc] _ (QX.out.range) Tryz.underlying30 rfl (by kernel_rfl) ?_))
  refine SO.out.mono ?_
  rintro r w1 ⟨rfl, b1⟩
  have Q1 := hide (QX.out.on b1)
  have B1 : Hid (Below w.heap.size w w1) := BX.out.trans (b1.mono BX.out.size)
  clear b1 QX c0
  go_wp2_with (first | (refine wpList_load_mid rfl 30 _ rfl w.heap.size 0 rfl [.int .i64 k, .int .i64 row, .int .i64 num, .int .i64 x, .int .i64 y, .int .i64 p, .int .i64 q, .int .i64 st, .bool sm, .int .i64 c.kind, .int .i64 c.client, .int .i64 c.req, .string c.key, .string c.key2, .string c.val, .string c.old, .int .i64 c.n, .int .i64 sq, .slice ua uk uc] _ (Q1.out.range) Tryz.underlying30 rfl (by kernel_rfl) ?_))
  refine (HX w1).out.mono ?_
  rintro r w2 ⟨rfl, b2⟩
  have B2 : Hid (Below w.heap.size w w2) := B1.out.trans (b2.mono B1.out.size)
  clear b2 Q1
  go_wp2_with fail
  refine (HF.out w2 B2.out).mono ?_
  rintro r w3 ⟨rfl, b3⟩
  have B3 : Hid (Below w.heap.size w w3) := B2.out.trans (b3.mono B2.out.size)
  clear b3
  go_wp2
  go_ret
  exact ⟨rfl, B3.out⟩
set_option maxHeartbeats 2000000 in
set_option maxRecDepth 100000 in
theorem check_proposal (v n : Int) (k row num x y p q st : Int) (sm : Bool) (c : Cm) (sq : Int) (dl : List Int) (ua : Option Addr) (uk uc : Nat) (w : World) (Z : Value) (FV : Int) (hc : callF v n = 0) (hK : Kmd w) (hk : isMK v k = true) (hu : uk = dl.length) (hb : uk ≤ 9223372036854775807) (hx : extraM (⟨k, row, num, x, y, p, q, st, sm, c, sq, dl⟩ : Ms) = false)
    (hSV : shV (⟨k, row, num, x, y, p, q, st, sm, c, sq, dl⟩ : Ms) (.slice ua uk uc) = .iface 94 Z) (hF : ∀ W, Below w.heap.size w W → Calls Tryz.prog 162 #[Z, .int .i64 v, .int .i64 n] W fun r w' => r = .returned (.int .i64 FV) ∧ Below W.heap.size W w') :
    Calls Tryz.prog 7 #[.int .i64 v, .int .i64 n, .agg #[.int .i64 k, .int .i64 row, .int .i64 num, .int .i64 x, .int .i64 y, .int .i64 p, .int .i64 q, .int .i64 st, .bool sm, .int .i64 c.kind, .int .i64 c.client, .int .i64 c.req, .string c.key, .string c.key2, .string c.val, .string c.old, .int .i64 c.n, .int .i64 sq, .slice ua uk uc]] w fun r w' => r = .returned (.int .i64 FV) ∧ Below w.heap.size w w' := by
  obtain ⟨X, hX⟩ : ∃ X, X = w.alloc (.cells #[.int .i64 k, .int .i64 row, .int .i64 num, .int .i64 x, .int .i64 y, .int .i64 p, .int .i64 q, .int .i64 st, .bool sm, .int .i64 c.kind, .int .i64 c.client, .int .i64 c.req, .string c.key, .string c.key2, .string c.val, .string c.old, .int .i64 c.n, .int .i64 sq, .slice ua uk uc] 30) := ⟨_, rfl⟩
  have QX : Hid (Blk X w.heap.size [.int .i64 k, .int .i64 row, .int .i64 num, .int .i64 x, .int .i64 y, .int .i64 p, .int .i64 q, .int .i64 st, .bool sm, .int .i64 c.kind, .int .i64 c.client, .int .i64 c.req, .string c.key, .string c.key2, .string c.val, .string c.old, .int .i64 c.n, .int .i64 sq, .slice ua uk uc]) := by rw [hX]; exact blk_new w 30 [.int .i64 k, .int .i64 row, .int .i64 num, .int .i64 x, .int .i64 y, .int .i64 p, .int .i64 q, .int .i64 st, .bool sm, .int .i64 c.kind, .int .i64 c.client, .int .i64 c.req, .string c.key, .string c.key2, .string c.val, .string c.old, .int .i64 c.n, .int .i64 sq, .slice ua uk uc]
  have BX : Hid (Below w.heap.size w X) := by rw [hX]; exact (Below.refl _ w).alloc (Nat.le_refl _) _
  have hCF := hide (callFault_any v n X)
  rw [hc] at hCF
  have c0 := QX.out.cell 0 _ rfl
  have MK := hide (mKind_any v k X (hK.below BX.out (Nat.le_refl _)))
  rw [hk] at MK
  have SO := hide (shapeOf_any (⟨k, row, num, x, y, p, q, st, sm, c, sq, dl⟩ : Ms) ua uk uc X)
  have HX := fun W => hide (hasExtra_any (⟨k, row, num, x, y, p, q, st, sm, c, sq, dl⟩ : Ms) ua uk uc W hu hb)
  rw [hx] at HX
  simp only [mgc] at SO HX
  rw [hSV] at SO
  simp only [hSV] at HX
  have HF := hide hF
  have hm : ∀ w, (Go.method 361 94 Z "moot/msg.fault").run Tryz.prog w = .ok (162, Z) w := fun _ => by kernel_rfl
  clear hc hK hk hx hu hSV hF
  go_enter Tryz.func7, Tryz.ntmps7
  go_upto_region 1 with fail
  rw [← hX]
  clear hX
  go_wp2_with fail
  refine hCF.out.mono ?_
  rintro r w1 ⟨rfl, rfl⟩
  go_wp2_with fail
  refine MK.out.mono ?_
  rintro r w1 ⟨rfl, rfl⟩
  go_wp2_with (first | (refine wpList_load_mid rfl 30 _ rfl w.heap.size 0 rfl [.int .i64 k, .int .i64 row, .int .i64 num, .int .i64 x, .int .i64 y, .int .i64 p, .int .i64 q, .int .i64 st, .bool sm, .int .i64 c.kind, .int .i64 c.client, .int .i64 c.req, .string c.key, .string c.key2, .string c.val, .string c.old, .int .i64 c.n, .int .i64 sq, .slice ua uk uc] _ (QX.out.range) Tryz.underlying30 rfl (by kernel_rfl) ?_))
  refine SO.out.mono ?_
  rintro r w1 ⟨rfl, b1⟩
  have Q1 := hide (QX.out.on b1)
  have B1 : Hid (Below w.heap.size w w1) := BX.out.trans (b1.mono BX.out.size)
  clear b1 QX c0
  go_wp2_with (first | (refine wpList_load_mid rfl 30 _ rfl w.heap.size 0 rfl [.int .i64 k, .int .i64 row, .int .i64 num, .int .i64 x, .int .i64 y, .int .i64 p, .int .i64 q, .int .i64 st, .bool sm, .int .i64 c.kind, .int .i64 c.client, .int .i64 c.req, .string c.key, .string c.key2, .string c.val, .string c.old, .int .i64 c.n, .int .i64 sq, .slice ua uk uc] _ (Q1.out.range) Tryz.underlying30 rfl (by kernel_rfl) ?_))
  refine (HX w1).out.mono ?_
  rintro r w2 ⟨rfl, b2⟩
  have B2 : Hid (Below w.heap.size w w2) := B1.out.trans (b2.mono B1.out.size)
  clear b2 Q1
  go_wp2_with fail
  refine (HF.out w2 B2.out).mono ?_
  rintro r w3 ⟨rfl, b3⟩
  have B3 : Hid (Below w.heap.size w w3) := B2.out.trans (b3.mono B2.out.size)
  clear b3
  go_wp2
  go_ret
  exact ⟨rfl, B3.out⟩
set_option maxHeartbeats 2000000 in
set_option maxRecDepth 100000 in
theorem check_estimate (v n : Int) (k row num x y p q st : Int) (sm : Bool) (c : Cm) (sq : Int) (dl : List Int) (ua : Option Addr) (uk uc : Nat) (w : World) (Z : Value) (FV : Int) (hc : callF v n = 0) (hK : Kmd w) (hk : isMK v k = true) (hu : uk = dl.length) (hb : uk ≤ 9223372036854775807) (hx : extraM (⟨k, row, num, x, y, p, q, st, sm, c, sq, dl⟩ : Ms) = false)
    (hSV : shV (⟨k, row, num, x, y, p, q, st, sm, c, sq, dl⟩ : Ms) (.slice ua uk uc) = .iface 96 Z) (hF : ∀ W, Below w.heap.size w W → Calls Tryz.prog 185 #[Z, .int .i64 v, .int .i64 n] W fun r w' => r = .returned (.int .i64 FV) ∧ Below W.heap.size W w') :
    Calls Tryz.prog 7 #[.int .i64 v, .int .i64 n, .agg #[.int .i64 k, .int .i64 row, .int .i64 num, .int .i64 x, .int .i64 y, .int .i64 p, .int .i64 q, .int .i64 st, .bool sm, .int .i64 c.kind, .int .i64 c.client, .int .i64 c.req, .string c.key, .string c.key2, .string c.val, .string c.old, .int .i64 c.n, .int .i64 sq, .slice ua uk uc]] w fun r w' => r = .returned (.int .i64 FV) ∧ Below w.heap.size w w' := by
  obtain ⟨X, hX⟩ : ∃ X, X = w.alloc (.cells #[.int .i64 k, .int .i64 row, .int .i64 num, .int .i64 x, .int .i64 y, .int .i64 p, .int .i64 q, .int .i64 st, .bool sm, .int .i64 c.kind, .int .i64 c.client, .int .i64 c.req, .string c.key, .string c.key2, .string c.val, .string c.old, .int .i64 c.n, .int .i64 sq, .slice ua uk uc] 30) := ⟨_, rfl⟩
  have QX : Hid (Blk X w.heap.size [.int .i64 k, .int .i64 row, .int .i64 num, .int .i64 x, .int .i64 y, .int .i64 p, .int .i64 q, .int .i64 st, .bool sm, .int .i64 c.kind, .int .i64 c.client, .int .i64 c.req, .string c.key, .string c.key2, .string c.val, .string c.old, .int .i64 c.n, .int .i64 sq, .slice ua uk uc]) := by rw [hX]; exact blk_new w 30 [.int .i64 k, .int .i64 row, .int .i64 num, .int .i64 x, .int .i64 y, .int .i64 p, .int .i64 q, .int .i64 st, .bool sm, .int .i64 c.kind, .int .i64 c.client, .int .i64 c.req, .string c.key, .string c.key2, .string c.val, .string c.old, .int .i64 c.n, .int .i64 sq, .slice ua uk uc]
  have BX : Hid (Below w.heap.size w X) := by rw [hX]; exact (Below.refl _ w).alloc (Nat.le_refl _) _
  have hCF := hide (callFault_any v n X)
  rw [hc] at hCF
  have c0 := QX.out.cell 0 _ rfl
  have MK := hide (mKind_any v k X (hK.below BX.out (Nat.le_refl _)))
  rw [hk] at MK
  have SO := hide (shapeOf_any (⟨k, row, num, x, y, p, q, st, sm, c, sq, dl⟩ : Ms) ua uk uc X)
  have HX := fun W => hide (hasExtra_any (⟨k, row, num, x, y, p, q, st, sm, c, sq, dl⟩ : Ms) ua uk uc W hu hb)
  rw [hx] at HX
  simp only [mgc] at SO HX
  rw [hSV] at SO
  simp only [hSV] at HX
  have HF := hide hF
  have hm : ∀ w, (Go.method 361 96 Z "moot/msg.fault").run Tryz.prog w = .ok (185, Z) w := fun _ => by kernel_rfl
  clear hc hK hk hx hu hSV hF
  go_enter Tryz.func7, Tryz.ntmps7
  go_upto_region 1 with fail
  rw [← hX]
  clear hX
  go_wp2_with fail
  refine hCF.out.mono ?_
  rintro r w1 ⟨rfl, rfl⟩
  go_wp2_with fail
  refine MK.out.mono ?_
  rintro r w1 ⟨rfl, rfl⟩
  go_wp2_with (first | (refine wpList_load_mid rfl 30 _ rfl w.heap.size 0 rfl [.int .i64 k, .int .i64 row, .int .i64 num, .int .i64 x, .int .i64 y, .int .i64 p, .int .i64 q, .int .i64 st, .bool sm, .int .i64 c.kind, .int .i64 c.client, .int .i64 c.req, .string c.key, .string c.key2, .string c.val, .string c.old, .int .i64 c.n, .int .i64 sq, .slice ua uk uc] _ (QX.out.range) Tryz.underlying30 rfl (by kernel_rfl) ?_))
  refine SO.out.mono ?_
  rintro r w1 ⟨rfl, b1⟩
  have Q1 := hide (QX.out.on b1)
  have B1 : Hid (Below w.heap.size w w1) := BX.out.trans (b1.mono BX.out.size)
  clear b1 QX c0
  go_wp2_with (first | (refine wpList_load_mid rfl 30 _ rfl w.heap.size 0 rfl [.int .i64 k, .int .i64 row, .int .i64 num, .int .i64 x, .int .i64 y, .int .i64 p, .int .i64 q, .int .i64 st, .bool sm, .int .i64 c.kind, .int .i64 c.client, .int .i64 c.req, .string c.key, .string c.key2, .string c.val, .string c.old, .int .i64 c.n, .int .i64 sq, .slice ua uk uc] _ (Q1.out.range) Tryz.underlying30 rfl (by kernel_rfl) ?_))
  refine (HX w1).out.mono ?_
  rintro r w2 ⟨rfl, b2⟩
  have B2 : Hid (Below w.heap.size w w2) := B1.out.trans (b2.mono B1.out.size)
  clear b2 Q1
  go_wp2_with fail
  refine (HF.out w2 B2.out).mono ?_
  rintro r w3 ⟨rfl, b3⟩
  have B3 : Hid (Below w.heap.size w w3) := B2.out.trans (b3.mono B2.out.size)
  clear b3
  go_wp2
  go_ret
  exact ⟨rfl, B3.out⟩
set_option maxHeartbeats 2000000 in
set_option maxRecDepth 100000 in
theorem check_balloted (v n : Int) (k row num x y p q st : Int) (sm : Bool) (c : Cm) (sq : Int) (dl : List Int) (ua : Option Addr) (uk uc : Nat) (w : World) (Z : Value) (FV : Int) (hc : callF v n = 0) (hK : Kmd w) (hk : isMK v k = true) (hu : uk = dl.length) (hb : uk ≤ 9223372036854775807) (hx : extraM (⟨k, row, num, x, y, p, q, st, sm, c, sq, dl⟩ : Ms) = false)
    (hSV : shV (⟨k, row, num, x, y, p, q, st, sm, c, sq, dl⟩ : Ms) (.slice ua uk uc) = .iface 98 Z) (hF : ∀ W, Below w.heap.size w W → Calls Tryz.prog 187 #[Z, .int .i64 v, .int .i64 n] W fun r w' => r = .returned (.int .i64 FV) ∧ Below W.heap.size W w') :
    Calls Tryz.prog 7 #[.int .i64 v, .int .i64 n, .agg #[.int .i64 k, .int .i64 row, .int .i64 num, .int .i64 x, .int .i64 y, .int .i64 p, .int .i64 q, .int .i64 st, .bool sm, .int .i64 c.kind, .int .i64 c.client, .int .i64 c.req, .string c.key, .string c.key2, .string c.val, .string c.old, .int .i64 c.n, .int .i64 sq, .slice ua uk uc]] w fun r w' => r = .returned (.int .i64 FV) ∧ Below w.heap.size w w' := by
  obtain ⟨X, hX⟩ : ∃ X, X = w.alloc (.cells #[.int .i64 k, .int .i64 row, .int .i64 num, .int .i64 x, .int .i64 y, .int .i64 p, .int .i64 q, .int .i64 st, .bool sm, .int .i64 c.kind, .int .i64 c.client, .int .i64 c.req, .string c.key, .string c.key2, .string c.val, .string c.old, .int .i64 c.n, .int .i64 sq, .slice ua uk uc] 30) := ⟨_, rfl⟩
  have QX : Hid (Blk X w.heap.size [.int .i64 k, .int .i64 row, .int .i64 num, .int .i64 x, .int .i64 y, .int .i64 p, .int .i64 q, .int .i64 st, .bool sm, .int .i64 c.kind, .int .i64 c.client, .int .i64 c.req, .string c.key, .string c.key2, .string c.val, .string c.old, .int .i64 c.n, .int .i64 sq, .slice ua uk uc]) := by rw [hX]; exact blk_new w 30 [.int .i64 k, .int .i64 row, .int .i64 num, .int .i64 x, .int .i64 y, .int .i64 p, .int .i64 q, .int .i64 st, .bool sm, .int .i64 c.kind, .int .i64 c.client, .int .i64 c.req, .string c.key, .string c.key2, .string c.val, .string c.old, .int .i64 c.n, .int .i64 sq, .slice ua uk uc]
  have BX : Hid (Below w.heap.size w X) := by rw [hX]; exact (Below.refl _ w).alloc (Nat.le_refl _) _
  have hCF := hide (callFault_any v n X)
  rw [hc] at hCF
  have c0 := QX.out.cell 0 _ rfl
  have MK := hide (mKind_any v k X (hK.below BX.out (Nat.le_refl _)))
  rw [hk] at MK
  have SO := hide (shapeOf_any (⟨k, row, num, x, y, p, q, st, sm, c, sq, dl⟩ : Ms) ua uk uc X)
  have HX := fun W => hide (hasExtra_any (⟨k, row, num, x, y, p, q, st, sm, c, sq, dl⟩ : Ms) ua uk uc W hu hb)
  rw [hx] at HX
  simp only [mgc] at SO HX
  rw [hSV] at SO
  simp only [hSV] at HX
  have HF := hide hF
  have hm : ∀ w, (Go.method 361 98 Z "moot/msg.fault").run Tryz.prog w = .ok (187, Z) w := fun _ => by kernel_rfl
  clear hc hK hk hx hu hSV hF
  go_enter Tryz.func7, Tryz.ntmps7
  go_upto_region 1 with fail
  rw [← hX]
  clear hX
  go_wp2_with fail
  refine hCF.out.mono ?_
  rintro r w1 ⟨rfl, rfl⟩
  go_wp2_with fail
  refine MK.out.mono ?_
  rintro r w1 ⟨rfl, rfl⟩
  go_wp2_with (first | (refine wpList_load_mid rfl 30 _ rfl w.heap.size 0 rfl [.int .i64 k, .int .i64 row, .int .i64 num, .int .i64 x, .int .i64 y, .int .i64 p, .int .i64 q, .int .i64 st, .bool sm, .int .i64 c.kind, .int .i64 c.client, .int .i64 c.req, .string c.key, .string c.key2, .string c.val, .string c.old, .int .i64 c.n, .int .i64 sq, .slice ua uk uc] _ (QX.out.range) Tryz.underlying30 rfl (by kernel_rfl) ?_))
  refine SO.out.mono ?_
  rintro r w1 ⟨rfl, b1⟩
  have Q1 := hide (QX.out.on b1)
  have B1 : Hid (Below w.heap.size w w1) := BX.out.trans (b1.mono BX.out.size)
  clear b1 QX c0
  go_wp2_with (first | (refine wpList_load_mid rfl 30 _ rfl w.heap.size 0 rfl [.int .i64 k, .int .i64 row, .int .i64 num, .int .i64 x, .int .i64 y, .int .i64 p, .int .i64 q, .int .i64 st, .bool sm, .int .i64 c.kind, .int .i64 c.client, .int .i64 c.req, .string c.key, .string c.key2, .string c.val, .string c.old, .int .i64 c.n, .int .i64 sq, .slice ua uk uc] _ (Q1.out.range) Tryz.underlying30 rfl (by kernel_rfl) ?_))
  refine (HX w1).out.mono ?_
  rintro r w2 ⟨rfl, b2⟩
  have B2 : Hid (Below w.heap.size w w2) := B1.out.trans (b2.mono B1.out.size)
  clear b2 Q1
  go_wp2_with fail
  refine (HF.out w2 B2.out).mono ?_
  rintro r w3 ⟨rfl, b3⟩
  have B3 : Hid (Below w.heap.size w w3) := B2.out.trans (b3.mono B2.out.size)
  clear b3
  go_wp2
  go_ret
  exact ⟨rfl, B3.out⟩
set_option maxHeartbeats 2000000 in
set_option maxRecDepth 100000 in
theorem check_commit (v n : Int) (k row num x y p q st : Int) (sm : Bool) (c : Cm) (sq : Int) (dl : List Int) (ua : Option Addr) (uk uc : Nat) (w : World) (Z : Value) (FV : Int) (hc : callF v n = 0) (hK : Kmd w) (hk : isMK v k = true) (hu : uk = dl.length) (hb : uk ≤ 9223372036854775807) (hx : extraM (⟨k, row, num, x, y, p, q, st, sm, c, sq, dl⟩ : Ms) = false)
    (hSV : shV (⟨k, row, num, x, y, p, q, st, sm, c, sq, dl⟩ : Ms) (.slice ua uk uc) = .iface 100 Z) (hF : ∀ W, Below w.heap.size w W → Calls Tryz.prog 189 #[Z, .int .i64 v, .int .i64 n] W fun r w' => r = .returned (.int .i64 FV) ∧ Below W.heap.size W w') :
    Calls Tryz.prog 7 #[.int .i64 v, .int .i64 n, .agg #[.int .i64 k, .int .i64 row, .int .i64 num, .int .i64 x, .int .i64 y, .int .i64 p, .int .i64 q, .int .i64 st, .bool sm, .int .i64 c.kind, .int .i64 c.client, .int .i64 c.req, .string c.key, .string c.key2, .string c.val, .string c.old, .int .i64 c.n, .int .i64 sq, .slice ua uk uc]] w fun r w' => r = .returned (.int .i64 FV) ∧ Below w.heap.size w w' := by
  obtain ⟨X, hX⟩ : ∃ X, X = w.alloc (.cells #[.int .i64 k, .int .i64 row, .int .i64 num, .int .i64 x, .int .i64 y, .int .i64 p, .int .i64 q, .int .i64 st, .bool sm, .int .i64 c.kind, .int .i64 c.client, .int .i64 c.req, .string c.key, .string c.key2, .string c.val, .string c.old, .int .i64 c.n, .int .i64 sq, .slice ua uk uc] 30) := ⟨_, rfl⟩
  have QX : Hid (Blk X w.heap.size [.int .i64 k, .int .i64 row, .int .i64 num, .int .i64 x, .int .i64 y, .int .i64 p, .int .i64 q, .int .i64 st, .bool sm, .int .i64 c.kind, .int .i64 c.client, .int .i64 c.req, .string c.key, .string c.key2, .string c.val, .string c.old, .int .i64 c.n, .int .i64 sq, .slice ua uk uc]) := by rw [hX]; exact blk_new w 30 [.int .i64 k, .int .i64 row, .int .i64 num, .int .i64 x, .int .i64 y, .int .i64 p, .int .i64 q, .int .i64 st, .bool sm, .int .i64 c.kind, .int .i64 c.client, .int .i64 c.req, .string c.key, .string c.key2, .string c.val, .string c.old, .int .i64 c.n, .int .i64 sq, .slice ua uk uc]
  have BX : Hid (Below w.heap.size w X) := by rw [hX]; exact (Below.refl _ w).alloc (Nat.le_refl _) _
  have hCF := hide (callFault_any v n X)
  rw [hc] at hCF
  have c0 := QX.out.cell 0 _ rfl
  have MK := hide (mKind_any v k X (hK.below BX.out (Nat.le_refl _)))
  rw [hk] at MK
  have SO := hide (shapeOf_any (⟨k, row, num, x, y, p, q, st, sm, c, sq, dl⟩ : Ms) ua uk uc X)
  have HX := fun W => hide (hasExtra_any (⟨k, row, num, x, y, p, q, st, sm, c, sq, dl⟩ : Ms) ua uk uc W hu hb)
  rw [hx] at HX
  simp only [mgc] at SO HX
  rw [hSV] at SO
  simp only [hSV] at HX
  have HF := hide hF
  have hm : ∀ w, (Go.method 361 100 Z "moot/msg.fault").run Tryz.prog w = .ok (189, Z) w := fun _ => by kernel_rfl
  clear hc hK hk hx hu hSV hF
  go_enter Tryz.func7, Tryz.ntmps7
  go_upto_region 1 with fail
  rw [← hX]
  clear hX
  go_wp2_with fail
  refine hCF.out.mono ?_
  rintro r w1 ⟨rfl, rfl⟩
  go_wp2_with fail
  refine MK.out.mono ?_
  rintro r w1 ⟨rfl, rfl⟩
  go_wp2_with (first | (refine wpList_load_mid rfl 30 _ rfl w.heap.size 0 rfl [.int .i64 k, .int .i64 row, .int .i64 num, .int .i64 x, .int .i64 y, .int .i64 p, .int .i64 q, .int .i64 st, .bool sm, .int .i64 c.kind, .int .i64 c.client, .int .i64 c.req, .string c.key, .string c.key2, .string c.val, .string c.old, .int .i64 c.n, .int .i64 sq, .slice ua uk uc] _ (QX.out.range) Tryz.underlying30 rfl (by kernel_rfl) ?_))
  refine SO.out.mono ?_
  rintro r w1 ⟨rfl, b1⟩
  have Q1 := hide (QX.out.on b1)
  have B1 : Hid (Below w.heap.size w w1) := BX.out.trans (b1.mono BX.out.size)
  clear b1 QX c0
  go_wp2_with (first | (refine wpList_load_mid rfl 30 _ rfl w.heap.size 0 rfl [.int .i64 k, .int .i64 row, .int .i64 num, .int .i64 x, .int .i64 y, .int .i64 p, .int .i64 q, .int .i64 st, .bool sm, .int .i64 c.kind, .int .i64 c.client, .int .i64 c.req, .string c.key, .string c.key2, .string c.val, .string c.old, .int .i64 c.n, .int .i64 sq, .slice ua uk uc] _ (Q1.out.range) Tryz.underlying30 rfl (by kernel_rfl) ?_))
  refine (HX w1).out.mono ?_
  rintro r w2 ⟨rfl, b2⟩
  have B2 : Hid (Below w.heap.size w w2) := B1.out.trans (b2.mono B1.out.size)
  clear b2 Q1
  go_wp2_with fail
  refine (HF.out w2 B2.out).mono ?_
  rintro r w3 ⟨rfl, b3⟩
  have B3 : Hid (Below w.heap.size w w3) := B2.out.trans (b3.mono B2.out.size)
  clear b3
  go_wp2
  go_ret
  exact ⟨rfl, B3.out⟩
set_option maxHeartbeats 2000000 in
set_option maxRecDepth 100000 in
theorem check_noVote (v n : Int) (k row num x y p q st : Int) (sm : Bool) (c : Cm) (sq : Int) (dl : List Int) (ua : Option Addr) (uk uc : Nat) (w : World) (Z : Value) (FV : Int) (hc : callF v n = 0) (hK : Kmd w) (hk : isMK v k = true) (hu : uk = dl.length) (hb : uk ≤ 9223372036854775807) (hx : extraM (⟨k, row, num, x, y, p, q, st, sm, c, sq, dl⟩ : Ms) = false)
    (hSV : shV (⟨k, row, num, x, y, p, q, st, sm, c, sq, dl⟩ : Ms) (.slice ua uk uc) = .iface 101 Z) (hF : ∀ W, Below w.heap.size w W → Calls Tryz.prog 191 #[Z, .int .i64 v, .int .i64 n] W fun r w' => r = .returned (.int .i64 FV) ∧ Below W.heap.size W w') :
    Calls Tryz.prog 7 #[.int .i64 v, .int .i64 n, .agg #[.int .i64 k, .int .i64 row, .int .i64 num, .int .i64 x, .int .i64 y, .int .i64 p, .int .i64 q, .int .i64 st, .bool sm, .int .i64 c.kind, .int .i64 c.client, .int .i64 c.req, .string c.key, .string c.key2, .string c.val, .string c.old, .int .i64 c.n, .int .i64 sq, .slice ua uk uc]] w fun r w' => r = .returned (.int .i64 FV) ∧ Below w.heap.size w w' := by
  obtain ⟨X, hX⟩ : ∃ X, X = w.alloc (.cells #[.int .i64 k, .int .i64 row, .int .i64 num, .int .i64 x, .int .i64 y, .int .i64 p, .int .i64 q, .int .i64 st, .bool sm, .int .i64 c.kind, .int .i64 c.client, .int .i64 c.req, .string c.key, .string c.key2, .string c.val, .string c.old, .int .i64 c.n, .int .i64 sq, .slice ua uk uc] 30) := ⟨_, rfl⟩
  have QX : Hid (Blk X w.heap.size [.int .i64 k, .int .i64 row, .int .i64 num, .int .i64 x, .int .i64 y, .int .i64 p, .int .i64 q, .int .i64 st, .bool sm, .int .i64 c.kind, .int .i64 c.client, .int .i64 c.req, .string c.key, .string c.key2, .string c.val, .string c.old, .int .i64 c.n, .int .i64 sq, .slice ua uk uc]) := by rw [hX]; exact blk_new w 30 [.int .i64 k, .int .i64 row, .int .i64 num, .int .i64 x, .int .i64 y, .int .i64 p, .int .i64 q, .int .i64 st, .bool sm, .int .i64 c.kind, .int .i64 c.client, .int .i64 c.req, .string c.key, .string c.key2, .string c.val, .string c.old, .int .i64 c.n, .int .i64 sq, .slice ua uk uc]
  have BX : Hid (Below w.heap.size w X) := by rw [hX]; exact (Below.refl _ w).alloc (Nat.le_refl _) _
  have hCF := hide (callFault_any v n X)
  rw [hc] at hCF
  have c0 := QX.out.cell 0 _ rfl
  have MK := hide (mKind_any v k X (hK.below BX.out (Nat.le_refl _)))
  rw [hk] at MK
  have SO := hide (shapeOf_any (⟨k, row, num, x, y, p, q, st, sm, c, sq, dl⟩ : Ms) ua uk uc X)
  have HX := fun W => hide (hasExtra_any (⟨k, row, num, x, y, p, q, st, sm, c, sq, dl⟩ : Ms) ua uk uc W hu hb)
  rw [hx] at HX
  simp only [mgc] at SO HX
  rw [hSV] at SO
  simp only [hSV] at HX
  have HF := hide hF
  have hm : ∀ w, (Go.method 361 101 Z "moot/msg.fault").run Tryz.prog w = .ok (191, Z) w := fun _ => by kernel_rfl
  clear hc hK hk hx hu hSV hF
  go_enter Tryz.func7, Tryz.ntmps7
  go_upto_region 1 with fail
  rw [← hX]
  clear hX
  go_wp2_with fail
  refine hCF.out.mono ?_
  rintro r w1 ⟨rfl, rfl⟩
  go_wp2_with fail
  refine MK.out.mono ?_
  rintro r w1 ⟨rfl, rfl⟩
  go_wp2_with (first | (refine wpList_load_mid rfl 30 _ rfl w.heap.size 0 rfl [.int .i64 k, .int .i64 row, .int .i64 num, .int .i64 x, .int .i64 y, .int .i64 p, .int .i64 q, .int .i64 st, .bool sm, .int .i64 c.kind, .int .i64 c.client, .int .i64 c.req, .string c.key, .string c.key2, .string c.val, .string c.old, .int .i64 c.n, .int .i64 sq, .slice ua uk uc] _ (QX.out.range) Tryz.underlying30 rfl (by kernel_rfl) ?_))
  refine SO.out.mono ?_
  rintro r w1 ⟨rfl, b1⟩
  have Q1 := hide (QX.out.on b1)
  have B1 : Hid (Below w.heap.size w w1) := BX.out.trans (b1.mono BX.out.size)
  clear b1 QX c0
  go_wp2_with (first | (refine wpList_load_mid rfl 30 _ rfl w.heap.size 0 rfl [.int .i64 k, .int .i64 row, .int .i64 num, .int .i64 x, .int .i64 y, .int .i64 p, .int .i64 q, .int .i64 st, .bool sm, .int .i64 c.kind, .int .i64 c.client, .int .i64 c.req, .string c.key, .string c.key2, .string c.val, .string c.old, .int .i64 c.n, .int .i64 sq, .slice ua uk uc] _ (Q1.out.range) Tryz.underlying30 rfl (by kernel_rfl) ?_))
  refine (HX w1).out.mono ?_
  rintro r w2 ⟨rfl, b2⟩
  have B2 : Hid (Below w.heap.size w w2) := B1.out.trans (b2.mono B1.out.size)
  clear b2 Q1
  go_wp2_with fail
  refine (HF.out w2 B2.out).mono ?_
  rintro r w3 ⟨rfl, b3⟩
  have B3 : Hid (Below w.heap.size w w3) := B2.out.trans (b3.mono B2.out.size)
  clear b3
  go_wp2
  go_ret
  exact ⟨rfl, B3.out⟩
set_option maxHeartbeats 2000000 in
set_option maxRecDepth 100000 in
theorem check_vote (v n : Int) (k row num x y p q st : Int) (sm : Bool) (c : Cm) (sq : Int) (dl : List Int) (ua : Option Addr) (uk uc : Nat) (w : World) (Z : Value) (FV : Int) (hc : callF v n = 0) (hK : Kmd w) (hk : isMK v k = true) (hu : uk = dl.length) (hb : uk ≤ 9223372036854775807) (hx : extraM (⟨k, row, num, x, y, p, q, st, sm, c, sq, dl⟩ : Ms) = false)
    (hSV : shV (⟨k, row, num, x, y, p, q, st, sm, c, sq, dl⟩ : Ms) (.slice ua uk uc) = .iface 103 Z) (hF : ∀ W, Below w.heap.size w W → Calls Tryz.prog 193 #[Z, .int .i64 v, .int .i64 n] W fun r w' => r = .returned (.int .i64 FV) ∧ Below W.heap.size W w') :
    Calls Tryz.prog 7 #[.int .i64 v, .int .i64 n, .agg #[.int .i64 k, .int .i64 row, .int .i64 num, .int .i64 x, .int .i64 y, .int .i64 p, .int .i64 q, .int .i64 st, .bool sm, .int .i64 c.kind, .int .i64 c.client, .int .i64 c.req, .string c.key, .string c.key2, .string c.val, .string c.old, .int .i64 c.n, .int .i64 sq, .slice ua uk uc]] w fun r w' => r = .returned (.int .i64 FV) ∧ Below w.heap.size w w' := by
  obtain ⟨X, hX⟩ : ∃ X, X = w.alloc (.cells #[.int .i64 k, .int .i64 row, .int .i64 num, .int .i64 x, .int .i64 y, .int .i64 p, .int .i64 q, .int .i64 st, .bool sm, .int .i64 c.kind, .int .i64 c.client, .int .i64 c.req, .string c.key, .string c.key2, .string c.val, .string c.old, .int .i64 c.n, .int .i64 sq, .slice ua uk uc] 30) := ⟨_, rfl⟩
  have QX : Hid (Blk X w.heap.size [.int .i64 k, .int .i64 row, .int .i64 num, .int .i64 x, .int .i64 y, .int .i64 p, .int .i64 q, .int .i64 st, .bool sm, .int .i64 c.kind, .int .i64 c.client, .int .i64 c.req, .string c.key, .string c.key2, .string c.val, .string c.old, .int .i64 c.n, .int .i64 sq, .slice ua uk uc]) := by rw [hX]; exact blk_new w 30 [.int .i64 k, .int .i64 row, .int .i64 num, .int .i64 x, .int .i64 y, .int .i64 p, .int .i64 q, .int .i64 st, .bool sm, .int .i64 c.kind, .int .i64 c.client, .int .i64 c.req, .string c.key, .string c.key2, .string c.val, .string c.old, .int .i64 c.n, .int .i64 sq, .slice ua uk uc]
  have BX : Hid (Below w.heap.size w X) := by rw [hX]; exact (Below.refl _ w).alloc (Nat.le_refl _) _
  have hCF := hide (callFault_any v n X)
  rw [hc] at hCF
  have c0 := QX.out.cell 0 _ rfl
  have MK := hide (mKind_any v k X (hK.below BX.out (Nat.le_refl _)))
  rw [hk] at MK
  have SO := hide (shapeOf_any (⟨k, row, num, x, y, p, q, st, sm, c, sq, dl⟩ : Ms) ua uk uc X)
  have HX := fun W => hide (hasExtra_any (⟨k, row, num, x, y, p, q, st, sm, c, sq, dl⟩ : Ms) ua uk uc W hu hb)
  rw [hx] at HX
  simp only [mgc] at SO HX
  rw [hSV] at SO
  simp only [hSV] at HX
  have HF := hide hF
  have hm : ∀ w, (Go.method 361 103 Z "moot/msg.fault").run Tryz.prog w = .ok (193, Z) w := fun _ => by kernel_rfl
  clear hc hK hk hx hu hSV hF
  go_enter Tryz.func7, Tryz.ntmps7
  go_upto_region 1 with fail
  rw [← hX]
  clear hX
  go_wp2_with fail
  refine hCF.out.mono ?_
  rintro r w1 ⟨rfl, rfl⟩
  go_wp2_with fail
  refine MK.out.mono ?_
  rintro r w1 ⟨rfl, rfl⟩
  go_wp2_with (first | (refine wpList_load_mid rfl 30 _ rfl w.heap.size 0 rfl [.int .i64 k, .int .i64 row, .int .i64 num, .int .i64 x, .int .i64 y, .int .i64 p, .int .i64 q, .int .i64 st, .bool sm, .int .i64 c.kind, .int .i64 c.client, .int .i64 c.req, .string c.key, .string c.key2, .string c.val, .string c.old, .int .i64 c.n, .int .i64 sq, .slice ua uk uc] _ (QX.out.range) Tryz.underlying30 rfl (by kernel_rfl) ?_))
  refine SO.out.mono ?_
  rintro r w1 ⟨rfl, b1⟩
  have Q1 := hide (QX.out.on b1)
  have B1 : Hid (Below w.heap.size w w1) := BX.out.trans (b1.mono BX.out.size)
  clear b1 QX c0
  go_wp2_with (first | (refine wpList_load_mid rfl 30 _ rfl w.heap.size 0 rfl [.int .i64 k, .int .i64 row, .int .i64 num, .int .i64 x, .int .i64 y, .int .i64 p, .int .i64 q, .int .i64 st, .bool sm, .int .i64 c.kind, .int .i64 c.client, .int .i64 c.req, .string c.key, .string c.key2, .string c.val, .string c.old, .int .i64 c.n, .int .i64 sq, .slice ua uk uc] _ (Q1.out.range) Tryz.underlying30 rfl (by kernel_rfl) ?_))
  refine (HX w1).out.mono ?_
  rintro r w2 ⟨rfl, b2⟩
  have B2 : Hid (Below w.heap.size w w2) := B1.out.trans (b2.mono B1.out.size)
  clear b2 Q1
  go_wp2_with fail
  refine (HF.out w2 B2.out).mono ?_
  rintro r w3 ⟨rfl, b3⟩
  have B3 : Hid (Below w.heap.size w w3) := B2.out.trans (b3.mono B2.out.size)
  clear b3
  go_wp2
  go_ret
  exact ⟨rfl, B3.out⟩
set_option maxHeartbeats 2000000 in
set_option maxRecDepth 100000 in
theorem check_nack (v n : Int) (k row num x y p q st : Int) (sm : Bool) (c : Cm) (sq : Int) (dl : List Int) (ua : Option Addr) (uk uc : Nat) (w : World) (Z : Value) (FV : Int) (hc : callF v n = 0) (hK : Kmd w) (hk : isMK v k = true) (hu : uk = dl.length) (hb : uk ≤ 9223372036854775807) (hx : extraM (⟨k, row, num, x, y, p, q, st, sm, c, sq, dl⟩ : Ms) = false)
    (hSV : shV (⟨k, row, num, x, y, p, q, st, sm, c, sq, dl⟩ : Ms) (.slice ua uk uc) = .iface 105 Z) (hF : ∀ W, Below w.heap.size w W → Calls Tryz.prog 195 #[Z, .int .i64 v, .int .i64 n] W fun r w' => r = .returned (.int .i64 FV) ∧ Below W.heap.size W w') :
    Calls Tryz.prog 7 #[.int .i64 v, .int .i64 n, .agg #[.int .i64 k, .int .i64 row, .int .i64 num, .int .i64 x, .int .i64 y, .int .i64 p, .int .i64 q, .int .i64 st, .bool sm, .int .i64 c.kind, .int .i64 c.client, .int .i64 c.req, .string c.key, .string c.key2, .string c.val, .string c.old, .int .i64 c.n, .int .i64 sq, .slice ua uk uc]] w fun r w' => r = .returned (.int .i64 FV) ∧ Below w.heap.size w w' := by
  obtain ⟨X, hX⟩ : ∃ X, X = w.alloc (.cells #[.int .i64 k, .int .i64 row, .int .i64 num, .int .i64 x, .int .i64 y, .int .i64 p, .int .i64 q, .int .i64 st, .bool sm, .int .i64 c.kind, .int .i64 c.client, .int .i64 c.req, .string c.key, .string c.key2, .string c.val, .string c.old, .int .i64 c.n, .int .i64 sq, .slice ua uk uc] 30) := ⟨_, rfl⟩
  have QX : Hid (Blk X w.heap.size [.int .i64 k, .int .i64 row, .int .i64 num, .int .i64 x, .int .i64 y, .int .i64 p, .int .i64 q, .int .i64 st, .bool sm, .int .i64 c.kind, .int .i64 c.client, .int .i64 c.req, .string c.key, .string c.key2, .string c.val, .string c.old, .int .i64 c.n, .int .i64 sq, .slice ua uk uc]) := by rw [hX]; exact blk_new w 30 [.int .i64 k, .int .i64 row, .int .i64 num, .int .i64 x, .int .i64 y, .int .i64 p, .int .i64 q, .int .i64 st, .bool sm, .int .i64 c.kind, .int .i64 c.client, .int .i64 c.req, .string c.key, .string c.key2, .string c.val, .string c.old, .int .i64 c.n, .int .i64 sq, .slice ua uk uc]
  have BX : Hid (Below w.heap.size w X) := by rw [hX]; exact (Below.refl _ w).alloc (Nat.le_refl _) _
  have hCF := hide (callFault_any v n X)
  rw [hc] at hCF
  have c0 := QX.out.cell 0 _ rfl
  have MK := hide (mKind_any v k X (hK.below BX.out (Nat.le_refl _)))
  rw [hk] at MK
  have SO := hide (shapeOf_any (⟨k, row, num, x, y, p, q, st, sm, c, sq, dl⟩ : Ms) ua uk uc X)
  have HX := fun W => hide (hasExtra_any (⟨k, row, num, x, y, p, q, st, sm, c, sq, dl⟩ : Ms) ua uk uc W hu hb)
  rw [hx] at HX
  simp only [mgc] at SO HX
  rw [hSV] at SO
  simp only [hSV] at HX
  have HF := hide hF
  have hm : ∀ w, (Go.method 361 105 Z "moot/msg.fault").run Tryz.prog w = .ok (195, Z) w := fun _ => by kernel_rfl
  clear hc hK hk hx hu hSV hF
  go_enter Tryz.func7, Tryz.ntmps7
  go_upto_region 1 with fail
  rw [← hX]
  clear hX
  go_wp2_with fail
  refine hCF.out.mono ?_
  rintro r w1 ⟨rfl, rfl⟩
  go_wp2_with fail
  refine MK.out.mono ?_
  rintro r w1 ⟨rfl, rfl⟩
  go_wp2_with (first | (refine wpList_load_mid rfl 30 _ rfl w.heap.size 0 rfl [.int .i64 k, .int .i64 row, .int .i64 num, .int .i64 x, .int .i64 y, .int .i64 p, .int .i64 q, .int .i64 st, .bool sm, .int .i64 c.kind, .int .i64 c.client, .int .i64 c.req, .string c.key, .string c.key2, .string c.val, .string c.old, .int .i64 c.n, .int .i64 sq, .slice ua uk uc] _ (QX.out.range) Tryz.underlying30 rfl (by kernel_rfl) ?_))
  refine SO.out.mono ?_
  rintro r w1 ⟨rfl, b1⟩
  have Q1 := hide (QX.out.on b1)
  have B1 : Hid (Below w.heap.size w w1) := BX.out.trans (b1.mono BX.out.size)
  clear b1 QX c0
  go_wp2_with (first | (refine wpList_load_mid rfl 30 _ rfl w.heap.size 0 rfl [.int .i64 k, .int .i64 row, .int .i64 num, .int .i64 x, .int .i64 y, .int .i64 p, .int .i64 q, .int .i64 st, .bool sm, .int .i64 c.kind, .int .i64 c.client, .int .i64 c.req, .string c.key, .string c.key2, .string c.val, .string c.old, .int .i64 c.n, .int .i64 sq, .slice ua uk uc] _ (Q1.out.range) Tryz.underlying30 rfl (by kernel_rfl) ?_))
  refine (HX w1).out.mono ?_
  rintro r w2 ⟨rfl, b2⟩
  have B2 : Hid (Below w.heap.size w w2) := B1.out.trans (b2.mono B1.out.size)
  clear b2 Q1
  go_wp2_with fail
  refine (HF.out w2 B2.out).mono ?_
  rintro r w3 ⟨rfl, b3⟩
  have B3 : Hid (Below w.heap.size w w3) := B2.out.trans (b3.mono B2.out.size)
  clear b3
  go_wp2
  go_ret
  exact ⟨rfl, B3.out⟩
theorem isMK_nat {v k : Int} (h : isMK v k = true) : ∃ j : Nat, k = (j : Int) ∧ j < 10 ∧ 0 < j := by
  unfold isMK at h
  simp only [Bool.and_eq_true, decide_eq_true_eq] at h
  obtain ⟨j, rfl⟩ := Int.eq_ofNat_of_zero_le (show 0 ≤ k by omega)
  exact ⟨j, rfl, by omega, by omega⟩
/-- Check, at every message. -/
theorem mcheck_any (v n : Int) (m : Ms) (ua : Option Addr) (uk uc : Nat) (w : World) (hKc : Knd w) (hK : Kmd w) (hk1 : m.c.key.size ≤ 140737488351232) (hk2 : m.c.key2.size ≤ 140737488351232) (hI : SegI w ua uk m.dl) :
    Calls Tryz.prog 7 #[.int .i64 v, .int .i64 n, .agg (mgc m (.slice ua uk uc)).toArray] w fun r w' => r = .returned (.int .i64 (chkM v n m)) ∧ Below w.heap.size w w' := by
  have hu : uk = m.dl.length := hI.1.symm
  have hb : uk ≤ 9223372036854775807 := hI.2.1
  unfold chkM
  by_cases hc : callF v n = 0
  · rw [if_pos hc]
    cases hk : isMK v m.kind with
    | false =>
      rw [if_neg (by simp)]
      obtain ⟨k, row, num, x, y, p, q, st, sm, c, sq, dl⟩ := m
      exact check_kind v n k row num x y p q st sm c sq dl ua uk uc w hc hK hk
    | true =>
      rw [if_pos rfl]
      cases hx : extraM m with
      | true =>
        rw [if_pos rfl]
        obtain ⟨k, row, num, x, y, p, q, st, sm, c, sq, dl⟩ := m
        exact check_extra v n k row num x y p q st sm c sq dl ua uk uc w hc hK hk hu hb hx
      | false =>
        rw [if_neg (by simp)]
        obtain ⟨j, hj, hj9, hj0⟩ := isMK_nat hk
        obtain ⟨k, row, num, x, y, p, q, st, sm, c, sq, dl⟩ := m
        obtain rfl : k = (j : Int) := hj
        have h7 := shK_le ⟨(j : Int), row, num, x, y, p, q, st, sm, c, sq, dl⟩
        have hSV : shV ⟨(j : Int), row, num, x, y, p, q, st, sm, c, sq, dl⟩ (.slice ua uk uc) = .iface (shT (shK ⟨(j : Int), row, num, x, y, p, q, st, sm, c, sq, dl⟩)) (.agg (shC ⟨(j : Int), row, num, x, y, p, q, st, sm, c, sq, dl⟩ (.slice ua uk uc) (shK ⟨(j : Int), row, num, x, y, p, q, st, sm, c, sq, dl⟩)).toArray) := rfl
        generalize shK ⟨(j : Int), row, num, x, y, p, q, st, sm, c, sq, dl⟩ = z at *
        have hKW : ∀ W, Below w.heap.size w W → Kmd W := fun W h => hK.below h (Nat.le_refl _)
        have hCW : ∀ W, Below w.heap.size w W → Knd W := fun W h => hKc.below h (Nat.le_refl _)
        have hIW : ∀ W, Below w.heap.size w W → SegI W ua uk dl := fun W h => hI.below h (Nat.le_refl _)
        match z, h7, hSV with
        | 0, _, hSV => exact check_bare v n j row num x y p q st sm c sq dl ua uk uc w _ _ hc hK hk hu hb hx hSV (fun W _ => fault_bare j row num v n W)
        | 1, _, hSV => exact check_proposal v n j row num x y p q st sm c sq dl ua uk uc w _ _ hc hK hk hu hb hx hSV (fun W h => fault_proposal j row num x y v n c sq ua uk uc dl _ rfl W hj9 (hKW W h) (hCW W h) hk1 hk2 (hIW W h))
        | 2, _, hSV => exact check_estimate v n j row num x y p q st sm c sq dl ua uk uc w _ _ hc hK hk hu hb hx hSV (fun W h => fault_estimate j row num x y sq ua uk uc dl v n W hj9 (hKW W h) (hIW W h))
        | 3, _, hSV => exact check_balloted v n j row num x y p q st sm c sq dl ua uk uc w _ _ hc hK hk hu hb hx hSV (fun W h => fault_balloted j row num x y v n W hj9 (hKW W h))
        | 4, _, hSV => exact check_commit v n j row num x y p q st sm c sq dl ua uk uc w _ _ hc hK hk hu hb hx hSV (fun W h => fault_commit j row num v n c sq ua uk uc dl W (hCW W h) hk1 hk2 (hIW W h))
        | 5, _, hSV => exact check_noVote v n j row num x y p q st sm c sq dl ua uk uc w _ _ hc hK hk hu hb hx hSV (fun W h => fault_noVote j row num x y v n W hj9 (hKW W h))
        | 6, _, hSV => exact check_vote v n j row num x y p q st sm c sq dl ua uk uc w _ _ hc hK hk hu hb hx hSV (fun W h => fault_vote j row num x y st sm p q v n c sq ua uk uc dl _ rfl W hj9 (hKW W h) (hCW W h) hk1 hk2 (hIW W h))
        | 7, _, hSV => exact check_nack v n j row num x y p q st sm c sq dl ua uk uc w _ _ hc hK hk hu hb hx hSV (fun W h => fault_nack j row num x y p q v n W hj9 (hKW W h))
        | z + 8, h7, _ => omega
  · rw [if_neg hc]
    obtain ⟨k, row, num, x, y, p, q, st, sm, c, sq, dl⟩ := m
    exact check_call v n k row num x y p q st sm c sq dl ua uk uc w hc
end Go.Proofs.YtdokagebfeejbaaGreatDoor
