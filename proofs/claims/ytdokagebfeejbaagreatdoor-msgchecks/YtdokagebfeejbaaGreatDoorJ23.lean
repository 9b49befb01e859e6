/- Texts of the proof, joined. -/
import Derived.Test.YtdokagebfeejbaaGreatDoorJ20
/- The contract of shapeOf: the shape of any message. -/
namespace Go.Proofs.YtdokagebfeejbaaGreatDoor
open Go.RowKit Go.Wire1

set_option maxHeartbeats 2000000 in
set_option maxRecDepth 100000 in
theorem shOf_1 (row num x y p q st : Int) (sm : Bool) (c : Cm) (sq : Int) (ua : Option Addr) (uk uc : Nat) (w : World) :
    Calls Tryz.prog 22 #[.agg #[.int .i64 1, .int .i64 row, .int .i64 num, .int .i64 x, .int .i64 y, .int .i64 p, .int .i64 q, .int .i64 st, .bool sm, .int .i64 c.kind, .int .i64 c.client, .int .i64 c.req, .string c.key, .string c.key2, .string c.val, .string c.old, .int .i64 c.n, .int .i64 sq, .slice ua uk uc]] w fun r w' => r = .returned (.iface 94 (.agg #[.int .i64 1, .int .i64 row, .int .i64 num, .int .i64 x, .int .i64 y, .int .i64 c.kind, .int .i64 c.client, .int .i64 c.req, .string c.key, .string c.key2, .string c.val, .string c.old, .int .i64 c.n, .int .i64 sq, .slice ua uk uc])) ∧ Below w.heap.size w w' := by
  obtain ⟨X, hX⟩ : ∃ X, X = w.alloc (.cells #[.int .i64 1, .int .i64 row, .int .i64 num, .int .i64 x, .int .i64 y, .int .i64 p, .int .i64 q, .int .i64 st, .bool sm, .int .i64 c.kind, .int .i64 c.client, .int .i64 c.req, .string c.key, .string c.key2, .string c.val, .string c.old, .int .i64 c.n, .int .i64 sq, .slice ua uk uc] 30) := ⟨_, rfl⟩
  have QX : Hid (Blk X w.heap.size [.int .i64 1, .int .i64 row, .int .i64 num, .int .i64 x, .int .i64 y, .int .i64 p, .int .i64 q, .int .i64 st, .bool sm, .int .i64 c.kind, .int .i64 c.client, .int .i64 c.req, .string c.key, .string c.key2, .string c.val, .string c.old, .int .i64 c.n, .int .i64 sq, .slice ua uk uc]) := by rw [hX]; exact blk_new w 30 [.int .i64 1, .int .i64 row, .int .i64 num, .int .i64 x, .int .i64 y, .int .i64 p, .int .i64 q, .int .i64 st, .bool sm, .int .i64 c.kind, .int .i64 c.client, .int .i64 c.req, .string c.key, .string c.key2, .string c.val, .string c.old, .int .i64 c.n, .int .i64 sq, .slice ua uk uc]
  have BX : Hid (Below w.heap.size w X) := by rw [hX]; exact (Below.refl _ w).alloc (Nat.le_refl _) _
  have c0 := QX.out.cell 0 _ rfl
  have c1 := QX.out.cell 1 _ rfl
  have c2 := QX.out.cell 2 _ rfl
  have c3 := QX.out.cell 3 _ rfl
  have c4 := QX.out.cell 4 _ rfl
  have c5 := QX.out.cell 5 _ rfl
  have c6 := QX.out.cell 6 _ rfl
  have c7 := QX.out.cell 7 _ rfl
  have c8 := QX.out.cell 8 _ rfl
  have c9 := QX.out.cell 9 _ rfl
  have c10 := QX.out.cell 10 _ rfl
  have c11 := QX.out.cell 11 _ rfl
  have c12 := QX.out.cell 12 _ rfl
  have c13 := QX.out.cell 13 _ rfl
  have c14 := QX.out.cell 14 _ rfl
  have c15 := QX.out.cell 15 _ rfl
  have c16 := QX.out.cell 16 _ rfl
  have c17 := QX.out.cell 17 _ rfl
  have c18 := QX.out.cell 18 _ rfl
  have hlt := QX.out.lt
  have BB : ∀ o1 o2, Hid (Below w.heap.size w ((X.alloc o1).alloc o2)) := fun o1 o2 => (BX.out.alloc BX.out.size _).alloc (by have := BX.out.size; simp; omega) _
  go_enter Tryz.func22, Tryz.ntmps22
  go_upto_region 1 with fail
  rw [← hX]
  clear hX
  go_wp2
  go_ret
  exact ⟨rfl, (BB _ _).out⟩
set_option maxHeartbeats 2000000 in
set_option maxRecDepth 100000 in
theorem shOf_3 (row num x y p q st : Int) (sm : Bool) (c : Cm) (sq : Int) (ua : Option Addr) (uk uc : Nat) (w : World) :
    Calls Tryz.prog 22 #[.agg #[.int .i64 3, .int .i64 row, .int .i64 num, .int .i64 x, .int .i64 y, .int .i64 p, .int .i64 q, .int .i64 st, .bool sm, .int .i64 c.kind, .int .i64 c.client, .int .i64 c.req, .string c.key, .string c.key2, .string c.val, .string c.old, .int .i64 c.n, .int .i64 sq, .slice ua uk uc]] w fun r w' => r = .returned (.iface 94 (.agg #[.int .i64 3, .int .i64 row, .int .i64 num, .int .i64 x, .int .i64 y, .int .i64 c.kind, .int .i64 c.client, .int .i64 c.req, .string c.key, .string c.key2, .string c.val, .string c.old, .int .i64 c.n, .int .i64 sq, .slice ua uk uc])) ∧ Below w.heap.size w w' := by
  obtain ⟨X, hX⟩ : ∃ X, X = w.alloc (.cells #[.int .i64 3, .int .i64 row, .int .i64 num, .int .i64 x, .int .i64 y, .int .i64 p, .int .i64 q, .int .i64 st, .bool sm, .int .i64 c.kind, .int .i64 c.client, .int .i64 c.req, .string c.key, .string c.key2, .string c.val, .string c.old, .int .i64 c.n, .int .i64 sq, .slice ua uk uc] 30) := ⟨_, rfl⟩
  have QX : Hid (Blk X w.heap.size [.int .i64 3, .int .i64 row, .int .i64 num, .int .i64 x, .int .i64 y, .int .i64 p, .int .i64 q, .int .i64 st, .bool sm, .int .i64 c.kind, .int .i64 c.client, .int .i64 c.req, .string c.key, .string c.key2, .string c.val, .string c.old, .int .i64 c.n, .int .i64 sq, .slice ua uk uc]) := by rw [hX]; exact blk_new w 30 [.int .i64 3, .int .i64 row, .int .i64 num, .int .i64 x, .int .i64 y, .int .i64 p, .int .i64 q, .int .i64 st, .bool sm, .int .i64 c.kind, .int .i64 c.client, .int .i64 c.req, .string c.key, .string c.key2, .string c.val, .string c.old, .int .i64 c.n, .int .i64 sq, .slice ua uk uc]
  have BX : Hid (Below w.heap.size w X) := by rw [hX]; exact (Below.refl _ w).alloc (Nat.le_refl _) _
  have c0 := QX.out.cell 0 _ rfl
  have c1 := QX.out.cell 1 _ rfl
  have c2 := QX.out.cell 2 _ rfl
  have c3 := QX.out.cell 3 _ rfl
  have c4 := QX.out.cell 4 _ rfl
  have c5 := QX.out.cell 5 _ rfl
  have c6 := QX.out.cell 6 _ rfl
  have c7 := QX.out.cell 7 _ rfl
  have c8 := QX.out.cell 8 _ rfl
  have c9 := QX.out.cell 9 _ rfl
  have c10 := QX.out.cell 10 _ rfl
  have c11 := QX.out.cell 11 _ rfl
  have c12 := QX.out.cell 12 _ rfl
  have c13 := QX.out.cell 13 _ rfl
  have c14 := QX.out.cell 14 _ rfl
  have c15 := QX.out.cell 15 _ rfl
  have c16 := QX.out.cell 16 _ rfl
  have c17 := QX.out.cell 17 _ rfl
  have c18 := QX.out.cell 18 _ rfl
  have hlt := QX.out.lt
  have BB : ∀ o1 o2, Hid (Below w.heap.size w ((X.alloc o1).alloc o2)) := fun o1 o2 => (BX.out.alloc BX.out.size _).alloc (by have := BX.out.size; simp; omega) _
  go_enter Tryz.func22, Tryz.ntmps22
  go_upto_region 1 with fail
  rw [← hX]
  clear hX
  go_wp2
  go_ret
  exact ⟨rfl, (BB _ _).out⟩
set_option maxHeartbeats 2000000 in
set_option maxRecDepth 100000 in
theorem shOf_2 (row num x y p q st : Int) (sm : Bool) (c : Cm) (sq : Int) (ua : Option Addr) (uk uc : Nat) (w : World) :
    Calls Tryz.prog 22 #[.agg #[.int .i64 2, .int .i64 row, .int .i64 num, .int .i64 x, .int .i64 y, .int .i64 p, .int .i64 q, .int .i64 st, .bool sm, .int .i64 c.kind, .int .i64 c.client, .int .i64 c.req, .string c.key, .string c.key2, .string c.val, .string c.old, .int .i64 c.n, .int .i64 sq, .slice ua uk uc]] w fun r w' => r = .returned (.iface 96 (.agg #[.int .i64 2, .int .i64 row, .int .i64 num, .int .i64 x, .int .i64 y, .int .i64 sq, .slice ua uk uc])) ∧ Below w.heap.size w w' := by
  obtain ⟨X, hX⟩ : ∃ X, X = w.alloc (.cells #[.int .i64 2, .int .i64 row, .int .i64 num, .int .i64 x, .int .i64 y, .int .i64 p, .int .i64 q, .int .i64 st, .bool sm, .int .i64 c.kind, .int .i64 c.client, .int .i64 c.req, .string c.key, .string c.key2, .string c.val, .string c.old, .int .i64 c.n, .int .i64 sq, .slice ua uk uc] 30) := ⟨_, rfl⟩
  have QX : Hid (Blk X w.heap.size [.int .i64 2, .int .i64 row, .int .i64 num, .int .i64 x, .int .i64 y, .int .i64 p, .int .i64 q, .int .i64 st, .bool sm, .int .i64 c.kind, .int .i64 c.client, .int .i64 c.req, .string c.key, .string c.key2, .string c.val, .string c.old, .int .i64 c.n, .int .i64 sq, .slice ua uk uc]) := by rw [hX]; exact blk_new w 30 [.int .i64 2, .int .i64 row, .int .i64 num, .int .i64 x, .int .i64 y, .int .i64 p, .int .i64 q, .int .i64 st, .bool sm, .int .i64 c.kind, .int .i64 c.client, .int .i64 c.req, .string c.key, .string c.key2, .string c.val, .string c.old, .int .i64 c.n, .int .i64 sq, .slice ua uk uc]
  have BX : Hid (Below w.heap.size w X) := by rw [hX]; exact (Below.refl _ w).alloc (Nat.le_refl _) _
  have c0 := QX.out.cell 0 _ rfl
  have c1 := QX.out.cell 1 _ rfl
  have c2 := QX.out.cell 2 _ rfl
  have c3 := QX.out.cell 3 _ rfl
  have c4 := QX.out.cell 4 _ rfl
  have c5 := QX.out.cell 5 _ rfl
  have c6 := QX.out.cell 6 _ rfl
  have c7 := QX.out.cell 7 _ rfl
  have c8 := QX.out.cell 8 _ rfl
  have c9 := QX.out.cell 9 _ rfl
  have c10 := QX.out.cell 10 _ rfl
  have c11 := QX.out.cell 11 _ rfl
  have c12 := QX.out.cell 12 _ rfl
  have c13 := QX.out.cell 13 _ rfl
  have c14 := QX.out.cell 14 _ rfl
  have c15 := QX.out.cell 15 _ rfl
  have c16 := QX.out.cell 16 _ rfl
  have c17 := QX.out.cell 17 _ rfl
  have c18 := QX.out.cell 18 _ rfl
  have hlt := QX.out.lt
  have BB : ∀ o1 o2, Hid (Below w.heap.size w ((X.alloc o1).alloc o2)) := fun o1 o2 => (BX.out.alloc BX.out.size _).alloc (by have := BX.out.size; simp; omega) _
  go_enter Tryz.func22, Tryz.ntmps22
  go_upto_region 1 with fail
  rw [← hX]
  clear hX
  go_wp2
  go_ret
  exact ⟨rfl, (BB _ _).out⟩
set_option maxHeartbeats 2000000 in
set_option maxRecDepth 100000 in
theorem shOf_4 (row num x y p q st : Int) (sm : Bool) (c : Cm) (sq : Int) (ua : Option Addr) (uk uc : Nat) (w : World) :
    Calls Tryz.prog 22 #[.agg #[.int .i64 4, .int .i64 row, .int .i64 num, .int .i64 x, .int .i64 y, .int .i64 p, .int .i64 q, .int .i64 st, .bool sm, .int .i64 c.kind, .int .i64 c.client, .int .i64 c.req, .string c.key, .string c.key2, .string c.val, .string c.old, .int .i64 c.n, .int .i64 sq, .slice ua uk uc]] w fun r w' => r = .returned (.iface 98 (.agg #[.int .i64 4, .int .i64 row, .int .i64 num, .int .i64 x, .int .i64 y])) ∧ Below w.heap.size w w' := by
  obtain ⟨X, hX⟩ : ∃ X, X = w.alloc (.cells #[.int .i64 4, .int .i64 row, .int .i64 num, .int .i64 x, .int .i64 y, .int .i64 p, .int .i64 q, .int .i64 st, .bool sm, .int .i64 c.kind, .int .i64 c.client, .int .i64 c.req, .string c.key, .string c.key2, .string c.val, .string c.old, .int .i64 c.n, .int .i64 sq, .slice ua uk uc] 30) := ⟨_, rfl⟩
  have QX : Hid (Blk X w.heap.size [.int .i64 4, .int .i64 row, .int .i64 num, .int .i64 x, .int .i64 y, .int .i64 p, .int .i64 q, .int .i64 st, .bool sm, .int .i64 c.kind, .int .i64 c.client, .int .i64 c.req, .string c.key, .string c.key2, .string c.val, .string c.old, .int .i64 c.n, .int .i64 sq, .slice ua uk uc]) := by rw [hX]; exact blk_new w 30 [.int .i64 4, .int .i64 row, .int .i64 num, .int .i64 x, .int .i64 y, .int .i64 p, .int .i64 q, .int .i64 st, .bool sm, .int .i64 c.kind, .int .i64 c.client, .int .i64 c.req, .string c.key, .string c.key2, .string c.val, .string c.old, .int .i64 c.n, .int .i64 sq, .slice ua uk uc]
  have BX : Hid (Below w.heap.size w X) := by rw [hX]; exact (Below.refl _ w).alloc (Nat.le_refl _) _
  have c0 := QX.out.cell 0 _ rfl
  have c1 := QX.out.cell 1 _ rfl
  have c2 := QX.out.cell 2 _ rfl
  have c3 := QX.out.cell 3 _ rfl
  have c4 := QX.out.cell 4 _ rfl
  have c5 := QX.out.cell 5 _ rfl
  have c6 := QX.out.cell 6 _ rfl
  have c7 := QX.out.cell 7 _ rfl
  have c8 := QX.out.cell 8 _ rfl
  have c9 := QX.out.cell 9 _ rfl
  have c10 := QX.out.cell 10 _ rfl
  have c11 := QX.out.cell 11 _ rfl
  have c12 := QX.out.cell 12 _ rfl
  have c13 := QX.out.cell 13 _ rfl
  have c14 := QX.out.cell 14 _ rfl
  have c15 := QX.out.cell 15 _ rfl
  have c16 := QX.out.cell 16 _ rfl
  have c17 := QX.out.cell 17 _ rfl
  have c18 := QX.out.cell 18 _ rfl
  have hlt := QX.out.lt
  have BB : ∀ o1 o2, Hid (Below w.heap.size w ((X.alloc o1).alloc o2)) := fun o1 o2 => (BX.out.alloc BX.out.size _).alloc (by have := BX.out.size; simp; omega) _
  go_enter Tryz.func22, Tryz.ntmps22
  go_upto_region 1 with fail
  rw [← hX]
  clear hX
  go_wp2
  go_ret
  exact ⟨rfl, (BB _ _).out⟩
set_option maxHeartbeats 2000000 in
set_option maxRecDepth 100000 in
theorem shOf_6 (row num x y p q st : Int) (sm : Bool) (c : Cm) (sq : Int) (ua : Option Addr) (uk uc : Nat) (w : World) :
    Calls Tryz.prog 22 #[.agg #[.int .i64 6, .int .i64 row, .int .i64 num, .int .i64 x, .int .i64 y, .int .i64 p, .int .i64 q, .int .i64 st, .bool sm, .int .i64 c.kind, .int .i64 c.client, .int .i64 c.req, .string c.key, .string c.key2, .string c.val, .string c.old, .int .i64 c.n, .int .i64 sq, .slice ua uk uc]] w fun r w' => r = .returned (.iface 98 (.agg #[.int .i64 6, .int .i64 row, .int .i64 num, .int .i64 x, .int .i64 y])) ∧ Below w.heap.size w w' := by
  obtain ⟨X, hX⟩ : ∃ X, X = w.alloc (.cells #[.int .i64 6, .int .i64 row, .int .i64 num, .int .i64 x, .int .i64 y, .int .i64 p, .int .i64 q, .int .i64 st, .bool sm, .int .i64 c.kind, .int .i64 c.client, .int .i64 c.req, .string c.key, .string c.key2, .string c.val, .string c.old, .int .i64 c.n, .int .i64 sq, .slice ua uk uc] 30) := ⟨_, rfl⟩
  have QX : Hid (Blk X w.heap.size [.int .i64 6, .int .i64 row, .int .i64 num, .int .i64 x, .int .i64 y, .int .i64 p, .int .i64 q, .int .i64 st, .bool sm, .int .i64 c.kind, .int .i64 c.client, .int .i64 c.req, .string c.key, .string c.key2, .string c.val, .string c.old, .int .i64 c.n, .int .i64 sq, .slice ua uk uc]) := by rw [hX]; exact blk_new w 30 [.int .i64 6, .int .i64 row, .int .i64 num, .int .i64 x, .int .i64 y, .int .i64 p, .int .i64 q, .int .i64 st, .bool sm, .int .i64 c.kind, .int .i64 c.client, .int .i64 c.req, .string c.key, .string c.key2, .string c.val, .string c.old, .int .i64 c.n, .int .i64 sq, .slice ua uk uc]
  have BX : Hid (Below w.heap.size w X) := by rw [hX]; exact (Below.refl _ w).alloc (Nat.le_refl _) _
  have c0 := QX.out.cell 0 _ rfl
  have c1 := QX.out.cell 1 _ rfl
  have c2 := QX.out.cell 2 _ rfl
  have c3 := QX.out.cell 3 _ rfl
  have c4 := QX.out.cell 4 _ rfl
  have c5 := QX.out.cell 5 _ rfl
  have c6 := QX.out.cell 6 _ rfl
  have c7 := QX.out.cell 7 _ rfl
  have c8 := QX.out.cell 8 _ rfl
  have c9 := QX.out.cell 9 _ rfl
  have c10 := QX.out.cell 10 _ rfl
  have c11 := QX.out.cell 11 _ rfl
  have c12 := QX.out.cell 12 _ rfl
  have c13 := QX.out.cell 13 _ rfl
  have c14 := QX.out.cell 14 _ rfl
  have c15 := QX.out.cell 15 _ rfl
  have c16 := QX.out.cell 16 _ rfl
  have c17 := QX.out.cell 17 _ rfl
  have c18 := QX.out.cell 18 _ rfl
  have hlt := QX.out.lt
  have BB : ∀ o1 o2, Hid (Below w.heap.size w ((X.alloc o1).alloc o2)) := fun o1 o2 => (BX.out.alloc BX.out.size _).alloc (by have := BX.out.size; simp; omega) _
  go_enter Tryz.func22, Tryz.ntmps22
  go_upto_region 1 with fail
  rw [← hX]
  clear hX
  go_wp2
  go_ret
  exact ⟨rfl, (BB _ _).out⟩
set_option maxHeartbeats 2000000 in
set_option maxRecDepth 100000 in
theorem shOf_5 (row num x y p q st : Int) (sm : Bool) (c : Cm) (sq : Int) (ua : Option Addr) (uk uc : Nat) (w : World) :
    Calls Tryz.prog 22 #[.agg #[.int .i64 5, .int .i64 row, .int .i64 num, .int .i64 x, .int .i64 y, .int .i64 p, .int .i64 q, .int .i64 st, .bool sm, .int .i64 c.kind, .int .i64 c.client, .int .i64 c.req, .string c.key, .string c.key2, .string c.val, .string c.old, .int .i64 c.n, .int .i64 sq, .slice ua uk uc]] w fun r w' => r = .returned (.iface 100 (.agg #[.int .i64 5, .int .i64 row, .int .i64 num, .int .i64 c.kind, .int .i64 c.client, .int .i64 c.req, .string c.key, .string c.key2, .string c.val, .string c.old, .int .i64 c.n, .int .i64 sq, .slice ua uk uc])) ∧ Below w.heap.size w w' := by
  obtain ⟨X, hX⟩ : ∃ X, X = w.alloc (.cells #[.int .i64 5, .int .i64 row, .int .i64 num, .int .i64 x, .int .i64 y, .int .i64 p, .int .i64 q, .int .i64 st, .bool sm, .int .i64 c.kind, .int .i64 c.client, .int .i64 c.req, .string c.key, .string c.key2, .string c.val, .string c.old, .int .i64 c.n, .int .i64 sq, .slice ua uk uc] 30) := ⟨_, rfl⟩
  have QX : Hid (Blk X w.heap.size [.int .i64 5, .int .i64 row, .int .i64 num, .int .i64 x, .int .i64 y, .int .i64 p, .int .i64 q, .int .i64 st, .bool sm, .int .i64 c.kind, .int .i64 c.client, .int .i64 c.req, .string c.key, .string c.key2, .string c.val, .string c.old, .int .i64 c.n, .int .i64 sq, .slice ua uk uc]) := by rw [hX]; exact blk_new w 30 [.int .i64 5, .int .i64 row, .int .i64 num, .int .i64 x, .int .i64 y, .int .i64 p, .int .i64 q, .int .i64 st, .bool sm, .int .i64 c.kind, .int .i64 c.client, .int .i64 c.req, .string c.key, .string c.key2, .string c.val, .string c.old, .int .i64 c.n, .int .i64 sq, .slice ua uk uc]
  have BX : Hid (Below w.heap.size w X) := by rw [hX]; exact (Below.refl _ w).alloc (Nat.le_refl _) _
  have c0 := QX.out.cell 0 _ rfl
  have c1 := QX.out.cell 1 _ rfl
  have c2 := QX.out.cell 2 _ rfl
  have c3 := QX.out.cell 3 _ rfl
  have c4 := QX.out.cell 4 _ rfl
  have c5 := QX.out.cell 5 _ rfl
  have c6 := QX.out.cell 6 _ rfl
  have c7 := QX.out.cell 7 _ rfl
  have c8 := QX.out.cell 8 _ rfl
  have c9 := QX.out.cell 9 _ rfl
  have c10 := QX.out.cell 10 _ rfl
  have c11 := QX.out.cell 11 _ rfl
  have c12 := QX.out.cell 12 _ rfl
  have c13 := QX.out.cell 13 _ rfl
  have c14 := QX.out.cell 14 _ rfl
  have c15 := QX.out.cell 15 _ rfl
  have c16 := QX.out.cell 16 _ rfl
  have c17 := QX.out.cell 17 _ rfl
  have c18 := QX.out.cell 18 _ rfl
  have hlt := QX.out.lt
  have BB : ∀ o1 o2, Hid (Below w.heap.size w ((X.alloc o1).alloc o2)) := fun o1 o2 => (BX.out.alloc BX.out.size _).alloc (by have := BX.out.size; simp; omega) _
  go_enter Tryz.func22, Tryz.ntmps22
  go_upto_region 1 with fail
  rw [← hX]
  clear hX
  go_wp2
  go_ret
  exact ⟨rfl, (BB _ _).out⟩
set_option maxHeartbeats 2000000 in
set_option maxRecDepth 100000 in
theorem shOf_8 (row num x y p q st : Int) (sm : Bool) (c : Cm) (sq : Int) (ua : Option Addr) (uk uc : Nat) (w : World) :
    Calls Tryz.prog 22 #[.agg #[.int .i64 8, .int .i64 row, .int .i64 num, .int .i64 x, .int .i64 y, .int .i64 p, .int .i64 q, .int .i64 st, .bool sm, .int .i64 c.kind, .int .i64 c.client, .int .i64 c.req, .string c.key, .string c.key2, .string c.val, .string c.old, .int .i64 c.n, .int .i64 sq, .slice ua uk uc]] w fun r w' => r = .returned (.iface 105 (.agg #[.int .i64 8, .int .i64 row, .int .i64 num, .int .i64 x, .int .i64 y, .int .i64 p, .int .i64 q])) ∧ Below w.heap.size w w' := by
  obtain ⟨X, hX⟩ : ∃ X, X = w.alloc (.cells #[.int .i64 8, .int .i64 row, .int .i64 num, .int .i64 x, .int .i64 y, .int .i64 p, .int .i64 q, .int .i64 st, .bool sm, .int .i64 c.kind, .int .i64 c.client, .int .i64 c.req, .string c.key, .string c.key2, .string c.val, .string c.old, .int .i64 c.n, .int .i64 sq, .slice ua uk uc] 30) := ⟨_, rfl⟩
  have QX : Hid (Blk X w.heap.size [.int .i64 8, .int .i64 row, .int .i64 num, .int .i64 x, .int .i64 y, .int .i64 p, .int .i64 q, .int .i64 st, .bool sm, .int .i64 c.kind, .int .i64 c.client, .int .i64 c.req, .string c.key, .string c.key2, .string c.val, .string c.old, .int .i64 c.n, .int .i64 sq, .slice ua uk uc]) := by rw [hX]; exact blk_new w 30 [.int .i64 8, .int .i64 row, .int .i64 num, .int .i64 x, .int .i64 y, .int .i64 p, .int .i64 q, .int .i64 st, .bool sm, .int .i64 c.kind, .int .i64 c.client, .int .i64 c.req, .string c.key, .string c.key2, .string c.val, .string c.old, .int .i64 c.n, .int .i64 sq, .slice ua uk uc]
  have BX : Hid (Below w.heap.size w X) := by rw [hX]; exact (Below.refl _ w).alloc (Nat.le_refl _) _
  have c0 := QX.out.cell 0 _ rfl
  have c1 := QX.out.cell 1 _ rfl
  have c2 := QX.out.cell 2 _ rfl
  have c3 := QX.out.cell 3 _ rfl
  have c4 := QX.out.cell 4 _ rfl
  have c5 := QX.out.cell 5 _ rfl
  have c6 := QX.out.cell 6 _ rfl
  have c7 := QX.out.cell 7 _ rfl
  have c8 := QX.out.cell 8 _ rfl
  have c9 := QX.out.cell 9 _ rfl
  have c10 := QX.out.cell 10 _ rfl
  have c11 := QX.out.cell 11 _ rfl
  have c12 := QX.out.cell 12 _ rfl
  have c13 := QX.out.cell 13 _ rfl
  have c14 := QX.out.cell 14 _ rfl
  have c15 := QX.out.cell 15 _ rfl
  have c16 := QX.out.cell 16 _ rfl
  have c17 := QX.out.cell 17 _ rfl
  have c18 := QX.out.cell 18 _ rfl
  have hlt := QX.out.lt
  have BB : ∀ o1 o2, Hid (Below w.heap.size w ((X.alloc o1).alloc o2)) := fun o1 o2 => (BX.out.alloc BX.out.size _).alloc (by have := BX.out.size; simp; omega) _
  go_enter Tryz.func22, Tryz.ntmps22
  go_upto_region 1 with fail
  rw [← hX]
  clear hX
  go_wp2
  go_ret
  exact ⟨rfl, (BB _ _).out⟩
set_option maxHeartbeats 2000000 in
set_option maxRecDepth 100000 in
theorem shOf_70 (row num x y p q : Int) (sm : Bool) (c : Cm) (sq : Int) (ua : Option Addr) (uk uc : Nat) (w : World) :
    Calls Tryz.prog 22 #[.agg #[.int .i64 7, .int .i64 row, .int .i64 num, .int .i64 x, .int .i64 y, .int .i64 p, .int .i64 q, .int .i64 0, .bool sm, .int .i64 c.kind, .int .i64 c.client, .int .i64 c.req, .string c.key, .string c.key2, .string c.val, .string c.old, .int .i64 c.n, .int .i64 sq, .slice ua uk uc]] w fun r w' => r = .returned (.iface 101 (.agg #[.int .i64 7, .int .i64 row, .int .i64 num, .int .i64 x, .int .i64 y])) ∧ Below w.heap.size w w' := by
  obtain ⟨X, hX⟩ : ∃ X, X = w.alloc (.cells #[.int .i64 7, .int .i64 row, .int .i64 num, .int .i64 x, .int .i64 y, .int .i64 p, .int .i64 q, .int .i64 0, .bool sm, .int .i64 c.kind, .int .i64 c.client, .int .i64 c.req, .string c.key, .string c.key2, .string c.val, .string c.old, .int .i64 c.n, .int .i64 sq, .slice ua uk uc] 30) := ⟨_, rfl⟩
  have QX : Hid (Blk X w.heap.size [.int .i64 7, .int .i64 row, .int .i64 num, .int .i64 x, .int .i64 y, .int .i64 p, .int .i64 q, .int .i64 0, .bool sm, .int .i64 c.kind, .int .i64 c.client, .int .i64 c.req, .string c.key, .string c.key2, .string c.val, .string c.old, .int .i64 c.n, .int .i64 sq, .slice ua uk uc]) := by rw [hX]; exact blk_new w 30 [.int .i64 7, .int .i64 row, .int .i64 num, .int .i64 x, .int .i64 y, .int .i64 p, .int .i64 q, .int .i64 0, .bool sm, .int .i64 c.kind, .int .i64 c.client, .int .i64 c.req, .string c.key, .string c.key2, .string c.val, .string c.old, .int .i64 c.n, .int .i64 sq, .slice ua uk uc]
  have BX : Hid (Below w.heap.size w X) := by rw [hX]; exact (Below.refl _ w).alloc (Nat.le_refl _) _
  have c0 := QX.out.cell 0 _ rfl
  have c1 := QX.out.cell 1 _ rfl
  have c2 := QX.out.cell 2 _ rfl
  have c3 := QX.out.cell 3 _ rfl
  have c4 := QX.out.cell 4 _ rfl
  have c5 := QX.out.cell 5 _ rfl
  have c6 := QX.out.cell 6 _ rfl
  have c7 := QX.out.cell 7 _ rfl
  have c8 := QX.out.cell 8 _ rfl
  have c9 := QX.out.cell 9 _ rfl
  have c10 := QX.out.cell 10 _ rfl
  have c11 := QX.out.cell 11 _ rfl
  have c12 := QX.out.cell 12 _ rfl
  have c13 := QX.out.cell 13 _ rfl
  have c14 := QX.out.cell 14 _ rfl
  have c15 := QX.out.cell 15 _ rfl
  have c16 := QX.out.cell 16 _ rfl
  have c17 := QX.out.cell 17 _ rfl
  have c18 := QX.out.cell 18 _ rfl
  have hlt := QX.out.lt
  have BB : ∀ o1 o2, Hid (Below w.heap.size w ((X.alloc o1).alloc o2)) := fun o1 o2 => (BX.out.alloc BX.out.size _).alloc (by have := BX.out.size; simp; omega) _
  go_enter Tryz.func22, Tryz.ntmps22
  go_upto_region 1 with fail
  rw [← hX]
  clear hX
  go_wp2
  go_ret
  exact ⟨rfl, (BB _ _).out⟩
set_option maxHeartbeats 2000000 in
set_option maxRecDepth 100000 in
theorem shOf_7 (row num x y p q st : Int) (h0 : st ≠ 0) (sm : Bool) (c : Cm) (sq : Int) (ua : Option Addr) (uk uc : Nat) (w : World) :
    Calls Tryz.prog 22 #[.agg #[.int .i64 7, .int .i64 row, .int .i64 num, .int .i64 x, .int .i64 y, .int .i64 p, .int .i64 q, .int .i64 st, .bool sm, .int .i64 c.kind, .int .i64 c.client, .int .i64 c.req, .string c.key, .string c.key2, .string c.val, .string c.old, .int .i64 c.n, .int .i64 sq, .slice ua uk uc]] w fun r w' => r = .returned (.iface 103 (.agg #[.int .i64 7, .int .i64 row, .int .i64 num, .int .i64 x, .int .i64 y, .int .i64 st, .bool sm, .int .i64 p, .int .i64 q, .int .i64 c.kind, .int .i64 c.client, .int .i64 c.req, .string c.key, .string c.key2, .string c.val, .string c.old, .int .i64 c.n, .int .i64 sq, .slice ua uk uc])) ∧ Below w.heap.size w w' := by
  have q0 : (st == 0) = false := by rw [beq_eq_false_iff_ne]; exact h0
  clear h0
  obtain ⟨X, hX⟩ : ∃ X, X = w.alloc (.cells #[.int .i64 7, .int .i64 row, .int .i64 num, .int .i64 x, .int .i64 y, .int .i64 p, .int .i64 q, .int .i64 st, .bool sm, .int .i64 c.kind, .int .i64 c.client, .int .i64 c.req, .string c.key, .string c.key2, .string c.val, .string c.old, .int .i64 c.n, .int .i64 sq, .slice ua uk uc] 30) := ⟨_, rfl⟩
  have QX : Hid (Blk X w.heap.size [.int .i64 7, .int .i64 row, .int .i64 num, .int .i64 x, .int .i64 y, .int .i64 p, .int .i64 q, .int .i64 st, .bool sm, .int .i64 c.kind, .int .i64 c.client, .int .i64 c.req, .string c.key, .string c.key2, .string c.val, .string c.old, .int .i64 c.n, .int .i64 sq, .slice ua uk uc]) := by rw [hX]; exact blk_new w 30 [.int .i64 7, .int .i64 row, .int .i64 num, .int .i64 x, .int .i64 y, .int .i64 p, .int .i64 q, .int .i64 st, .bool sm, .int .i64 c.kind, .int .i64 c.client, .int .i64 c.req, .string c.key, .string c.key2, .string c.val, .string c.old, .int .i64 c.n, .int .i64 sq, .slice ua uk uc]
  have BX : Hid (Below w.heap.size w X) := by rw [hX]; exact (Below.refl _ w).alloc (Nat.le_refl _) _
  have c0 := QX.out.cell 0 _ rfl
  have c1 := QX.out.cell 1 _ rfl
  have c2 := QX.out.cell 2 _ rfl
  have c3 := QX.out.cell 3 _ rfl
  have c4 := QX.out.cell 4 _ rfl
  have c5 := QX.out.cell 5 _ rfl
  have c6 := QX.out.cell 6 _ rfl
  have c7 := QX.out.cell 7 _ rfl
  have c8 := QX.out.cell 8 _ rfl
  have c9 := QX.out.cell 9 _ rfl
  have c10 := QX.out.cell 10 _ rfl
  have c11 := QX.out.cell 11 _ rfl
  have c12 := QX.out.cell 12 _ rfl
  have c13 := QX.out.cell 13 _ rfl
  have c14 := QX.out.cell 14 _ rfl
  have c15 := QX.out.cell 15 _ rfl
  have c16 := QX.out.cell 16 _ rfl
  have c17 := QX.out.cell 17 _ rfl
  have c18 := QX.out.cell 18 _ rfl
  have hlt := QX.out.lt
  have BB : ∀ o1 o2, Hid (Below w.heap.size w ((X.alloc o1).alloc o2)) := fun o1 o2 => (BX.out.alloc BX.out.size _).alloc (by have := BX.out.size; simp; omega) _
  go_enter Tryz.func22, Tryz.ntmps22
  go_upto_region 1 with fail
  rw [← hX]
  clear hX
  go_wp2
  go_ret
  exact ⟨rfl, (BB _ _).out⟩
set_option maxHeartbeats 2000000 in
set_option maxRecDepth 100000 in
theorem shOf_0 (k : Int) (hk : k < 1 ∨ 8 < k) (row num x y p q st : Int) (sm : Bool) (c : Cm) (sq : Int) (ua : Option Addr) (uk uc : Nat) (w : World) :
    Calls Tryz.prog 22 #[.agg #[.int .i64 k, .int .i64 row, .int .i64 num, .int .i64 x, .int .i64 y, .int .i64 p, .int .i64 q, .int .i64 st, .bool sm, .int .i64 c.kind, .int .i64 c.client, .int .i64 c.req, .string c.key, .string c.key2, .string c.val, .string c.old, .int .i64 c.n, .int .i64 sq, .slice ua uk uc]] w fun r w' => r = .returned (.iface 107 (.agg #[.int .i64 k, .int .i64 row, .int .i64 num])) ∧ Below w.heap.size w w' := by
  have q1 : (k == 1) = false := by rw [beq_eq_false_iff_ne]; omega
  have q2 : (k == 2) = false := by rw [beq_eq_false_iff_ne]; omega
  have q3 : (k == 3) = false := by rw [beq_eq_false_iff_ne]; omega
  have q4 : (k == 4) = false := by rw [beq_eq_false_iff_ne]; omega
  have q5 : (k == 5) = false := by rw [beq_eq_false_iff_ne]; omega
  have q6 : (k == 6) = false := by rw [beq_eq_false_iff_ne]; omega
  have q7 : (k == 7) = false := by rw [beq_eq_false_iff_ne]; omega
  have q8 : (k == 8) = false := by rw [beq_eq_false_iff_ne]; omega
  clear hk
  obtain ⟨X, hX⟩ : ∃ X, X = w.alloc (.cells #[.int .i64 k, .int .i64 row, .int .i64 num, .int .i64 x, .int .i64 y, .int .i64 p, .int .i64 q, .int .i64 st, .bool sm, .int .i64 c.kind, .int .i64 c.client, .int .i64 c.req, .string c.key, .string c.key2, .string c.val, .string c.old, .int .i64 c.n, .int .i64 sq, .slice ua uk uc] 30) := ⟨_, rfl⟩
  have QX : Hid (Blk X w.heap.size [.int .i64 k, .int .i64 row, .int .i64 num, .int .i64 x, .int .i64 y, .int .i64 p, .int .i64 q, .int .i64 st, .bool sm, .int .i64 c.kind, .int .i64 c.client, .int .i64 c.req, .string c.key, .string c.key2, .string c.val, .string c.old, .int .i64 c.n, .int .i64 sq, .slice ua uk uc]) := by rw [hX]; exact blk_new w 30 [.int .i64 k, .int .i64 row, .int .i64 num, .int .i64 x, .int .i64 y, .int .i64 p, .int .i64 q, .int .i64 st, .bool sm, .int .i64 c.kind, .int .i64 c.client, .int .i64 c.req, .string c.key, .string c.key2, .string c.val, .string c.old, .int .i64 c.n, .int .i64 sq, .slice ua uk uc]
  have BX : Hid (Below w.heap.size w X) := by rw [hX]; exact (Below.refl _ w).alloc (Nat.le_refl _) _
  have c0 := QX.out.cell 0 _ rfl
  have c1 := QX.out.cell 1 _ rfl
  have c2 := QX.out.cell 2 _ rfl
  have c3 := QX.out.cell 3 _ rfl
  have c4 := QX.out.cell 4 _ rfl
  have c5 := QX.out.cell 5 _ rfl
  have c6 := QX.out.cell 6 _ rfl
  have c7 := QX.out.cell 7 _ rfl
  have c8 := QX.out.cell 8 _ rfl
  have c9 := QX.out.cell 9 _ rfl
  have c10 := QX.out.cell 10 _ rfl
  have c11 := QX.out.cell 11 _ rfl
  have c12 := QX.out.cell 12 _ rfl
  have c13 := QX.out.cell 13 _ rfl
  have c14 := QX.out.cell 14 _ rfl
  have c15 := QX.out.cell 15 _ rfl
  have c16 := QX.out.cell 16 _ rfl
  have c17 := QX.out.cell 17 _ rfl
  have c18 := QX.out.cell 18 _ rfl
  have hlt := QX.out.lt
  have BB : ∀ o1 o2, Hid (Below w.heap.size w ((X.alloc o1).alloc o2)) := fun o1 o2 => (BX.out.alloc BX.out.size _).alloc (by have := BX.out.size; simp; omega) _
  go_enter Tryz.func22, Tryz.ntmps22
  go_upto_region 1 with fail
  rw [← hX]
  clear hX
  go_wp2
  go_ret
  exact ⟨rfl, (BB _ _).out⟩
/-- The shape of any message. -/
theorem shapeOf_any (m : Ms) (ua : Option Addr) (uk uc : Nat) (w : World) :
    Calls Tryz.prog 22 #[.agg (mgc m (.slice ua uk uc)).toArray] w fun r w' => r = .returned (shV m (.slice ua uk uc)) ∧ Below w.heap.size w w' := by
  obtain ⟨k, row, num, x, y, p, q, st, sm, c, sq, dl⟩ := m
  by_cases h1 : k = 1
  · subst h1; exact shOf_1 row num x y p q st sm c sq ua uk uc w
  by_cases h3 : k = 3
  · subst h3; exact shOf_3 row num x y p q st sm c sq ua uk uc w
  by_cases h2 : k = 2
  · subst h2; exact shOf_2 row num x y p q st sm c sq ua uk uc w
  by_cases h4 : k = 4
  · subst h4; exact shOf_4 row num x y p q st sm c sq ua uk uc w
  by_cases h6 : k = 6
  · subst h6; exact shOf_6 row num x y p q st sm c sq ua uk uc w
  by_cases h5 : k = 5
  · subst h5; exact shOf_5 row num x y p q st sm c sq ua uk uc w
  by_cases h7 : k = 7
  · subst h7
    by_cases h0 : st = 0
    · subst h0; exact shOf_70 row num x y p q sm c sq ua uk uc w
    · have hk : shK ⟨7, row, num, x, y, p, q, st, sm, c, sq, dl⟩ = 6 := by unfold shK; simp [h0]
      unfold shV
      rw [hk]
      exact shOf_7 row num x y p q st h0 sm c sq ua uk uc w
  by_cases h8 : k = 8
  · subst h8; exact shOf_8 row num x y p q st sm c sq ua uk uc w
  · have hk : shK ⟨k, row, num, x, y, p, q, st, sm, c, sq, dl⟩ = 0 := by unfold shK; simp [h1, h2, h3, h4, h5, h6, h7, h8]
    unfold shV
    rw [hk]
    exact shOf_0 k (by omega) row num x y p q st sm c sq ua uk uc w
end Go.Proofs.YtdokagebfeejbaaGreatDoor
