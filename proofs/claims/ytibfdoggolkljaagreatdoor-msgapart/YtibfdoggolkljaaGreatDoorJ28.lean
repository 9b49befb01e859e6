import Derived.Test.YtibfdoggolkljaaGreatDoorJ27
import Derived.Test.YtibfdoggolkljaaGreatDoorJ24
import Derived.Test.YtibfdoggolkljaaGreatDoorJ25
import Derived.Test.YtibfdoggolkljaaGreatDoorJ26
set_option maxHeartbeats 4000000
set_option maxRecDepth 100000
namespace Go.Proofs.YtibfdoggolkljaaGreatDoor
open Go.RowKit Go.Wire1
theorem msgOf_vote (k row num : Int) (x y st : Int) (sm : Bool) (p q : Int) (c : Cm) (sq : Int) (ua : Option Addr) (uk uc : Nat) (w : World) :
  Calls Tryz.prog 22 #[.iface 87 (.agg #[.int .i64 k, .int .i64 row, .int .i64 num, .int .i64 x, .int .i64 y, .int .i64 st, .bool sm, .int .i64 p, .int .i64 q, .int .i64 c.kind, .int .i64 c.client, .int .i64 c.req, .string c.key, .string c.key2, .string c.val, .string c.old, .int .i64 c.n, .int .i64 sq, .slice ua uk uc])] w fun r w' => r = .returned (.agg #[.int .i64 k, .int .i64 row, .int .i64 num, .int .i64 x, .int .i64 y, .int .i64 p, .int .i64 q, .int .i64 st, .bool sm, .int .i64 c.kind, .int .i64 c.client, .int .i64 c.req, .string c.key, .string c.key2, .string c.val, .string c.old, .int .i64 c.n, .int .i64 sq, .slice ua uk uc]) ∧ Below w.heap.size w w' := by
 have ta_bare : ∀ (z : Value) (w : World), (Instr.typeAssert (.iface 87 z) 45 91 true).run Tryz.prog w = .ok (.tuple #[.agg #[.int .i64 0, .int .i64 0, .int .i64 0], .bool false]) w := fun _ _ => by kernel_rfl
 have ta_balloted : ∀ (z : Value) (w : World), (Instr.typeAssert (.iface 87 z) 45 82 true).run Tryz.prog w = .ok (.tuple #[.agg #[.int .i64 0, .int .i64 0, .int .i64 0, .int .i64 0, .int .i64 0], .bool false]) w := fun _ _ => by kernel_rfl
 have ta_estimate : ∀ (z : Value) (w : World), (Instr.typeAssert (.iface 87 z) 45 80 true).run Tryz.prog w = .ok (.tuple #[.agg #[.int .i64 0, .int .i64 0, .int .i64 0, .int .i64 0, .int .i64 0, .int .i64 0, .slice none 0 0], .bool false]) w := fun _ _ => by kernel_rfl
 have ta_proposal : ∀ (z : Value) (w : World), (Instr.typeAssert (.iface 87 z) 45 78 true).run Tryz.prog w = .ok (.tuple #[.agg #[.int .i64 0, .int .i64 0, .int .i64 0, .int .i64 0, .int .i64 0, .int .i64 0, .int .i64 0, .int .i64 0, .string ⟨#[]⟩, .string ⟨#[]⟩, .string ⟨#[]⟩, .string ⟨#[]⟩, .int .i64 0, .int .i64 0, .slice none 0 0], .bool false]) w := fun _ _ => by kernel_rfl
 have ta_commit : ∀ (z : Value) (w : World), (Instr.typeAssert (.iface 87 z) 45 84 true).run Tryz.prog w = .ok (.tuple #[.agg #[.int .i64 0, .int .i64 0, .int .i64 0, .int .i64 0, .int .i64 0, .int .i64 0, .string ⟨#[]⟩, .string ⟨#[]⟩, .string ⟨#[]⟩, .string ⟨#[]⟩, .int .i64 0, .int .i64 0, .slice none 0 0], .bool false]) w := fun _ _ => by kernel_rfl
 have ta_noVote : ∀ (z : Value) (w : World), (Instr.typeAssert (.iface 87 z) 45 85 true).run Tryz.prog w = .ok (.tuple #[.agg #[.int .i64 0, .int .i64 0, .int .i64 0, .int .i64 0, .int .i64 0], .bool false]) w := fun _ _ => by kernel_rfl
 have ta_vote : ∀ (z : Value) (w : World), (Instr.typeAssert (.iface 87 z) 45 87 true).run Tryz.prog w = .ok (.tuple #[z, .bool true]) w := fun _ _ => by kernel_rfl
 go_enter Tryz.func22, Tryz.ntmps22
 go_upto_region 21 with fail
 obtain ⟨U, hU⟩ : ∃ U, U = w.alloc (.cells #[.int .i64 0, .int .i64 0, .int .i64 0, .int .i64 0, .int .i64 0, .int .i64 0, .int .i64 0, .int .i64 0, .bool false, .int .i64 0, .int .i64 0, .int .i64 0, .string ⟨#[]⟩, .string ⟨#[]⟩, .string ⟨#[]⟩, .string ⟨#[]⟩, .int .i64 0, .int .i64 0, .slice none 0 0] 30) := ⟨_, rfl⟩
 have hs : Hid (w.heap.size < U.heap.size) := by rw [hU]; simp [Hid]
 have BU : Hid (Below w.heap.size w U) := by rw [hU]; exact (Below.refl _ w).alloc zN _
 have QM : Hid (Blk U w.heap.size [.int .i64 0, .int .i64 0, .int .i64 0, .int .i64 0, .int .i64 0, .int .i64 0, .int .i64 0, .int .i64 0, .bool false, .int .i64 0, .int .i64 0, .int .i64 0, .string ⟨#[]⟩, .string ⟨#[]⟩, .string ⟨#[]⟩, .string ⟨#[]⟩, .int .i64 0, .int .i64 0, .slice none 0 0]) := by rw [hU]; exact blk_new w 30 [.int .i64 0, .int .i64 0, .int .i64 0, .int .i64 0, .int .i64 0, .int .i64 0, .int .i64 0, .int .i64 0, .bool false, .int .i64 0, .int .i64 0, .int .i64 0, .string ⟨#[]⟩, .string ⟨#[]⟩, .string ⟨#[]⟩, .string ⟨#[]⟩, .int .i64 0, .int .i64 0, .slice none 0 0]
 rw [← hU]
 clear hU
 have QZ : Hid (Blk (U.alloc (.cells #[.int .i64 0, .int .i64 0, .int .i64 0, .int .i64 0, .int .i64 0, .int .i64 0, .bool false, .int .i64 0, .int .i64 0, .int .i64 0, .int .i64 0, .int .i64 0, .string ⟨#[]⟩, .string ⟨#[]⟩, .string ⟨#[]⟩, .string ⟨#[]⟩, .int .i64 0, .int .i64 0, .slice none 0 0] 87)) U.heap.size [.int .i64 0, .int .i64 0, .int .i64 0, .int .i64 0, .int .i64 0, .int .i64 0, .bool false, .int .i64 0, .int .i64 0, .int .i64 0, .int .i64 0, .int .i64 0, .string ⟨#[]⟩, .string ⟨#[]⟩, .string ⟨#[]⟩, .string ⟨#[]⟩, .int .i64 0, .int .i64 0, .slice none 0 0]) := blk_new U 87 [.int .i64 0, .int .i64 0, .int .i64 0, .int .i64 0, .int .i64 0, .int .i64 0, .bool false, .int .i64 0, .int .i64 0, .int .i64 0, .int .i64 0, .int .i64 0, .string ⟨#[]⟩, .string ⟨#[]⟩, .string ⟨#[]⟩, .string ⟨#[]⟩, .int .i64 0, .int .i64 0, .slice none 0 0]
 have TZ : Hid ((U.alloc (.cells #[.int .i64 0, .int .i64 0, .int .i64 0, .int .i64 0, .int .i64 0, .int .i64 0, .bool false, .int .i64 0, .int .i64 0, .int .i64 0, .int .i64 0, .int .i64 0, .string ⟨#[]⟩, .string ⟨#[]⟩, .string ⟨#[]⟩, .string ⟨#[]⟩, .int .i64 0, .int .i64 0, .slice none 0 0] 87)).there U.heap.size 0 19) := QZ.out.there
 have RV : Hid (((U.alloc (.cells #[.int .i64 0, .int .i64 0, .int .i64 0, .int .i64 0, .int .i64 0, .int .i64 0, .bool false, .int .i64 0, .int .i64 0, .int .i64 0, .int .i64 0, .int .i64 0, .string ⟨#[]⟩, .string ⟨#[]⟩, .string ⟨#[]⟩, .string ⟨#[]⟩, .int .i64 0, .int .i64 0, .slice none 0 0] 87)).setCells U.heap.size 0 [.int .i64 k, .int .i64 row, .int .i64 num, .int .i64 x, .int .i64 y, .int .i64 st, .bool sm, .int .i64 p, .int .i64 q, .int .i64 c.kind, .int .i64 c.client, .int .i64 c.req, .string c.key, .string c.key2, .string c.val, .string c.old, .int .i64 c.n, .int .i64 sq, .slice ua uk uc]).rangeAt U.heap.size 0 [.int .i64 k, .int .i64 row, .int .i64 num, .int .i64 x, .int .i64 y, .int .i64 st, .bool sm, .int .i64 p, .int .i64 q, .int .i64 c.kind, .int .i64 c.client, .int .i64 c.req, .string c.key, .string c.key2, .string c.val, .string c.old, .int .i64 c.n, .int .i64 sq, .slice ua uk uc]) := World.rangeAt_setCells_same _ _ _ _ TZ.out
 have TH : Hid (((U.alloc (.cells #[.int .i64 0, .int .i64 0, .int .i64 0, .int .i64 0, .int .i64 0, .int .i64 0, .bool false, .int .i64 0, .int .i64 0, .int .i64 0, .int .i64 0, .int .i64 0, .string ⟨#[]⟩, .string ⟨#[]⟩, .string ⟨#[]⟩, .string ⟨#[]⟩, .int .i64 0, .int .i64 0, .slice none 0 0] 87)).setCells U.heap.size 0 [.int .i64 k, .int .i64 row, .int .i64 num, .int .i64 x, .int .i64 y, .int .i64 st, .bool sm, .int .i64 p, .int .i64 q, .int .i64 c.kind, .int .i64 c.client, .int .i64 c.req, .string c.key, .string c.key2, .string c.val, .string c.old, .int .i64 c.n, .int .i64 sq, .slice ua uk uc]).there w.heap.size 0 19) := World.there_setCells (World.there_alloc QM.out.there _) _ _ _
 have BW : Hid (Below w.heap.size w ((U.alloc (.cells #[.int .i64 0, .int .i64 0, .int .i64 0, .int .i64 0, .int .i64 0, .int .i64 0, .bool false, .int .i64 0, .int .i64 0, .int .i64 0, .int .i64 0, .int .i64 0, .string ⟨#[]⟩, .string ⟨#[]⟩, .string ⟨#[]⟩, .string ⟨#[]⟩, .int .i64 0, .int .i64 0, .slice none 0 0] 87)).setCells U.heap.size 0 [.int .i64 k, .int .i64 row, .int .i64 num, .int .i64 x, .int .i64 y, .int .i64 st, .bool sm, .int .i64 p, .int .i64 q, .int .i64 c.kind, .int .i64 c.client, .int .i64 c.req, .string c.key, .string c.key2, .string c.val, .string c.old, .int .i64 c.n, .int .i64 sq, .slice ua uk uc])) := below_cells (Nat.le_of_lt hs.out) _ _ _ (BU.out.alloc (Nat.le_of_lt hs.out) _)
 go_upto_region 22 with (first | (refine wpList_store_mid rfl 87 _ _ rfl U.heap.size 0 #[.int .i64 k, .int .i64 row, .int .i64 num, .int .i64 x, .int .i64 y, .int .i64 st, .bool sm, .int .i64 p, .int .i64 q, .int .i64 c.kind, .int .i64 c.client, .int .i64 c.req, .string c.key, .string c.key2, .string c.val, .string c.old, .int .i64 c.n, .int .i64 sq, .slice ua uk uc] rfl rfl TZ.out (by kernel_rfl) (by kernel_rfl) ?_))
 generalize ((U.alloc (.cells #[.int .i64 0, .int .i64 0, .int .i64 0, .int .i64 0, .int .i64 0, .int .i64 0, .bool false, .int .i64 0, .int .i64 0, .int .i64 0, .int .i64 0, .int .i64 0, .string ⟨#[]⟩, .string ⟨#[]⟩, .string ⟨#[]⟩, .string ⟨#[]⟩, .int .i64 0, .int .i64 0, .slice none 0 0] 87)).setCells U.heap.size 0 [.int .i64 k, .int .i64 row, .int .i64 num, .int .i64 x, .int .i64 y, .int .i64 st, .bool sm, .int .i64 p, .int .i64 q, .int .i64 c.kind, .int .i64 c.client, .int .i64 c.req, .string c.key, .string c.key2, .string c.val, .string c.old, .int .i64 c.n, .int .i64 sq, .slice ua uk uc]) = W at *
 have b0 : W.cell? ⟨U.heap.size, 0, none⟩ = some (.int .i64 k) := by have := RV.out 0 _ rfl; rwa [Nat.zero_add] at this
 have b1 : W.cell? ⟨U.heap.size, 1, none⟩ = some (.int .i64 row) := by have := RV.out 1 _ rfl; rwa [Nat.zero_add] at this
 have b2 : W.cell? ⟨U.heap.size, 2, none⟩ = some (.int .i64 num) := by have := RV.out 2 _ rfl; rwa [Nat.zero_add] at this
 have b3 : W.cell? ⟨U.heap.size, 3, none⟩ = some (.int .i64 x) := by have := RV.out 3 _ rfl; rwa [Nat.zero_add] at this
 have b4 : W.cell? ⟨U.heap.size, 4, none⟩ = some (.int .i64 y) := by have := RV.out 4 _ rfl; rwa [Nat.zero_add] at this
 have b5 : W.cell? ⟨U.heap.size, 5, none⟩ = some (.int .i64 st) := by have := RV.out 5 _ rfl; rwa [Nat.zero_add] at this
 have b6 : W.cell? ⟨U.heap.size, 6, none⟩ = some (.bool sm) := by have := RV.out 6 _ rfl; rwa [Nat.zero_add] at this
 have b7 : W.cell? ⟨U.heap.size, 7, none⟩ = some (.int .i64 p) := by have := RV.out 7 _ rfl; rwa [Nat.zero_add] at this
 have b8 : W.cell? ⟨U.heap.size, 8, none⟩ = some (.int .i64 q) := by have := RV.out 8 _ rfl; rwa [Nat.zero_add] at this
 have b9 : W.cell? ⟨U.heap.size, 9, none⟩ = some (.int .i64 c.kind) := by have := RV.out 9 _ rfl; rwa [Nat.zero_add] at this
 have b10 : W.cell? ⟨U.heap.size, 10, none⟩ = some (.int .i64 c.client) := by have := RV.out 10 _ rfl; rwa [Nat.zero_add] at this
 have b11 : W.cell? ⟨U.heap.size, 11, none⟩ = some (.int .i64 c.req) := by have := RV.out 11 _ rfl; rwa [Nat.zero_add] at this
 have b12 : W.cell? ⟨U.heap.size, 12, none⟩ = some (.string c.key) := by have := RV.out 12 _ rfl; rwa [Nat.zero_add] at this
 have b13 : W.cell? ⟨U.heap.size, 13, none⟩ = some (.string c.key2) := by have := RV.out 13 _ rfl; rwa [Nat.zero_add] at this
 have b14 : W.cell? ⟨U.heap.size, 14, none⟩ = some (.string c.val) := by have := RV.out 14 _ rfl; rwa [Nat.zero_add] at this
 have b15 : W.cell? ⟨U.heap.size, 15, none⟩ = some (.string c.old) := by have := RV.out 15 _ rfl; rwa [Nat.zero_add] at this
 have b16 : W.cell? ⟨U.heap.size, 16, none⟩ = some (.int .i64 c.n) := by have := RV.out 16 _ rfl; rwa [Nat.zero_add] at this
 have b17 : W.cell? ⟨U.heap.size, 17, none⟩ = some (.int .i64 sq) := by have := RV.out 17 _ rfl; rwa [Nat.zero_add] at this
 have b18 : W.cell? ⟨U.heap.size, 18, none⟩ = some (.slice ua uk uc) := by have := RV.out 18 _ rfl; rwa [Nat.zero_add] at this
 have R : Hid (Below w.heap.size w (W.setCells w.heap.size 0 [.int .i64 k, .int .i64 row, .int .i64 num, .int .i64 x, .int .i64 y, .int .i64 p, .int .i64 q, .int .i64 st, .bool sm, .int .i64 c.kind, .int .i64 c.client, .int .i64 c.req, .string c.key, .string c.key2, .string c.val, .string c.old, .int .i64 c.n, .int .i64 sq, .slice ua uk uc])) := below_cells zN _ _ _ BW.out
 have RA : Hid ((W.setCells w.heap.size 0 [.int .i64 k, .int .i64 row, .int .i64 num, .int .i64 x, .int .i64 y, .int .i64 p, .int .i64 q, .int .i64 st, .bool sm, .int .i64 c.kind, .int .i64 c.client, .int .i64 c.req, .string c.key, .string c.key2, .string c.val, .string c.old, .int .i64 c.n, .int .i64 sq, .slice ua uk uc]).rangeAt w.heap.size 0 [.int .i64 k, .int .i64 row, .int .i64 num, .int .i64 x, .int .i64 y, .int .i64 p, .int .i64 q, .int .i64 st, .bool sm, .int .i64 c.kind, .int .i64 c.client, .int .i64 c.req, .string c.key, .string c.key2, .string c.val, .string c.old, .int .i64 c.n, .int .i64 sq, .slice ua uk uc]) := World.rangeAt_setCells_same _ _ _ _ TH.out
 clear QZ TZ RV QM BU
 go_wp2_with (first | (refine wpList_store_mid rfl 30 _ _ rfl w.heap.size 0 #[.int .i64 k, .int .i64 row, .int .i64 num, .int .i64 x, .int .i64 y, .int .i64 p, .int .i64 q, .int .i64 st, .bool sm, .int .i64 c.kind, .int .i64 c.client, .int .i64 c.req, .string c.key, .string c.key2, .string c.val, .string c.old, .int .i64 c.n, .int .i64 sq, .slice ua uk uc] rfl rfl TH.out (by kernel_rfl) (by kernel_rfl) ?_))
 generalize W.setCells w.heap.size 0 [.int .i64 k, .int .i64 row, .int .i64 num, .int .i64 x, .int .i64 y, .int .i64 p, .int .i64 q, .int .i64 st, .bool sm, .int .i64 c.kind, .int .i64 c.client, .int .i64 c.req, .string c.key, .string c.key2, .string c.val, .string c.old, .int .i64 c.n, .int .i64 sq, .slice ua uk uc] = W2 at *
 refine bodyPost_ret (results_cell_mid Tryz.results22 _ _ w.heap.size [.int .i64 k, .int .i64 row, .int .i64 num, .int .i64 x, .int .i64 y, .int .i64 p, .int .i64 q, .int .i64 st, .bool sm, .int .i64 c.kind, .int .i64 c.client, .int .i64 c.req, .string c.key, .string c.key2, .string c.val, .string c.old, .int .i64 c.n, .int .i64 sq, .slice ua uk uc] _ rfl RA.out Tryz.underlying30 rfl (by kernel_rfl)) rfl ⟨rfl, R.out⟩
open Go.RowKit Go.Wire1
section
variable (w0 : World) (g : Nat) (v n : Int) (l : List Int)
theorem shape_any (a : Nat → Addr) (f : Int) (w : World) (he : Errs w0 a) (hKc : Knd w0) (hK : Kmd w0) (h : Scx w0 w g (Vf v n) l f) :
  Calls Tryz.prog 20 #[.pointer (some ⟨g, 0, none⟩)] w fun r w' => ShPost w0 w g v n (rdMsg v n l f) r w' := by
 obtain ⟨⟨k, row, num⟩, l1, f1, e1⟩ : ∃ b l1 f1, iHead v n l f = (b, l1, f1) := ⟨_, _, _, rfl⟩
 by_cases h1 : k = 1
 ·subst h1
  obtain ⟨⟨x, y⟩, l2, f2, e2⟩ : ∃ b l2 f2, iBalF v n 1 row l1 f1 = (b, l2, f2) := ⟨_, _, _, rfl⟩
  obtain ⟨⟨c, sq, dl⟩, l3, f3, e3⟩ : ∃ b l3 f3, iLoad v n false l2 f2 = (b, l3, f3) := ⟨_, _, _, rfl⟩
  have eR : rdMsg v n l f = (⟨1, row, num, x, y, 0, 0, 0, false, c, sq, dl⟩, l3, f3) := by unfold rdMsg; simp only [e1, e2, e3, if_true]
  rw [eR]
  exact (shape_prop1 w0 g v n l a f w row num l1 f1 x y l2 f2 c sq dl l3 f3 he hKc hK h e1 e2 e3).mono fun r w' ⟨u, e, D, T, S⟩ => ⟨u, e, D, T, S⟩
 by_cases h3 : k = 3
 ·subst h3
  obtain ⟨⟨x, y⟩, l2, f2, e2⟩ : ∃ b l2 f2, iBalF v n 3 row l1 f1 = (b, l2, f2) := ⟨_, _, _, rfl⟩
  obtain ⟨⟨c, sq, dl⟩, l3, f3, e3⟩ : ∃ b l3 f3, iLoad v n true l2 f2 = (b, l3, f3) := ⟨_, _, _, rfl⟩
  have eR : rdMsg v n l f = (⟨3, row, num, x, y, 0, 0, 0, false, c, sq, dl⟩, l3, f3) := by unfold rdMsg; simp only [e1, e2, e3, if_true, if_neg h1]
  rw [eR]
  exact (shape_prop3 w0 g v n l a f w row num l1 f1 x y l2 f2 c sq dl l3 f3 he hKc hK h e1 e2 e3).mono fun r w' ⟨u, e, D, T, S⟩ => ⟨u, e, D, T, S⟩
 by_cases h2 : k = 2
 ·subst h2
  obtain ⟨⟨x, y⟩, l2, f2, e2⟩ : ∃ b l2 f2, iBalF v n 2 row l1 f1 = (b, l2, f2) := ⟨_, _, _, rfl⟩
  obtain ⟨⟨sq, dl⟩, l3, f3, e3⟩ : ∃ b l3 f3, iAttr v n false l2 f2 = (b, l3, f3) := ⟨_, _, _, rfl⟩
  have eR : rdMsg v n l f = (⟨2, row, num, x, y, 0, 0, 0, false, zeroC, sq, dl⟩, l3, f3) := by unfold rdMsg; simp only [e1, e2, e3, if_true, if_neg h1, if_neg h3]
  rw [eR]
  exact (shape_est w0 g v n l a f w row num l1 f1 x y l2 f2 sq dl l3 f3 he hKc hK h e1 e2 e3).mono fun r w' ⟨u, e, D, T, S⟩ => ⟨u, e, D, T, S⟩
 by_cases h4 : k = 4
 ·subst h4
  obtain ⟨⟨x, y⟩, l2, f2, e2⟩ : ∃ b l2 f2, iBalF v n 4 row l1 f1 = (b, l2, f2) := ⟨_, _, _, rfl⟩
  have eR : rdMsg v n l f = (⟨4, row, num, x, y, 0, 0, 0, false, zeroC, 0, []⟩, l2, f2) := by unfold rdMsg; simp only [e1, e2, if_true, if_neg h1, if_neg h3, if_neg h2]
  rw [eR]
  exact (shape_bal4 w0 g v n l a f w row num l1 f1 x y l2 f2 he hKc hK h e1 e2).mono fun r w' ⟨u, e, D, T, S⟩ => ⟨u, e, D, T, S⟩
 by_cases h6 : k = 6
 ·subst h6
  obtain ⟨⟨x, y⟩, l2, f2, e2⟩ : ∃ b l2 f2, iBalF v n 6 row l1 f1 = (b, l2, f2) := ⟨_, _, _, rfl⟩
  have eR : rdMsg v n l f = (⟨6, row, num, x, y, 0, 0, 0, false, zeroC, 0, []⟩, l2, f2) := by unfold rdMsg; simp only [e1, e2, if_true, if_neg h1, if_neg h3, if_neg h2, if_neg h4]
  rw [eR]
  exact (shape_bal6 w0 g v n l a f w row num l1 f1 x y l2 f2 he hKc hK h e1 e2).mono fun r w' ⟨u, e, D, T, S⟩ => ⟨u, e, D, T, S⟩
 by_cases h5 : k = 5
 ·subst h5
  obtain ⟨⟨c, sq, dl⟩, l2, f2, e2⟩ : ∃ b l2 f2, iLoad v n true l1 f1 = (b, l2, f2) := ⟨_, _, _, rfl⟩
  have eR : rdMsg v n l f = (⟨5, row, num, 0, 0, 0, 0, 0, false, c, sq, dl⟩, l2, f2) := by unfold rdMsg; simp only [e1, e2, if_true, if_neg h1, if_neg h3, if_neg h2, if_neg h4, if_neg h6]
  rw [eR]
  exact (shape_com w0 g v n l a f w row num l1 f1 c sq dl l2 f2 he hKc hK h e1 e2).mono fun r w' ⟨u, e, D, T, S⟩ => ⟨u, e, D, T, S⟩
 by_cases h7 : k = 7
 ·subst h7
  have eR : rdMsg v n l f = rdTold v n row num l1 f1 := by unfold rdMsg; simp only [e1, if_true, if_neg h1, if_neg h3, if_neg h2, if_neg h4, if_neg h6, if_neg h5]
  rw [eR]
  exact shape_told w0 g v n l a f w row num l1 f1 he hKc hK h e1
 by_cases h8 : k = 8
 ·subst h8
  obtain ⟨⟨x, y⟩, l2, f2, e2⟩ : ∃ b l2 f2, iBalF v n 8 row l1 f1 = (b, l2, f2) := ⟨_, _, _, rfl⟩
  obtain ⟨⟨p, q⟩, l3, f3, e3⟩ : ∃ b l3 f3, iBal v l2 f2 = (b, l3, f3) := ⟨_, _, _, rfl⟩
  have eR : rdMsg v n l f = (⟨8, row, num, x, y, p, q, 0, false, zeroC, 0, []⟩, l3, refF (unl (nackB n row x y p q) 54) f3) := by unfold rdMsg; simp only [e1, e2, e3, if_true, if_neg h1, if_neg h3, if_neg h2, if_neg h4, if_neg h6, if_neg h5, if_neg h7]
  rw [eR]
  by_cases hv : v = 1
  ·have e4 : iTwo l2 f2 = ((p, q), l3, f3) := by have := e3; unfold iBal at this; rwa [if_pos hv] at this
   exact (shape_nack1 w0 g v n l a f w row num l1 f1 hv x y l2 f2 p q l3 f3 _ _ he hKc hK h e1 e2 e4 rfl rfl).mono fun r w' ⟨u, e, D, T, S⟩ => ⟨u, e, D, T, S⟩
  ·have e4 : iPack l2 f2 = ((p, q), l3, f3) := by have := e3; unfold iBal at this; rwa [if_neg hv] at this
   exact (shape_nack2 w0 g v n l a f w row num l1 f1 hv x y l2 f2 p q l3 f3 _ _ he hKc hK h e1 e2 e4 rfl rfl).mono fun r w' ⟨u, e, D, T, S⟩ => ⟨u, e, D, T, S⟩
 ·have eR : rdMsg v n l f = (⟨k, row, num, 0, 0, 0, 0, 0, false, zeroC, 0, []⟩, l1, f1) := by unfold rdMsg; simp only [e1, if_neg h1, if_neg h3, if_neg h2, if_neg h4, if_neg h6, if_neg h5, if_neg h7, if_neg h8]
  have hk0 : shK ⟨k, row, num, 0, 0, 0, 0, 0, false, zeroC, 0, []⟩ = 0 := by unfold shK; simp [h1, h2, h3, h4, h5, h6, h7, h8]
  rw [eR]
  refine (shape_bare w0 g v n l a f w k row num l1 f1 he hK h e1 (by omega)).mono fun r w' ⟨u, e, D, T, S⟩ => ⟨u, ?_, D, T, S⟩
  rw [e]
  unfold shV
  rw [hk0]
  rfl
end
theorem only_rd (v n : Int) (l : List Int) (f : Int) : only (rdMsg v n l f).1 (shK (rdMsg v n l f).1) = (rdMsg v n l f).1 := by
 obtain ⟨⟨k, row, num⟩, l1, f1, e1⟩ : ∃ b l1 f1, iHead v n l f = (b, l1, f1) := ⟨_, _, _, rfl⟩
 unfold rdMsg
 simp only [e1]
 by_cases h1 : k = 1
 ·simp only [if_pos h1]; rfl
 by_cases h3 : k = 3
 ·simp only [if_neg h1, if_pos h3]; rfl
 by_cases h2 : k = 2
 ·simp only [if_neg h1, if_neg h3, if_pos h2]; rfl
 by_cases h4 : k = 4
 ·simp only [if_neg h1, if_neg h3, if_neg h2, if_pos h4]; rfl
 by_cases h6 : k = 6
 ·simp only [if_neg h1, if_neg h3, if_neg h2, if_neg h4, if_pos h6]; rfl
 by_cases h5 : k = 5
 ·simp only [if_neg h1, if_neg h3, if_neg h2, if_neg h4, if_neg h6, if_pos h5]; rfl
 by_cases h7 : k = 7
 ·simp only [if_neg h1, if_neg h3, if_neg h2, if_neg h4, if_neg h6, if_neg h5, if_pos h7]
  obtain ⟨⟨x, y⟩, l2, f2, e2⟩ : ∃ b l2 f2, iBalF v n 7 row l1 f1 = (b, l2, f2) := ⟨_, _, _, rfl⟩
  obtain ⟨⟨st, sm⟩, l3, f3, e3⟩ : ∃ b l3 f3, iVote v l2 f2 = (b, l3, f3) := ⟨_, _, _, rfl⟩
  by_cases hs : st = 0
  ·unfold rdTold
   simp only [e2, e3, if_pos hs]; rfl
  ·unfold rdTold
   simp only [e2, e3, if_neg hs]
   unfold shK
   simp [hs, only]
 by_cases h8 : k = 8
 ·simp only [if_neg h1, if_neg h3, if_neg h2, if_neg h4, if_neg h6, if_neg h5, if_neg h7, if_pos h8]; rfl
 ·simp only [if_neg h1, if_neg h3, if_neg h2, if_neg h4, if_neg h6, if_neg h5, if_neg h7, if_neg h8]
  unfold shK
  simp [h1, h2, h3, h4, h5, h6, h7, h8, only]
theorem shK_le (m : Ms) : shK m ≤ 7 := by
 unfold shK
 repeat' split
 all_goals omega
theorem msgOf_any (m : Ms) (u : Value) (hu : hasD (shK m) = true → ∃ a k c, u = .slice a k c) (w : World) :
  Calls Tryz.prog 22 #[shV m u] w fun r w' => r = .returned (.agg (mgc (only m (shK m)) (onlyU u (shK m))).toArray) ∧ Below w.heap.size w w' := by
 unfold shV
 have h7 := shK_le m
 generalize shK m = k at *
 match k, h7, hu with
 | 0, _, _ => exact msgOf_bare m.kind m.row m.num w
 | 1, _, hu =>
  obtain ⟨a, i, c, rfl⟩ := hu rfl
  exact msgOf_proposal m.kind m.row m.num m.x m.y m.c m.sq a i c w
 | 2, _, hu =>
  obtain ⟨a, i, c, rfl⟩ := hu rfl
  exact msgOf_estimate m.kind m.row m.num m.x m.y m.sq a i c w
 | 3, _, _ => exact msgOf_balloted m.kind m.row m.num m.x m.y w
 | 4, _, hu =>
  obtain ⟨a, i, c, rfl⟩ := hu rfl
  exact msgOf_commit m.kind m.row m.num m.c m.sq a i c w
 | 5, _, _ => exact msgOf_noVote m.kind m.row m.num m.x m.y w
 | 6, _, hu =>
  obtain ⟨a, i, c, rfl⟩ := hu rfl
  exact msgOf_vote m.kind m.row m.num m.x m.y m.st m.sm m.p m.q m.c m.sq a i c w
 | 7, _, _ => exact msgOf_nack m.kind m.row m.num m.x m.y m.p m.q w
 | k + 8, h7, _ => omega
open Go.RowKit Go.Wire1
def callF (v n : Int) : Int := if v = 1 ∨ v = 2 then (if 1 ≤ n ∧ n ≤ 7 then 0 else 3) else 2
theorem callFault_any (v n : Int) (w : World) : Calls Tryz.prog 19 #[.int .i64 v, .int .i64 n] w fun r w' => r = .returned (.int .i64 (callF v n)) ∧ w = w' := by
 by_cases h1 : v = 1
 ·subst h1
  by_cases h3 : n < 1
  ·have E : Hid (callF 1 n = 3) := by show _ = _; unfold callF; rw [if_pos (by omega), if_neg (by omega)]
   go_enter Tryz.func19, Tryz.ntmps19
   go_wp2
   go_ret
   exact ⟨by rw [E.out]; rfl, rfl⟩
  ·by_cases h4 : 7 < n
   ·have E : Hid (callF 1 n = 3) := by show _ = _; unfold callF; rw [if_pos (by omega), if_neg (by omega)]
    go_enter Tryz.func19, Tryz.ntmps19
    go_wp2
    go_ret
    exact ⟨by rw [E.out]; rfl, rfl⟩
   ·have E : Hid (callF 1 n = 0) := by show _ = _; unfold callF; rw [if_pos (by omega), if_pos (by omega)]
    go_enter Tryz.func19, Tryz.ntmps19
    go_wp2
    go_ret
    exact ⟨by rw [E.out]; rfl, rfl⟩
 ·have q1 : (v != 1) = true := by rw [bne_iff_ne]; exact h1
  by_cases h2 : v = 2
  ·subst h2
   by_cases h3 : n < 1
   ·have E : Hid (callF 2 n = 3) := by show _ = _; unfold callF; rw [if_pos (by omega), if_neg (by omega)]
    go_enter Tryz.func19, Tryz.ntmps19
    go_wp2
    go_ret
    exact ⟨by rw [E.out]; rfl, rfl⟩
   ·by_cases h4 : 7 < n
    ·have E : Hid (callF 2 n = 3) := by show _ = _; unfold callF; rw [if_pos (by omega), if_neg (by omega)]
     go_enter Tryz.func19, Tryz.ntmps19
     go_wp2
     go_ret
     exact ⟨by rw [E.out]; rfl, rfl⟩
    ·have E : Hid (callF 2 n = 0) := by show _ = _; unfold callF; rw [if_pos (by omega), if_pos (by omega)]
     go_enter Tryz.func19, Tryz.ntmps19
     go_wp2
     go_ret
     exact ⟨by rw [E.out]; rfl, rfl⟩
  ·have q2 : (v != 2) = true := by rw [bne_iff_ne]; exact h2
   have E : Hid (callF v n = 2) := by show _ = _; unfold callF; rw [if_neg (by omega)]
   clear h1 h2
   go_enter Tryz.func19, Tryz.ntmps19
   go_wp2
   go_ret
   exact ⟨by rw [E.out]; rfl, rfl⟩
def lyc1 : List Value := [.int .i64 1, .func (.func 25) #[] #[], .func (.func 26) #[] #[], .func (.func 27) #[] #[], .func (.func 28) #[] #[], .func (.func 29) #[] #[], .func (.func 30) #[] #[]]
def lyc2 : List Value := [.int .i64 2, .func (.func 31) #[] #[], .func (.func 32) #[] #[], .func (.func 33) #[] #[], .func (.func 34) #[] #[], .func (.func 35) #[] #[], .func (.func 36) #[] #[]]
theorem layout1 (w : World) : Calls Tryz.prog 14 #[.int .i64 1] w fun r w' => r = .returned (.agg lyc1.toArray) ∧ Below w.heap.size w w' := by
 have QZ : Hid (Blk (w.alloc (.cells #[.int .i64 0, .nilFunc, .nilFunc, .nilFunc, .nilFunc, .nilFunc, .nilFunc] 55)) w.heap.size [.int .i64 0, .nilFunc, .nilFunc, .nilFunc, .nilFunc, .nilFunc, .nilFunc]) := blk_new w 55 [.int .i64 0, .nilFunc, .nilFunc, .nilFunc, .nilFunc, .nilFunc, .nilFunc]
 have TZ : Hid ((w.alloc (.cells #[.int .i64 0, .nilFunc, .nilFunc, .nilFunc, .nilFunc, .nilFunc, .nilFunc] 55)).there w.heap.size 0 7) := QZ.out.there
 have BY : Hid (Below w.heap.size w ((w.alloc (.cells #[.int .i64 0, .nilFunc, .nilFunc, .nilFunc, .nilFunc, .nilFunc, .nilFunc] 55)).setCells w.heap.size 0 lyc1)) := below_cells zN _ _ _ ((Below.refl _ _).alloc zN _)
 have RA : Hid (((w.alloc (.cells #[.int .i64 0, .nilFunc, .nilFunc, .nilFunc, .nilFunc, .nilFunc, .nilFunc] 55)).setCells w.heap.size 0 lyc1).rangeAt w.heap.size 0 lyc1) := (blk_cells (vs := lyc1) QZ.out rfl).range
 go_enter Tryz.func14, Tryz.ntmps14
 go_upto_region 2 with fail
 go_wp2_with (first | (refine wpList_store_mid rfl 55 _ _ rfl w.heap.size 0 #[.int .i64 1, .func (.func 25) #[] #[], .func (.func 26) #[] #[], .func (.func 27) #[] #[], .func (.func 28) #[] #[], .func (.func 29) #[] #[], .func (.func 30) #[] #[]] rfl rfl TZ.out (by kernel_rfl) (by kernel_rfl) ?_))
 refine bodyPost_ret (results_cell_mid Tryz.results14 _ _ w.heap.size lyc1 _ rfl RA.out Tryz.underlying55 rfl (by kernel_rfl)) rfl ?_
 exact ⟨rfl, BY.out⟩
theorem layout2 (v : Int) (hv : v ≠ 1) (w : World) : Calls Tryz.prog 14 #[.int .i64 v] w fun r w' => r = .returned (.agg lyc2.toArray) ∧ Below w.heap.size w w' := by
 have q1 : (v == 1) = false := by rw [beq_eq_false_iff_ne]; exact hv
 clear hv
 have QZ : Hid (Blk (w.alloc (.cells #[.int .i64 0, .nilFunc, .nilFunc, .nilFunc, .nilFunc, .nilFunc, .nilFunc] 55)) w.heap.size [.int .i64 0, .nilFunc, .nilFunc, .nilFunc, .nilFunc, .nilFunc, .nilFunc]) := blk_new w 55 [.int .i64 0, .nilFunc, .nilFunc, .nilFunc, .nilFunc, .nilFunc, .nilFunc]
 have TZ : Hid ((w.alloc (.cells #[.int .i64 0, .nilFunc, .nilFunc, .nilFunc, .nilFunc, .nilFunc, .nilFunc] 55)).there w.heap.size 0 7) := QZ.out.there
 have BY : Hid (Below w.heap.size w ((w.alloc (.cells #[.int .i64 0, .nilFunc, .nilFunc, .nilFunc, .nilFunc, .nilFunc, .nilFunc] 55)).setCells w.heap.size 0 lyc2)) := below_cells zN _ _ _ ((Below.refl _ _).alloc zN _)
 have RA : Hid (((w.alloc (.cells #[.int .i64 0, .nilFunc, .nilFunc, .nilFunc, .nilFunc, .nilFunc, .nilFunc] 55)).setCells w.heap.size 0 lyc2).rangeAt w.heap.size 0 lyc2) := (blk_cells (vs := lyc2) QZ.out rfl).range
 go_enter Tryz.func14, Tryz.ntmps14
 go_upto_region 3 with fail
 go_wp2_with (first | (refine wpList_store_mid rfl 55 _ _ rfl w.heap.size 0 #[.int .i64 2, .func (.func 31) #[] #[], .func (.func 32) #[] #[], .func (.func 33) #[] #[], .func (.func 34) #[] #[], .func (.func 35) #[] #[], .func (.func 36) #[] #[]] rfl rfl TZ.out (by kernel_rfl) (by kernel_rfl) ?_))
 refine bodyPost_ret (results_cell_mid Tryz.results14 _ _ w.heap.size lyc2 _ rfl RA.out Tryz.underlying55 rfl (by kernel_rfl)) rfl ?_
 exact ⟨rfl, BY.out⟩
end Go.Proofs.YtibfdoggolkljaaGreatDoor
