/- Texts of the proof, joined. -/
import Derived.Test.YtdokagebfeejbaaGreatDoorJ19
import Derived.Test.YtdokagebfeejbaaGreatDoorJ17
import Derived.Test.YtdokagebfeejbaaGreatDoorJ18
import Derived.Test.YtdokagebfeejbaaGreatDoorJ01
/- The contract of msgOf: the leaf of a vote. -/
namespace Go.Proofs.YtdokagebfeejbaaGreatDoor
open Go.RowKit Go.Wire1

set_option maxHeartbeats 4000000 in
set_option maxRecDepth 100000 in
theorem msgOf_vote (k row num : Int) (x y st : Int) (sm : Bool) (p q : Int) (c : Cm) (sq : Int) (ua : Option Addr) (uk uc : Nat) (w : World) :
    Calls Tryz.prog 41 #[.iface 103 (.agg #[.int .i64 k, .int .i64 row, .int .i64 num, .int .i64 x, .int .i64 y, .int .i64 st, .bool sm, .int .i64 p, .int .i64 q, .int .i64 c.kind, .int .i64 c.client, .int .i64 c.req, .string c.key, .string c.key2, .string c.val, .string c.old, .int .i64 c.n, .int .i64 sq, .slice ua uk uc])] w fun r w' => r = .returned (.agg #[.int .i64 k, .int .i64 row, .int .i64 num, .int .i64 x, .int .i64 y, .int .i64 p, .int .i64 q, .int .i64 st, .bool sm, .int .i64 c.kind, .int .i64 c.client, .int .i64 c.req, .string c.key, .string c.key2, .string c.val, .string c.old, .int .i64 c.n, .int .i64 sq, .slice ua uk uc]) ∧ Below w.heap.size w w' := by
  have ta_bare : ∀ (z : Value) (w : World), (Instr.typeAssert (.iface 103 z) 54 107 true).run Tryz.prog w = .ok (.tuple #[.agg #[.int .i64 0, .int .i64 0, .int .i64 0], .bool false]) w := fun _ _ => by kernel_rfl
  have ta_balloted : ∀ (z : Value) (w : World), (Instr.typeAssert (.iface 103 z) 54 98 true).run Tryz.prog w = .ok (.tuple #[.agg #[.int .i64 0, .int .i64 0, .int .i64 0, .int .i64 0, .int .i64 0], .bool false]) w := fun _ _ => by kernel_rfl
  have ta_estimate : ∀ (z : Value) (w : World), (Instr.typeAssert (.iface 103 z) 54 96 true).run Tryz.prog w = .ok (.tuple #[.agg #[.int .i64 0, .int .i64 0, .int .i64 0, .int .i64 0, .int .i64 0, .int .i64 0, .slice none 0 0], .bool false]) w := fun _ _ => by kernel_rfl
  have ta_proposal : ∀ (z : Value) (w : World), (Instr.typeAssert (.iface 103 z) 54 94 true).run Tryz.prog w = .ok (.tuple #[.agg #[.int .i64 0, .int .i64 0, .int .i64 0, .int .i64 0, .int .i64 0, .int .i64 0, .int .i64 0, .int .i64 0, .string ⟨#[]⟩, .string ⟨#[]⟩, .string ⟨#[]⟩, .string ⟨#[]⟩, .int .i64 0, .int .i64 0, .slice none 0 0], .bool false]) w := fun _ _ => by kernel_rfl
  have ta_commit : ∀ (z : Value) (w : World), (Instr.typeAssert (.iface 103 z) 54 100 true).run Tryz.prog w = .ok (.tuple #[.agg #[.int .i64 0, .int .i64 0, .int .i64 0, .int .i64 0, .int .i64 0, .int .i64 0, .string ⟨#[]⟩, .string ⟨#[]⟩, .string ⟨#[]⟩, .string ⟨#[]⟩, .int .i64 0, .int .i64 0, .slice none 0 0], .bool false]) w := fun _ _ => by kernel_rfl
  have ta_noVote : ∀ (z : Value) (w : World), (Instr.typeAssert (.iface 103 z) 54 101 true).run Tryz.prog w = .ok (.tuple #[.agg #[.int .i64 0, .int .i64 0, .int .i64 0, .int .i64 0, .int .i64 0], .bool false]) w := fun _ _ => by kernel_rfl
  have ta_vote : ∀ (z : Value) (w : World), (Instr.typeAssert (.iface 103 z) 54 103 true).run Tryz.prog w = .ok (.tuple #[z, .bool true]) w := fun _ _ => by kernel_rfl
  go_enter Tryz.func41, Tryz.ntmps41
  go_upto_region 21 with fail
  obtain ⟨U, hU⟩ : ∃ U, U = w.alloc (.cells #[.int .i64 0, .int .i64 0, .int .i64 0, .int .i64 0, .int .i64 0, .int .i64 0, .int .i64 0, .int .i64 0, .bool false, .int .i64 0, .int .i64 0, .int .i64 0, .string ⟨#[]⟩, .string ⟨#[]⟩, .string ⟨#[]⟩, .string ⟨#[]⟩, .int .i64 0, .int .i64 0, .slice none 0 0] 30) := ⟨_, rfl⟩
  have hs : Hid (w.heap.size < U.heap.size) := by rw [hU]; simp [Hid]
  have BU : Hid (Below w.heap.size w U) := by rw [hU]; exact (Below.refl _ w).alloc (Nat.le_refl _) _
  have QM : Hid (Blk U w.heap.size [.int .i64 0, .int .i64 0, .int .i64 0, .int .i64 0, .int .i64 0, .int .i64 0, .int .i64 0, .int .i64 0, .bool false, .int .i64 0, .int .i64 0, .int .i64 0, .string ⟨#[]⟩, .string ⟨#[]⟩, .string ⟨#[]⟩, .string ⟨#[]⟩, .int .i64 0, .int .i64 0, .slice none 0 0]) := by rw [hU]; exact blk_new w 30 [.int .i64 0, .int .i64 0, .int .i64 0, .int .i64 0, .int .i64 0, .int .i64 0, .int .i64 0, .int .i64 0, .bool false, .int .i64 0, .int .i64 0, .int .i64 0, .string ⟨#[]⟩, .string ⟨#[]⟩, .string ⟨#[]⟩, .string ⟨#[]⟩, .int .i64 0, .int .i64 0, .slice none 0 0]
  rw [← hU]
  clear hU
  have QZ : Hid (Blk (U.alloc (.cells #[.int .i64 0, .int .i64 0, .int .i64 0, .int .i64 0, .int .i64 0, .int .i64 0, .bool false, .int .i64 0, .int .i64 0, .int .i64 0, .int .i64 0, .int .i64 0, .string ⟨#[]⟩, .string ⟨#[]⟩, .string ⟨#[]⟩, .string ⟨#[]⟩, .int .i64 0, .int .i64 0, .slice none 0 0] 103)) U.heap.size [.int .i64 0, .int .i64 0, .int .i64 0, .int .i64 0, .int .i64 0, .int .i64 0, .bool false, .int .i64 0, .int .i64 0, .int .i64 0, .int .i64 0, .int .i64 0, .string ⟨#[]⟩, .string ⟨#[]⟩, .string ⟨#[]⟩, .string ⟨#[]⟩, .int .i64 0, .int .i64 0, .slice none 0 0]) := blk_new U 103 [.int .i64 0, .int .i64 0, .int .i64 0, .int .i64 0, .int .i64 0, .int .i64 0, .bool false, .int .i64 0, .int .i64 0, .int .i64 0, .int .i64 0, .int .i64 0, .string ⟨#[]⟩, .string ⟨#[]⟩, .string ⟨#[]⟩, .string ⟨#[]⟩, .int .i64 0, .int .i64 0, .slice none 0 0]
  have TZ : Hid ((U.alloc (.cells #[.int .i64 0, .int .i64 0, .int .i64 0, .int .i64 0, .int .i64 0, .int .i64 0, .bool false, .int .i64 0, .int .i64 0, .int .i64 0, .int .i64 0, .int .i64 0, .string ⟨#[]⟩, .string ⟨#[]⟩, .string ⟨#[]⟩, .string ⟨#[]⟩, .int .i64 0, .int .i64 0, .slice none 0 0] 103)).there U.heap.size 0 19) := QZ.out.there
  have RV : Hid (((U.alloc (.cells #[.int .i64 0, .int .i64 0, .int .i64 0, .int .i64 0, .int .i64 0, .int .i64 0, .bool false, .int .i64 0, .int .i64 0, .int .i64 0, .int .i64 0, .int .i64 0, .string ⟨#[]⟩, .string ⟨#[]⟩, .string ⟨#[]⟩, .string ⟨#[]⟩, .int .i64 0, .int .i64 0, .slice none 0 0] 103)).setCells U.heap.size 0 [.int .i64 k, .int .i64 row, .int .i64 num, .int .i64 x, .int .i64 y, .int .i64 st, .bool sm, .int .i64 p, .int .i64 q, .int .i64 c.kind, .int .i64 c.client, .int .i64 c.req, .string c.key, .string c.key2, .string c.val, .string c.old, .int .i64 c.n, .int .i64 sq, .slice ua uk uc]).rangeAt U.heap.size 0 [.int .i64 k, .int .i64 row, .int .i64 num, .int .i64 x, .int .i64 y, .int .i64 st, .bool sm, .int .i64 p, .int .i64 q, .int .i64 c.kind, .int .i64 c.client, .int .i64 c.req, .string c.key, .string c.key2, .string c.val, .string c.old, .int .i64 c.n, .int .i64 sq, .slice ua uk uc]) := World.rangeAt_setCells_same _ _ _ _ TZ.out
  have TH : Hid (((U.alloc (.cells #[.int .i64 0, .int .i64 0, .int .i64 0, .int .i64 0, .int .i64 0, .int .i64 0, .bool false, .int .i64 0, .int .i64 0, .int .i64 0, .int .i64 0, .int .i64 0, .string ⟨#[]⟩, .string ⟨#[]⟩, .string ⟨#[]⟩, .string ⟨#[]⟩, .int .i64 0, .int .i64 0, .slice none 0 0] 103)).setCells U.heap.size 0 [.int .i64 k, .int .i64 row, .int .i64 num, .int .i64 x, .int .i64 y, .int .i64 st, .bool sm, .int .i64 p, .int .i64 q, .int .i64 c.kind, .int .i64 c.client, .int .i64 c.req, .string c.key, .string c.key2, .string c.val, .string c.old, .int .i64 c.n, .int .i64 sq, .slice ua uk uc]).there w.heap.size 0 19) := World.there_setCells (World.there_alloc QM.out.there _) _ _ _
  have BW : Hid (Below w.heap.size w ((U.alloc (.cells #[.int .i64 0, .int .i64 0, .int .i64 0, .int .i64 0, .int .i64 0, .int .i64 0, .bool false, .int .i64 0, .int .i64 0, .int .i64 0, .int .i64 0, .int .i64 0, .string ⟨#[]⟩, .string ⟨#[]⟩, .string ⟨#[]⟩, .string ⟨#[]⟩, .int .i64 0, .int .i64 0, .slice none 0 0] 103)).setCells U.heap.size 0 [.int .i64 k, .int .i64 row, .int .i64 num, .int .i64 x, .int .i64 y, .int .i64 st, .bool sm, .int .i64 p, .int .i64 q, .int .i64 c.kind, .int .i64 c.client, .int .i64 c.req, .string c.key, .string c.key2, .string c.val, .string c.old, .int .i64 c.n, .int .i64 sq, .slice ua uk uc])) := below_cells (Nat.le_of_lt hs.out) _ _ _ (BU.out.alloc (Nat.le_of_lt hs.out) _)
  go_upto_region 22 with (first | (refine wpList_store_mid rfl 103 _ _ rfl U.heap.size 0 #[.int .i64 k, .int .i64 row, .int .i64 num, .int .i64 x, .int .i64 y, .int .i64 st, .bool sm, .int .i64 p, .int .i64 q, .int .i64 c.kind, .int .i64 c.client, .int .i64 c.req, .string c.key, .string c.key2, .string c.val, .string c.old, .int .i64 c.n, .int .i64 sq, .slice ua uk uc] rfl rfl TZ.out (by kernel_rfl) (by kernel_rfl) ?_))
  generalize ((U.alloc (.cells #[.int .i64 0, .int .i64 0, .int .i64 0, .int .i64 0, .int .i64 0, .int .i64 0, .bool false, .int .i64 0, .int .i64 0, .int .i64 0, .int .i64 0, .int .i64 0, .string ⟨#[]⟩, .string ⟨#[]⟩, .string ⟨#[]⟩, .string ⟨#[]⟩, .int .i64 0, .int .i64 0, .slice none 0 0] 103)).setCells U.heap.size 0 [.int .i64 k, .int .i64 row, .int .i64 num, .int .i64 x, .int .i64 y, .int .i64 st, .bool sm, .int .i64 p, .int .i64 q, .int .i64 c.kind, .int .i64 c.client, .int .i64 c.req, .string c.key, .string c.key2, .string c.val, .string c.old, .int .i64 c.n, .int .i64 sq, .slice ua uk uc]) = W at *
  have b0 : W.cell? ⟨U.heap.size, 0, none⟩ = some (.int .i64 k) := by have := RV.out 0 _ rfl; rwa [Nat.zero_add] at this
  have b1 : W.cell? ⟨U.heap.size, 1, none⟩ = some (.int .i64 row) := by have := RV.out 1 _ rfl; rwa [Nat.zero_add] at this
  have b2 : W.cell? ⟨U.heap.size, 2, none⟩ = some (.int .i64 num) := by have := RV.out 2 _ rfl; rwa [Nat.zero_add] at this
  have b3 : W.cell? ⟨U.heap.size, 3, none⟩ = some (.int .i64 x) := by have := RV.out 3 _ rfl; rwa [Nat.zero_add] at this
  have b4 : W.cell? ⟨U.heap.size, 4, none⟩ = some (.int .i64 y) := by have := RV.out 4 _ rfl; rwa [Nat.zero_add] at this
  have b5 : W.cell? ⟨U.heap.size, 5, none⟩ = some (.int .i64 st) := by have := RV.out 5 _ rfl; rwa [Nat.zero_add] at this
  have b6 : W.cell? ⟨U.heap.size, 6, none⟩ = some (.bool sm) := by have := RV.out 6 _ rfl; rwa [Nat.zero_add] at this
  have b7 : W.cell? ⟨U.heap.size, 7, none⟩ = some (.int .i64 p) := by have := RV.out 7 _ rfl; rwa [Nat.zero_add] at this
  have b8 : W.cell? ⟨U.heap.size, 8, none⟩ = some (.int .i64 q) := by have := RV.out 8 _ rfl; rwa [Nat.zero_add] at this
  have b9 : W.cell? ⟨U.heap.size, 9, none⟩ = some (.int .i64 c.kind) := by have := RV.out 9 _ rfl; rwa [Nat.zero_add] at this
  have b10 : W.cell? ⟨U.heap.size, 10, none⟩ = some (.int .i64 c.client) := by have := RV.out 10 _ rfl; rwa [Nat.zero_add] at this
  have b11 : W.cell? ⟨U.heap.size, 11, none⟩ = some (.int .i64 c.req) := by have := RV.out 11 _ rfl; rwa [Nat.zero_add] at this
  have b12 : W.cell? ⟨U.heap.size, 12, none⟩ = some (.string c.key) := by have := RV.out 12 _ rfl; rwa [Nat.zero_add] at this
  have b13 : W.cell? ⟨U.heap.size, 13, none⟩ = some (.string c.key2) := by have := RV.out 13 _ rfl; rwa [Nat.zero_add] at this
  have b14 : W.cell? ⟨U.heap.size, 14, none⟩ = some (.string c.val) := by have := RV.out 14 _ rfl; rwa [Nat.zero_add] at this
  have b15 : W.cell? ⟨U.heap.size, 15, none⟩ = some (.string c.old) := by have := RV.out 15 _ rfl; rwa [Nat.zero_add] at this
  have b16 : W.cell? ⟨U.heap.size, 16, none⟩ = some (.int .i64 c.n) := by have := RV.out 16 _ rfl; rwa [Nat.zero_add] at this
  have b17 : W.cell? ⟨U.heap.size, 17, none⟩ = some (.int .i64 sq) := by have := RV.out 17 _ rfl; rwa [Nat.zero_add] at this
  have b18 : W.cell? ⟨U.heap.size, 18, none⟩ = some (.slice ua uk uc) := by have := RV.out 18 _ rfl; rwa [Nat.zero_add] at this
  have R : Hid (Below w.heap.size w (W.setCells w.heap.size 0 [.int .i64 k, .int .i64 row, .int .i64 num, .int .i64 x, .int .i64 y, .int .i64 p, .int .i64 q, .int .i64 st, .bool sm, .int .i64 c.kind, .int .i64 c.client, .int .i64 c.req, .string c.key, .string c.key2, .string c.val, .string c.old, .int .i64 c.n, .int .i64 sq, .slice ua uk uc])) := below_cells (Nat.le_refl _) _ _ _ BW.out
  have RA : Hid ((W.setCells w.heap.size 0 [.int .i64 k, .int .i64 row, .int .i64 num, .int .i64 x, .int .i64 y, .int .i64 p, .int .i64 q, .int .i64 st, .bool sm, .int .i64 c.kind, .int .i64 c.client, .int .i64 c.req, .string c.key, .string c.key2, .string c.val, .string c.old, .int .i64 c.n, .int .i64 sq, .slice ua uk uc]).rangeAt w.heap.size 0 [.int .i64 k, .int .i64 row, .int .i64 num, .int .i64 x, .int .i64 y, .int .i64 p, .int .i64 q, .int .i64 st, .bool sm, .int .i64 c.kind, .int .i64 c.client, .int .i64 c.req, .string c.key, .string c.key2, .string c.val, .string c.old, .int .i64 c.n, .int .i64 sq, .slice ua uk uc]) := World.rangeAt_setCells_same _ _ _ _ TH.out
  clear QZ TZ RV QM BU
  go_wp2_with (first | (refine wpList_store_mid rfl 30 _ _ rfl w.heap.size 0 #[.int .i64 k, .int .i64 row, .int .i64 num, .int .i64 x, .int .i64 y, .int .i64 p, .int .i64 q, .int .i64 st, .bool sm, .int .i64 c.kind, .int .i64 c.client, .int .i64 c.req, .string c.key, .string c.key2, .string c.val, .string c.old, .int .i64 c.n, .int .i64 sq, .slice ua uk uc] rfl rfl TH.out (by kernel_rfl) (by kernel_rfl) ?_))
  generalize W.setCells w.heap.size 0 [.int .i64 k, .int .i64 row, .int .i64 num, .int .i64 x, .int .i64 y, .int .i64 p, .int .i64 q, .int .i64 st, .bool sm, .int .i64 c.kind, .int .i64 c.client, .int .i64 c.req, .string c.key, .string c.key2, .string c.val, .string c.old, .int .i64 c.n, .int .i64 sq, .slice ua uk uc] = W2 at *
  refine bodyPost_ret (results_cell_mid Tryz.results41 _ _ w.heap.size [.int .i64 k, .int .i64 row, .int .i64 num, .int .i64 x, .int .i64 y, .int .i64 p, .int .i64 q, .int .i64 st, .bool sm, .int .i64 c.kind, .int .i64 c.client, .int .i64 c.req, .string c.key, .string c.key2, .string c.val, .string c.old, .int .i64 c.n, .int .i64 sq, .slice ua uk uc] _ rfl RA.out Tryz.underlying30 rfl (by kernel_rfl)) rfl ⟨rfl, R.out⟩
end Go.Proofs.YtdokagebfeejbaaGreatDoor
/- The contracts of shape (every input), msgOf, callFault, layoutOf and Decode. -/
namespace Go.Proofs.YtdokagebfeejbaaGreatDoor
open Go.RowKit Go.Wire1

section
variable (w0 : World) (g : Nat) (v n : Int) (l : List Int)
end

/-- What is read has just its shape's fields. -/
theorem only_rd (v n : Int) (l : List Int) (f : Int) : only (rdMsg v n l f).1 (shK (rdMsg v n l f).1) = (rdMsg v n l f).1 := by
  obtain ⟨⟨k, row, num⟩, l1, f1, e1⟩ : ∃ b l1 f1, iHead v n l f = (b, l1, f1) := ⟨_, _, _, rfl⟩
  unfold rdMsg
  simp only [e1]
  by_cases h1 : k = 1
  · simp only [if_pos h1]; rfl
  by_cases h3 : k = 3
  · simp only [if_neg h1, if_pos h3]; rfl
  by_cases h2 : k = 2
  · simp only [if_neg h1, if_neg h3, if_pos h2]; rfl
  by_cases h4 : k = 4
  · simp only [if_neg h1, if_neg h3, if_neg h2, if_pos h4]; rfl
  by_cases h6 : k = 6
  · simp only [if_neg h1, if_neg h3, if_neg h2, if_neg h4, if_pos h6]; rfl
  by_cases h5 : k = 5
  · simp only [if_neg h1, if_neg h3, if_neg h2, if_neg h4, if_neg h6, if_pos h5]; rfl
  by_cases h7 : k = 7
  · simp only [if_neg h1, if_neg h3, if_neg h2, if_neg h4, if_neg h6, if_neg h5, if_pos h7]
    obtain ⟨⟨x, y⟩, l2, f2, e2⟩ : ∃ b l2 f2, iBalF v n 7 row l1 f1 = (b, l2, f2) := ⟨_, _, _, rfl⟩
    obtain ⟨⟨st, sm⟩, l3, f3, e3⟩ : ∃ b l3 f3, iVote v l2 f2 = (b, l3, f3) := ⟨_, _, _, rfl⟩
    by_cases hs : st = 0
    · unfold rdTold
      simp only [e2, e3, if_pos hs]; rfl
    · unfold rdTold
      simp only [e2, e3, if_neg hs]
      unfold shK
      simp [hs, only]
  by_cases h8 : k = 8
  · simp only [if_neg h1, if_neg h3, if_neg h2, if_neg h4, if_neg h6, if_neg h5, if_neg h7, if_pos h8]; rfl
  · simp only [if_neg h1, if_neg h3, if_neg h2, if_neg h4, if_neg h6, if_neg h5, if_neg h7, if_neg h8]
    unfold shK
    simp [h1, h2, h3, h4, h5, h6, h7, h8, only]

theorem shK_le (m : Ms) : shK m ≤ 7 := by
  unfold shK
  repeat' split
  all_goals omega
/-- msgOf gives the shape's fields back. -/
theorem msgOf_any (m : Ms) (u : Value) (hu : hasD (shK m) = true → ∃ a k c, u = .slice a k c) (w : World) :
    Calls Tryz.prog 41 #[shV m u] w fun r w' => r = .returned (.agg (mgc (only m (shK m)) (onlyU u (shK m))).toArray) ∧ Below w.heap.size w w' := by
  unfold shV
  have h7 := shK_le m
  generalize shK m = k at *
  match k, h7, hu with
  | 0, _, _ => exact msgOf_bare m.kind m.row m.num w
  | 1, _, hu =>
    obtain ⟨a, i, c, rfl⟩ := hu rfl
    exact msgOf_proposal m.kind m.row m.num m.x m.y m.c m.sq a i c w
  | 2, _, hu =>
    obtain ⟨a, i, c, rfl⟩ := hu rfl
    exact msgOf_estimate m.kind m.row m.num m.x m.y m.sq a i c w
  | 3, _, _ => exact msgOf_balloted m.kind m.row m.num m.x m.y w
  | 4, _, hu =>
    obtain ⟨a, i, c, rfl⟩ := hu rfl
    exact msgOf_commit m.kind m.row m.num m.c m.sq a i c w
  | 5, _, _ => exact msgOf_noVote m.kind m.row m.num m.x m.y w
  | 6, _, hu =>
    obtain ⟨a, i, c, rfl⟩ := hu rfl
    exact msgOf_vote m.kind m.row m.num m.x m.y m.st m.sm m.p m.q m.c m.sq a i c w
  | 7, _, _ => exact msgOf_nack m.kind m.row m.num m.x m.y m.p m.q w
  | k + 8, h7, _ => omega
end Go.Proofs.YtdokagebfeejbaaGreatDoor
/- The contracts of callFault and layoutOf. -/
namespace Go.Proofs.YtdokagebfeejbaaGreatDoor
open Go.RowKit Go.Wire1

def callF (v n : Int) : Int := if v = 1 ∨ v = 2 then (if 1 ≤ n ∧ n ≤ 7 then 0 else 3) else 2
set_option maxHeartbeats 1000000 in
set_option maxRecDepth 100000 in
theorem callFault_any (v n : Int) (w : World) : Calls Tryz.prog 20 #[.int .i64 v, .int .i64 n] w fun r w' => r = .returned (.int .i64 (callF v n)) ∧ w = w' := by
  by_cases h1 : v = 1
  · subst h1
    by_cases h3 : n < 1
    · have E : Hid (callF 1 n = 3) := by show _ = _; unfold callF; rw [if_pos (by omega), if_neg (by omega)]
      go_enter Tryz.func20, Tryz.ntmps20
      go_wp2
      go_ret
      exact ⟨by rw [E.out]; rfl, rfl⟩
    · by_cases h4 : 7 < n
      · have E : Hid (callF 1 n = 3) := by show _ = _; unfold callF; rw [if_pos (by omega), if_neg (by omega)]
        go_enter Tryz.func20, Tryz.ntmps20
        go_wp2
        go_ret
        exact ⟨by rw [E.out]; rfl, rfl⟩
      · have E : Hid (callF 1 n = 0) := by show _ = _; unfold callF; rw [if_pos (by omega), if_pos (by omega)]
        go_enter Tryz.func20, Tryz.ntmps20
        go_wp2
        go_ret
        exact ⟨by rw [E.out]; rfl, rfl⟩
  · have q1 : (v != 1) = true := by rw [bne_iff_ne]; exact h1
    by_cases h2 : v = 2
    · subst h2
      by_cases h3 : n < 1
      · have E : Hid (callF 2 n = 3) := by show _ = _; unfold callF; rw [if_pos (by omega), if_neg (by omega)]
        go_enter Tryz.func20, Tryz.ntmps20
        go_wp2
        go_ret
        exact ⟨by rw [E.out]; rfl, rfl⟩
      · by_cases h4 : 7 < n
        · have E : Hid (callF 2 n = 3) := by show _ = _; unfold callF; rw [if_pos (by omega), if_neg (by omega)]
          go_enter Tryz.func20, Tryz.ntmps20
          go_wp2
          go_ret
          exact ⟨by rw [E.out]; rfl, rfl⟩
        · have E : Hid (callF 2 n = 0) := by show _ = _; unfold callF; rw [if_pos (by omega), if_pos (by omega)]
          go_enter Tryz.func20, Tryz.ntmps20
          go_wp2
          go_ret
          exact ⟨by rw [E.out]; rfl, rfl⟩
    · have q2 : (v != 2) = true := by rw [bne_iff_ne]; exact h2
      have E : Hid (callF v n = 2) := by show _ = _; unfold callF; rw [if_neg (by omega)]
      clear h1 h2
      go_enter Tryz.func20, Tryz.ntmps20
      go_wp2
      go_ret
      exact ⟨by rw [E.out]; rfl, rfl⟩

/-- A layout's cells. -/
def lyc1 : List Value := [.int .i64 1, .func (.func 52) #[] #[], .func (.func 53) #[] #[], .func (.func 54) #[] #[], .func (.func 55) #[] #[], .func (.func 56) #[] #[], .func (.func 57) #[] #[]]
def lyc2 : List Value := [.int .i64 2, .func (.func 58) #[] #[], .func (.func 59) #[] #[], .func (.func 60) #[] #[], .func (.func 61) #[] #[], .func (.func 62) #[] #[], .func (.func 63) #[] #[]]
set_option maxHeartbeats 1000000 in
set_option maxRecDepth 100000 in
theorem layout2 (v : Int) (hv : v ≠ 1) (w : World) : Calls Tryz.prog 38 #[.int .i64 v] w fun r w' => r = .returned (.agg lyc2.toArray) ∧ Below w.heap.size w w' := by
  have q1 : (v == 1) = false := by rw [beq_eq_false_iff_ne]; exact hv
  clear hv
  have QZ : Hid (Blk (w.alloc (.cells #[.int .i64 0, .nilFunc, .nilFunc, .nilFunc, .nilFunc, .nilFunc, .nilFunc] 73)) w.heap.size [.int .i64 0, .nilFunc, .nilFunc, .nilFunc, .nilFunc, .nilFunc, .nilFunc]) := blk_new w 73 [.int .i64 0, .nilFunc, .nilFunc, .nilFunc, .nilFunc, .nilFunc, .nilFunc]
  have TZ : Hid ((w.alloc (.cells #[.int .i64 0, .nilFunc, .nilFunc, .nilFunc, .nilFunc, .nilFunc, .nilFunc] 73)).there w.heap.size 0 7) := QZ.out.there
  have BY : Hid (Below w.heap.size w ((w.alloc (.cells #[.int .i64 0, .nilFunc, .nilFunc, .nilFunc, .nilFunc, .nilFunc, .nilFunc] 73)).setCells w.heap.size 0 lyc2)) := below_cells (Nat.le_refl _) _ _ _ ((Below.refl _ _).alloc (Nat.le_refl _) _)
  have RA : Hid (((w.alloc (.cells #[.int .i64 0, .nilFunc, .nilFunc, .nilFunc, .nilFunc, .nilFunc, .nilFunc] 73)).setCells w.heap.size 0 lyc2).rangeAt w.heap.size 0 lyc2) := (blk_cells (vs := lyc2) QZ.out rfl).range
  go_enter Tryz.func38, Tryz.ntmps38
  go_upto_region 3 with fail
  go_wp2_with (first | (refine wpList_store_mid rfl 73 _ _ rfl w.heap.size 0 #[.int .i64 2, .func (.func 58) #[] #[], .func (.func 59) #[] #[], .func (.func 60) #[] #[], .func (.func 61) #[] #[], .func (.func 62) #[] #[], .func (.func 63) #[] #[]] rfl rfl TZ.out (by kernel_rfl) (by kernel_rfl) ?_))
  refine bodyPost_ret (results_cell_mid Tryz.results38 _ _ w.heap.size lyc2 _ rfl RA.out Tryz.underlying73 rfl (by kernel_rfl)) rfl ?_
  exact ⟨rfl, BY.out⟩
end Go.Proofs.YtdokagebfeejbaaGreatDoor
/- The contract of Decode, at every input. -/
namespace Go.Proofs.YtdokagebfeejbaaGreatDoor
open Go.RowKit Go.Wire1

theorem results_mid2 {P : Program} {fn : Func} {p r : Tmp} {ty : TypeId} (h : fn.results = #[.cell p ty, .tmp r]) (tmps : Array Value) (w : World) (b : Nat) (cs : List Value) (d : TypeDesc) (ht : tmps[p]?.getD undef = .pointer (some ⟨b, 0, none⟩))
    (hc : w.rangeAt b 0 cs) (hu : P.underlying ty = some d) (hd : d.isRow = true) (hi : (P.info? ty).map (·.size) = some cs.length) : (results fn tmps).run P w = .ok (.tuple #[.agg cs.toArray, tmps.getD r undef]) w := by
  have hl := run_loadVar_mid (P := P) w b 0 ty cs d hc hu hd hi
  simp [results, h, ht, asAddr, hl]
/-- What is told of bytes that were read: the rest, the fault. -/
def endF (r : List Int) (f : Int) : Int := if r = [] then f else refF 59 f
/-- What Decode answers. -/
def decM (v n : Int) (l : List Int) : Ms × Int := if callF v n = 0 then (if endF (rdMsg v n l 0).2.1 (rdMsg v n l 0).2.2 = 0 then ((rdMsg v n l 0).1, 0) else (zeroM, endF (rdMsg v n l 0).2.1 (rdMsg v n l 0).2.2)) else (zeroM, callF v n)
def DcPost (v n : Int) (l : List Int) (w : World) (r : Ending) (w' : World) : Prop := ∃ u, r = .returned (.tuple #[.agg (mgc (decM v n l).1 u).toArray, .int .i64 (decM v n l).2]) ∧ DV w' w.heap.size u (decM v n l).1.dl ∧ Below w.heap.size w w'
theorem cells_out {q j : Nat} : ∀ (vs : List Value) (o : Nat) (W : World), o + vs.length ≤ j → (W.setCells q o vs).cell? ⟨q, j, none⟩ = W.cell? ⟨q, j, none⟩
  | [], _, _, _ => rfl
  | v :: vs, o, W, h => by
    simp only [List.length_cons] at h
    exact (cells_out vs (o + 1) (W.setCell ⟨q, o, none⟩ v) (by omega)).trans (World.cell?_setCell_other _ _ _ _ (by intro r; injection r with _ r2 _; omega))
theorem cells_far {q g j : Nat} (hg : g ≠ q) : ∀ (vs : List Value) (o : Nat) (W : World), (W.setCells q o vs).cell? ⟨g, j, none⟩ = W.cell? ⟨g, j, none⟩
  | [], _, _ => rfl
  | v :: vs, o, W => (cells_far hg vs (o + 1) (W.setCell ⟨q, o, none⟩ v)).trans (World.cell?_setCell_other _ _ _ _ (by intro r; injection r with r1; omega))
theorem only_nil {m : Ms} (h : only m (shK m) = m) (hd : hasD (shK m) = false) : m.dl = [] := by
  have h7 := shK_le m
  generalize shK m = k at *
  match k, h7, hd with
  | 0, _, _ => rw [← h]; rfl
  | 1, _, hd => cases hd
  | 2, _, hd => cases hd
  | 3, _, _ => rw [← h]; rfl
  | 4, _, hd => cases hd
  | 5, _, _ => rw [← h]; rfl
  | 6, _, hd => cases hd
  | 7, _, _ => rw [← h]; rfl
  | k + 8, h7, _ => omega
/-- A scan that is laid. -/
theorem scx_new {w W : World} {G : Nat} {V : Nat → Option Value} {sa : Option Addr} {bn cap : Nat} {l : List Int} {T : TypeId} {zs vs : List Value} (hb : Below w.heap.size w W) (hG : G = W.heap.size) (hl : vs.length = zs.length) (h0 : vs[0]? = some (.slice sa bn cap)) (h1 : vs[1]? = some (.int .i64 0)) (hV : ∀ j, 2 ≤ j → vs[j]? = V j) (hs : Seg w sa bn l) (hsrc : Src sa bn cap) (hy : Byt l) :
    Scx w ((W.alloc (.cells zs.toArray T)).setCells G 0 vs) G V l 0 := by
  subst hG
  have Q := blk_cells (blk_new W T zs) hl
  refine ⟨sa, bn, cap, Q.cell 0 _ h0, Q.cell 1 _ h1, fun j hj => ?_, Q.thaw, ?_, hb.size, hs, hsrc, hy⟩
  · rw [← hV j hj]
    by_cases h : j < vs.length
    · rw [List.getElem?_eq_getElem h]; exact Q.cell j _ (List.getElem?_eq_getElem h)
    · rw [cells_out vs 0 _ (by omega), World.cell?_alloc_at _ _ _ _ rfl, List.getElem?_eq_none (by omega)]
      simp; omega
  · exact below_cells hb.size _ _ _ (hb.alloc hb.size _)

theorem vf2 (n : Int) (sa : Option Addr) (bn cap : Nat) : ∀ j, 2 ≤ j → ([.slice sa bn cap, .int .i64 0, .int .i64 2, .func (.func 58) #[] #[], .func (.func 59) #[] #[], .func (.func 60) #[] #[], .func (.func 61) #[] #[], .func (.func 62) #[] #[], .func (.func 63) #[] #[], .int .i64 n] : List Value)[j]? = Vf 2 n j := by
  intro j hj
  match j, hj with
  | 2, _ => rfl
  | 3, _ => rfl
  | 4, _ => rfl
  | 5, _ => rfl
  | 6, _ => rfl
  | 7, _ => rfl
  | 8, _ => rfl
  | 9, _ => rfl
  | j + 10, _ =>
    have h0 : ¬ (j + 10 = 2) := by omega
    have h1 : ¬ (j + 10 = 9) := by omega
    have h2 : ¬ (j + 10 = 6) := by omega
    have h3 : ¬ (j + 10 = 7) := by omega
    have h4 : ¬ (j + 10 = 8) := by omega
    have h5 : ¬ (j + 10 = 3) := by omega
    have h6 : ¬ (j + 10 = 4) := by omega
    have h7 : ¬ (j + 10 = 5) := by omega
    unfold Vf
    simp [h0, h1, h2, h3, h4, h5, h6, h7]
end Go.Proofs.YtdokagebfeejbaaGreatDoor
