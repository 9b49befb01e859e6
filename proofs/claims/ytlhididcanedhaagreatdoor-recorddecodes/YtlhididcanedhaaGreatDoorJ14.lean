/- Texts of the proof, joined. -/
import Derived.Test.YtlhididcanedhaaGreatDoorJ13
/- The scan's command, a leaf for each kind. -/
namespace Go.Proofs.YtlhididcanedhaaGreatDoor
open Go.RowKit Go.Wire1

theorem done_set {w W : World} {g b : Nat} {sa : Option Addr} {n cap : Nat} {l : List Int} {a : Nat → Addr} {s s0 : St} (h0 : Scs w g b sa n cap l a s0) (h : Turn g b w W ∧ Scs W g b sa n cap l a s) (o : Nat) (u : Value) :
    Turn g b w (W.setCell ⟨w.heap.size, o, none⟩ u) ∧ Scs (W.setCell ⟨w.heap.size, o, none⟩ u) g b sa n cap l a s :=
  ⟨h.1.setNew u (Nat.le_refl _), h0.fresh (Nat.le_refl _) h.2 ((Touch.refl _ W).setB _)⟩
theorem done_alloc {w W : World} {g b : Nat} {sa : Option Addr} {n cap : Nat} {l : List Int} {a : Nat → Addr} {s : St} (h : Turn g b w W ∧ Scs W g b sa n cap l a s) (o : Obj) : Turn g b w (W.alloc o) ∧ Scs (W.alloc o) g b sa n cap l a s :=
  ⟨h.1.trans (Turn.ofBelow ((Below.refl _ W).alloc (Nat.le_refl _) _)), Scn.below h.2 ((Below.refl _ W).alloc (Nat.le_refl _) _) (Nat.le_refl _)⟩
set_option maxHeartbeats 2000000 in
set_option maxRecDepth 100000 in
theorem command_early (g b n cap : Nat) (sa : Option Addr) (l : List Int) (a : Nat → Addr) (v : Int) (s : St) (w : World) (hK : Knd w) (h : Scs w g b sa n cap l a s) (x : Int) (s1 : St) (hx : Hid ((sKind v l s).1 = x)) (hs1 : Hid ((sKind v l s).2 = s1)) (h0 : s1.ft ≠ 0) :
    Calls Tryz.prog 124 #[.pointer (some ⟨g, 0, none⟩), .int .i64 v] w fun e w' => e = .returned (.agg #[.int .i64 x, .int .i64 0, .int .i64 0, .string ⟨#[]⟩, .string ⟨#[]⟩, .string ⟨#[]⟩, .string ⟨#[]⟩, .int .i64 0]) ∧ Turn g b w w' ∧ Scs w' g b sa n cap l a s1 := by
  have g0 : (s1.ft == 0) = false := by simpa using h0
  have HS := hide h
  have HK := hide hK
  have hg0 := h.lt
  have hb0 := h.rdr.lt
  clear h hK
  go_enter Tryz.func124, Tryz.ntmps124
  go_wp2_with fail
  refine (kind_scn g b n cap sa l a v s _ (HK.out.below ((Below.refl _ w).alloc (Nat.le_refl _) _) (Nat.le_refl _)) (HS.out.below ((Below.refl _ w).alloc (Nat.le_refl _) _) (Nat.le_refl _))).mono ?_
  rintro e w1 ⟨rfl, T1, S1⟩
  rw [hx.out]
  rw [hs1.out] at S1
  have c1 := S1.fault
  have hg1 := S1.lt
  have hw1 : w.heap.size < w1.heap.size := by have := T1.size; simp at this; omega
  have R1 := hide ((bx_new w 27 0 0 0 ⟨#[]⟩ ⟨#[]⟩ ⟨#[]⟩ ⟨#[]⟩ 0).turn T1 (by omega) (by omega))
  have C1 : Hid (Com w (w1.alloc (.cells #[.int .i64 x, .int .i64 0, .int .i64 0, .string ⟨#[]⟩, .string ⟨#[]⟩, .string ⟨#[]⟩, .string ⟨#[]⟩, .int .i64 0] 27)) w1.heap.size g b sa n cap l a ⟨x, 0, 0, ⟨#[]⟩, ⟨#[]⟩, ⟨#[]⟩, ⟨#[]⟩, 0⟩ s1) := ⟨((Turn.ofBelow ((Below.refl _ w).alloc (Nat.le_refl _) _)).trans T1).trans (Turn.ofBelow ((Below.refl _ w1).alloc (Nat.le_refl _) _)), Scn.below S1 ((Below.refl _ w1).alloc (Nat.le_refl _) _) (Nat.le_refl _), bx_new w1 _ x 0 0 ⟨#[]⟩ ⟨#[]⟩ ⟨#[]⟩ ⟨#[]⟩ 0, Bx.turn R1.out (Turn.ofBelow (g := g) (b := b) ((Below.refl _ w1).alloc (Nat.le_refl _) _)) (by omega) (by omega), hw1⟩
  have D1 : Hid (Turn g b w w1 ∧ Scs w1 g b sa n cap l a s1) := ⟨(Turn.ofBelow ((Below.refl _ w).alloc (Nat.le_refl _) _)).trans T1, S1⟩
  clear T1 S1
  have r0 : w1.cell? ⟨w.heap.size, 0, none⟩ = some (.int .i64 0) := R1.out.box.1
  have fr0 : w1.frozen? ⟨w.heap.size, 0, none⟩ = false := R1.out.thaw 0
  have r1 : w1.cell? ⟨w.heap.size, 1, none⟩ = some (.int .i64 0) := R1.out.box.2.1
  have fr1 : w1.frozen? ⟨w.heap.size, 1, none⟩ = false := R1.out.thaw 1
  have r2 : w1.cell? ⟨w.heap.size, 2, none⟩ = some (.int .i64 0) := R1.out.box.2.2.1
  have fr2 : w1.frozen? ⟨w.heap.size, 2, none⟩ = false := R1.out.thaw 2
  have r3 : w1.cell? ⟨w.heap.size, 3, none⟩ = some (.string ⟨#[]⟩) := R1.out.box.2.2.2.1
  have fr3 : w1.frozen? ⟨w.heap.size, 3, none⟩ = false := R1.out.thaw 3
  have r4 : w1.cell? ⟨w.heap.size, 4, none⟩ = some (.string ⟨#[]⟩) := R1.out.box.2.2.2.2.1
  have fr4 : w1.frozen? ⟨w.heap.size, 4, none⟩ = false := R1.out.thaw 4
  have r5 : w1.cell? ⟨w.heap.size, 5, none⟩ = some (.string ⟨#[]⟩) := R1.out.box.2.2.2.2.2.1
  have fr5 : w1.frozen? ⟨w.heap.size, 5, none⟩ = false := R1.out.thaw 5
  have r6 : w1.cell? ⟨w.heap.size, 6, none⟩ = some (.string ⟨#[]⟩) := R1.out.box.2.2.2.2.2.2.1
  have fr6 : w1.frozen? ⟨w.heap.size, 6, none⟩ = false := R1.out.thaw 6
  have r7 : w1.cell? ⟨w.heap.size, 7, none⟩ = some (.int .i64 0) := R1.out.box.2.2.2.2.2.2.2
  have fr7 : w1.frozen? ⟨w.heap.size, 7, none⟩ = false := R1.out.thaw 7
  clear C1 R1
  go_wp2
  refine bodyPost_ret (v := .agg #[.int .i64 x, .int .i64 0, .int .i64 0, .string ⟨#[]⟩, .string ⟨#[]⟩, .string ⟨#[]⟩, .string ⟨#[]⟩, .int .i64 0]) (by simp [results, Tryz.results124, go_sem, *]) rfl ⟨rfl, ?_⟩
  refine done_alloc ?_ _
  iterate 8 refine done_set HS.out ?_ _ _
  exact D1.out
set_option maxHeartbeats 2000000 in
set_option maxRecDepth 100000 in
theorem command_noop (g b n cap : Nat) (sa : Option Addr) (l : List Int) (a : Nat → Addr) (v : Int) (s : St) (w : World) (hK : Knd w) (h : Scs w g b sa n cap l a s) (s1 : St) (hx : Hid ((sKind v l s).1 = 0)) (hs1 : Hid ((sKind v l s).2 = s1)) (h0 : s1.ft = 0) :
    Calls Tryz.prog 124 #[.pointer (some ⟨g, 0, none⟩), .int .i64 v] w fun e w' => e = .returned (.agg #[.int .i64 0, .int .i64 0, .int .i64 0, .string ⟨#[]⟩, .string ⟨#[]⟩, .string ⟨#[]⟩, .string ⟨#[]⟩, .int .i64 0]) ∧ Turn g b w w' ∧ Scs w' g b sa n cap l a s1 := by
  have HS := hide h
  have HK := hide hK
  have hg0 := h.lt
  have hb0 := h.rdr.lt
  clear h hK
  go_enter Tryz.func124, Tryz.ntmps124
  go_wp2_with fail
  refine (kind_scn g b n cap sa l a v s _ (HK.out.below ((Below.refl _ w).alloc (Nat.le_refl _) _) (Nat.le_refl _)) (HS.out.below ((Below.refl _ w).alloc (Nat.le_refl _) _) (Nat.le_refl _))).mono ?_
  rintro e w1 ⟨rfl, T1, S1⟩
  rw [hx.out]
  rw [hs1.out] at S1
  have c1 := S1.fault
  have hg1 := S1.lt
  have hw1 : w.heap.size < w1.heap.size := by have := T1.size; simp at this; omega
  have R1 := hide ((bx_new w 27 0 0 0 ⟨#[]⟩ ⟨#[]⟩ ⟨#[]⟩ ⟨#[]⟩ 0).turn T1 (by omega) (by omega))
  have C1 : Hid (Com w (w1.alloc (.cells #[.int .i64 0, .int .i64 0, .int .i64 0, .string ⟨#[]⟩, .string ⟨#[]⟩, .string ⟨#[]⟩, .string ⟨#[]⟩, .int .i64 0] 27)) w1.heap.size g b sa n cap l a ⟨0, 0, 0, ⟨#[]⟩, ⟨#[]⟩, ⟨#[]⟩, ⟨#[]⟩, 0⟩ s1) := ⟨((Turn.ofBelow ((Below.refl _ w).alloc (Nat.le_refl _) _)).trans T1).trans (Turn.ofBelow ((Below.refl _ w1).alloc (Nat.le_refl _) _)), Scn.below S1 ((Below.refl _ w1).alloc (Nat.le_refl _) _) (Nat.le_refl _), bx_new w1 _ 0 0 0 ⟨#[]⟩ ⟨#[]⟩ ⟨#[]⟩ ⟨#[]⟩ 0, Bx.turn R1.out (Turn.ofBelow (g := g) (b := b) ((Below.refl _ w1).alloc (Nat.le_refl _) _)) (by omega) (by omega), hw1⟩
  have D1 : Hid (Turn g b w w1 ∧ Scs w1 g b sa n cap l a s1) := ⟨(Turn.ofBelow ((Below.refl _ w).alloc (Nat.le_refl _) _)).trans T1, S1⟩
  clear T1 S1
  have r0 : w1.cell? ⟨w.heap.size, 0, none⟩ = some (.int .i64 0) := R1.out.box.1
  have fr0 : w1.frozen? ⟨w.heap.size, 0, none⟩ = false := R1.out.thaw 0
  have r1 : w1.cell? ⟨w.heap.size, 1, none⟩ = some (.int .i64 0) := R1.out.box.2.1
  have fr1 : w1.frozen? ⟨w.heap.size, 1, none⟩ = false := R1.out.thaw 1
  have r2 : w1.cell? ⟨w.heap.size, 2, none⟩ = some (.int .i64 0) := R1.out.box.2.2.1
  have fr2 : w1.frozen? ⟨w.heap.size, 2, none⟩ = false := R1.out.thaw 2
  have r3 : w1.cell? ⟨w.heap.size, 3, none⟩ = some (.string ⟨#[]⟩) := R1.out.box.2.2.2.1
  have fr3 : w1.frozen? ⟨w.heap.size, 3, none⟩ = false := R1.out.thaw 3
  have r4 : w1.cell? ⟨w.heap.size, 4, none⟩ = some (.string ⟨#[]⟩) := R1.out.box.2.2.2.2.1
  have fr4 : w1.frozen? ⟨w.heap.size, 4, none⟩ = false := R1.out.thaw 4
  have r5 : w1.cell? ⟨w.heap.size, 5, none⟩ = some (.string ⟨#[]⟩) := R1.out.box.2.2.2.2.2.1
  have fr5 : w1.frozen? ⟨w.heap.size, 5, none⟩ = false := R1.out.thaw 5
  have r6 : w1.cell? ⟨w.heap.size, 6, none⟩ = some (.string ⟨#[]⟩) := R1.out.box.2.2.2.2.2.2.1
  have fr6 : w1.frozen? ⟨w.heap.size, 6, none⟩ = false := R1.out.thaw 6
  have r7 : w1.cell? ⟨w.heap.size, 7, none⟩ = some (.int .i64 0) := R1.out.box.2.2.2.2.2.2.2
  have fr7 : w1.frozen? ⟨w.heap.size, 7, none⟩ = false := R1.out.thaw 7
  rw [h0] at c1
  clear C1 R1
  go_wp2
  refine bodyPost_ret (v := .agg #[.int .i64 0, .int .i64 0, .int .i64 0, .string ⟨#[]⟩, .string ⟨#[]⟩, .string ⟨#[]⟩, .string ⟨#[]⟩, .int .i64 0]) (by simp [results, Tryz.results124, go_sem, *]) rfl ⟨rfl, ?_⟩
  refine done_alloc ?_ _
  iterate 8 refine done_set HS.out ?_ _ _
  exact D1.out
set_option maxHeartbeats 2000000 in
set_option maxRecDepth 100000 in
theorem command_leaf1 (g b n cap : Nat) (sa : Option Addr) (l : List Int) (a : Nat → Addr) (v : Int) (s : St) (w : World) (hK : Knd w) (h : Scs w g b sa n cap l a s) (s1 : St) (hx : Hid ((sKind v l s).1 = 1)) (hs1 : Hid ((sKind v l s).2 = s1)) (h0 : s1.ft = 0) (cl : Nat) (s2 : St) (hA : Hid ((sNum 65535 42 l s1).1 = cl)) (hA2 : Hid ((sNum 65535 42 l s1).2 = s2)) (rq : Nat) (s3 : St) (hB : Hid ((sNum 1073741824 43 l s2).1 = rq)) (hB2 : Hid ((sNum 1073741824 43 l s2).2 = s3)) (ky : ByteArray) (s4 : St) (hC : Hid ((sTxt 1 64 44 l s3).1 = ky)) (hC2 : Hid ((sTxt 1 64 44 l s3).2 = s4)) :
    Calls Tryz.prog 124 #[.pointer (some ⟨g, 0, none⟩), .int .i64 v] w fun e w' => e = .returned (.agg #[.int .i64 1, .int .i64 (cl : Int), .int .i64 (rq : Int), .string ky, .string ⟨#[]⟩, .string ⟨#[]⟩, .string ⟨#[]⟩, .int .i64 0]) ∧ Turn g b w w' ∧ Scs w' g b sa n cap l a s4 := by
  have HS := hide h
  have HK := hide hK
  have hg0 := h.lt
  have hb0 := h.rdr.lt
  clear h hK
  go_enter Tryz.func124, Tryz.ntmps124
  go_wp2_with fail
  refine (kind_scn g b n cap sa l a v s _ (HK.out.below ((Below.refl _ w).alloc (Nat.le_refl _) _) (Nat.le_refl _)) (HS.out.below ((Below.refl _ w).alloc (Nat.le_refl _) _) (Nat.le_refl _))).mono ?_
  rintro e w1 ⟨rfl, T1, S1⟩
  rw [hx.out]
  rw [hs1.out] at S1
  have c1 := S1.fault
  have hg1 := S1.lt
  have hw1 : w.heap.size < w1.heap.size := by have := T1.size; simp at this; omega
  have R1 := hide ((bx_new w 27 0 0 0 ⟨#[]⟩ ⟨#[]⟩ ⟨#[]⟩ ⟨#[]⟩ 0).turn T1 (by omega) (by omega))
  have C1 : Hid (Com w (w1.alloc (.cells #[.int .i64 1, .int .i64 0, .int .i64 0, .string ⟨#[]⟩, .string ⟨#[]⟩, .string ⟨#[]⟩, .string ⟨#[]⟩, .int .i64 0] 27)) w1.heap.size g b sa n cap l a ⟨1, 0, 0, ⟨#[]⟩, ⟨#[]⟩, ⟨#[]⟩, ⟨#[]⟩, 0⟩ s1) := ⟨((Turn.ofBelow ((Below.refl _ w).alloc (Nat.le_refl _) _)).trans T1).trans (Turn.ofBelow ((Below.refl _ w1).alloc (Nat.le_refl _) _)), Scn.below S1 ((Below.refl _ w1).alloc (Nat.le_refl _) _) (Nat.le_refl _), bx_new w1 _ 1 0 0 ⟨#[]⟩ ⟨#[]⟩ ⟨#[]⟩ ⟨#[]⟩ 0, Bx.turn R1.out (Turn.ofBelow (g := g) (b := b) ((Below.refl _ w1).alloc (Nat.le_refl _) _)) (by omega) (by omega), hw1⟩
  have D1 : Hid (Turn g b w w1 ∧ Scs w1 g b sa n cap l a s1) := ⟨(Turn.ofBelow ((Below.refl _ w).alloc (Nat.le_refl _) _)).trans T1, S1⟩
  clear T1 S1
  rw [h0] at c1
  clear h0 R1 D1
  go_wp2_with fail
  refine (number_scn g b n cap sa l a 65535 42 s1 _ (by omega) (by exact C1.out.scs)).mono ?_
  rintro e w2 ⟨rfl, T, S⟩
  rw [hA.out]
  rw [hA2.out] at S
  have C2 := hide (C1.out.call HS.out T S)
  clear T S
  clear c1
  clear C1
  have b1_2 : w2.cell? ⟨w1.heap.size, 1, none⟩ = some (.int .i64 0) := C2.out.box.box.2.1
  have f1_2 : w2.frozen? ⟨w1.heap.size, 1, none⟩ = false := C2.out.box.thaw 1
  have C3 := hide (C2.out.put HS.out 1 (.int .i64 (cl : Int)) (C2.out.box.client (cl : Int)))
  go_wp2_with fail
  refine (number_scn g b n cap sa l a 1073741824 43 s2 _ (by omega) (by exact C3.out.scs)).mono ?_
  rintro e w3 ⟨rfl, T, S⟩
  rw [hB.out]
  rw [hB2.out] at S
  have C4 := hide (C3.out.call HS.out T S)
  clear T S
  clear b1_2 f1_2
  clear C3
  have b2_4 : w3.cell? ⟨w1.heap.size, 2, none⟩ = some (.int .i64 0) := C4.out.box.box.2.2.1
  have f2_4 : w3.frozen? ⟨w1.heap.size, 2, none⟩ = false := C4.out.box.thaw 2
  have C5 := hide (C4.out.put HS.out 2 (.int .i64 (rq : Int)) (C4.out.box.req (rq : Int)))
  go_wp2_with fail
  refine (text_scn g b n cap sa l a 1 64 44 s3 _ (by omega) (by omega) (by omega) (by omega) (by exact C5.out.scs)).mono ?_
  rintro e w4 ⟨rfl, T, S⟩
  rw [hC.out]
  rw [hC2.out] at S
  have C6 := hide (C5.out.call HS.out T S)
  clear T S
  clear b2_4 f2_4
  clear C5
  have b0_6 : w4.cell? ⟨w1.heap.size, 0, none⟩ = some (.int .i64 1) := C6.out.box.box.1
  have b3_6 : w4.cell? ⟨w1.heap.size, 3, none⟩ = some (.string ⟨#[]⟩) := C6.out.box.box.2.2.2.1
  have f3_6 : w4.frozen? ⟨w1.heap.size, 3, none⟩ = false := C6.out.box.thaw 3
  have b1_6 : w4.cell? ⟨w1.heap.size, 1, none⟩ = some (.int .i64 (cl : Int)) := C6.out.box.box.2.1
  have b2_6 : w4.cell? ⟨w1.heap.size, 2, none⟩ = some (.int .i64 (rq : Int)) := C6.out.box.box.2.2.1
  have b4_6 : w4.cell? ⟨w1.heap.size, 4, none⟩ = some (.string ⟨#[]⟩) := C6.out.box.box.2.2.2.2.1
  have b5_6 : w4.cell? ⟨w1.heap.size, 5, none⟩ = some (.string ⟨#[]⟩) := C6.out.box.box.2.2.2.2.2.1
  have b6_6 : w4.cell? ⟨w1.heap.size, 6, none⟩ = some (.string ⟨#[]⟩) := C6.out.box.box.2.2.2.2.2.2.1
  have b7_6 : w4.cell? ⟨w1.heap.size, 7, none⟩ = some (.int .i64 0) := C6.out.box.box.2.2.2.2.2.2.2
  have hl6 : w1.heap.size < w4.heap.size := C6.out.box.lt
  have r0_6 : w4.cell? ⟨w.heap.size, 0, none⟩ = some (.int .i64 0) := C6.out.res.box.1
  have fr0_6 : w4.frozen? ⟨w.heap.size, 0, none⟩ = false := C6.out.res.thaw 0
  have r1_6 : w4.cell? ⟨w.heap.size, 1, none⟩ = some (.int .i64 0) := C6.out.res.box.2.1
  have fr1_6 : w4.frozen? ⟨w.heap.size, 1, none⟩ = false := C6.out.res.thaw 1
  have r2_6 : w4.cell? ⟨w.heap.size, 2, none⟩ = some (.int .i64 0) := C6.out.res.box.2.2.1
  have fr2_6 : w4.frozen? ⟨w.heap.size, 2, none⟩ = false := C6.out.res.thaw 2
  have r3_6 : w4.cell? ⟨w.heap.size, 3, none⟩ = some (.string ⟨#[]⟩) := C6.out.res.box.2.2.2.1
  have fr3_6 : w4.frozen? ⟨w.heap.size, 3, none⟩ = false := C6.out.res.thaw 3
  have r4_6 : w4.cell? ⟨w.heap.size, 4, none⟩ = some (.string ⟨#[]⟩) := C6.out.res.box.2.2.2.2.1
  have fr4_6 : w4.frozen? ⟨w.heap.size, 4, none⟩ = false := C6.out.res.thaw 4
  have r5_6 : w4.cell? ⟨w.heap.size, 5, none⟩ = some (.string ⟨#[]⟩) := C6.out.res.box.2.2.2.2.2.1
  have fr5_6 : w4.frozen? ⟨w.heap.size, 5, none⟩ = false := C6.out.res.thaw 5
  have r6_6 : w4.cell? ⟨w.heap.size, 6, none⟩ = some (.string ⟨#[]⟩) := C6.out.res.box.2.2.2.2.2.2.1
  have fr6_6 : w4.frozen? ⟨w.heap.size, 6, none⟩ = false := C6.out.res.thaw 6
  have r7_6 : w4.cell? ⟨w.heap.size, 7, none⟩ = some (.int .i64 0) := C6.out.res.box.2.2.2.2.2.2.2
  have fr7_6 : w4.frozen? ⟨w.heap.size, 7, none⟩ = false := C6.out.res.thaw 7
  have C7 := hide (C6.out.put HS.out 3 (.string ky) (C6.out.box.key ky))
  go_wp2
  refine bodyPost_ret (v := .agg #[.int .i64 1, .int .i64 (cl : Int), .int .i64 (rq : Int), .string ky, .string ⟨#[]⟩, .string ⟨#[]⟩, .string ⟨#[]⟩, .int .i64 0]) (by simp [results, Tryz.results124, go_sem, *]) rfl ⟨rfl, ?_⟩
  iterate 8 refine done_set HS.out ?_ _ _
  exact ⟨C7.out.turn, C7.out.scs⟩
set_option maxHeartbeats 2000000 in
set_option maxRecDepth 100000 in
theorem command_leaf3 (g b n cap : Nat) (sa : Option Addr) (l : List Int) (a : Nat → Addr) (v : Int) (s : St) (w : World) (hK : Knd w) (h : Scs w g b sa n cap l a s) (s1 : St) (hx : Hid ((sKind v l s).1 = 3)) (hs1 : Hid ((sKind v l s).2 = s1)) (h0 : s1.ft = 0) (cl : Nat) (s2 : St) (hA : Hid ((sNum 65535 42 l s1).1 = cl)) (hA2 : Hid ((sNum 65535 42 l s1).2 = s2)) (rq : Nat) (s3 : St) (hB : Hid ((sNum 1073741824 43 l s2).1 = rq)) (hB2 : Hid ((sNum 1073741824 43 l s2).2 = s3)) (ky : ByteArray) (s4 : St) (hC : Hid ((sTxt 1 64 44 l s3).1 = ky)) (hC2 : Hid ((sTxt 1 64 44 l s3).2 = s4)) :
    Calls Tryz.prog 124 #[.pointer (some ⟨g, 0, none⟩), .int .i64 v] w fun e w' => e = .returned (.agg #[.int .i64 3, .int .i64 (cl : Int), .int .i64 (rq : Int), .string ky, .string ⟨#[]⟩, .string ⟨#[]⟩, .string ⟨#[]⟩, .int .i64 0]) ∧ Turn g b w w' ∧ Scs w' g b sa n cap l a s4 := by
  have HS := hide h
  have HK := hide hK
  have hg0 := h.lt
  have hb0 := h.rdr.lt
  clear h hK
  go_enter Tryz.func124, Tryz.ntmps124
  go_wp2_with fail
  refine (kind_scn g b n cap sa l a v s _ (HK.out.below ((Below.refl _ w).alloc (Nat.le_refl _) _) (Nat.le_refl _)) (HS.out.below ((Below.refl _ w).alloc (Nat.le_refl _) _) (Nat.le_refl _))).mono ?_
  rintro e w1 ⟨rfl, T1, S1⟩
  rw [hx.out]
  rw [hs1.out] at S1
  have c1 := S1.fault
  have hg1 := S1.lt
  have hw1 : w.heap.size < w1.heap.size := by have := T1.size; simp at this; omega
  have R1 := hide ((bx_new w 27 0 0 0 ⟨#[]⟩ ⟨#[]⟩ ⟨#[]⟩ ⟨#[]⟩ 0).turn T1 (by omega) (by omega))
  have C1 : Hid (Com w (w1.alloc (.cells #[.int .i64 3, .int .i64 0, .int .i64 0, .string ⟨#[]⟩, .string ⟨#[]⟩, .string ⟨#[]⟩, .string ⟨#[]⟩, .int .i64 0] 27)) w1.heap.size g b sa n cap l a ⟨3, 0, 0, ⟨#[]⟩, ⟨#[]⟩, ⟨#[]⟩, ⟨#[]⟩, 0⟩ s1) := ⟨((Turn.ofBelow ((Below.refl _ w).alloc (Nat.le_refl _) _)).trans T1).trans (Turn.ofBelow ((Below.refl _ w1).alloc (Nat.le_refl _) _)), Scn.below S1 ((Below.refl _ w1).alloc (Nat.le_refl _) _) (Nat.le_refl _), bx_new w1 _ 3 0 0 ⟨#[]⟩ ⟨#[]⟩ ⟨#[]⟩ ⟨#[]⟩ 0, Bx.turn R1.out (Turn.ofBelow (g := g) (b := b) ((Below.refl _ w1).alloc (Nat.le_refl _) _)) (by omega) (by omega), hw1⟩
  have D1 : Hid (Turn g b w w1 ∧ Scs w1 g b sa n cap l a s1) := ⟨(Turn.ofBelow ((Below.refl _ w).alloc (Nat.le_refl _) _)).trans T1, S1⟩
  clear T1 S1
  rw [h0] at c1
  clear h0 R1 D1
  go_wp2_with fail
  refine (number_scn g b n cap sa l a 65535 42 s1 _ (by omega) (by exact C1.out.scs)).mono ?_
  rintro e w2 ⟨rfl, T, S⟩
  rw [hA.out]
  rw [hA2.out] at S
  have C2 := hide (C1.out.call HS.out T S)
  clear T S
  clear c1
  clear C1
  have b1_2 : w2.cell? ⟨w1.heap.size, 1, none⟩ = some (.int .i64 0) := C2.out.box.box.2.1
  have f1_2 : w2.frozen? ⟨w1.heap.size, 1, none⟩ = false := C2.out.box.thaw 1
  have C3 := hide (C2.out.put HS.out 1 (.int .i64 (cl : Int)) (C2.out.box.client (cl : Int)))
  go_wp2_with fail
  refine (number_scn g b n cap sa l a 1073741824 43 s2 _ (by omega) (by exact C3.out.scs)).mono ?_
  rintro e w3 ⟨rfl, T, S⟩
  rw [hB.out]
  rw [hB2.out] at S
  have C4 := hide (C3.out.call HS.out T S)
  clear T S
  clear b1_2 f1_2
  clear C3
  have b2_4 : w3.cell? ⟨w1.heap.size, 2, none⟩ = some (.int .i64 0) := C4.out.box.box.2.2.1
  have f2_4 : w3.frozen? ⟨w1.heap.size, 2, none⟩ = false := C4.out.box.thaw 2
  have C5 := hide (C4.out.put HS.out 2 (.int .i64 (rq : Int)) (C4.out.box.req (rq : Int)))
  go_wp2_with fail
  refine (text_scn g b n cap sa l a 1 64 44 s3 _ (by omega) (by omega) (by omega) (by omega) (by exact C5.out.scs)).mono ?_
  rintro e w4 ⟨rfl, T, S⟩
  rw [hC.out]
  rw [hC2.out] at S
  have C6 := hide (C5.out.call HS.out T S)
  clear T S
  clear b2_4 f2_4
  clear C5
  have b0_6 : w4.cell? ⟨w1.heap.size, 0, none⟩ = some (.int .i64 3) := C6.out.box.box.1
  have b3_6 : w4.cell? ⟨w1.heap.size, 3, none⟩ = some (.string ⟨#[]⟩) := C6.out.box.box.2.2.2.1
  have f3_6 : w4.frozen? ⟨w1.heap.size, 3, none⟩ = false := C6.out.box.thaw 3
  have b1_6 : w4.cell? ⟨w1.heap.size, 1, none⟩ = some (.int .i64 (cl : Int)) := C6.out.box.box.2.1
  have b2_6 : w4.cell? ⟨w1.heap.size, 2, none⟩ = some (.int .i64 (rq : Int)) := C6.out.box.box.2.2.1
  have b4_6 : w4.cell? ⟨w1.heap.size, 4, none⟩ = some (.string ⟨#[]⟩) := C6.out.box.box.2.2.2.2.1
  have b5_6 : w4.cell? ⟨w1.heap.size, 5, none⟩ = some (.string ⟨#[]⟩) := C6.out.box.box.2.2.2.2.2.1
  have b6_6 : w4.cell? ⟨w1.heap.size, 6, none⟩ = some (.string ⟨#[]⟩) := C6.out.box.box.2.2.2.2.2.2.1
  have b7_6 : w4.cell? ⟨w1.heap.size, 7, none⟩ = some (.int .i64 0) := C6.out.box.box.2.2.2.2.2.2.2
  have hl6 : w1.heap.size < w4.heap.size := C6.out.box.lt
  have r0_6 : w4.cell? ⟨w.heap.size, 0, none⟩ = some (.int .i64 0) := C6.out.res.box.1
  have fr0_6 : w4.frozen? ⟨w.heap.size, 0, none⟩ = false := C6.out.res.thaw 0
  have r1_6 : w4.cell? ⟨w.heap.size, 1, none⟩ = some (.int .i64 0) := C6.out.res.box.2.1
  have fr1_6 : w4.frozen? ⟨w.heap.size, 1, none⟩ = false := C6.out.res.thaw 1
  have r2_6 : w4.cell? ⟨w.heap.size, 2, none⟩ = some (.int .i64 0) := C6.out.res.box.2.2.1
  have fr2_6 : w4.frozen? ⟨w.heap.size, 2, none⟩ = false := C6.out.res.thaw 2
  have r3_6 : w4.cell? ⟨w.heap.size, 3, none⟩ = some (.string ⟨#[]⟩) := C6.out.res.box.2.2.2.1
  have fr3_6 : w4.frozen? ⟨w.heap.size, 3, none⟩ = false := C6.out.res.thaw 3
  have r4_6 : w4.cell? ⟨w.heap.size, 4, none⟩ = some (.string ⟨#[]⟩) := C6.out.res.box.2.2.2.2.1
  have fr4_6 : w4.frozen? ⟨w.heap.size, 4, none⟩ = false := C6.out.res.thaw 4
  have r5_6 : w4.cell? ⟨w.heap.size, 5, none⟩ = some (.string ⟨#[]⟩) := C6.out.res.box.2.2.2.2.2.1
  have fr5_6 : w4.frozen? ⟨w.heap.size, 5, none⟩ = false := C6.out.res.thaw 5
  have r6_6 : w4.cell? ⟨w.heap.size, 6, none⟩ = some (.string ⟨#[]⟩) := C6.out.res.box.2.2.2.2.2.2.1
  have fr6_6 : w4.frozen? ⟨w.heap.size, 6, none⟩ = false := C6.out.res.thaw 6
  have r7_6 : w4.cell? ⟨w.heap.size, 7, none⟩ = some (.int .i64 0) := C6.out.res.box.2.2.2.2.2.2.2
  have fr7_6 : w4.frozen? ⟨w.heap.size, 7, none⟩ = false := C6.out.res.thaw 7
  have C7 := hide (C6.out.put HS.out 3 (.string ky) (C6.out.box.key ky))
  go_wp2
  refine bodyPost_ret (v := .agg #[.int .i64 3, .int .i64 (cl : Int), .int .i64 (rq : Int), .string ky, .string ⟨#[]⟩, .string ⟨#[]⟩, .string ⟨#[]⟩, .int .i64 0]) (by simp [results, Tryz.results124, go_sem, *]) rfl ⟨rfl, ?_⟩
  iterate 8 refine done_set HS.out ?_ _ _
  exact ⟨C7.out.turn, C7.out.scs⟩
set_option maxHeartbeats 2000000 in
set_option maxRecDepth 100000 in
theorem command_leaf2 (g b n cap : Nat) (sa : Option Addr) (l : List Int) (a : Nat → Addr) (v : Int) (s : St) (w : World) (hK : Knd w) (h : Scs w g b sa n cap l a s) (s1 : St) (hx : Hid ((sKind v l s).1 = 2)) (hs1 : Hid ((sKind v l s).2 = s1)) (h0 : s1.ft = 0) (cl : Nat) (s2 : St) (hA : Hid ((sNum 65535 42 l s1).1 = cl)) (hA2 : Hid ((sNum 65535 42 l s1).2 = s2)) (rq : Nat) (s3 : St) (hB : Hid ((sNum 1073741824 43 l s2).1 = rq)) (hB2 : Hid ((sNum 1073741824 43 l s2).2 = s3)) (ky : ByteArray) (s4 : St) (hC : Hid ((sTxt 1 64 44 l s3).1 = ky)) (hC2 : Hid ((sTxt 1 64 44 l s3).2 = s4)) (vl : ByteArray) (s5 : St) (hD : Hid ((sTxt 0 (mostV v : Nat) 46 l s4).1 = vl)) (hD2 : Hid ((sTxt 0 (mostV v : Nat) 46 l s4).2 = s5)) :
    Calls Tryz.prog 124 #[.pointer (some ⟨g, 0, none⟩), .int .i64 v] w fun e w' => e = .returned (.agg #[.int .i64 2, .int .i64 (cl : Int), .int .i64 (rq : Int), .string ky, .string ⟨#[]⟩, .string vl, .string ⟨#[]⟩, .int .i64 0]) ∧ Turn g b w w' ∧ Scs w' g b sa n cap l a s5 := by
  have hmv : Hid ((mostV v : Int) ≤ 65536) := by show _ ≤ _; unfold mostV; split <;> omega
  have HS := hide h
  have HK := hide hK
  have hg0 := h.lt
  have hb0 := h.rdr.lt
  clear h hK
  go_enter Tryz.func124, Tryz.ntmps124
  go_wp2_with fail
  refine (kind_scn g b n cap sa l a v s _ (HK.out.below ((Below.refl _ w).alloc (Nat.le_refl _) _) (Nat.le_refl _)) (HS.out.below ((Below.refl _ w).alloc (Nat.le_refl _) _) (Nat.le_refl _))).mono ?_
  rintro e w1 ⟨rfl, T1, S1⟩
  rw [hx.out]
  rw [hs1.out] at S1
  have c1 := S1.fault
  have hg1 := S1.lt
  have hw1 : w.heap.size < w1.heap.size := by have := T1.size; simp at this; omega
  have R1 := hide ((bx_new w 27 0 0 0 ⟨#[]⟩ ⟨#[]⟩ ⟨#[]⟩ ⟨#[]⟩ 0).turn T1 (by omega) (by omega))
  have C1 : Hid (Com w (w1.alloc (.cells #[.int .i64 2, .int .i64 0, .int .i64 0, .string ⟨#[]⟩, .string ⟨#[]⟩, .string ⟨#[]⟩, .string ⟨#[]⟩, .int .i64 0] 27)) w1.heap.size g b sa n cap l a ⟨2, 0, 0, ⟨#[]⟩, ⟨#[]⟩, ⟨#[]⟩, ⟨#[]⟩, 0⟩ s1) := ⟨((Turn.ofBelow ((Below.refl _ w).alloc (Nat.le_refl _) _)).trans T1).trans (Turn.ofBelow ((Below.refl _ w1).alloc (Nat.le_refl _) _)), Scn.below S1 ((Below.refl _ w1).alloc (Nat.le_refl _) _) (Nat.le_refl _), bx_new w1 _ 2 0 0 ⟨#[]⟩ ⟨#[]⟩ ⟨#[]⟩ ⟨#[]⟩ 0, Bx.turn R1.out (Turn.ofBelow (g := g) (b := b) ((Below.refl _ w1).alloc (Nat.le_refl _) _)) (by omega) (by omega), hw1⟩
  have D1 : Hid (Turn g b w w1 ∧ Scs w1 g b sa n cap l a s1) := ⟨(Turn.ofBelow ((Below.refl _ w).alloc (Nat.le_refl _) _)).trans T1, S1⟩
  clear T1 S1
  rw [h0] at c1
  clear h0 R1 D1
  go_wp2_with fail
  refine (number_scn g b n cap sa l a 65535 42 s1 _ (by omega) (by exact C1.out.scs)).mono ?_
  rintro e w2 ⟨rfl, T, S⟩
  rw [hA.out]
  rw [hA2.out] at S
  have C2 := hide (C1.out.call HS.out T S)
  clear T S
  clear c1
  clear C1
  have b1_2 : w2.cell? ⟨w1.heap.size, 1, none⟩ = some (.int .i64 0) := C2.out.box.box.2.1
  have f1_2 : w2.frozen? ⟨w1.heap.size, 1, none⟩ = false := C2.out.box.thaw 1
  have C3 := hide (C2.out.put HS.out 1 (.int .i64 (cl : Int)) (C2.out.box.client (cl : Int)))
  go_wp2_with fail
  refine (number_scn g b n cap sa l a 1073741824 43 s2 _ (by omega) (by exact C3.out.scs)).mono ?_
  rintro e w3 ⟨rfl, T, S⟩
  rw [hB.out]
  rw [hB2.out] at S
  have C4 := hide (C3.out.call HS.out T S)
  clear T S
  clear b1_2 f1_2
  clear C3
  have b2_4 : w3.cell? ⟨w1.heap.size, 2, none⟩ = some (.int .i64 0) := C4.out.box.box.2.2.1
  have f2_4 : w3.frozen? ⟨w1.heap.size, 2, none⟩ = false := C4.out.box.thaw 2
  have C5 := hide (C4.out.put HS.out 2 (.int .i64 (rq : Int)) (C4.out.box.req (rq : Int)))
  go_wp2_with fail
  refine (text_scn g b n cap sa l a 1 64 44 s3 _ (by omega) (by omega) (by omega) (by omega) (by exact C5.out.scs)).mono ?_
  rintro e w4 ⟨rfl, T, S⟩
  rw [hC.out]
  rw [hC2.out] at S
  have C6 := hide (C5.out.call HS.out T S)
  clear T S
  clear b2_4 f2_4
  clear C5
  have b0_6 : w4.cell? ⟨w1.heap.size, 0, none⟩ = some (.int .i64 2) := C6.out.box.box.1
  have b3_6 : w4.cell? ⟨w1.heap.size, 3, none⟩ = some (.string ⟨#[]⟩) := C6.out.box.box.2.2.2.1
  have f3_6 : w4.frozen? ⟨w1.heap.size, 3, none⟩ = false := C6.out.box.thaw 3
  have C7 := hide (C6.out.put HS.out 3 (.string ky) (C6.out.box.key ky))
  go_wp2_with fail
  refine (mostVal_any v _).mono ?_
  rintro e wm ⟨rfl, rfl⟩
  go_wp2_with fail
  refine (text_scn g b n cap sa l a 0 (mostV v : Nat) 46 s4 _ (by omega) (by omega) (by omega) (by have := hmv.out; omega) (by exact C7.out.scs)).mono ?_
  rintro e w5 ⟨rfl, T, S⟩
  rw [hD.out]
  rw [hD2.out] at S
  have C8 := hide (C7.out.call HS.out T S)
  clear T S
  clear b0_6 b3_6 f3_6
  clear C7
  have b0_8 : w5.cell? ⟨w1.heap.size, 0, none⟩ = some (.int .i64 2) := C8.out.box.box.1
  have b1_8 : w5.cell? ⟨w1.heap.size, 1, none⟩ = some (.int .i64 (cl : Int)) := C8.out.box.box.2.1
  have b2_8 : w5.cell? ⟨w1.heap.size, 2, none⟩ = some (.int .i64 (rq : Int)) := C8.out.box.box.2.2.1
  have b3_8 : w5.cell? ⟨w1.heap.size, 3, none⟩ = some (.string ky) := C8.out.box.box.2.2.2.1
  have b4_8 : w5.cell? ⟨w1.heap.size, 4, none⟩ = some (.string ⟨#[]⟩) := C8.out.box.box.2.2.2.2.1
  have b5_8 : w5.cell? ⟨w1.heap.size, 5, none⟩ = some (.string ⟨#[]⟩) := C8.out.box.box.2.2.2.2.2.1
  have b6_8 : w5.cell? ⟨w1.heap.size, 6, none⟩ = some (.string ⟨#[]⟩) := C8.out.box.box.2.2.2.2.2.2.1
  have b7_8 : w5.cell? ⟨w1.heap.size, 7, none⟩ = some (.int .i64 0) := C8.out.box.box.2.2.2.2.2.2.2
  have f5_8 : w5.frozen? ⟨w1.heap.size, 5, none⟩ = false := C8.out.box.thaw 5
  have hl8 : w1.heap.size < w5.heap.size := C8.out.box.lt
  have r0_8 : w5.cell? ⟨w.heap.size, 0, none⟩ = some (.int .i64 0) := C8.out.res.box.1
  have fr0_8 : w5.frozen? ⟨w.heap.size, 0, none⟩ = false := C8.out.res.thaw 0
  have r1_8 : w5.cell? ⟨w.heap.size, 1, none⟩ = some (.int .i64 0) := C8.out.res.box.2.1
  have fr1_8 : w5.frozen? ⟨w.heap.size, 1, none⟩ = false := C8.out.res.thaw 1
  have r2_8 : w5.cell? ⟨w.heap.size, 2, none⟩ = some (.int .i64 0) := C8.out.res.box.2.2.1
  have fr2_8 : w5.frozen? ⟨w.heap.size, 2, none⟩ = false := C8.out.res.thaw 2
  have r3_8 : w5.cell? ⟨w.heap.size, 3, none⟩ = some (.string ⟨#[]⟩) := C8.out.res.box.2.2.2.1
  have fr3_8 : w5.frozen? ⟨w.heap.size, 3, none⟩ = false := C8.out.res.thaw 3
  have r4_8 : w5.cell? ⟨w.heap.size, 4, none⟩ = some (.string ⟨#[]⟩) := C8.out.res.box.2.2.2.2.1
  have fr4_8 : w5.frozen? ⟨w.heap.size, 4, none⟩ = false := C8.out.res.thaw 4
  have r5_8 : w5.cell? ⟨w.heap.size, 5, none⟩ = some (.string ⟨#[]⟩) := C8.out.res.box.2.2.2.2.2.1
  have fr5_8 : w5.frozen? ⟨w.heap.size, 5, none⟩ = false := C8.out.res.thaw 5
  have r6_8 : w5.cell? ⟨w.heap.size, 6, none⟩ = some (.string ⟨#[]⟩) := C8.out.res.box.2.2.2.2.2.2.1
  have fr6_8 : w5.frozen? ⟨w.heap.size, 6, none⟩ = false := C8.out.res.thaw 6
  have r7_8 : w5.cell? ⟨w.heap.size, 7, none⟩ = some (.int .i64 0) := C8.out.res.box.2.2.2.2.2.2.2
  have fr7_8 : w5.frozen? ⟨w.heap.size, 7, none⟩ = false := C8.out.res.thaw 7
  have C9 := hide (C8.out.put HS.out 5 (.string vl) (C8.out.box.val vl))
  go_wp2
  refine bodyPost_ret (v := .agg #[.int .i64 2, .int .i64 (cl : Int), .int .i64 (rq : Int), .string ky, .string ⟨#[]⟩, .string vl, .string ⟨#[]⟩, .int .i64 0]) (by simp [results, Tryz.results124, go_sem, *]) rfl ⟨rfl, ?_⟩
  iterate 8 refine done_set HS.out ?_ _ _
  exact ⟨C9.out.turn, C9.out.scs⟩
set_option maxHeartbeats 2000000 in
set_option maxRecDepth 100000 in
theorem command_leaf4 (g b n cap : Nat) (sa : Option Addr) (l : List Int) (a : Nat → Addr) (v : Int) (s : St) (w : World) (hK : Knd w) (h : Scs w g b sa n cap l a s) (s1 : St) (hx : Hid ((sKind v l s).1 = 4)) (hs1 : Hid ((sKind v l s).2 = s1)) (h0 : s1.ft = 0) (cl : Nat) (s2 : St) (hA : Hid ((sNum 65535 42 l s1).1 = cl)) (hA2 : Hid ((sNum 65535 42 l s1).2 = s2)) (rq : Nat) (s3 : St) (hB : Hid ((sNum 1073741824 43 l s2).1 = rq)) (hB2 : Hid ((sNum 1073741824 43 l s2).2 = s3)) (ky : ByteArray) (s4 : St) (hC : Hid ((sTxt 1 64 44 l s3).1 = ky)) (hC2 : Hid ((sTxt 1 64 44 l s3).2 = s4)) (nn : Int) (s5 : St) (hD : Hid ((sInt l s4).1 = nn)) (hD2 : Hid ((sInt l s4).2 = s5)) :
    Calls Tryz.prog 124 #[.pointer (some ⟨g, 0, none⟩), .int .i64 v] w fun e w' => e = .returned (.agg #[.int .i64 4, .int .i64 (cl : Int), .int .i64 (rq : Int), .string ky, .string ⟨#[]⟩, .string ⟨#[]⟩, .string ⟨#[]⟩, .int .i64 nn]) ∧ Turn g b w w' ∧ Scs w' g b sa n cap l a s5 := by
  have HS := hide h
  have HK := hide hK
  have hg0 := h.lt
  have hb0 := h.rdr.lt
  clear h hK
  go_enter Tryz.func124, Tryz.ntmps124
  go_wp2_with fail
  refine (kind_scn g b n cap sa l a v s _ (HK.out.below ((Below.refl _ w).alloc (Nat.le_refl _) _) (Nat.le_refl _)) (HS.out.below ((Below.refl _ w).alloc (Nat.le_refl _) _) (Nat.le_refl _))).mono ?_
  rintro e w1 ⟨rfl, T1, S1⟩
  rw [hx.out]
  rw [hs1.out] at S1
  have c1 := S1.fault
  have hg1 := S1.lt
  have hw1 : w.heap.size < w1.heap.size := by have := T1.size; simp at this; omega
  have R1 := hide ((bx_new w 27 0 0 0 ⟨#[]⟩ ⟨#[]⟩ ⟨#[]⟩ ⟨#[]⟩ 0).turn T1 (by omega) (by omega))
  have C1 : Hid (Com w (w1.alloc (.cells #[.int .i64 4, .int .i64 0, .int .i64 0, .string ⟨#[]⟩, .string ⟨#[]⟩, .string ⟨#[]⟩, .string ⟨#[]⟩, .int .i64 0] 27)) w1.heap.size g b sa n cap l a ⟨4, 0, 0, ⟨#[]⟩, ⟨#[]⟩, ⟨#[]⟩, ⟨#[]⟩, 0⟩ s1) := ⟨((Turn.ofBelow ((Below.refl _ w).alloc (Nat.le_refl _) _)).trans T1).trans (Turn.ofBelow ((Below.refl _ w1).alloc (Nat.le_refl _) _)), Scn.below S1 ((Below.refl _ w1).alloc (Nat.le_refl _) _) (Nat.le_refl _), bx_new w1 _ 4 0 0 ⟨#[]⟩ ⟨#[]⟩ ⟨#[]⟩ ⟨#[]⟩ 0, Bx.turn R1.out (Turn.ofBelow (g := g) (b := b) ((Below.refl _ w1).alloc (Nat.le_refl _) _)) (by omega) (by omega), hw1⟩
  have D1 : Hid (Turn g b w w1 ∧ Scs w1 g b sa n cap l a s1) := ⟨(Turn.ofBelow ((Below.refl _ w).alloc (Nat.le_refl _) _)).trans T1, S1⟩
  clear T1 S1
  rw [h0] at c1
  clear h0 R1 D1
  go_wp2_with fail
  refine (number_scn g b n cap sa l a 65535 42 s1 _ (by omega) (by exact C1.out.scs)).mono ?_
  rintro e w2 ⟨rfl, T, S⟩
  rw [hA.out]
  rw [hA2.out] at S
  have C2 := hide (C1.out.call HS.out T S)
  clear T S
  clear c1
  clear C1
  have b1_2 : w2.cell? ⟨w1.heap.size, 1, none⟩ = some (.int .i64 0) := C2.out.box.box.2.1
  have f1_2 : w2.frozen? ⟨w1.heap.size, 1, none⟩ = false := C2.out.box.thaw 1
  have C3 := hide (C2.out.put HS.out 1 (.int .i64 (cl : Int)) (C2.out.box.client (cl : Int)))
  go_wp2_with fail
  refine (number_scn g b n cap sa l a 1073741824 43 s2 _ (by omega) (by exact C3.out.scs)).mono ?_
  rintro e w3 ⟨rfl, T, S⟩
  rw [hB.out]
  rw [hB2.out] at S
  have C4 := hide (C3.out.call HS.out T S)
  clear T S
  clear b1_2 f1_2
  clear C3
  have b2_4 : w3.cell? ⟨w1.heap.size, 2, none⟩ = some (.int .i64 0) := C4.out.box.box.2.2.1
  have f2_4 : w3.frozen? ⟨w1.heap.size, 2, none⟩ = false := C4.out.box.thaw 2
  have C5 := hide (C4.out.put HS.out 2 (.int .i64 (rq : Int)) (C4.out.box.req (rq : Int)))
  go_wp2_with fail
  refine (text_scn g b n cap sa l a 1 64 44 s3 _ (by omega) (by omega) (by omega) (by omega) (by exact C5.out.scs)).mono ?_
  rintro e w4 ⟨rfl, T, S⟩
  rw [hC.out]
  rw [hC2.out] at S
  have C6 := hide (C5.out.call HS.out T S)
  clear T S
  clear b2_4 f2_4
  clear C5
  have b0_6 : w4.cell? ⟨w1.heap.size, 0, none⟩ = some (.int .i64 4) := C6.out.box.box.1
  have b3_6 : w4.cell? ⟨w1.heap.size, 3, none⟩ = some (.string ⟨#[]⟩) := C6.out.box.box.2.2.2.1
  have f3_6 : w4.frozen? ⟨w1.heap.size, 3, none⟩ = false := C6.out.box.thaw 3
  have C7 := hide (C6.out.put HS.out 3 (.string ky) (C6.out.box.key ky))
  go_wp2_with fail
  refine (signed_scn g b n cap sa l a s4 _ (by exact C7.out.scs)).mono ?_
  rintro e w5 ⟨rfl, T, S⟩
  rw [hD.out]
  rw [hD2.out] at S
  have C8 := hide (C7.out.call HS.out T S)
  clear T S
  clear b0_6 b3_6 f3_6
  clear C7
  have b0_8 : w5.cell? ⟨w1.heap.size, 0, none⟩ = some (.int .i64 4) := C8.out.box.box.1
  have b1_8 : w5.cell? ⟨w1.heap.size, 1, none⟩ = some (.int .i64 (cl : Int)) := C8.out.box.box.2.1
  have b2_8 : w5.cell? ⟨w1.heap.size, 2, none⟩ = some (.int .i64 (rq : Int)) := C8.out.box.box.2.2.1
  have b3_8 : w5.cell? ⟨w1.heap.size, 3, none⟩ = some (.string ky) := C8.out.box.box.2.2.2.1
  have b4_8 : w5.cell? ⟨w1.heap.size, 4, none⟩ = some (.string ⟨#[]⟩) := C8.out.box.box.2.2.2.2.1
  have b5_8 : w5.cell? ⟨w1.heap.size, 5, none⟩ = some (.string ⟨#[]⟩) := C8.out.box.box.2.2.2.2.2.1
  have b6_8 : w5.cell? ⟨w1.heap.size, 6, none⟩ = some (.string ⟨#[]⟩) := C8.out.box.box.2.2.2.2.2.2.1
  have b7_8 : w5.cell? ⟨w1.heap.size, 7, none⟩ = some (.int .i64 0) := C8.out.box.box.2.2.2.2.2.2.2
  have f7_8 : w5.frozen? ⟨w1.heap.size, 7, none⟩ = false := C8.out.box.thaw 7
  have hl8 : w1.heap.size < w5.heap.size := C8.out.box.lt
  have r0_8 : w5.cell? ⟨w.heap.size, 0, none⟩ = some (.int .i64 0) := C8.out.res.box.1
  have fr0_8 : w5.frozen? ⟨w.heap.size, 0, none⟩ = false := C8.out.res.thaw 0
  have r1_8 : w5.cell? ⟨w.heap.size, 1, none⟩ = some (.int .i64 0) := C8.out.res.box.2.1
  have fr1_8 : w5.frozen? ⟨w.heap.size, 1, none⟩ = false := C8.out.res.thaw 1
  have r2_8 : w5.cell? ⟨w.heap.size, 2, none⟩ = some (.int .i64 0) := C8.out.res.box.2.2.1
  have fr2_8 : w5.frozen? ⟨w.heap.size, 2, none⟩ = false := C8.out.res.thaw 2
  have r3_8 : w5.cell? ⟨w.heap.size, 3, none⟩ = some (.string ⟨#[]⟩) := C8.out.res.box.2.2.2.1
  have fr3_8 : w5.frozen? ⟨w.heap.size, 3, none⟩ = false := C8.out.res.thaw 3
  have r4_8 : w5.cell? ⟨w.heap.size, 4, none⟩ = some (.string ⟨#[]⟩) := C8.out.res.box.2.2.2.2.1
  have fr4_8 : w5.frozen? ⟨w.heap.size, 4, none⟩ = false := C8.out.res.thaw 4
  have r5_8 : w5.cell? ⟨w.heap.size, 5, none⟩ = some (.string ⟨#[]⟩) := C8.out.res.box.2.2.2.2.2.1
  have fr5_8 : w5.frozen? ⟨w.heap.size, 5, none⟩ = false := C8.out.res.thaw 5
  have r6_8 : w5.cell? ⟨w.heap.size, 6, none⟩ = some (.string ⟨#[]⟩) := C8.out.res.box.2.2.2.2.2.2.1
  have fr6_8 : w5.frozen? ⟨w.heap.size, 6, none⟩ = false := C8.out.res.thaw 6
  have r7_8 : w5.cell? ⟨w.heap.size, 7, none⟩ = some (.int .i64 0) := C8.out.res.box.2.2.2.2.2.2.2
  have fr7_8 : w5.frozen? ⟨w.heap.size, 7, none⟩ = false := C8.out.res.thaw 7
  have C9 := hide (C8.out.put HS.out 7 (.int .i64 nn) (C8.out.box.n nn))
  go_wp2
  refine bodyPost_ret (v := .agg #[.int .i64 4, .int .i64 (cl : Int), .int .i64 (rq : Int), .string ky, .string ⟨#[]⟩, .string ⟨#[]⟩, .string ⟨#[]⟩, .int .i64 nn]) (by simp [results, Tryz.results124, go_sem, *]) rfl ⟨rfl, ?_⟩
  iterate 8 refine done_set HS.out ?_ _ _
  exact ⟨C9.out.turn, C9.out.scs⟩
set_option maxHeartbeats 2000000 in
set_option maxRecDepth 100000 in
theorem command_leaf5 (g b n cap : Nat) (sa : Option Addr) (l : List Int) (a : Nat → Addr) (v : Int) (s : St) (w : World) (hK : Knd w) (h : Scs w g b sa n cap l a s) (s1 : St) (hx : Hid ((sKind v l s).1 = 5)) (hs1 : Hid ((sKind v l s).2 = s1)) (h0 : s1.ft = 0) (cl : Nat) (s2 : St) (hA : Hid ((sNum 65535 42 l s1).1 = cl)) (hA2 : Hid ((sNum 65535 42 l s1).2 = s2)) (rq : Nat) (s3 : St) (hB : Hid ((sNum 1073741824 43 l s2).1 = rq)) (hB2 : Hid ((sNum 1073741824 43 l s2).2 = s3)) (ky : ByteArray) (s4 : St) (hC : Hid ((sTxt 1 64 44 l s3).1 = ky)) (hC2 : Hid ((sTxt 1 64 44 l s3).2 = s4)) (od : ByteArray) (s5 : St) (hD : Hid ((sTxt 0 (mostV v : Nat) 47 l s4).1 = od)) (hD2 : Hid ((sTxt 0 (mostV v : Nat) 47 l s4).2 = s5)) (vl : ByteArray) (s6 : St) (hE : Hid ((sTxt 0 (mostV v : Nat) 46 l s5).1 = vl)) (hE2 : Hid ((sTxt 0 (mostV v : Nat) 46 l s5).2 = s6)) :
    Calls Tryz.prog 124 #[.pointer (some ⟨g, 0, none⟩), .int .i64 v] w fun e w' => e = .returned (.agg #[.int .i64 5, .int .i64 (cl : Int), .int .i64 (rq : Int), .string ky, .string ⟨#[]⟩, .string vl, .string od, .int .i64 0]) ∧ Turn g b w w' ∧ Scs w' g b sa n cap l a s6 := by
  have hmv : Hid ((mostV v : Int) ≤ 65536) := by show _ ≤ _; unfold mostV; split <;> omega
  have HS := hide h
  have HK := hide hK
  have hg0 := h.lt
  have hb0 := h.rdr.lt
  clear h hK
  go_enter Tryz.func124, Tryz.ntmps124
  go_wp2_with fail
  refine (kind_scn g b n cap sa l a v s _ (HK.out.below ((Below.refl _ w).alloc (Nat.le_refl _) _) (Nat.le_refl _)) (HS.out.below ((Below.refl _ w).alloc (Nat.le_refl _) _) (Nat.le_refl _))).mono ?_
  rintro e w1 ⟨rfl, T1, S1⟩
  rw [hx.out]
  rw [hs1.out] at S1
  have c1 := S1.fault
  have hg1 := S1.lt
  have hw1 : w.heap.size < w1.heap.size := by have := T1.size; simp at this; omega
  have R1 := hide ((bx_new w 27 0 0 0 ⟨#[]⟩ ⟨#[]⟩ ⟨#[]⟩ ⟨#[]⟩ 0).turn T1 (by omega) (by omega))
  have C1 : Hid (Com w (w1.alloc (.cells #[.int .i64 5, .int .i64 0, .int .i64 0, .string ⟨#[]⟩, .string ⟨#[]⟩, .string ⟨#[]⟩, .string ⟨#[]⟩, .int .i64 0] 27)) w1.heap.size g b sa n cap l a ⟨5, 0, 0, ⟨#[]⟩, ⟨#[]⟩, ⟨#[]⟩, ⟨#[]⟩, 0⟩ s1) := ⟨((Turn.ofBelow ((Below.refl _ w).alloc (Nat.le_refl _) _)).trans T1).trans (Turn.ofBelow ((Below.refl _ w1).alloc (Nat.le_refl _) _)), Scn.below S1 ((Below.refl _ w1).alloc (Nat.le_refl _) _) (Nat.le_refl _), bx_new w1 _ 5 0 0 ⟨#[]⟩ ⟨#[]⟩ ⟨#[]⟩ ⟨#[]⟩ 0, Bx.turn R1.out (Turn.ofBelow (g := g) (b := b) ((Below.refl _ w1).alloc (Nat.le_refl _) _)) (by omega) (by omega), hw1⟩
  have D1 : Hid (Turn g b w w1 ∧ Scs w1 g b sa n cap l a s1) := ⟨(Turn.ofBelow ((Below.refl _ w).alloc (Nat.le_refl _) _)).trans T1, S1⟩
  clear T1 S1
  rw [h0] at c1
  clear h0 R1 D1
  go_wp2_with fail
  refine (number_scn g b n cap sa l a 65535 42 s1 _ (by omega) (by exact C1.out.scs)).mono ?_
  rintro e w2 ⟨rfl, T, S⟩
  rw [hA.out]
  rw [hA2.out] at S
  have C2 := hide (C1.out.call HS.out T S)
  clear T S
  clear c1
  clear C1
  have b1_2 : w2.cell? ⟨w1.heap.size, 1, none⟩ = some (.int .i64 0) := C2.out.box.box.2.1
  have f1_2 : w2.frozen? ⟨w1.heap.size, 1, none⟩ = false := C2.out.box.thaw 1
  have C3 := hide (C2.out.put HS.out 1 (.int .i64 (cl : Int)) (C2.out.box.client (cl : Int)))
  go_wp2_with fail
  refine (number_scn g b n cap sa l a 1073741824 43 s2 _ (by omega) (by exact C3.out.scs)).mono ?_
  rintro e w3 ⟨rfl, T, S⟩
  rw [hB.out]
  rw [hB2.out] at S
  have C4 := hide (C3.out.call HS.out T S)
  clear T S
  clear b1_2 f1_2
  clear C3
  have b2_4 : w3.cell? ⟨w1.heap.size, 2, none⟩ = some (.int .i64 0) := C4.out.box.box.2.2.1
  have f2_4 : w3.frozen? ⟨w1.heap.size, 2, none⟩ = false := C4.out.box.thaw 2
  have C5 := hide (C4.out.put HS.out 2 (.int .i64 (rq : Int)) (C4.out.box.req (rq : Int)))
  go_wp2_with fail
  refine (text_scn g b n cap sa l a 1 64 44 s3 _ (by omega) (by omega) (by omega) (by omega) (by exact C5.out.scs)).mono ?_
  rintro e w4 ⟨rfl, T, S⟩
  rw [hC.out]
  rw [hC2.out] at S
  have C6 := hide (C5.out.call HS.out T S)
  clear T S
  clear b2_4 f2_4
  clear C5
  have b0_6 : w4.cell? ⟨w1.heap.size, 0, none⟩ = some (.int .i64 5) := C6.out.box.box.1
  have b3_6 : w4.cell? ⟨w1.heap.size, 3, none⟩ = some (.string ⟨#[]⟩) := C6.out.box.box.2.2.2.1
  have f3_6 : w4.frozen? ⟨w1.heap.size, 3, none⟩ = false := C6.out.box.thaw 3
  have C7 := hide (C6.out.put HS.out 3 (.string ky) (C6.out.box.key ky))
  go_wp2_with fail
  refine (mostVal_any v _).mono ?_
  rintro e wm ⟨rfl, rfl⟩
  go_wp2_with fail
  refine (text_scn g b n cap sa l a 0 (mostV v : Nat) 47 s4 _ (by omega) (by omega) (by omega) (by have := hmv.out; omega) (by exact C7.out.scs)).mono ?_
  rintro e w5 ⟨rfl, T, S⟩
  rw [hD.out]
  rw [hD2.out] at S
  have C8 := hide (C7.out.call HS.out T S)
  clear T S
  clear b0_6 b3_6 f3_6
  clear C7
  have b6_8 : w5.cell? ⟨w1.heap.size, 6, none⟩ = some (.string ⟨#[]⟩) := C8.out.box.box.2.2.2.2.2.2.1
  have f6_8 : w5.frozen? ⟨w1.heap.size, 6, none⟩ = false := C8.out.box.thaw 6
  have C9 := hide (C8.out.put HS.out 6 (.string od) (C8.out.box.old od))
  go_wp2_with fail
  refine (mostVal_any v _).mono ?_
  rintro e wm ⟨rfl, rfl⟩
  go_wp2_with fail
  refine (text_scn g b n cap sa l a 0 (mostV v : Nat) 46 s5 _ (by omega) (by omega) (by omega) (by have := hmv.out; omega) (by exact C9.out.scs)).mono ?_
  rintro e w6 ⟨rfl, T, S⟩
  rw [hE.out]
  rw [hE2.out] at S
  have C10 := hide (C9.out.call HS.out T S)
  clear T S
  clear b6_8 f6_8
  clear C9
  have b0_10 : w6.cell? ⟨w1.heap.size, 0, none⟩ = some (.int .i64 5) := C10.out.box.box.1
  have b1_10 : w6.cell? ⟨w1.heap.size, 1, none⟩ = some (.int .i64 (cl : Int)) := C10.out.box.box.2.1
  have b2_10 : w6.cell? ⟨w1.heap.size, 2, none⟩ = some (.int .i64 (rq : Int)) := C10.out.box.box.2.2.1
  have b3_10 : w6.cell? ⟨w1.heap.size, 3, none⟩ = some (.string ky) := C10.out.box.box.2.2.2.1
  have b4_10 : w6.cell? ⟨w1.heap.size, 4, none⟩ = some (.string ⟨#[]⟩) := C10.out.box.box.2.2.2.2.1
  have b5_10 : w6.cell? ⟨w1.heap.size, 5, none⟩ = some (.string ⟨#[]⟩) := C10.out.box.box.2.2.2.2.2.1
  have b6_10 : w6.cell? ⟨w1.heap.size, 6, none⟩ = some (.string od) := C10.out.box.box.2.2.2.2.2.2.1
  have b7_10 : w6.cell? ⟨w1.heap.size, 7, none⟩ = some (.int .i64 0) := C10.out.box.box.2.2.2.2.2.2.2
  have f5_10 : w6.frozen? ⟨w1.heap.size, 5, none⟩ = false := C10.out.box.thaw 5
  have hl10 : w1.heap.size < w6.heap.size := C10.out.box.lt
  have r0_10 : w6.cell? ⟨w.heap.size, 0, none⟩ = some (.int .i64 0) := C10.out.res.box.1
  have fr0_10 : w6.frozen? ⟨w.heap.size, 0, none⟩ = false := C10.out.res.thaw 0
  have r1_10 : w6.cell? ⟨w.heap.size, 1, none⟩ = some (.int .i64 0) := C10.out.res.box.2.1
  have fr1_10 : w6.frozen? ⟨w.heap.size, 1, none⟩ = false := C10.out.res.thaw 1
  have r2_10 : w6.cell? ⟨w.heap.size, 2, none⟩ = some (.int .i64 0) := C10.out.res.box.2.2.1
  have fr2_10 : w6.frozen? ⟨w.heap.size, 2, none⟩ = false := C10.out.res.thaw 2
  have r3_10 : w6.cell? ⟨w.heap.size, 3, none⟩ = some (.string ⟨#[]⟩) := C10.out.res.box.2.2.2.1
  have fr3_10 : w6.frozen? ⟨w.heap.size, 3, none⟩ = false := C10.out.res.thaw 3
  have r4_10 : w6.cell? ⟨w.heap.size, 4, none⟩ = some (.string ⟨#[]⟩) := C10.out.res.box.2.2.2.2.1
  have fr4_10 : w6.frozen? ⟨w.heap.size, 4, none⟩ = false := C10.out.res.thaw 4
  have r5_10 : w6.cell? ⟨w.heap.size, 5, none⟩ = some (.string ⟨#[]⟩) := C10.out.res.box.2.2.2.2.2.1
  have fr5_10 : w6.frozen? ⟨w.heap.size, 5, none⟩ = false := C10.out.res.thaw 5
  have r6_10 : w6.cell? ⟨w.heap.size, 6, none⟩ = some (.string ⟨#[]⟩) := C10.out.res.box.2.2.2.2.2.2.1
  have fr6_10 : w6.frozen? ⟨w.heap.size, 6, none⟩ = false := C10.out.res.thaw 6
  have r7_10 : w6.cell? ⟨w.heap.size, 7, none⟩ = some (.int .i64 0) := C10.out.res.box.2.2.2.2.2.2.2
  have fr7_10 : w6.frozen? ⟨w.heap.size, 7, none⟩ = false := C10.out.res.thaw 7
  have C11 := hide (C10.out.put HS.out 5 (.string vl) (C10.out.box.val vl))
  go_wp2
  refine bodyPost_ret (v := .agg #[.int .i64 5, .int .i64 (cl : Int), .int .i64 (rq : Int), .string ky, .string ⟨#[]⟩, .string vl, .string od, .int .i64 0]) (by simp [results, Tryz.results124, go_sem, *]) rfl ⟨rfl, ?_⟩
  iterate 8 refine done_set HS.out ?_ _ _
  exact ⟨C11.out.turn, C11.out.scs⟩
set_option maxHeartbeats 2000000 in
set_option maxRecDepth 100000 in
theorem command_leaf6 (g b n cap : Nat) (sa : Option Addr) (l : List Int) (a : Nat → Addr) (v : Int) (s : St) (w : World) (hK : Knd w) (h : Scs w g b sa n cap l a s) (s1 : St) (hx : Hid ((sKind v l s).1 = 6)) (hs1 : Hid ((sKind v l s).2 = s1)) (h0 : s1.ft = 0) (cl : Nat) (s2 : St) (hA : Hid ((sNum 65535 42 l s1).1 = cl)) (hA2 : Hid ((sNum 65535 42 l s1).2 = s2)) (rq : Nat) (s3 : St) (hB : Hid ((sNum 1073741824 43 l s2).1 = rq)) (hB2 : Hid ((sNum 1073741824 43 l s2).2 = s3)) (ky : ByteArray) (s4 : St) (hC : Hid ((sTxt 1 64 44 l s3).1 = ky)) (hC2 : Hid ((sTxt 1 64 44 l s3).2 = s4)) (k2 : ByteArray) (s5 : St) (hD : Hid ((sKey2 6 ky l s4).1 = k2)) (hD2 : Hid ((sKey2 6 ky l s4).2 = s5)) :
    Calls Tryz.prog 124 #[.pointer (some ⟨g, 0, none⟩), .int .i64 v] w fun e w' => e = .returned (.agg #[.int .i64 6, .int .i64 (cl : Int), .int .i64 (rq : Int), .string ky, .string k2, .string ⟨#[]⟩, .string ⟨#[]⟩, .int .i64 0]) ∧ Turn g b w w' ∧ Scs w' g b sa n cap l a s5 := by
  have hkl : Hid (ky.size ≤ 64) := by have := gT_size 1 64 l s3 (by omega); rw [show (gT 1 64 l s3).1 = ky from hC.out] at this; show _ ≤ _; omega
  have HS := hide h
  have HK := hide hK
  have hg0 := h.lt
  have hb0 := h.rdr.lt
  clear h hK
  go_enter Tryz.func124, Tryz.ntmps124
  go_wp2_with fail
  refine (kind_scn g b n cap sa l a v s _ (HK.out.below ((Below.refl _ w).alloc (Nat.le_refl _) _) (Nat.le_refl _)) (HS.out.below ((Below.refl _ w).alloc (Nat.le_refl _) _) (Nat.le_refl _))).mono ?_
  rintro e w1 ⟨rfl, T1, S1⟩
  rw [hx.out]
  rw [hs1.out] at S1
  have c1 := S1.fault
  have hg1 := S1.lt
  have hw1 : w.heap.size < w1.heap.size := by have := T1.size; simp at this; omega
  have R1 := hide ((bx_new w 27 0 0 0 ⟨#[]⟩ ⟨#[]⟩ ⟨#[]⟩ ⟨#[]⟩ 0).turn T1 (by omega) (by omega))
  have C1 : Hid (Com w (w1.alloc (.cells #[.int .i64 6, .int .i64 0, .int .i64 0, .string ⟨#[]⟩, .string ⟨#[]⟩, .string ⟨#[]⟩, .string ⟨#[]⟩, .int .i64 0] 27)) w1.heap.size g b sa n cap l a ⟨6, 0, 0, ⟨#[]⟩, ⟨#[]⟩, ⟨#[]⟩, ⟨#[]⟩, 0⟩ s1) := ⟨((Turn.ofBelow ((Below.refl _ w).alloc (Nat.le_refl _) _)).trans T1).trans (Turn.ofBelow ((Below.refl _ w1).alloc (Nat.le_refl _) _)), Scn.below S1 ((Below.refl _ w1).alloc (Nat.le_refl _) _) (Nat.le_refl _), bx_new w1 _ 6 0 0 ⟨#[]⟩ ⟨#[]⟩ ⟨#[]⟩ ⟨#[]⟩ 0, Bx.turn R1.out (Turn.ofBelow (g := g) (b := b) ((Below.refl _ w1).alloc (Nat.le_refl _) _)) (by omega) (by omega), hw1⟩
  have D1 : Hid (Turn g b w w1 ∧ Scs w1 g b sa n cap l a s1) := ⟨(Turn.ofBelow ((Below.refl _ w).alloc (Nat.le_refl _) _)).trans T1, S1⟩
  clear T1 S1
  rw [h0] at c1
  clear h0 R1 D1
  go_wp2_with fail
  refine (number_scn g b n cap sa l a 65535 42 s1 _ (by omega) (by exact C1.out.scs)).mono ?_
  rintro e w2 ⟨rfl, T, S⟩
  rw [hA.out]
  rw [hA2.out] at S
  have C2 := hide (C1.out.call HS.out T S)
  clear T S
  clear c1
  clear C1
  have b1_2 : w2.cell? ⟨w1.heap.size, 1, none⟩ = some (.int .i64 0) := C2.out.box.box.2.1
  have f1_2 : w2.frozen? ⟨w1.heap.size, 1, none⟩ = false := C2.out.box.thaw 1
  have C3 := hide (C2.out.put HS.out 1 (.int .i64 (cl : Int)) (C2.out.box.client (cl : Int)))
  go_wp2_with fail
  refine (number_scn g b n cap sa l a 1073741824 43 s2 _ (by omega) (by exact C3.out.scs)).mono ?_
  rintro e w3 ⟨rfl, T, S⟩
  rw [hB.out]
  rw [hB2.out] at S
  have C4 := hide (C3.out.call HS.out T S)
  clear T S
  clear b1_2 f1_2
  clear C3
  have b2_4 : w3.cell? ⟨w1.heap.size, 2, none⟩ = some (.int .i64 0) := C4.out.box.box.2.2.1
  have f2_4 : w3.frozen? ⟨w1.heap.size, 2, none⟩ = false := C4.out.box.thaw 2
  have C5 := hide (C4.out.put HS.out 2 (.int .i64 (rq : Int)) (C4.out.box.req (rq : Int)))
  go_wp2_with fail
  refine (text_scn g b n cap sa l a 1 64 44 s3 _ (by omega) (by omega) (by omega) (by omega) (by exact C5.out.scs)).mono ?_
  rintro e w4 ⟨rfl, T, S⟩
  rw [hC.out]
  rw [hC2.out] at S
  have C6 := hide (C5.out.call HS.out T S)
  clear T S
  clear b2_4 f2_4
  clear C5
  have b0_6 : w4.cell? ⟨w1.heap.size, 0, none⟩ = some (.int .i64 6) := C6.out.box.box.1
  have b3_6 : w4.cell? ⟨w1.heap.size, 3, none⟩ = some (.string ⟨#[]⟩) := C6.out.box.box.2.2.2.1
  have f3_6 : w4.frozen? ⟨w1.heap.size, 3, none⟩ = false := C6.out.box.thaw 3
  have C7 := hide (C6.out.put HS.out 3 (.string ky) (C6.out.box.key ky))
  go_wp2_with fail
  refine (key2_scn g b n cap sa l a 6 ky s4 _ hkl.out (by exact C7.out.scs)).mono ?_
  rintro e w5 ⟨rfl, T, S⟩
  rw [hD.out]
  rw [hD2.out] at S
  have C8 := hide (C7.out.call HS.out T S)
  clear T S
  clear b0_6 b3_6 f3_6
  clear C7
  have b0_8 : w5.cell? ⟨w1.heap.size, 0, none⟩ = some (.int .i64 6) := C8.out.box.box.1
  have b1_8 : w5.cell? ⟨w1.heap.size, 1, none⟩ = some (.int .i64 (cl : Int)) := C8.out.box.box.2.1
  have b2_8 : w5.cell? ⟨w1.heap.size, 2, none⟩ = some (.int .i64 (rq : Int)) := C8.out.box.box.2.2.1
  have b3_8 : w5.cell? ⟨w1.heap.size, 3, none⟩ = some (.string ky) := C8.out.box.box.2.2.2.1
  have b4_8 : w5.cell? ⟨w1.heap.size, 4, none⟩ = some (.string ⟨#[]⟩) := C8.out.box.box.2.2.2.2.1
  have b5_8 : w5.cell? ⟨w1.heap.size, 5, none⟩ = some (.string ⟨#[]⟩) := C8.out.box.box.2.2.2.2.2.1
  have b6_8 : w5.cell? ⟨w1.heap.size, 6, none⟩ = some (.string ⟨#[]⟩) := C8.out.box.box.2.2.2.2.2.2.1
  have b7_8 : w5.cell? ⟨w1.heap.size, 7, none⟩ = some (.int .i64 0) := C8.out.box.box.2.2.2.2.2.2.2
  have f4_8 : w5.frozen? ⟨w1.heap.size, 4, none⟩ = false := C8.out.box.thaw 4
  have hl8 : w1.heap.size < w5.heap.size := C8.out.box.lt
  have r0_8 : w5.cell? ⟨w.heap.size, 0, none⟩ = some (.int .i64 0) := C8.out.res.box.1
  have fr0_8 : w5.frozen? ⟨w.heap.size, 0, none⟩ = false := C8.out.res.thaw 0
  have r1_8 : w5.cell? ⟨w.heap.size, 1, none⟩ = some (.int .i64 0) := C8.out.res.box.2.1
  have fr1_8 : w5.frozen? ⟨w.heap.size, 1, none⟩ = false := C8.out.res.thaw 1
  have r2_8 : w5.cell? ⟨w.heap.size, 2, none⟩ = some (.int .i64 0) := C8.out.res.box.2.2.1
  have fr2_8 : w5.frozen? ⟨w.heap.size, 2, none⟩ = false := C8.out.res.thaw 2
  have r3_8 : w5.cell? ⟨w.heap.size, 3, none⟩ = some (.string ⟨#[]⟩) := C8.out.res.box.2.2.2.1
  have fr3_8 : w5.frozen? ⟨w.heap.size, 3, none⟩ = false := C8.out.res.thaw 3
  have r4_8 : w5.cell? ⟨w.heap.size, 4, none⟩ = some (.string ⟨#[]⟩) := C8.out.res.box.2.2.2.2.1
  have fr4_8 : w5.frozen? ⟨w.heap.size, 4, none⟩ = false := C8.out.res.thaw 4
  have r5_8 : w5.cell? ⟨w.heap.size, 5, none⟩ = some (.string ⟨#[]⟩) := C8.out.res.box.2.2.2.2.2.1
  have fr5_8 : w5.frozen? ⟨w.heap.size, 5, none⟩ = false := C8.out.res.thaw 5
  have r6_8 : w5.cell? ⟨w.heap.size, 6, none⟩ = some (.string ⟨#[]⟩) := C8.out.res.box.2.2.2.2.2.2.1
  have fr6_8 : w5.frozen? ⟨w.heap.size, 6, none⟩ = false := C8.out.res.thaw 6
  have r7_8 : w5.cell? ⟨w.heap.size, 7, none⟩ = some (.int .i64 0) := C8.out.res.box.2.2.2.2.2.2.2
  have fr7_8 : w5.frozen? ⟨w.heap.size, 7, none⟩ = false := C8.out.res.thaw 7
  have C9 := hide (C8.out.put HS.out 4 (.string k2) (C8.out.box.key2 k2))
  go_wp2
  refine bodyPost_ret (v := .agg #[.int .i64 6, .int .i64 (cl : Int), .int .i64 (rq : Int), .string ky, .string k2, .string ⟨#[]⟩, .string ⟨#[]⟩, .int .i64 0]) (by simp [results, Tryz.results124, go_sem, *]) rfl ⟨rfl, ?_⟩
  iterate 8 refine done_set HS.out ?_ _ _
  exact ⟨C9.out.turn, C9.out.scs⟩
set_option maxHeartbeats 2000000 in
set_option maxRecDepth 100000 in
theorem command_leaf7 (g b n cap : Nat) (sa : Option Addr) (l : List Int) (a : Nat → Addr) (v : Int) (s : St) (w : World) (hK : Knd w) (h : Scs w g b sa n cap l a s) (s1 : St) (hx : Hid ((sKind v l s).1 = 7)) (hs1 : Hid ((sKind v l s).2 = s1)) (h0 : s1.ft = 0) (cl : Nat) (s2 : St) (hA : Hid ((sNum 65535 42 l s1).1 = cl)) (hA2 : Hid ((sNum 65535 42 l s1).2 = s2)) (rq : Nat) (s3 : St) (hB : Hid ((sNum 1073741824 43 l s2).1 = rq)) (hB2 : Hid ((sNum 1073741824 43 l s2).2 = s3)) (ky : ByteArray) (s4 : St) (hC : Hid ((sTxt 1 64 44 l s3).1 = ky)) (hC2 : Hid ((sTxt 1 64 44 l s3).2 = s4)) (k2 : ByteArray) (s5 : St) (hD : Hid ((sKey2 7 ky l s4).1 = k2)) (hD2 : Hid ((sKey2 7 ky l s4).2 = s5)) :
    Calls Tryz.prog 124 #[.pointer (some ⟨g, 0, none⟩), .int .i64 v] w fun e w' => e = .returned (.agg #[.int .i64 7, .int .i64 (cl : Int), .int .i64 (rq : Int), .string ky, .string k2, .string ⟨#[]⟩, .string ⟨#[]⟩, .int .i64 0]) ∧ Turn g b w w' ∧ Scs w' g b sa n cap l a s5 := by
  have hkl : Hid (ky.size ≤ 64) := by have := gT_size 1 64 l s3 (by omega); rw [show (gT 1 64 l s3).1 = ky from hC.out] at this; show _ ≤ _; omega
  have HS := hide h
  have HK := hide hK
  have hg0 := h.lt
  have hb0 := h.rdr.lt
  clear h hK
  go_enter Tryz.func124, Tryz.ntmps124
  go_wp2_with fail
  refine (kind_scn g b n cap sa l a v s _ (HK.out.below ((Below.refl _ w).alloc (Nat.le_refl _) _) (Nat.le_refl _)) (HS.out.below ((Below.refl _ w).alloc (Nat.le_refl _) _) (Nat.le_refl _))).mono ?_
  rintro e w1 ⟨rfl, T1, S1⟩
  rw [hx.out]
  rw [hs1.out] at S1
  have c1 := S1.fault
  have hg1 := S1.lt
  have hw1 : w.heap.size < w1.heap.size := by have := T1.size; simp at this; omega
  have R1 := hide ((bx_new w 27 0 0 0 ⟨#[]⟩ ⟨#[]⟩ ⟨#[]⟩ ⟨#[]⟩ 0).turn T1 (by omega) (by omega))
  have C1 : Hid (Com w (w1.alloc (.cells #[.int .i64 7, .int .i64 0, .int .i64 0, .string ⟨#[]⟩, .string ⟨#[]⟩, .string ⟨#[]⟩, .string ⟨#[]⟩, .int .i64 0] 27)) w1.heap.size g b sa n cap l a ⟨7, 0, 0, ⟨#[]⟩, ⟨#[]⟩, ⟨#[]⟩, ⟨#[]⟩, 0⟩ s1) := ⟨((Turn.ofBelow ((Below.refl _ w).alloc (Nat.le_refl _) _)).trans T1).trans (Turn.ofBelow ((Below.refl _ w1).alloc (Nat.le_refl _) _)), Scn.below S1 ((Below.refl _ w1).alloc (Nat.le_refl _) _) (Nat.le_refl _), bx_new w1 _ 7 0 0 ⟨#[]⟩ ⟨#[]⟩ ⟨#[]⟩ ⟨#[]⟩ 0, Bx.turn R1.out (Turn.ofBelow (g := g) (b := b) ((Below.refl _ w1).alloc (Nat.le_refl _) _)) (by omega) (by omega), hw1⟩
  have D1 : Hid (Turn g b w w1 ∧ Scs w1 g b sa n cap l a s1) := ⟨(Turn.ofBelow ((Below.refl _ w).alloc (Nat.le_refl _) _)).trans T1, S1⟩
  clear T1 S1
  rw [h0] at c1
  clear h0 R1 D1
  go_wp2_with fail
  refine (number_scn g b n cap sa l a 65535 42 s1 _ (by omega) (by exact C1.out.scs)).mono ?_
  rintro e w2 ⟨rfl, T, S⟩
  rw [hA.out]
  rw [hA2.out] at S
  have C2 := hide (C1.out.call HS.out T S)
  clear T S
  clear c1
  clear C1
  have b1_2 : w2.cell? ⟨w1.heap.size, 1, none⟩ = some (.int .i64 0) := C2.out.box.box.2.1
  have f1_2 : w2.frozen? ⟨w1.heap.size, 1, none⟩ = false := C2.out.box.thaw 1
  have C3 := hide (C2.out.put HS.out 1 (.int .i64 (cl : Int)) (C2.out.box.client (cl : Int)))
  go_wp2_with fail
  refine (number_scn g b n cap sa l a 1073741824 43 s2 _ (by omega) (by exact C3.out.scs)).mono ?_
  rintro e w3 ⟨rfl, T, S⟩
  rw [hB.out]
  rw [hB2.out] at S
  have C4 := hide (C3.out.call HS.out T S)
  clear T S
  clear b1_2 f1_2
  clear C3
  have b2_4 : w3.cell? ⟨w1.heap.size, 2, none⟩ = some (.int .i64 0) := C4.out.box.box.2.2.1
  have f2_4 : w3.frozen? ⟨w1.heap.size, 2, none⟩ = false := C4.out.box.thaw 2
  have C5 := hide (C4.out.put HS.out 2 (.int .i64 (rq : Int)) (C4.out.box.req (rq : Int)))
  go_wp2_with fail
  refine (text_scn g b n cap sa l a 1 64 44 s3 _ (by omega) (by omega) (by omega) (by omega) (by exact C5.out.scs)).mono ?_
  rintro e w4 ⟨rfl, T, S⟩
  rw [hC.out]
  rw [hC2.out] at S
  have C6 := hide (C5.out.call HS.out T S)
  clear T S
  clear b2_4 f2_4
  clear C5
  have b0_6 : w4.cell? ⟨w1.heap.size, 0, none⟩ = some (.int .i64 7) := C6.out.box.box.1
  have b3_6 : w4.cell? ⟨w1.heap.size, 3, none⟩ = some (.string ⟨#[]⟩) := C6.out.box.box.2.2.2.1
  have f3_6 : w4.frozen? ⟨w1.heap.size, 3, none⟩ = false := C6.out.box.thaw 3
  have C7 := hide (C6.out.put HS.out 3 (.string ky) (C6.out.box.key ky))
  go_wp2_with fail
  refine (key2_scn g b n cap sa l a 7 ky s4 _ hkl.out (by exact C7.out.scs)).mono ?_
  rintro e w5 ⟨rfl, T, S⟩
  rw [hD.out]
  rw [hD2.out] at S
  have C8 := hide (C7.out.call HS.out T S)
  clear T S
  clear b0_6 b3_6 f3_6
  clear C7
  have b0_8 : w5.cell? ⟨w1.heap.size, 0, none⟩ = some (.int .i64 7) := C8.out.box.box.1
  have b1_8 : w5.cell? ⟨w1.heap.size, 1, none⟩ = some (.int .i64 (cl : Int)) := C8.out.box.box.2.1
  have b2_8 : w5.cell? ⟨w1.heap.size, 2, none⟩ = some (.int .i64 (rq : Int)) := C8.out.box.box.2.2.1
  have b3_8 : w5.cell? ⟨w1.heap.size, 3, none⟩ = some (.string ky) := C8.out.box.box.2.2.2.1
  have b4_8 : w5.cell? ⟨w1.heap.size, 4, none⟩ = some (.string ⟨#[]⟩) := C8.out.box.box.2.2.2.2.1
  have b5_8 : w5.cell? ⟨w1.heap.size, 5, none⟩ = some (.string ⟨#[]⟩) := C8.out.box.box.2.2.2.2.2.1
  have b6_8 : w5.cell? ⟨w1.heap.size, 6, none⟩ = some (.string ⟨#[]⟩) := C8.out.box.box.2.2.2.2.2.2.1
  have b7_8 : w5.cell? ⟨w1.heap.size, 7, none⟩ = some (.int .i64 0) := C8.out.box.box.2.2.2.2.2.2.2
  have f4_8 : w5.frozen? ⟨w1.heap.size, 4, none⟩ = false := C8.out.box.thaw 4
  have hl8 : w1.heap.size < w5.heap.size := C8.out.box.lt
  have r0_8 : w5.cell? ⟨w.heap.size, 0, none⟩ = some (.int .i64 0) := C8.out.res.box.1
  have fr0_8 : w5.frozen? ⟨w.heap.size, 0, none⟩ = false := C8.out.res.thaw 0
  have r1_8 : w5.cell? ⟨w.heap.size, 1, none⟩ = some (.int .i64 0) := C8.out.res.box.2.1
  have fr1_8 : w5.frozen? ⟨w.heap.size, 1, none⟩ = false := C8.out.res.thaw 1
  have r2_8 : w5.cell? ⟨w.heap.size, 2, none⟩ = some (.int .i64 0) := C8.out.res.box.2.2.1
  have fr2_8 : w5.frozen? ⟨w.heap.size, 2, none⟩ = false := C8.out.res.thaw 2
  have r3_8 : w5.cell? ⟨w.heap.size, 3, none⟩ = some (.string ⟨#[]⟩) := C8.out.res.box.2.2.2.1
  have fr3_8 : w5.frozen? ⟨w.heap.size, 3, none⟩ = false := C8.out.res.thaw 3
  have r4_8 : w5.cell? ⟨w.heap.size, 4, none⟩ = some (.string ⟨#[]⟩) := C8.out.res.box.2.2.2.2.1
  have fr4_8 : w5.frozen? ⟨w.heap.size, 4, none⟩ = false := C8.out.res.thaw 4
  have r5_8 : w5.cell? ⟨w.heap.size, 5, none⟩ = some (.string ⟨#[]⟩) := C8.out.res.box.2.2.2.2.2.1
  have fr5_8 : w5.frozen? ⟨w.heap.size, 5, none⟩ = false := C8.out.res.thaw 5
  have r6_8 : w5.cell? ⟨w.heap.size, 6, none⟩ = some (.string ⟨#[]⟩) := C8.out.res.box.2.2.2.2.2.2.1
  have fr6_8 : w5.frozen? ⟨w.heap.size, 6, none⟩ = false := C8.out.res.thaw 6
  have r7_8 : w5.cell? ⟨w.heap.size, 7, none⟩ = some (.int .i64 0) := C8.out.res.box.2.2.2.2.2.2.2
  have fr7_8 : w5.frozen? ⟨w.heap.size, 7, none⟩ = false := C8.out.res.thaw 7
  have C9 := hide (C8.out.put HS.out 4 (.string k2) (C8.out.box.key2 k2))
  go_wp2
  refine bodyPost_ret (v := .agg #[.int .i64 7, .int .i64 (cl : Int), .int .i64 (rq : Int), .string ky, .string k2, .string ⟨#[]⟩, .string ⟨#[]⟩, .int .i64 0]) (by simp [results, Tryz.results124, go_sem, *]) rfl ⟨rfl, ?_⟩
  iterate 8 refine done_set HS.out ?_ _ _
  exact ⟨C9.out.turn, C9.out.scs⟩
set_option maxHeartbeats 2000000 in
set_option maxRecDepth 100000 in
theorem command_leaf8 (g b n cap : Nat) (sa : Option Addr) (l : List Int) (a : Nat → Addr) (v : Int) (s : St) (w : World) (hK : Knd w) (h : Scs w g b sa n cap l a s) (s1 : St) (hx : Hid ((sKind v l s).1 = 8)) (hs1 : Hid ((sKind v l s).2 = s1)) (h0 : s1.ft = 0) (cl : Nat) (s2 : St) (hA : Hid ((sNum 65535 42 l s1).1 = cl)) (hA2 : Hid ((sNum 65535 42 l s1).2 = s2)) (rq : Nat) (s3 : St) (hB : Hid ((sNum 1073741824 43 l s2).1 = rq)) (hB2 : Hid ((sNum 1073741824 43 l s2).2 = s3)) (ky : ByteArray) (s4 : St) (hC : Hid ((sTxt 1 64 44 l s3).1 = ky)) (hC2 : Hid ((sTxt 1 64 44 l s3).2 = s4)) (k2 : ByteArray) (s5 : St) (hD : Hid ((sKey2 8 ky l s4).1 = k2)) (hD2 : Hid ((sKey2 8 ky l s4).2 = s5)) :
    Calls Tryz.prog 124 #[.pointer (some ⟨g, 0, none⟩), .int .i64 v] w fun e w' => e = .returned (.agg #[.int .i64 8, .int .i64 (cl : Int), .int .i64 (rq : Int), .string ky, .string k2, .string ⟨#[]⟩, .string ⟨#[]⟩, .int .i64 0]) ∧ Turn g b w w' ∧ Scs w' g b sa n cap l a s5 := by
  have hkl : Hid (ky.size ≤ 64) := by have := gT_size 1 64 l s3 (by omega); rw [show (gT 1 64 l s3).1 = ky from hC.out] at this; show _ ≤ _; omega
  have HS := hide h
  have HK := hide hK
  have hg0 := h.lt
  have hb0 := h.rdr.lt
  clear h hK
  go_enter Tryz.func124, Tryz.ntmps124
  go_wp2_with fail
  refine (kind_scn g b n cap sa l a v s _ (HK.out.below ((Below.refl _ w).alloc (Nat.le_refl _) _) (Nat.le_refl _)) (HS.out.below ((Below.refl _ w).alloc (Nat.le_refl _) _) (Nat.le_refl _))).mono ?_
  rintro e w1 ⟨rfl, T1, S1⟩
  rw [hx.out]
  rw [hs1.out] at S1
  have c1 := S1.fault
  have hg1 := S1.lt
  have hw1 : w.heap.size < w1.heap.size := by have := T1.size; simp at this; omega
  have R1 := hide ((bx_new w 27 0 0 0 ⟨#[]⟩ ⟨#[]⟩ ⟨#[]⟩ ⟨#[]⟩ 0).turn T1 (by omega) (by omega))
  have C1 : Hid (Com w (w1.alloc (.cells #[.int .i64 8, .int .i64 0, .int .i64 0, .string ⟨#[]⟩, .string ⟨#[]⟩, .string ⟨#[]⟩, .string ⟨#[]⟩, .int .i64 0] 27)) w1.heap.size g b sa n cap l a ⟨8, 0, 0, ⟨#[]⟩, ⟨#[]⟩, ⟨#[]⟩, ⟨#[]⟩, 0⟩ s1) := ⟨((Turn.ofBelow ((Below.refl _ w).alloc (Nat.le_refl _) _)).trans T1).trans (Turn.ofBelow ((Below.refl _ w1).alloc (Nat.le_refl _) _)), Scn.below S1 ((Below.refl _ w1).alloc (Nat.le_refl _) _) (Nat.le_refl _), bx_new w1 _ 8 0 0 ⟨#[]⟩ ⟨#[]⟩ ⟨#[]⟩ ⟨#[]⟩ 0, Bx.turn R1.out (Turn.ofBelow (g := g) (b := b) ((Below.refl _ w1).alloc (Nat.le_refl _) _)) (by omega) (by omega), hw1⟩
  have D1 : Hid (Turn g b w w1 ∧ Scs w1 g b sa n cap l a s1) := ⟨(Turn.ofBelow ((Below.refl _ w).alloc (Nat.le_refl _) _)).trans T1, S1⟩
  clear T1 S1
  rw [h0] at c1
  clear h0 R1 D1
  go_wp2_with fail
  refine (number_scn g b n cap sa l a 65535 42 s1 _ (by omega) (by exact C1.out.scs)).mono ?_
  rintro e w2 ⟨rfl, T, S⟩
  rw [hA.out]
  rw [hA2.out] at S
  have C2 := hide (C1.out.call HS.out T S)
  clear T S
  clear c1
  clear C1
  have b1_2 : w2.cell? ⟨w1.heap.size, 1, none⟩ = some (.int .i64 0) := C2.out.box.box.2.1
  have f1_2 : w2.frozen? ⟨w1.heap.size, 1, none⟩ = false := C2.out.box.thaw 1
  have C3 := hide (C2.out.put HS.out 1 (.int .i64 (cl : Int)) (C2.out.box.client (cl : Int)))
  go_wp2_with fail
  refine (number_scn g b n cap sa l a 1073741824 43 s2 _ (by omega) (by exact C3.out.scs)).mono ?_
  rintro e w3 ⟨rfl, T, S⟩
  rw [hB.out]
  rw [hB2.out] at S
  have C4 := hide (C3.out.call HS.out T S)
  clear T S
  clear b1_2 f1_2
  clear C3
  have b2_4 : w3.cell? ⟨w1.heap.size, 2, none⟩ = some (.int .i64 0) := C4.out.box.box.2.2.1
  have f2_4 : w3.frozen? ⟨w1.heap.size, 2, none⟩ = false := C4.out.box.thaw 2
  have C5 := hide (C4.out.put HS.out 2 (.int .i64 (rq : Int)) (C4.out.box.req (rq : Int)))
  go_wp2_with fail
  refine (text_scn g b n cap sa l a 1 64 44 s3 _ (by omega) (by omega) (by omega) (by omega) (by exact C5.out.scs)).mono ?_
  rintro e w4 ⟨rfl, T, S⟩
  rw [hC.out]
  rw [hC2.out] at S
  have C6 := hide (C5.out.call HS.out T S)
  clear T S
  clear b2_4 f2_4
  clear C5
  have b0_6 : w4.cell? ⟨w1.heap.size, 0, none⟩ = some (.int .i64 8) := C6.out.box.box.1
  have b3_6 : w4.cell? ⟨w1.heap.size, 3, none⟩ = some (.string ⟨#[]⟩) := C6.out.box.box.2.2.2.1
  have f3_6 : w4.frozen? ⟨w1.heap.size, 3, none⟩ = false := C6.out.box.thaw 3
  have C7 := hide (C6.out.put HS.out 3 (.string ky) (C6.out.box.key ky))
  go_wp2_with fail
  refine (key2_scn g b n cap sa l a 8 ky s4 _ hkl.out (by exact C7.out.scs)).mono ?_
  rintro e w5 ⟨rfl, T, S⟩
  rw [hD.out]
  rw [hD2.out] at S
  have C8 := hide (C7.out.call HS.out T S)
  clear T S
  clear b0_6 b3_6 f3_6
  clear C7
  have b0_8 : w5.cell? ⟨w1.heap.size, 0, none⟩ = some (.int .i64 8) := C8.out.box.box.1
  have b1_8 : w5.cell? ⟨w1.heap.size, 1, none⟩ = some (.int .i64 (cl : Int)) := C8.out.box.box.2.1
  have b2_8 : w5.cell? ⟨w1.heap.size, 2, none⟩ = some (.int .i64 (rq : Int)) := C8.out.box.box.2.2.1
  have b3_8 : w5.cell? ⟨w1.heap.size, 3, none⟩ = some (.string ky) := C8.out.box.box.2.2.2.1
  have b4_8 : w5.cell? ⟨w1.heap.size, 4, none⟩ = some (.string ⟨#[]⟩) := C8.out.box.box.2.2.2.2.1
  have b5_8 : w5.cell? ⟨w1.heap.size, 5, none⟩ = some (.string ⟨#[]⟩) := C8.out.box.box.2.2.2.2.2.1
  have b6_8 : w5.cell? ⟨w1.heap.size, 6, none⟩ = some (.string ⟨#[]⟩) := C8.out.box.box.2.2.2.2.2.2.1
  have b7_8 : w5.cell? ⟨w1.heap.size, 7, none⟩ = some (.int .i64 0) := C8.out.box.box.2.2.2.2.2.2.2
  have f4_8 : w5.frozen? ⟨w1.heap.size, 4, none⟩ = false := C8.out.box.thaw 4
  have hl8 : w1.heap.size < w5.heap.size := C8.out.box.lt
  have r0_8 : w5.cell? ⟨w.heap.size, 0, none⟩ = some (.int .i64 0) := C8.out.res.box.1
  have fr0_8 : w5.frozen? ⟨w.heap.size, 0, none⟩ = false := C8.out.res.thaw 0
  have r1_8 : w5.cell? ⟨w.heap.size, 1, none⟩ = some (.int .i64 0) := C8.out.res.box.2.1
  have fr1_8 : w5.frozen? ⟨w.heap.size, 1, none⟩ = false := C8.out.res.thaw 1
  have r2_8 : w5.cell? ⟨w.heap.size, 2, none⟩ = some (.int .i64 0) := C8.out.res.box.2.2.1
  have fr2_8 : w5.frozen? ⟨w.heap.size, 2, none⟩ = false := C8.out.res.thaw 2
  have r3_8 : w5.cell? ⟨w.heap.size, 3, none⟩ = some (.string ⟨#[]⟩) := C8.out.res.box.2.2.2.1
  have fr3_8 : w5.frozen? ⟨w.heap.size, 3, none⟩ = false := C8.out.res.thaw 3
  have r4_8 : w5.cell? ⟨w.heap.size, 4, none⟩ = some (.string ⟨#[]⟩) := C8.out.res.box.2.2.2.2.1
  have fr4_8 : w5.frozen? ⟨w.heap.size, 4, none⟩ = false := C8.out.res.thaw 4
  have r5_8 : w5.cell? ⟨w.heap.size, 5, none⟩ = some (.string ⟨#[]⟩) := C8.out.res.box.2.2.2.2.2.1
  have fr5_8 : w5.frozen? ⟨w.heap.size, 5, none⟩ = false := C8.out.res.thaw 5
  have r6_8 : w5.cell? ⟨w.heap.size, 6, none⟩ = some (.string ⟨#[]⟩) := C8.out.res.box.2.2.2.2.2.2.1
  have fr6_8 : w5.frozen? ⟨w.heap.size, 6, none⟩ = false := C8.out.res.thaw 6
  have r7_8 : w5.cell? ⟨w.heap.size, 7, none⟩ = some (.int .i64 0) := C8.out.res.box.2.2.2.2.2.2.2
  have fr7_8 : w5.frozen? ⟨w.heap.size, 7, none⟩ = false := C8.out.res.thaw 7
  have C9 := hide (C8.out.put HS.out 4 (.string k2) (C8.out.box.key2 k2))
  go_wp2
  refine bodyPost_ret (v := .agg #[.int .i64 8, .int .i64 (cl : Int), .int .i64 (rq : Int), .string ky, .string k2, .string ⟨#[]⟩, .string ⟨#[]⟩, .int .i64 0]) (by simp [results, Tryz.results124, go_sem, *]) rfl ⟨rfl, ?_⟩
  iterate 8 refine done_set HS.out ?_ _ _
  exact ⟨C9.out.turn, C9.out.scs⟩
end Go.Proofs.YtlhididcanedhaaGreatDoor
