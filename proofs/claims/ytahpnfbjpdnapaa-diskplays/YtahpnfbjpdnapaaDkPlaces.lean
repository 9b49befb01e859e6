/- The statements' places: seven steps at a pair. -/
import Derived.Test.YtahpnfbjpdnapaaDkPlA
namespace Go.Proofs.Ytahpnfbjpdnapaa
open Go.RowKit Go.Wire1 Go.MuLone

theorem seg_two (w : World) (x y : Int) (fr : Nat × Nat) : Seg (w.alloc (.cells #[.int .u8 x, .int .u8 y] 5 fr)) (some ⟨w.heap.size, 0, none⟩) 2 [x, y] := by
  refine ⟨rfl, by unfold maxLen; omega, fun _ => ⟨_, _, rfl, fun j hj => ?_⟩⟩
  rw [Nat.zero_add, World.cell?_alloc_mark]
  match j, hj with
  | 0, _ => rfl
  | 1, _ => rfl
theorem i64_0 : I64 0 := ⟨by decide, by decide⟩
theorem okL {w : World} {g n : Nat} {l : List Int} (k a : Int) (h : Seg w (some ⟨g, 0, none⟩) n l) (hb : Byt l) (hn : n ≤ 140737488351232) (ha : I64 a) : OdOk w ⟨k, false, a, 0, 0, some ⟨g, 0, none⟩, n, n, l⟩ :=
  ⟨h, hb, (fun e => by cases e), hn, ha, i64_0, i64_0⟩
theorem okN (w : World) (k a : Int) (ha : I64 a) : OdOk w ⟨k, false, a, 0, 0, none, 0, 0, []⟩ :=
  ⟨⟨rfl, Nat.zero_le _, (fun h => by cases h)⟩, (fun z hz => by cases hz), fun _ => ⟨rfl, rfl⟩, Nat.zero_le _, ha, i64_0, i64_0⟩
set_option maxRecDepth 100000 in
theorem places_lit (w : World) (ro : Nat → Nat) (hz : ∀ k, w.heap.size ≤ k → ro k = 0) : OSegR (((((w.alloc (.cells #[.int .u8 97, .int .u8 98, .int .u8 99] 5 (3, 4))).alloc (.cells #[.int .u8 120, .int .u8 121, .int .u8 122] 5 (3, 4))).alloc (.cells #[.int .u8 112, .int .u8 113, .int .u8 114] 5 (3, 4))).alloc (.cells #[.int .u8 115, .int .u8 116, .int .u8 117] 5 (3, 4))).alloc (.cells #[.int .i64 1, .bool false, .int .i64 0, .int .i64 0, .int .i64 0, .slice (some ⟨w.heap.size, 0, none⟩) 3 3, .int .i64 1, .bool false, .int .i64 0, .int .i64 0, .int .i64 0, .slice (some ⟨w.heap.size + 1, 0, none⟩) 3 3, .int .i64 6, .bool false, .int .i64 0, .int .i64 0, .int .i64 0, .slice none 0 0, .int .i64 7, .bool false, .int .i64 1, .int .i64 0, .int .i64 0, .slice (some ⟨w.heap.size + 1 + 1, 0, none⟩) 3 3, .int .i64 6, .bool false, .int .i64 0, .int .i64 0, .int .i64 0, .slice none 0 0, .int .i64 7, .bool false, .int .i64 1, .int .i64 0, .int .i64 0, .slice (some ⟨w.heap.size + 1 + 1 + 1, 0, none⟩) 3 3, .int .i64 6, .bool false, .int .i64 0, .int .i64 0, .int .i64 0, .slice none 0 0] 33)) ro (some ⟨w.heap.size + 1 + 1 + 1 + 1, 0, none⟩) 7 [⟨1, false, 0, 0, 0, some ⟨w.heap.size, 0, none⟩, 3, 3, [97, 98, 99]⟩, ⟨1, false, 0, 0, 0, some ⟨w.heap.size + 1, 0, none⟩, 3, 3, [120, 121, 122]⟩, ⟨6, false, 0, 0, 0, none, 0, 0, []⟩, ⟨7, false, 1, 0, 0, some ⟨w.heap.size + 1 + 1, 0, none⟩, 3, 3, [112, 113, 114]⟩, ⟨6, false, 0, 0, 0, none, 0, 0, []⟩, ⟨7, false, 1, 0, 0, some ⟨w.heap.size + 1 + 1 + 1, 0, none⟩, 3, 3, [115, 116, 117]⟩, ⟨6, false, 0, 0, 0, none, 0, 0, []⟩] ∧ Below w.heap.size w (((((w.alloc (.cells #[.int .u8 97, .int .u8 98, .int .u8 99] 5 (3, 4))).alloc (.cells #[.int .u8 120, .int .u8 121, .int .u8 122] 5 (3, 4))).alloc (.cells #[.int .u8 112, .int .u8 113, .int .u8 114] 5 (3, 4))).alloc (.cells #[.int .u8 115, .int .u8 116, .int .u8 117] 5 (3, 4))).alloc (.cells #[.int .i64 1, .bool false, .int .i64 0, .int .i64 0, .int .i64 0, .slice (some ⟨w.heap.size, 0, none⟩) 3 3, .int .i64 1, .bool false, .int .i64 0, .int .i64 0, .int .i64 0, .slice (some ⟨w.heap.size + 1, 0, none⟩) 3 3, .int .i64 6, .bool false, .int .i64 0, .int .i64 0, .int .i64 0, .slice none 0 0, .int .i64 7, .bool false, .int .i64 1, .int .i64 0, .int .i64 0, .slice (some ⟨w.heap.size + 1 + 1, 0, none⟩) 3 3, .int .i64 6, .bool false, .int .i64 0, .int .i64 0, .int .i64 0, .slice none 0 0, .int .i64 7, .bool false, .int .i64 1, .int .i64 0, .int .i64 0, .slice (some ⟨w.heap.size + 1 + 1 + 1, 0, none⟩) 3 3, .int .i64 6, .bool false, .int .i64 0, .int .i64 0, .int .i64 0, .slice none 0 0] 33)) := by
  have al : ∀ (x : World) (o : Obj), Below x.heap.size x (x.alloc o) := fun x o => (Below.refl _ _).alloc (Nat.le_refl _) _
  have s0 := seg_three w 97 98 99 (3, 4)
  have s1 := seg_three (w.alloc (.cells #[.int .u8 97, .int .u8 98, .int .u8 99] 5 (3, 4))) 120 121 122 (3, 4)
  simp only [sz_alloc] at s1
  have s2 := seg_three ((w.alloc (.cells #[.int .u8 97, .int .u8 98, .int .u8 99] 5 (3, 4))).alloc (.cells #[.int .u8 120, .int .u8 121, .int .u8 122] 5 (3, 4))) 112 113 114 (3, 4)
  simp only [sz_alloc] at s2
  have s3 := seg_three (((w.alloc (.cells #[.int .u8 97, .int .u8 98, .int .u8 99] 5 (3, 4))).alloc (.cells #[.int .u8 120, .int .u8 121, .int .u8 122] 5 (3, 4))).alloc (.cells #[.int .u8 112, .int .u8 113, .int .u8 114] 5 (3, 4))) 115 116 117 (3, 4)
  simp only [sz_alloc] at s3
  have B := blk_new ((((w.alloc (.cells #[.int .u8 97, .int .u8 98, .int .u8 99] 5 (3, 4))).alloc (.cells #[.int .u8 120, .int .u8 121, .int .u8 122] 5 (3, 4))).alloc (.cells #[.int .u8 112, .int .u8 113, .int .u8 114] 5 (3, 4))).alloc (.cells #[.int .u8 115, .int .u8 116, .int .u8 117] 5 (3, 4))) 33 [.int .i64 1, .bool false, .int .i64 0, .int .i64 0, .int .i64 0, .slice (some ⟨w.heap.size, 0, none⟩) 3 3, .int .i64 1, .bool false, .int .i64 0, .int .i64 0, .int .i64 0, .slice (some ⟨w.heap.size + 1, 0, none⟩) 3 3, .int .i64 6, .bool false, .int .i64 0, .int .i64 0, .int .i64 0, .slice none 0 0, .int .i64 7, .bool false, .int .i64 1, .int .i64 0, .int .i64 0, .slice (some ⟨w.heap.size + 1 + 1, 0, none⟩) 3 3, .int .i64 6, .bool false, .int .i64 0, .int .i64 0, .int .i64 0, .slice none 0 0, .int .i64 7, .bool false, .int .i64 1, .int .i64 0, .int .i64 0, .slice (some ⟨w.heap.size + 1 + 1 + 1, 0, none⟩) 3 3, .int .i64 6, .bool false, .int .i64 0, .int .i64 0, .int .i64 0, .slice none 0 0]
  simp only [sz_alloc] at B
  have q0 : Seg (((((w.alloc (.cells #[.int .u8 97, .int .u8 98, .int .u8 99] 5 (3, 4))).alloc (.cells #[.int .u8 120, .int .u8 121, .int .u8 122] 5 (3, 4))).alloc (.cells #[.int .u8 112, .int .u8 113, .int .u8 114] 5 (3, 4))).alloc (.cells #[.int .u8 115, .int .u8 116, .int .u8 117] 5 (3, 4))).alloc (.cells #[.int .i64 1, .bool false, .int .i64 0, .int .i64 0, .int .i64 0, .slice (some ⟨w.heap.size, 0, none⟩) 3 3, .int .i64 1, .bool false, .int .i64 0, .int .i64 0, .int .i64 0, .slice (some ⟨w.heap.size + 1, 0, none⟩) 3 3, .int .i64 6, .bool false, .int .i64 0, .int .i64 0, .int .i64 0, .slice none 0 0, .int .i64 7, .bool false, .int .i64 1, .int .i64 0, .int .i64 0, .slice (some ⟨w.heap.size + 1 + 1, 0, none⟩) 3 3, .int .i64 6, .bool false, .int .i64 0, .int .i64 0, .int .i64 0, .slice none 0 0, .int .i64 7, .bool false, .int .i64 1, .int .i64 0, .int .i64 0, .slice (some ⟨w.heap.size + 1 + 1 + 1, 0, none⟩) 3 3, .int .i64 6, .bool false, .int .i64 0, .int .i64 0, .int .i64 0, .slice none 0 0] 33)) (some ⟨w.heap.size, 0, none⟩) 3 [97, 98, 99] := ((((s0.below (al _ _) (Nat.le_refl _)).below (al _ _) (Nat.le_refl _)).below (al _ _) (Nat.le_refl _)).below (al _ _) (Nat.le_refl _))
  have q1 : Seg (((((w.alloc (.cells #[.int .u8 97, .int .u8 98, .int .u8 99] 5 (3, 4))).alloc (.cells #[.int .u8 120, .int .u8 121, .int .u8 122] 5 (3, 4))).alloc (.cells #[.int .u8 112, .int .u8 113, .int .u8 114] 5 (3, 4))).alloc (.cells #[.int .u8 115, .int .u8 116, .int .u8 117] 5 (3, 4))).alloc (.cells #[.int .i64 1, .bool false, .int .i64 0, .int .i64 0, .int .i64 0, .slice (some ⟨w.heap.size, 0, none⟩) 3 3, .int .i64 1, .bool false, .int .i64 0, .int .i64 0, .int .i64 0, .slice (some ⟨w.heap.size + 1, 0, none⟩) 3 3, .int .i64 6, .bool false, .int .i64 0, .int .i64 0, .int .i64 0, .slice none 0 0, .int .i64 7, .bool false, .int .i64 1, .int .i64 0, .int .i64 0, .slice (some ⟨w.heap.size + 1 + 1, 0, none⟩) 3 3, .int .i64 6, .bool false, .int .i64 0, .int .i64 0, .int .i64 0, .slice none 0 0, .int .i64 7, .bool false, .int .i64 1, .int .i64 0, .int .i64 0, .slice (some ⟨w.heap.size + 1 + 1 + 1, 0, none⟩) 3 3, .int .i64 6, .bool false, .int .i64 0, .int .i64 0, .int .i64 0, .slice none 0 0] 33)) (some ⟨w.heap.size + 1, 0, none⟩) 3 [120, 121, 122] := (((s1.below (al _ _) (Nat.le_refl _)).below (al _ _) (Nat.le_refl _)).below (al _ _) (Nat.le_refl _))
  have q2 : Seg (((((w.alloc (.cells #[.int .u8 97, .int .u8 98, .int .u8 99] 5 (3, 4))).alloc (.cells #[.int .u8 120, .int .u8 121, .int .u8 122] 5 (3, 4))).alloc (.cells #[.int .u8 112, .int .u8 113, .int .u8 114] 5 (3, 4))).alloc (.cells #[.int .u8 115, .int .u8 116, .int .u8 117] 5 (3, 4))).alloc (.cells #[.int .i64 1, .bool false, .int .i64 0, .int .i64 0, .int .i64 0, .slice (some ⟨w.heap.size, 0, none⟩) 3 3, .int .i64 1, .bool false, .int .i64 0, .int .i64 0, .int .i64 0, .slice (some ⟨w.heap.size + 1, 0, none⟩) 3 3, .int .i64 6, .bool false, .int .i64 0, .int .i64 0, .int .i64 0, .slice none 0 0, .int .i64 7, .bool false, .int .i64 1, .int .i64 0, .int .i64 0, .slice (some ⟨w.heap.size + 1 + 1, 0, none⟩) 3 3, .int .i64 6, .bool false, .int .i64 0, .int .i64 0, .int .i64 0, .slice none 0 0, .int .i64 7, .bool false, .int .i64 1, .int .i64 0, .int .i64 0, .slice (some ⟨w.heap.size + 1 + 1 + 1, 0, none⟩) 3 3, .int .i64 6, .bool false, .int .i64 0, .int .i64 0, .int .i64 0, .slice none 0 0] 33)) (some ⟨w.heap.size + 1 + 1, 0, none⟩) 3 [112, 113, 114] := ((s2.below (al _ _) (Nat.le_refl _)).below (al _ _) (Nat.le_refl _))
  have q3 : Seg (((((w.alloc (.cells #[.int .u8 97, .int .u8 98, .int .u8 99] 5 (3, 4))).alloc (.cells #[.int .u8 120, .int .u8 121, .int .u8 122] 5 (3, 4))).alloc (.cells #[.int .u8 112, .int .u8 113, .int .u8 114] 5 (3, 4))).alloc (.cells #[.int .u8 115, .int .u8 116, .int .u8 117] 5 (3, 4))).alloc (.cells #[.int .i64 1, .bool false, .int .i64 0, .int .i64 0, .int .i64 0, .slice (some ⟨w.heap.size, 0, none⟩) 3 3, .int .i64 1, .bool false, .int .i64 0, .int .i64 0, .int .i64 0, .slice (some ⟨w.heap.size + 1, 0, none⟩) 3 3, .int .i64 6, .bool false, .int .i64 0, .int .i64 0, .int .i64 0, .slice none 0 0, .int .i64 7, .bool false, .int .i64 1, .int .i64 0, .int .i64 0, .slice (some ⟨w.heap.size + 1 + 1, 0, none⟩) 3 3, .int .i64 6, .bool false, .int .i64 0, .int .i64 0, .int .i64 0, .slice none 0 0, .int .i64 7, .bool false, .int .i64 1, .int .i64 0, .int .i64 0, .slice (some ⟨w.heap.size + 1 + 1 + 1, 0, none⟩) 3 3, .int .i64 6, .bool false, .int .i64 0, .int .i64 0, .int .i64 0, .slice none 0 0] 33)) (some ⟨w.heap.size + 1 + 1 + 1, 0, none⟩) 3 [115, 116, 117] := (s3.below (al _ _) (Nat.le_refl _))
  have b4 : Below w.heap.size w (((((w.alloc (.cells #[.int .u8 97, .int .u8 98, .int .u8 99] 5 (3, 4))).alloc (.cells #[.int .u8 120, .int .u8 121, .int .u8 122] 5 (3, 4))).alloc (.cells #[.int .u8 112, .int .u8 113, .int .u8 114] 5 (3, 4))).alloc (.cells #[.int .u8 115, .int .u8 116, .int .u8 117] 5 (3, 4))).alloc (.cells #[.int .i64 1, .bool false, .int .i64 0, .int .i64 0, .int .i64 0, .slice (some ⟨w.heap.size, 0, none⟩) 3 3, .int .i64 1, .bool false, .int .i64 0, .int .i64 0, .int .i64 0, .slice (some ⟨w.heap.size + 1, 0, none⟩) 3 3, .int .i64 6, .bool false, .int .i64 0, .int .i64 0, .int .i64 0, .slice none 0 0, .int .i64 7, .bool false, .int .i64 1, .int .i64 0, .int .i64 0, .slice (some ⟨w.heap.size + 1 + 1, 0, none⟩) 3 3, .int .i64 6, .bool false, .int .i64 0, .int .i64 0, .int .i64 0, .slice none 0 0, .int .i64 7, .bool false, .int .i64 1, .int .i64 0, .int .i64 0, .slice (some ⟨w.heap.size + 1 + 1 + 1, 0, none⟩) 3 3, .int .i64 6, .bool false, .int .i64 0, .int .i64 0, .int .i64 0, .slice none 0 0] 33)) := (((((al _ _).trans ((al _ _).mono (by simp only [sz_alloc]; omega))).trans ((al _ _).mono (by simp only [sz_alloc]; omega))).trans ((al _ _).mono (by simp only [sz_alloc]; omega))).trans ((al _ _).mono (by simp only [sz_alloc]; omega)))
  have zz : (((((w.alloc (.cells #[.int .u8 97, .int .u8 98, .int .u8 99] 5 (3, 4))).alloc (.cells #[.int .u8 120, .int .u8 121, .int .u8 122] 5 (3, 4))).alloc (.cells #[.int .u8 112, .int .u8 113, .int .u8 114] 5 (3, 4))).alloc (.cells #[.int .u8 115, .int .u8 116, .int .u8 117] 5 (3, 4))).alloc (.cells #[.int .i64 1, .bool false, .int .i64 0, .int .i64 0, .int .i64 0, .slice (some ⟨w.heap.size, 0, none⟩) 3 3, .int .i64 1, .bool false, .int .i64 0, .int .i64 0, .int .i64 0, .slice (some ⟨w.heap.size + 1, 0, none⟩) 3 3, .int .i64 6, .bool false, .int .i64 0, .int .i64 0, .int .i64 0, .slice none 0 0, .int .i64 7, .bool false, .int .i64 1, .int .i64 0, .int .i64 0, .slice (some ⟨w.heap.size + 1 + 1, 0, none⟩) 3 3, .int .i64 6, .bool false, .int .i64 0, .int .i64 0, .int .i64 0, .slice none 0 0, .int .i64 7, .bool false, .int .i64 1, .int .i64 0, .int .i64 0, .slice (some ⟨w.heap.size + 1 + 1 + 1, 0, none⟩) 3 3, .int .i64 6, .bool false, .int .i64 0, .int .i64 0, .int .i64 0, .slice none 0 0] 33)).heap.size = w.heap.size + 1 + 1 + 1 + 1 + 1 := by simp only [sz_alloc]
  have dz : ∀ i, i < 5 → w.heap.size + i < (((((w.alloc (.cells #[.int .u8 97, .int .u8 98, .int .u8 99] 5 (3, 4))).alloc (.cells #[.int .u8 120, .int .u8 121, .int .u8 122] 5 (3, 4))).alloc (.cells #[.int .u8 112, .int .u8 113, .int .u8 114] 5 (3, 4))).alloc (.cells #[.int .u8 115, .int .u8 116, .int .u8 117] 5 (3, 4))).alloc (.cells #[.int .i64 1, .bool false, .int .i64 0, .int .i64 0, .int .i64 0, .slice (some ⟨w.heap.size, 0, none⟩) 3 3, .int .i64 1, .bool false, .int .i64 0, .int .i64 0, .int .i64 0, .slice (some ⟨w.heap.size + 1, 0, none⟩) 3 3, .int .i64 6, .bool false, .int .i64 0, .int .i64 0, .int .i64 0, .slice none 0 0, .int .i64 7, .bool false, .int .i64 1, .int .i64 0, .int .i64 0, .slice (some ⟨w.heap.size + 1 + 1, 0, none⟩) 3 3, .int .i64 6, .bool false, .int .i64 0, .int .i64 0, .int .i64 0, .slice none 0 0, .int .i64 7, .bool false, .int .i64 1, .int .i64 0, .int .i64 0, .slice (some ⟨w.heap.size + 1 + 1 + 1, 0, none⟩) 3 3, .int .i64 6, .bool false, .int .i64 0, .int .i64 0, .int .i64 0, .slice none 0 0] 33)).heap.size ∧ ro (w.heap.size + i) = 0 := fun i hi => ⟨by rw [zz]; omega, hz _ (by omega)⟩
  refine ⟨⟨⟨rfl, by decide, fun _ => ⟨_, 0, rfl, fun i hi => ?_⟩, fun i hi => ?_⟩, fun x hx _ => ?_, fun i hi x hx h0 => ?_⟩, b4⟩
  · match i, hi with
    | 0, _ => exact ⟨B.cell 0 _ rfl, B.cell 1 _ rfl, B.cell 2 _ rfl, B.cell 3 _ rfl, B.cell 4 _ rfl, B.cell 5 _ rfl⟩
    | 1, _ => exact ⟨B.cell 6 _ rfl, B.cell 7 _ rfl, B.cell 8 _ rfl, B.cell 9 _ rfl, B.cell 10 _ rfl, B.cell 11 _ rfl⟩
    | 2, _ => exact ⟨B.cell 12 _ rfl, B.cell 13 _ rfl, B.cell 14 _ rfl, B.cell 15 _ rfl, B.cell 16 _ rfl, B.cell 17 _ rfl⟩
    | 3, _ => exact ⟨B.cell 18 _ rfl, B.cell 19 _ rfl, B.cell 20 _ rfl, B.cell 21 _ rfl, B.cell 22 _ rfl, B.cell 23 _ rfl⟩
    | 4, _ => exact ⟨B.cell 24 _ rfl, B.cell 25 _ rfl, B.cell 26 _ rfl, B.cell 27 _ rfl, B.cell 28 _ rfl, B.cell 29 _ rfl⟩
    | 5, _ => exact ⟨B.cell 30 _ rfl, B.cell 31 _ rfl, B.cell 32 _ rfl, B.cell 33 _ rfl, B.cell 34 _ rfl, B.cell 35 _ rfl⟩
    | 6, _ => exact ⟨B.cell 36 _ rfl, B.cell 37 _ rfl, B.cell 38 _ rfl, B.cell 39 _ rfl, B.cell 40 _ rfl, B.cell 41 _ rfl⟩
  · match i, hi with
    | 0, _ => exact okL 1 0 q0 (by intro z hz; simp only [List.mem_cons, List.not_mem_nil, or_false] at hz; omega) (by decide) ⟨by decide, by decide⟩
    | 1, _ => exact okL 1 0 q1 (by intro z hz; simp only [List.mem_cons, List.not_mem_nil, or_false] at hz; omega) (by decide) ⟨by decide, by decide⟩
    | 2, _ => exact okN _ 6 0 ⟨by decide, by decide⟩
    | 3, _ => exact okL 7 1 q2 (by intro z hz; simp only [List.mem_cons, List.not_mem_nil, or_false] at hz; omega) (by decide) ⟨by decide, by decide⟩
    | 4, _ => exact okN _ 6 0 ⟨by decide, by decide⟩
    | 5, _ => exact okL 7 1 q3 (by intro z hz; simp only [List.mem_cons, List.not_mem_nil, or_false] at hz; omega) (by decide) ⟨by decide, by decide⟩
    | 6, _ => exact okN _ 6 0 ⟨by decide, by decide⟩
  · cases hx; exact dz 4 (by decide)
  · match i, hi with
    | 0, _ => cases hx; exact dz 0 (by decide)
    | 1, _ => cases hx; exact dz 1 (by decide)
    | 2, _ => cases hx
    | 3, _ => cases hx; exact dz 2 (by decide)
    | 4, _ => cases hx
    | 5, _ => cases hx; exact dz 3 (by decide)
    | 6, _ => cases hx

set_option maxRecDepth 100000 in
theorem head_lit (w : World) (ro : Nat → Nat) (hz : ∀ k, w.heap.size ≤ k → ro k = 0) : OSegR (((w.alloc (.cells #[.int .u8 97, .int .u8 98, .int .u8 99] 5 (3, 4))).alloc (.cells #[.int .u8 100, .int .u8 101] 5 (2, 3))).alloc (.cells #[.int .i64 1, .bool false, .int .i64 0, .int .i64 0, .int .i64 0, .slice (some ⟨w.heap.size, 0, none⟩) 3 3, .int .i64 6, .bool false, .int .i64 0, .int .i64 0, .int .i64 0, .slice none 0 0, .int .i64 2, .bool false, .int .i64 0, .int .i64 0, .int .i64 0, .slice none 0 0, .int .i64 1, .bool false, .int .i64 0, .int .i64 0, .int .i64 0, .slice (some ⟨w.heap.size + 1, 0, none⟩) 2 2, .int .i64 6, .bool false, .int .i64 0, .int .i64 0, .int .i64 0, .slice none 0 0, .int .i64 3, .bool false, .int .i64 0, .int .i64 0, .int .i64 0, .slice none 0 0] 33)) ro (some ⟨w.heap.size + 1 + 1, 0, none⟩) 6 [⟨1, false, 0, 0, 0, some ⟨w.heap.size, 0, none⟩, 3, 3, [97, 98, 99]⟩, ⟨6, false, 0, 0, 0, none, 0, 0, []⟩, ⟨2, false, 0, 0, 0, none, 0, 0, []⟩, ⟨1, false, 0, 0, 0, some ⟨w.heap.size + 1, 0, none⟩, 2, 2, [100, 101]⟩, ⟨6, false, 0, 0, 0, none, 0, 0, []⟩, ⟨3, false, 0, 0, 0, none, 0, 0, []⟩] ∧ Below w.heap.size w (((w.alloc (.cells #[.int .u8 97, .int .u8 98, .int .u8 99] 5 (3, 4))).alloc (.cells #[.int .u8 100, .int .u8 101] 5 (2, 3))).alloc (.cells #[.int .i64 1, .bool false, .int .i64 0, .int .i64 0, .int .i64 0, .slice (some ⟨w.heap.size, 0, none⟩) 3 3, .int .i64 6, .bool false, .int .i64 0, .int .i64 0, .int .i64 0, .slice none 0 0, .int .i64 2, .bool false, .int .i64 0, .int .i64 0, .int .i64 0, .slice none 0 0, .int .i64 1, .bool false, .int .i64 0, .int .i64 0, .int .i64 0, .slice (some ⟨w.heap.size + 1, 0, none⟩) 2 2, .int .i64 6, .bool false, .int .i64 0, .int .i64 0, .int .i64 0, .slice none 0 0, .int .i64 3, .bool false, .int .i64 0, .int .i64 0, .int .i64 0, .slice none 0 0] 33)) := by
  have al : ∀ (x : World) (o : Obj), Below x.heap.size x (x.alloc o) := fun x o => (Below.refl _ _).alloc (Nat.le_refl _) _
  have s0 := seg_three w 97 98 99 (3, 4)
  have s1 := seg_two (w.alloc (.cells #[.int .u8 97, .int .u8 98, .int .u8 99] 5 (3, 4))) 100 101 (2, 3)
  simp only [sz_alloc] at s1
  have B := blk_new ((w.alloc (.cells #[.int .u8 97, .int .u8 98, .int .u8 99] 5 (3, 4))).alloc (.cells #[.int .u8 100, .int .u8 101] 5 (2, 3))) 33 [.int .i64 1, .bool false, .int .i64 0, .int .i64 0, .int .i64 0, .slice (some ⟨w.heap.size, 0, none⟩) 3 3, .int .i64 6, .bool false, .int .i64 0, .int .i64 0, .int .i64 0, .slice none 0 0, .int .i64 2, .bool false, .int .i64 0, .int .i64 0, .int .i64 0, .slice none 0 0, .int .i64 1, .bool false, .int .i64 0, .int .i64 0, .int .i64 0, .slice (some ⟨w.heap.size + 1, 0, none⟩) 2 2, .int .i64 6, .bool false, .int .i64 0, .int .i64 0, .int .i64 0, .slice none 0 0, .int .i64 3, .bool false, .int .i64 0, .int .i64 0, .int .i64 0, .slice none 0 0]
  simp only [sz_alloc] at B
  have q0 : Seg (((w.alloc (.cells #[.int .u8 97, .int .u8 98, .int .u8 99] 5 (3, 4))).alloc (.cells #[.int .u8 100, .int .u8 101] 5 (2, 3))).alloc (.cells #[.int .i64 1, .bool false, .int .i64 0, .int .i64 0, .int .i64 0, .slice (some ⟨w.heap.size, 0, none⟩) 3 3, .int .i64 6, .bool false, .int .i64 0, .int .i64 0, .int .i64 0, .slice none 0 0, .int .i64 2, .bool false, .int .i64 0, .int .i64 0, .int .i64 0, .slice none 0 0, .int .i64 1, .bool false, .int .i64 0, .int .i64 0, .int .i64 0, .slice (some ⟨w.heap.size + 1, 0, none⟩) 2 2, .int .i64 6, .bool false, .int .i64 0, .int .i64 0, .int .i64 0, .slice none 0 0, .int .i64 3, .bool false, .int .i64 0, .int .i64 0, .int .i64 0, .slice none 0 0] 33)) (some ⟨w.heap.size, 0, none⟩) 3 [97, 98, 99] := ((s0.below (al _ _) (Nat.le_refl _)).below (al _ _) (Nat.le_refl _))
  have q1 : Seg (((w.alloc (.cells #[.int .u8 97, .int .u8 98, .int .u8 99] 5 (3, 4))).alloc (.cells #[.int .u8 100, .int .u8 101] 5 (2, 3))).alloc (.cells #[.int .i64 1, .bool false, .int .i64 0, .int .i64 0, .int .i64 0, .slice (some ⟨w.heap.size, 0, none⟩) 3 3, .int .i64 6, .bool false, .int .i64 0, .int .i64 0, .int .i64 0, .slice none 0 0, .int .i64 2, .bool false, .int .i64 0, .int .i64 0, .int .i64 0, .slice none 0 0, .int .i64 1, .bool false, .int .i64 0, .int .i64 0, .int .i64 0, .slice (some ⟨w.heap.size + 1, 0, none⟩) 2 2, .int .i64 6, .bool false, .int .i64 0, .int .i64 0, .int .i64 0, .slice none 0 0, .int .i64 3, .bool false, .int .i64 0, .int .i64 0, .int .i64 0, .slice none 0 0] 33)) (some ⟨w.heap.size + 1, 0, none⟩) 2 [100, 101] := (s1.below (al _ _) (Nat.le_refl _))
  have b2 : Below w.heap.size w (((w.alloc (.cells #[.int .u8 97, .int .u8 98, .int .u8 99] 5 (3, 4))).alloc (.cells #[.int .u8 100, .int .u8 101] 5 (2, 3))).alloc (.cells #[.int .i64 1, .bool false, .int .i64 0, .int .i64 0, .int .i64 0, .slice (some ⟨w.heap.size, 0, none⟩) 3 3, .int .i64 6, .bool false, .int .i64 0, .int .i64 0, .int .i64 0, .slice none 0 0, .int .i64 2, .bool false, .int .i64 0, .int .i64 0, .int .i64 0, .slice none 0 0, .int .i64 1, .bool false, .int .i64 0, .int .i64 0, .int .i64 0, .slice (some ⟨w.heap.size + 1, 0, none⟩) 2 2, .int .i64 6, .bool false, .int .i64 0, .int .i64 0, .int .i64 0, .slice none 0 0, .int .i64 3, .bool false, .int .i64 0, .int .i64 0, .int .i64 0, .slice none 0 0] 33)) := (((al _ _).trans ((al _ _).mono (by simp only [sz_alloc]; omega))).trans ((al _ _).mono (by simp only [sz_alloc]; omega)))
  have zz : (((w.alloc (.cells #[.int .u8 97, .int .u8 98, .int .u8 99] 5 (3, 4))).alloc (.cells #[.int .u8 100, .int .u8 101] 5 (2, 3))).alloc (.cells #[.int .i64 1, .bool false, .int .i64 0, .int .i64 0, .int .i64 0, .slice (some ⟨w.heap.size, 0, none⟩) 3 3, .int .i64 6, .bool false, .int .i64 0, .int .i64 0, .int .i64 0, .slice none 0 0, .int .i64 2, .bool false, .int .i64 0, .int .i64 0, .int .i64 0, .slice none 0 0, .int .i64 1, .bool false, .int .i64 0, .int .i64 0, .int .i64 0, .slice (some ⟨w.heap.size + 1, 0, none⟩) 2 2, .int .i64 6, .bool false, .int .i64 0, .int .i64 0, .int .i64 0, .slice none 0 0, .int .i64 3, .bool false, .int .i64 0, .int .i64 0, .int .i64 0, .slice none 0 0] 33)).heap.size = w.heap.size + 1 + 1 + 1 := by simp only [sz_alloc]
  have dz : ∀ i, i < 3 → w.heap.size + i < (((w.alloc (.cells #[.int .u8 97, .int .u8 98, .int .u8 99] 5 (3, 4))).alloc (.cells #[.int .u8 100, .int .u8 101] 5 (2, 3))).alloc (.cells #[.int .i64 1, .bool false, .int .i64 0, .int .i64 0, .int .i64 0, .slice (some ⟨w.heap.size, 0, none⟩) 3 3, .int .i64 6, .bool false, .int .i64 0, .int .i64 0, .int .i64 0, .slice none 0 0, .int .i64 2, .bool false, .int .i64 0, .int .i64 0, .int .i64 0, .slice none 0 0, .int .i64 1, .bool false, .int .i64 0, .int .i64 0, .int .i64 0, .slice (some ⟨w.heap.size + 1, 0, none⟩) 2 2, .int .i64 6, .bool false, .int .i64 0, .int .i64 0, .int .i64 0, .slice none 0 0, .int .i64 3, .bool false, .int .i64 0, .int .i64 0, .int .i64 0, .slice none 0 0] 33)).heap.size ∧ ro (w.heap.size + i) = 0 := fun i hi => ⟨by rw [zz]; omega, hz _ (by omega)⟩
  refine ⟨⟨⟨rfl, by decide, fun _ => ⟨_, 0, rfl, fun i hi => ?_⟩, fun i hi => ?_⟩, fun x hx _ => ?_, fun i hi x hx h0 => ?_⟩, b2⟩
  · match i, hi with
    | 0, _ => exact ⟨B.cell 0 _ rfl, B.cell 1 _ rfl, B.cell 2 _ rfl, B.cell 3 _ rfl, B.cell 4 _ rfl, B.cell 5 _ rfl⟩
    | 1, _ => exact ⟨B.cell 6 _ rfl, B.cell 7 _ rfl, B.cell 8 _ rfl, B.cell 9 _ rfl, B.cell 10 _ rfl, B.cell 11 _ rfl⟩
    | 2, _ => exact ⟨B.cell 12 _ rfl, B.cell 13 _ rfl, B.cell 14 _ rfl, B.cell 15 _ rfl, B.cell 16 _ rfl, B.cell 17 _ rfl⟩
    | 3, _ => exact ⟨B.cell 18 _ rfl, B.cell 19 _ rfl, B.cell 20 _ rfl, B.cell 21 _ rfl, B.cell 22 _ rfl, B.cell 23 _ rfl⟩
    | 4, _ => exact ⟨B.cell 24 _ rfl, B.cell 25 _ rfl, B.cell 26 _ rfl, B.cell 27 _ rfl, B.cell 28 _ rfl, B.cell 29 _ rfl⟩
    | 5, _ => exact ⟨B.cell 30 _ rfl, B.cell 31 _ rfl, B.cell 32 _ rfl, B.cell 33 _ rfl, B.cell 34 _ rfl, B.cell 35 _ rfl⟩
  · match i, hi with
    | 0, _ => exact okL 1 0 q0 (by intro z hz; simp only [List.mem_cons, List.not_mem_nil, or_false] at hz; omega) (by decide) ⟨by decide, by decide⟩
    | 1, _ => exact okN _ 6 0 ⟨by decide, by decide⟩
    | 2, _ => exact okN _ 2 0 ⟨by decide, by decide⟩
    | 3, _ => exact okL 1 0 q1 (by intro z hz; simp only [List.mem_cons, List.not_mem_nil, or_false] at hz; omega) (by decide) ⟨by decide, by decide⟩
    | 4, _ => exact okN _ 6 0 ⟨by decide, by decide⟩
    | 5, _ => exact okN _ 3 0 ⟨by decide, by decide⟩
  · cases hx; exact dz 2 (by decide)
  · match i, hi with
    | 0, _ => cases hx; exact dz 0 (by decide)
    | 1, _ => cases hx
    | 2, _ => cases hx
    | 3, _ => cases hx; exact dz 1 (by decide)
    | 4, _ => cases hx
    | 5, _ => cases hx

set_option maxHeartbeats 8000000 in
set_option maxRecDepth 100000 in
theorem places_any (w : World) :
    Calls Try.prog 13 #[] w fun r w' => r = .returned (.bool true) ∧ Below w.heap.size w w' := by
  have kc : ∀ (w : World) (C : Array Value) (n c g : Nat), g = w.heap.size → Sem.run Try.prog (convert 27 27 (Value.slice (some ⟨g, 0, none⟩) n c)) (w.alloc (Obj.cells C 5)) = Result.ok (Value.slice (some ⟨g, 0, none⟩) n c) (w.alloc (Obj.cells C 5 (C.size, C.size + 1))) := by
    rintro w C n c g rfl
    exact Lib.run_convert_bytes_const (P := Try.prog) w 27 5 C n c Try.underlying27 Try.underlying5
  go_enter Try.func13, Try.ntmps13
  go_wp2_with fail
  refine (begun_any _ w.heap.size (Nat.le_refl _) (fun _ => 0) 0).mono ?_
  rintro e w1 ⟨pb, b0, rb0, ro0, rfl, hpb, hb1, hag, P1⟩
  have c0 := P1.box.cell 0 _ rfl
  obtain ⟨ro1, hro1⟩ : ∃ ro1 : Nat → Nat, ro1 = fun k => if k < w1.heap.size then ro0 k else 0 := ⟨_, rfl⟩
  have AG1 : ∀ k, k < w1.heap.size → ro1 k = ro0 k := fun k hk => by rw [hro1]; exact if_pos hk
  have hsz := hb1.size
  have RZ1 : Hid (∀ k, k < w.heap.size → ro1 k = 0) := fun k hk => (AG1 k (by omega)).trans (hag k hk)
  obtain ⟨hOS, hbl⟩ := places_lit w1 ro1 (fun k hk => by rw [hro1]; exact if_neg (by omega))
  have OS1 := hide hOS
  have PA1 : Hid (PA _ ro1 0 pb w.heap.size) := PA.later (PA.rerole ⟨_, _, _, _, _, _, _, _, _, P1⟩ AG1) hbl
  have B1 := hide (hb1.trans (hbl.mono hsz))
  obtain ⟨OPS, hOPS⟩ : ∃ OPS : Nat → List OpD, OPS = fun _ => [⟨1, false, 0, 0, 0, some ⟨w1.heap.size, 0, none⟩, 3, 3, [97, 98, 99]⟩, ⟨1, false, 0, 0, 0, some ⟨w1.heap.size + 1, 0, none⟩, 3, 3, [120, 121, 122]⟩, ⟨6, false, 0, 0, 0, none, 0, 0, []⟩, ⟨7, false, 1, 0, 0, some ⟨w1.heap.size + 1 + 1, 0, none⟩, 3, 3, [112, 113, 114]⟩, ⟨6, false, 0, 0, 0, none, 0, 0, []⟩, ⟨7, false, 1, 0, 0, some ⟨w1.heap.size + 1 + 1 + 1, 0, none⟩, 3, 3, [115, 116, 117]⟩, ⟨6, false, 0, 0, 0, none, 0, 0, []⟩] := ⟨_, rfl⟩
  rw [show [⟨1, false, 0, 0, 0, some ⟨w1.heap.size, 0, none⟩, 3, 3, [97, 98, 99]⟩, ⟨1, false, 0, 0, 0, some ⟨w1.heap.size + 1, 0, none⟩, 3, 3, [120, 121, 122]⟩, ⟨6, false, 0, 0, 0, none, 0, 0, []⟩, ⟨7, false, 1, 0, 0, some ⟨w1.heap.size + 1 + 1, 0, none⟩, 3, 3, [112, 113, 114]⟩, ⟨6, false, 0, 0, 0, none, 0, 0, []⟩, ⟨7, false, 1, 0, 0, some ⟨w1.heap.size + 1 + 1 + 1, 0, none⟩, 3, 3, [115, 116, 117]⟩, ⟨6, false, 0, 0, 0, none, 0, 0, []⟩] = OPS 0 from by rw [hOPS]] at OS1
  clear P1 hb1 hpb hag hOS hbl hro1 AG1 hsz hOPS
  go_wp2
  go_loopw [3] (fun iv wr => ∃ (i : Nat) (ro : Nat → Nat), iv = .int .i64 (i : Int) ∧ i ≤ 7 ∧ Hid (PA wr ro 0 pb w.heap.size) ∧ Hid (OSegR wr ro (some ⟨w1.heap.size + 1 + 1 + 1 + 1, 0, none⟩) 7 (OPS 0)) ∧ Hid (Below w.heap.size w wr) ∧ Hid (∀ k, k < w.heap.size → ro k = 0)) (fun iv _ => 7 - (intOf iv).toNat)
  case atStart => exact ⟨0, ro1, rfl, Nat.zero_le _, PA1, OS1, B1, RZ1⟩
  case round =>
    clear c0 PA1 OS1 B1 RZ1
    obtain ⟨i, ro, rfl, hi, HP, HO, HB, HZ⟩ := hrel
    obtain ⟨lb, hlb⟩ : ∃ lb, lb = w1.heap.size + 1 + 1 + 1 + 1 := ⟨_, rfl⟩
    rw [← hlb] at HO ⊢
    clear hlb
    by_cases hlt : i < 7
    · obtain ⟨ab, ao, ea, hat⟩ := HO.out.seg.at_ (by omega)
      cases ea
      have AT := hat i hlt
      rw [Nat.zero_add] at AT
      have KO := hide (HO.out.seg.ok i hlt)
      have KD := hide (HO.out.at 0 hlt)
      generalize (OPS 0).getD i opdZ = o at AT KO KD
      clear hat
      obtain ⟨k0, k1, k2, k3, k4, k5⟩ := AT
      obtain ⟨kd, sc, ai, xi, ti, da, dn, dc, dl⟩ := o
      simp only at k0 k1 k2 k3 k4 k5
      have q9 : (i : Int) < 7 := by omega
      go_wp2_with fail
      refine (plays_any _ ro 0 pb w.heap.size HP.out ⟨kd, sc, ai, xi, ti, da, dn, dc, dl⟩ KO.out KD.out).mono ?_
      rintro e w2 ⟨rfl, st⟩
      obtain ⟨ro2, ag2, hp2⟩ := st.pa
      have HP2 := hide hp2
      have HO2 := hide (HO.out.step st ag2)
      have HB2 := hide (HB.out.trans (st.below HZ.out HB.out.size))
      have HZ2 : Hid (∀ k, k < w.heap.size → ro2 k = 0) := fun k hk => (ag2 k (Nat.lt_of_lt_of_le hk HB.out.size)).trans (HZ.out k hk)
      clear st ag2 hp2 k0 k1 k2 k3 k4 k5 HP HO HB HZ KO KD
      go_wp2
      go_roundw
      case rel => exact ⟨i + 1, ro2, by go_num, by omega, HP2, HO2, HB2, HZ2⟩
      case measure => simp [intOf]; omega
    · have q9 : ¬ ((i : Int) < 7) := by omega
      go_wp2
      go_ret
      exact ⟨rfl, HB.out⟩
end Go.Proofs.Ytahpnfbjpdnapaa
