/- Proved: for all that it is given RecordKin answers true: how the checks of kindred records stand to each other. Conditions: the tables of kinds and of rows and the five sentinels of package wire start as the program's text lays them (the card ties them). -/
import Derived.Test.YtlapgnbiflcpfaaGreatDoorJ41
import Derived.Test.YtlapgnbiflcpfaaGreatDoorJ44
import Derived.Test.YtlapgnbiflcpfaaGreatDoorJ42
import Derived.Test.YtlapgnbiflcpfaaGreatDoorTie
import Derived.Test.YtlapgnbiflcpfaaGreatDoorCards
import Derived.Deep.DeepHandedRow
import Derived.Deep.DeepWitnessRowRef
import Derived.Deep.QuietTactic
namespace Go.Proofs.YtlapgnbiflcpfaaGreatDoor
namespace recordKin
open Go.ChangeShapes Go.WideShapes Go.ChangeAt Go.RowKit Go.Wire1

theorem num6_q (e : Int) (w : World) :
    Calls Tryz.prog 11 #[.int .i64 e] w fun e' w' => e' = .returned (.int .i64 e) ∧ ∃ q, w' = w.drewN q := (num6_any e w).mono fun _ _ ⟨h1, h2⟩ => ⟨h1, 0, h2.symm⟩
set_option maxHeartbeats 4000000 in
set_option maxRecDepth 100000 in
theorem walk (n row num round who : Int) (c : Cm) (seq : Int) (da : Option Addr) (dn dc : Nat) (deps : List Int) (a : Nat → Addr) (w : World) (hd : SegI w da dn deps) (hk1 : c.key.size ≤ 140737488351232) (hk2 : c.key2.size ≤ 140737488351232) (hR : Rws w) (hK : Knd w) (he : Errs w a) :
    Calls Tryz.prog 5 #[.int .i64 n, .agg #[.int .i64 row, .int .i64 num], .agg #[.int .i64 round, .int .i64 who], .agg #[.int .i64 c.kind, .int .i64 c.client, .int .i64 c.req, .string c.key, .string c.key2, .string c.val, .string c.old, .int .i64 c.n], .int .i64 seq, .slice da dn dc] w fun e w' => e = .returned (.bool true) ∧ Below w.heap.size w w' := by
  obtain ⟨V, hV⟩ : ∃ V, V = ((w.alloc (.cells #[.int .i64 row, .int .i64 num] 23)).alloc (.cells #[.int .i64 round, .int .i64 who] 25)).alloc (.cells #[.int .i64 c.kind, .int .i64 c.client, .int .i64 c.req, .string c.key, .string c.key2, .string c.val, .string c.old, .int .i64 c.n] 27) := ⟨_, rfl⟩
  have BV : Hid (Below w.heap.size w V) := by rw [hV]; exact (((Below.refl _ w).alloc (Nat.le_refl _) _).alloc (by simp) _).alloc (by simp; omega) _
  have QV : Hid (Blk V w.heap.size [.int .i64 row, .int .i64 num] ∧ Blk V (w.heap.size + 1) [.int .i64 round, .int .i64 who] ∧ Blk V (w.heap.size + 2) [.int .i64 c.kind, .int .i64 c.client, .int .i64 c.req, .string c.key, .string c.key2, .string c.val, .string c.old, .int .i64 c.n]) := by
    rw [hV]
    refine ⟨((blk_new w 23 [.int .i64 row, .int .i64 num]).on ((Below.refl _ _).alloc (Nat.le_refl _) _)).on ((Below.refl _ _).alloc (Nat.le_refl _) _), ?_, ?_⟩
    · have := (blk_new (w.alloc (.cells #[.int .i64 row, .int .i64 num] 23)) 25 [.int .i64 round, .int .i64 who]).on ((Below.refl _ _).alloc (Nat.le_refl _) (.cells #[.int .i64 c.kind, .int .i64 c.client, .int .i64 c.req, .string c.key, .string c.key2, .string c.val, .string c.old, .int .i64 c.n] 27))
      rwa [show (w.alloc (.cells #[.int .i64 row, .int .i64 num] 23)).heap.size = w.heap.size + 1 by simp] at this
    · have := blk_new ((w.alloc (.cells #[.int .i64 row, .int .i64 num] 23)).alloc (.cells #[.int .i64 round, .int .i64 who] 25)) 27 [.int .i64 c.kind, .int .i64 c.client, .int .i64 c.req, .string c.key, .string c.key2, .string c.val, .string c.old, .int .i64 c.n]
      rwa [show ((w.alloc (.cells #[.int .i64 row, .int .i64 num] 23)).alloc (.cells #[.int .i64 round, .int .i64 who] 25)).heap.size = w.heap.size + 2 by simp] at this
  have hVs : w.heap.size ≤ V.heap.size := BV.out.size
  have HD := hide hd
  have K1 := hide hk1
  have K2 := hide hk2
  have HW := hide hR
  have HK := hide hK
  have HE := hide he
  have KIN := hide (kin n row num round who c seq da dn dc deps)
  clear hd hk1 hk2 hR hK he
  go_enter Tryz.func5, Tryz.ntmps5
  go_upto_region 1 with fail
  rw [← hV]
  clear hV
  go_wp2_with fail
  refine (there6_any a _ (HW.out.below BV.out (Nat.le_refl _)) (HK.out.below BV.out (Nat.le_refl _)) (HE.out.below BV.out (Nat.le_refl _))).mono ?_
  rintro e W0 ⟨rfl, hb⟩
  have BW0 : Hid (Below w.heap.size w W0) := BV.out.trans (hb.mono (by omega))
  have QW0 : Hid (Blk W0 w.heap.size [.int .i64 row, .int .i64 num] ∧ Blk W0 (w.heap.size + 1) [.int .i64 round, .int .i64 who] ∧ Blk W0 (w.heap.size + 2) [.int .i64 c.kind, .int .i64 c.client, .int .i64 c.req, .string c.key, .string c.key2, .string c.val, .string c.old, .int .i64 c.n]) := ⟨QV.out.1.on hb, QV.out.2.1.on hb, QV.out.2.2.on hb⟩
  have zW0 : w.heap.size ≤ W0.heap.size := BW0.out.size
  clear hb
  have W0c00 : W0.cell? ⟨w.heap.size, 0, none⟩ = some (.int .i64 row) := QW0.out.1.cell 0 _ rfl
  have W0c01 : W0.cell? ⟨w.heap.size, 1, none⟩ = some (.int .i64 num) := QW0.out.1.cell 1 _ rfl
  have W0c10 : W0.cell? ⟨w.heap.size + 1, 0, none⟩ = some (.int .i64 round) := QW0.out.2.1.cell 0 _ rfl
  have W0c11 : W0.cell? ⟨w.heap.size + 1, 1, none⟩ = some (.int .i64 who) := QW0.out.2.1.cell 1 _ rfl
  have W0c20 : W0.cell? ⟨w.heap.size + 2, 0, none⟩ = some (.int .i64 c.kind) := QW0.out.2.2.cell 0 _ rfl
  have W0c21 : W0.cell? ⟨w.heap.size + 2, 1, none⟩ = some (.int .i64 c.client) := QW0.out.2.2.cell 1 _ rfl
  have W0c22 : W0.cell? ⟨w.heap.size + 2, 2, none⟩ = some (.int .i64 c.req) := QW0.out.2.2.cell 2 _ rfl
  have W0c23 : W0.cell? ⟨w.heap.size + 2, 3, none⟩ = some (.string c.key) := QW0.out.2.2.cell 3 _ rfl
  have W0c24 : W0.cell? ⟨w.heap.size + 2, 4, none⟩ = some (.string c.key2) := QW0.out.2.2.cell 4 _ rfl
  have W0c25 : W0.cell? ⟨w.heap.size + 2, 5, none⟩ = some (.string c.val) := QW0.out.2.2.cell 5 _ rfl
  have W0c26 : W0.cell? ⟨w.heap.size + 2, 6, none⟩ = some (.string c.old) := QW0.out.2.2.cell 6 _ rfl
  have W0c27 : W0.cell? ⟨w.heap.size + 2, 7, none⟩ = some (.int .i64 c.n) := QW0.out.2.2.cell 7 _ rfl
  go_wp2_with (first | (refine wpList_build rfl 30 _ rfl [(0, Value.int .i64 3), (1, Value.agg #[.int .i64 row, .int .i64 num]), (2, Value.agg #[.int .i64 round, .int .i64 who]), (4, .agg #[.int .i64 c.kind, .int .i64 c.client, .int .i64 c.req, .string c.key, .string c.key2, .string c.val, .string c.old, .int .i64 c.n]), (5, Value.int .i64 seq), (6, Value.slice da dn dc)] rfl _ (built3 row num round who c seq da dn dc) ?_))
  clear W0c00 W0c01 W0c10 W0c11 W0c20 W0c21 W0c22 W0c23 W0c24 W0c25 W0c26 W0c27
  refine (recCheck_any n (mkR 3 false row num round who c seq da dn dc deps) _ ⟨HD.out.below BW0.out (Nat.le_refl _), K1.out, K2.out⟩ (HW.out.below BW0.out (Nat.le_refl _)) (HK.out.below BW0.out (Nat.le_refl _))).mono ?_
  rintro e W1 ⟨rfl, hb⟩
  obtain ⟨y3, hy3⟩ : ∃ y, Hid (chkR n (mkR 3 false row num round who c seq da dn dc deps) = y) := ⟨_, rfl⟩
  rw [hy3.out] at KIN ⊢
  have BW1 : Hid (Below w.heap.size w W1) := BW0.out.trans (hb.mono (by omega))
  have QW1 : Hid (Blk W1 w.heap.size [.int .i64 row, .int .i64 num] ∧ Blk W1 (w.heap.size + 1) [.int .i64 round, .int .i64 who] ∧ Blk W1 (w.heap.size + 2) [.int .i64 c.kind, .int .i64 c.client, .int .i64 c.req, .string c.key, .string c.key2, .string c.val, .string c.old, .int .i64 c.n]) := ⟨QW0.out.1.on hb, QW0.out.2.1.on hb, QW0.out.2.2.on hb⟩
  have zW1 : w.heap.size ≤ W1.heap.size := BW1.out.size
  clear hb hy3
  have W1c00 : W1.cell? ⟨w.heap.size, 0, none⟩ = some (.int .i64 row) := QW1.out.1.cell 0 _ rfl
  have W1c01 : W1.cell? ⟨w.heap.size, 1, none⟩ = some (.int .i64 num) := QW1.out.1.cell 1 _ rfl
  have W1c10 : W1.cell? ⟨w.heap.size + 1, 0, none⟩ = some (.int .i64 round) := QW1.out.2.1.cell 0 _ rfl
  have W1c11 : W1.cell? ⟨w.heap.size + 1, 1, none⟩ = some (.int .i64 who) := QW1.out.2.1.cell 1 _ rfl
  have W1c20 : W1.cell? ⟨w.heap.size + 2, 0, none⟩ = some (.int .i64 c.kind) := QW1.out.2.2.cell 0 _ rfl
  have W1c21 : W1.cell? ⟨w.heap.size + 2, 1, none⟩ = some (.int .i64 c.client) := QW1.out.2.2.cell 1 _ rfl
  have W1c22 : W1.cell? ⟨w.heap.size + 2, 2, none⟩ = some (.int .i64 c.req) := QW1.out.2.2.cell 2 _ rfl
  have W1c23 : W1.cell? ⟨w.heap.size + 2, 3, none⟩ = some (.string c.key) := QW1.out.2.2.cell 3 _ rfl
  have W1c24 : W1.cell? ⟨w.heap.size + 2, 4, none⟩ = some (.string c.key2) := QW1.out.2.2.cell 4 _ rfl
  have W1c25 : W1.cell? ⟨w.heap.size + 2, 5, none⟩ = some (.string c.val) := QW1.out.2.2.cell 5 _ rfl
  have W1c26 : W1.cell? ⟨w.heap.size + 2, 6, none⟩ = some (.string c.old) := QW1.out.2.2.cell 6 _ rfl
  have W1c27 : W1.cell? ⟨w.heap.size + 2, 7, none⟩ = some (.int .i64 c.n) := QW1.out.2.2.cell 7 _ rfl
  go_wp2_with (first | (refine wpList_build rfl 30 _ rfl [(0, Value.int .i64 3), (1, Value.agg #[.int .i64 row, .int .i64 num]), (2, Value.agg #[.int .i64 round, .int .i64 who]), (3, Value.bool true), (4, .agg #[.int .i64 c.kind, .int .i64 c.client, .int .i64 c.req, .string c.key, .string c.key2, .string c.val, .string c.old, .int .i64 c.n]), (5, Value.int .i64 seq), (6, Value.slice da dn dc)] rfl _ (built3s row num round who c seq da dn dc) ?_))
  clear W1c00 W1c01 W1c10 W1c11 W1c20 W1c21 W1c22 W1c23 W1c24 W1c25 W1c26 W1c27
  refine (recCheck_any n (mkR 3 true row num round who c seq da dn dc deps) _ ⟨HD.out.below BW1.out (Nat.le_refl _), K1.out, K2.out⟩ (HW.out.below BW1.out (Nat.le_refl _)) (HK.out.below BW1.out (Nat.le_refl _))).mono ?_
  rintro e W2 ⟨rfl, hb⟩
  obtain ⟨y3s, hy3s⟩ : ∃ y, Hid (chkR n (mkR 3 true row num round who c seq da dn dc deps) = y) := ⟨_, rfl⟩
  rw [hy3s.out] at KIN ⊢
  have BW2 : Hid (Below w.heap.size w W2) := BW1.out.trans (hb.mono (by omega))
  have QW2 : Hid (Blk W2 w.heap.size [.int .i64 row, .int .i64 num] ∧ Blk W2 (w.heap.size + 1) [.int .i64 round, .int .i64 who] ∧ Blk W2 (w.heap.size + 2) [.int .i64 c.kind, .int .i64 c.client, .int .i64 c.req, .string c.key, .string c.key2, .string c.val, .string c.old, .int .i64 c.n]) := ⟨QW1.out.1.on hb, QW1.out.2.1.on hb, QW1.out.2.2.on hb⟩
  have zW2 : w.heap.size ≤ W2.heap.size := BW2.out.size
  clear hb hy3s
  have W2c00 : W2.cell? ⟨w.heap.size, 0, none⟩ = some (.int .i64 row) := QW2.out.1.cell 0 _ rfl
  have W2c01 : W2.cell? ⟨w.heap.size, 1, none⟩ = some (.int .i64 num) := QW2.out.1.cell 1 _ rfl
  have W2c10 : W2.cell? ⟨w.heap.size + 1, 0, none⟩ = some (.int .i64 round) := QW2.out.2.1.cell 0 _ rfl
  have W2c11 : W2.cell? ⟨w.heap.size + 1, 1, none⟩ = some (.int .i64 who) := QW2.out.2.1.cell 1 _ rfl
  have W2c20 : W2.cell? ⟨w.heap.size + 2, 0, none⟩ = some (.int .i64 c.kind) := QW2.out.2.2.cell 0 _ rfl
  have W2c21 : W2.cell? ⟨w.heap.size + 2, 1, none⟩ = some (.int .i64 c.client) := QW2.out.2.2.cell 1 _ rfl
  have W2c22 : W2.cell? ⟨w.heap.size + 2, 2, none⟩ = some (.int .i64 c.req) := QW2.out.2.2.cell 2 _ rfl
  have W2c23 : W2.cell? ⟨w.heap.size + 2, 3, none⟩ = some (.string c.key) := QW2.out.2.2.cell 3 _ rfl
  have W2c24 : W2.cell? ⟨w.heap.size + 2, 4, none⟩ = some (.string c.key2) := QW2.out.2.2.cell 4 _ rfl
  have W2c25 : W2.cell? ⟨w.heap.size + 2, 5, none⟩ = some (.string c.val) := QW2.out.2.2.cell 5 _ rfl
  have W2c26 : W2.cell? ⟨w.heap.size + 2, 6, none⟩ = some (.string c.old) := QW2.out.2.2.cell 6 _ rfl
  have W2c27 : W2.cell? ⟨w.heap.size + 2, 7, none⟩ = some (.int .i64 c.n) := QW2.out.2.2.cell 7 _ rfl
  go_wp2_with (first | (refine wpList_build rfl 30 _ rfl [(0, Value.int .i64 4), (1, Value.agg #[.int .i64 row, .int .i64 num]), (2, Value.agg #[.int .i64 round, .int .i64 who]), (4, .agg #[.int .i64 c.kind, .int .i64 c.client, .int .i64 c.req, .string c.key, .string c.key2, .string c.val, .string c.old, .int .i64 c.n]), (5, Value.int .i64 seq), (6, Value.slice da dn dc)] rfl _ (built4 row num round who c seq da dn dc) ?_))
  clear W2c00 W2c01 W2c10 W2c11 W2c20 W2c21 W2c22 W2c23 W2c24 W2c25 W2c26 W2c27
  refine (recCheck_any n (mkR 4 false row num round who c seq da dn dc deps) _ ⟨HD.out.below BW2.out (Nat.le_refl _), K1.out, K2.out⟩ (HW.out.below BW2.out (Nat.le_refl _)) (HK.out.below BW2.out (Nat.le_refl _))).mono ?_
  rintro e W3 ⟨rfl, hb⟩
  obtain ⟨y4, hy4⟩ : ∃ y, Hid (chkR n (mkR 4 false row num round who c seq da dn dc deps) = y) := ⟨_, rfl⟩
  rw [hy4.out] at KIN ⊢
  have BW3 : Hid (Below w.heap.size w W3) := BW2.out.trans (hb.mono (by omega))
  have QW3 : Hid (Blk W3 w.heap.size [.int .i64 row, .int .i64 num] ∧ Blk W3 (w.heap.size + 1) [.int .i64 round, .int .i64 who] ∧ Blk W3 (w.heap.size + 2) [.int .i64 c.kind, .int .i64 c.client, .int .i64 c.req, .string c.key, .string c.key2, .string c.val, .string c.old, .int .i64 c.n]) := ⟨QW2.out.1.on hb, QW2.out.2.1.on hb, QW2.out.2.2.on hb⟩
  have zW3 : w.heap.size ≤ W3.heap.size := BW3.out.size
  clear hb hy4
  have W3c00 : W3.cell? ⟨w.heap.size, 0, none⟩ = some (.int .i64 row) := QW3.out.1.cell 0 _ rfl
  have W3c01 : W3.cell? ⟨w.heap.size, 1, none⟩ = some (.int .i64 num) := QW3.out.1.cell 1 _ rfl
  have W3c10 : W3.cell? ⟨w.heap.size + 1, 0, none⟩ = some (.int .i64 round) := QW3.out.2.1.cell 0 _ rfl
  have W3c11 : W3.cell? ⟨w.heap.size + 1, 1, none⟩ = some (.int .i64 who) := QW3.out.2.1.cell 1 _ rfl
  have W3c20 : W3.cell? ⟨w.heap.size + 2, 0, none⟩ = some (.int .i64 c.kind) := QW3.out.2.2.cell 0 _ rfl
  have W3c21 : W3.cell? ⟨w.heap.size + 2, 1, none⟩ = some (.int .i64 c.client) := QW3.out.2.2.cell 1 _ rfl
  have W3c22 : W3.cell? ⟨w.heap.size + 2, 2, none⟩ = some (.int .i64 c.req) := QW3.out.2.2.cell 2 _ rfl
  have W3c23 : W3.cell? ⟨w.heap.size + 2, 3, none⟩ = some (.string c.key) := QW3.out.2.2.cell 3 _ rfl
  have W3c24 : W3.cell? ⟨w.heap.size + 2, 4, none⟩ = some (.string c.key2) := QW3.out.2.2.cell 4 _ rfl
  have W3c25 : W3.cell? ⟨w.heap.size + 2, 5, none⟩ = some (.string c.val) := QW3.out.2.2.cell 5 _ rfl
  have W3c26 : W3.cell? ⟨w.heap.size + 2, 6, none⟩ = some (.string c.old) := QW3.out.2.2.cell 6 _ rfl
  have W3c27 : W3.cell? ⟨w.heap.size + 2, 7, none⟩ = some (.int .i64 c.n) := QW3.out.2.2.cell 7 _ rfl
  go_wp2_with (first | (refine wpList_build rfl 30 _ rfl [(0, Value.int .i64 5), (1, Value.agg #[.int .i64 row, .int .i64 num]), (4, .agg #[.int .i64 c.kind, .int .i64 c.client, .int .i64 c.req, .string c.key, .string c.key2, .string c.val, .string c.old, .int .i64 c.n]), (5, Value.int .i64 seq), (6, Value.slice da dn dc)] rfl _ (built5 row num c seq da dn dc) ?_))
  clear W3c00 W3c01 W3c10 W3c11 W3c20 W3c21 W3c22 W3c23 W3c24 W3c25 W3c26 W3c27
  refine (recCheck_any n (mkR 5 false row num 0 0 c seq da dn dc deps) _ ⟨HD.out.below BW3.out (Nat.le_refl _), K1.out, K2.out⟩ (HW.out.below BW3.out (Nat.le_refl _)) (HK.out.below BW3.out (Nat.le_refl _))).mono ?_
  rintro e W4 ⟨rfl, hb⟩
  obtain ⟨y5, hy5⟩ : ∃ y, Hid (chkR n (mkR 5 false row num 0 0 c seq da dn dc deps) = y) := ⟨_, rfl⟩
  rw [hy5.out] at KIN ⊢
  have BW4 : Hid (Below w.heap.size w W4) := BW3.out.trans (hb.mono (by omega))
  have QW4 : Hid (Blk W4 w.heap.size [.int .i64 row, .int .i64 num] ∧ Blk W4 (w.heap.size + 1) [.int .i64 round, .int .i64 who] ∧ Blk W4 (w.heap.size + 2) [.int .i64 c.kind, .int .i64 c.client, .int .i64 c.req, .string c.key, .string c.key2, .string c.val, .string c.old, .int .i64 c.n]) := ⟨QW3.out.1.on hb, QW3.out.2.1.on hb, QW3.out.2.2.on hb⟩
  have zW4 : w.heap.size ≤ W4.heap.size := BW4.out.size
  clear hb hy5
  have W4c00 : W4.cell? ⟨w.heap.size, 0, none⟩ = some (.int .i64 row) := QW4.out.1.cell 0 _ rfl
  have W4c01 : W4.cell? ⟨w.heap.size, 1, none⟩ = some (.int .i64 num) := QW4.out.1.cell 1 _ rfl
  have W4c10 : W4.cell? ⟨w.heap.size + 1, 0, none⟩ = some (.int .i64 round) := QW4.out.2.1.cell 0 _ rfl
  have W4c11 : W4.cell? ⟨w.heap.size + 1, 1, none⟩ = some (.int .i64 who) := QW4.out.2.1.cell 1 _ rfl
  have W4c20 : W4.cell? ⟨w.heap.size + 2, 0, none⟩ = some (.int .i64 c.kind) := QW4.out.2.2.cell 0 _ rfl
  have W4c21 : W4.cell? ⟨w.heap.size + 2, 1, none⟩ = some (.int .i64 c.client) := QW4.out.2.2.cell 1 _ rfl
  have W4c22 : W4.cell? ⟨w.heap.size + 2, 2, none⟩ = some (.int .i64 c.req) := QW4.out.2.2.cell 2 _ rfl
  have W4c23 : W4.cell? ⟨w.heap.size + 2, 3, none⟩ = some (.string c.key) := QW4.out.2.2.cell 3 _ rfl
  have W4c24 : W4.cell? ⟨w.heap.size + 2, 4, none⟩ = some (.string c.key2) := QW4.out.2.2.cell 4 _ rfl
  have W4c25 : W4.cell? ⟨w.heap.size + 2, 5, none⟩ = some (.string c.val) := QW4.out.2.2.cell 5 _ rfl
  have W4c26 : W4.cell? ⟨w.heap.size + 2, 6, none⟩ = some (.string c.old) := QW4.out.2.2.cell 6 _ rfl
  have W4c27 : W4.cell? ⟨w.heap.size + 2, 7, none⟩ = some (.int .i64 c.n) := QW4.out.2.2.cell 7 _ rfl
  go_wp2_with (first | (refine wpList_build rfl 30 _ rfl [(0, Value.int .i64 2), (1, Value.agg #[.int .i64 row, .int .i64 num]), (2, Value.agg #[.int .i64 round, .int .i64 who])] rfl _ (built2 row num round who) ?_))
  clear W4c00 W4c01 W4c10 W4c11 W4c20 W4c21 W4c22 W4c23 W4c24 W4c25 W4c26 W4c27
  refine (recCheck_any n (mkR 2 false row num round who zeroC 0 none 0 0 []) _ ⟨seg_none _, (by show (0 : Nat) ≤ _; omega), (by show (0 : Nat) ≤ _; omega)⟩ (HW.out.below BW4.out (Nat.le_refl _)) (HK.out.below BW4.out (Nat.le_refl _))).mono ?_
  rintro e W5 ⟨rfl, hb⟩
  obtain ⟨y2, hy2⟩ : ∃ y, Hid (chkR n (mkR 2 false row num round who zeroC 0 none 0 0 []) = y) := ⟨_, rfl⟩
  rw [hy2.out] at KIN ⊢
  have BW5 : Hid (Below w.heap.size w W5) := BW4.out.trans (hb.mono (by omega))
  have QW5 : Hid (Blk W5 w.heap.size [.int .i64 row, .int .i64 num] ∧ Blk W5 (w.heap.size + 1) [.int .i64 round, .int .i64 who] ∧ Blk W5 (w.heap.size + 2) [.int .i64 c.kind, .int .i64 c.client, .int .i64 c.req, .string c.key, .string c.key2, .string c.val, .string c.old, .int .i64 c.n]) := ⟨QW4.out.1.on hb, QW4.out.2.1.on hb, QW4.out.2.2.on hb⟩
  have zW5 : w.heap.size ≤ W5.heap.size := BW5.out.size
  clear hb hy2
  have ck : W5.cell? ⟨w.heap.size + 2, 0, none⟩ = some (.int .i64 c.kind) := QW5.out.2.2.cell 0 _ rfl
  have cr : W5.cell? ⟨w.heap.size + 1, 0, none⟩ = some (.int .i64 round) := QW5.out.2.1.cell 0 _ rfl
  rcases KIN.out with ⟨h4, h3, hs⟩ | ⟨h4, h5, hc, hr⟩
  · have g4 : (((y4 : Nat) : Int) == 0) = false := by rw [beq_eq_false_iff_ne]; omega
    have n4 : (((y4 : Nat) : Int) != 0) = true := by rw [bne_iff_ne]; omega
    have g3 : (((y3 : Nat) : Int) == 0) = false := by rw [beq_eq_false_iff_ne]; omega
    have gs : (((y3s : Nat) : Int) == 0) = false := by rw [beq_eq_false_iff_ne]; omega
    clear KIN h4 h3 hs
    go_wp2_with (first | (go_at_call 11; refine (num6_any _ _).mono ?_; rintro e w' ⟨rfl, rfl⟩))
    go_ret
    exact ⟨rfl, BW5.out⟩
  · subst h4 h5
    rcases hc with ⟨hc, h3, hs⟩ | ⟨hc, h3, hc2⟩
    · have g3 : (((y3 : Nat) : Int) == 0) = false := by rw [beq_eq_false_iff_ne]; omega
      have gs : (((y3s : Nat) : Int) == 0) = false := by rw [beq_eq_false_iff_ne]; omega
      have gk : (c.kind != 0) = false := by rw [hc]; rfl
      clear h3 hs hc KIN
      rcases hr with ⟨h0, h2⟩ | ⟨h0, h2⟩
      · have g2 : (((y2 : Nat) : Int) == 0) = false := by rw [beq_eq_false_iff_ne]; omega
        have gr : decide (round > 0) = false := by rw [h0]; rfl
        clear h0 h2
        go_wp2_with (first | (go_at_call 11; refine (num6_any _ _).mono ?_; rintro e w' ⟨rfl, rfl⟩))
        go_quiet (first | (go_at_call 11; refine Calls.quiet_of (num6_q _ _)))
        go_wp2
        go_ret
        exact ⟨rfl, BW5.out.drewN' _⟩
      · have gr : round > 0 := h0
        subst h2
        clear h0
        go_wp2_with (first | (go_at_call 11; refine (num6_any _ _).mono ?_; rintro e w' ⟨rfl, rfl⟩))
        go_quiet (first | (go_at_call 11; refine Calls.quiet_of (num6_q _ _)))
        go_wp2
        go_ret
        exact ⟨rfl, BW5.out.drewN' _⟩
    · have gk : (c.kind != 0) = true := by rw [bne_iff_ne]; exact hc
      subst h3
      clear hc KIN
      rcases hc2 with ⟨h0, hs⟩ | ⟨h0, hs⟩
      · have gr0 : (round == 0) = true := by rw [h0]; rfl
        have g2 : (((y2 : Nat) : Int) == 0) = false := by rw [beq_eq_false_iff_ne]; omega
        have gr : decide (round > 0) = false := by rw [h0]; rfl
        subst hs
        clear h0 hr
        go_wp2_with (first | (go_at_call 11; refine (num6_any _ _).mono ?_; rintro e w' ⟨rfl, rfl⟩))
        go_quiet (first | (go_at_call 11; refine Calls.quiet_of (num6_q _ _)))
        go_wp2
        go_ret
        exact ⟨rfl, BW5.out.drewN' _⟩
      · have gr0 : (round == 0) = false := by rw [beq_eq_false_iff_ne]; exact h0
        have gs : (((y3s : Nat) : Int) == 0) = false := by rw [beq_eq_false_iff_ne]; omega
        have gr : round > 0 := by omega
        have h2 : y2 = 0 := by omega
        subst h2
        clear h0 hr hs
        go_wp2_with (first | (go_at_call 11; refine (num6_any _ _).mono ?_; rintro e w' ⟨rfl, rfl⟩))
        go_quiet (first | (go_at_call 11; refine Calls.quiet_of (num6_q _ _)))
        go_wp2
        go_ret
        exact ⟨rfl, BW5.out.drewN' _⟩

set_option maxRecDepth 100000 in
/-- For every argument and every world. -/
theorem contract (H : Type) (enc : TypeId × Value → H) (W : World) (base : Nat) (args : Array Value) (ds gs : List (DataW H)) (before : List MemPlace)
    (hval : ∀ (j : Nat) t v, Tryz.f5.params[j]? = some t → args[j]? = some v → Value.okWide Tryz.prog W .any base t v)
    (hW : DataW.Whole enc Tryz.prog Tryz.f5.params.toList Rows.recordKinSpec.vars false W args.toList ds gs before)
    (hsz : (DataW.weightsEach Tryz.prog (Tryz.f5.params.toList ++ (OpenSpec.ofChange Rows.recordKinSpec).bare.plain.varTypes Tryz.prog) (ds ++ gs)).all (· ≤ reachBytes) = true)
    (hL : laidMetH Tryz.prog Rows.recordKinRow.laid W) :
    Calls Tryz.prog 5 args W fun e W' => ∃ v, e = .returned v ∧ Rows.recordKinSpec.post enc Tryz.prog Tryz.f5 false true false false W args v W' := by
  have hW' := hW
  obtain ⟨p, q, hA0, hV, rfl, hfz, hnd⟩ := hW
  have hA : DataW.TrodAll enc Tryz.prog W 0 (fun _ => true) true Tryz.f5.params.toList args.toList ds p := hA0
  rw [Tryz.params5] at hA hval hsz
  obtain ⟨v0, vs0, d0, ds0, p0, q0, hargs, rfl, rfl, h0, r0⟩ := trodAll_cons hA
  obtain ⟨v1, vs1, d1, ds1, p1, q1, rfl, rfl, rfl, h1, r1⟩ := trodAll_cons r0
  obtain ⟨v2, vs2, d2, ds2, p2, q2, rfl, rfl, rfl, h2, r2⟩ := trodAll_cons r1
  obtain ⟨v3, vs3, d3, ds3, p3, q3, rfl, rfl, rfl, h3, r3⟩ := trodAll_cons r2
  obtain ⟨v4, vs4, d4, ds4, p4, q4, rfl, rfl, rfl, h4, r4⟩ := trodAll_cons r3
  obtain ⟨v5, vs5, d5, ds5, p5, q5, rfl, rfl, rfl, h5, r5⟩ := trodAll_cons r4
  obtain ⟨rfl, rfl, rfl⟩ := trodAll_nil r5
  obtain rfl : args = #[v0, v1, v2, v3, v4, v5] := by cases args; simp_all
  obtain ⟨rfl, rfl⟩ := trodVars_none hV
  obtain ⟨y0, rfl, rfl, rfl, w0⟩ := open_int Tryz.underlying3 (hval 0 3 v0 rfl rfl) h0
  have b0 := bounds_i64 w0
  have k1 := h1
  have lt1 : ∀ x ∈ p1, x.block < W.heap.size := by obtain ⟨m, hm⟩ := k1; exact DataW.trod_lt m _ _ _ hm
  obtain ⟨x1, y1, rfl, b1⟩ := vopen_inst (hval 1 23 v1 rfl rfl) h1
  have k2 := h2
  have lt2 : ∀ x ∈ p2, x.block < W.heap.size := by obtain ⟨m, hm⟩ := k2; exact DataW.trod_lt m _ _ _ hm
  obtain ⟨x2, y2, rfl, b2⟩ := vopen_bal (hval 2 25 v2 rfl rfl) h2
  have k3 := h3
  have lt3 : ∀ x ∈ p3, x.block < W.heap.size := by obtain ⟨m, hm⟩ := k3; exact DataW.trod_lt m _ _ _ hm
  obtain ⟨kd3, cl3, rq3, ka3, kb3, va3, ol3, nn3, rfl, hd3, b3⟩ := copen_cmd (hval 3 27 v3 rfl rfl) h3
  obtain ⟨y4, rfl, rfl, rfl, w4⟩ := open_int Tryz.underlying3 (hval 4 3 v4 rfl rfl) h4
  have b4 := bounds_i64 w4
  obtain ⟨a5, n5, cap5, rfl⟩ := okWide_slice Tryz.underlying28 (hval 5 28 v5 rfl rfl)
  have k5 := h5
  have lt5 : ∀ x ∈ p5, x.block < W.heap.size := by obtain ⟨m, hm⟩ := k5; exact DataW.trod_lt m _ _ _ hm
  obtain ⟨fuel5, hf5⟩ := h5
  obtain ⟨l5, hseg5, hcap5, hdat5⟩ := vopen_ints hf5
  have sz3 := csized hsz (j := 3) (kind := kd3) (client := cl3) (req := rq3) (key := ka3) (key2 := kb3) (val := va3) (old := ol3) (n := nn3) rfl (by rw [show d3 = _ from hd3]; rfl)
  have hE := errs_of_laid hL
  clear hA0
  obtain ⟨aa, haa⟩ := hE
  refine (walk y0 x1 y1 x2 y2 ⟨kd3, cl3, rq3, ka3, kb3, va3, ol3, nn3⟩ y4 a5 n5 cap5 l5 aa W hseg5 sz3.1 sz3.2.1 (rws_of_laid hL) (knd_of_laid hL) haa).mono fun e W' ⟨he, bel⟩ => ?_
  subst he
  exact ⟨_, rfl, _, _, _, [], _, [], hW', trodAll_mk1 (shut_bool Tryz.underlying4 _), (trodAll_cons_mk (shut_int Tryz.underlying3 w0) (trodAll_cons_mk (Below.trod claid (by kernel_rfl) (of_decide_eq_true (by kernel_rfl)) k1 bel lt1) (trodAll_cons_mk (Below.trod claid (by kernel_rfl) (of_decide_eq_true (by kernel_rfl)) k2 bel lt2) (trodAll_cons_mk (Below.trod claid (by kernel_rfl) (of_decide_eq_true (by kernel_rfl)) k3 bel lt3) (trodAll_cons_mk (shut_int Tryz.underlying3 w4) (trodAll_cons_mk (Below.trod claid (by kernel_rfl) (of_decide_eq_true (by kernel_rfl)) k5 bel lt5) trodAll_mk0)))))), rfl, bel.frame _, fun h => by cases h⟩

theorem reads (os : Os) {H : Type} (enc : TypeId × Value → H) : ∃ places, DataW.whole enc Tryz.prog ((World.doorLaid Tryz.prog 400 os).forCall (fun _ _ => 0) ⟨#[], #[.int .i64 0, .agg #[.int .i64 0, .int .i64 0], .agg #[.int .i64 0, .int .i64 0], .agg #[.int .i64 0, .int .i64 0, .int .i64 0, .string ⟨#[]⟩, .string ⟨#[]⟩, .string ⟨#[]⟩, .string ⟨#[]⟩, .int .i64 0], .int .i64 0, .slice none 0 0], []⟩).memory Tryz.f5.params.toList Rows.recordKinSpec.vars false (#[Value.int .i64 0, .agg #[.int .i64 0, .int .i64 0], .agg #[.int .i64 0, .int .i64 0], .agg #[.int .i64 0, .int .i64 0, .int .i64 0, .string ⟨#[]⟩, .string ⟨#[]⟩, .string ⟨#[]⟩, .string ⟨#[]⟩, .int .i64 0], .int .i64 0, .slice none 0 0] : Array Value).toList 8 = some ([.lit (.int .i64 0), .agg [.lit (.int .i64 0), .lit (.int .i64 0)], .agg [.lit (.int .i64 0), .lit (.int .i64 0)], .agg [.lit (.int .i64 0), .lit (.int .i64 0), .lit (.int .i64 0), .lit (.string []), .lit (.string []), .lit (.string []), .lit (.string []), .lit (.int .i64 0)], .lit (.int .i64 0), .nil], [], places) :=
  ⟨[], by kernel_rfl⟩

set_option maxRecDepth 100000 in
theorem lifted (os : Os) (started : os.Started) (H : Type) (enc : TypeId × Value → H) (F : Stop.Interp) :
    ReturnsInHanded {} Tryz.checked os 5 .any ((OpenSpec.ofChange Rows.recordKinSpec).preRow enc Tryz.prog Tryz.f5 Rows.recordKinRow.domain false Rows.recordKinRow.laid) (((OpenSpec.ofChange Rows.recordKinSpec).at F).post enc Tryz.prog Tryz.f5 false true false false) := by
  obtain ⟨places, hx⟩ := reads os enc
  refine returnsInHanded_of_row (C := Tryz.checked) (s := (OpenSpec.ofChange Rows.recordKinSpec)) cown started (by kernel_rfl) Tryz.func5
    (witness_row_atRef (enc := enc) (C := Tryz.checked) false (World.doorLaid Tryz.prog 400 os) #[.int .i64 0, .agg #[.int .i64 0, .int .i64 0], .agg #[.int .i64 0, .int .i64 0], .agg #[.int .i64 0, .int .i64 0, .int .i64 0, .string ⟨#[]⟩, .string ⟨#[]⟩, .string ⟨#[]⟩, .string ⟨#[]⟩, .int .i64 0], .int .i64 0, .slice none 0 0] rfl (by kernel_rfl) (by kernel_rfl) (by kernel_rfl)
      (OpenSpec.preRow_of_cond 8 hx (by kernel_rfl) (fun k hk => by cases hk) (by kernel_rfl) (door_met os _))) ?_
  intro W base args ds gs before hval hW _ hcond hsz hL _ _
  exact contract H enc W base args ds gs before hval hW hsz hL

theorem said : Rows.RecordKinSaid :=
  OpenClaim.holds_of_cond 5 Tryz.f5 rfl rfl rfl rfl rfl rfl rfl ⟨rfl, rfl, rfl, rfl, rfl⟩ rfl rfl rfl rfl rfl (by kernel_rfl) Tryz.func5 (by kernel_rfl)
    (of_decide_eq_true (by kernel_rfl)) (by unfold Func.isWrapper; first | (rw [if_pos (by decide +kernel)]; kernel_rfl) | (rw [if_neg (by decide +kernel)]; exact ⟨rfl, rfl⟩))
    (fun os started H enc _ F => by rw [OpenClaim.pre_eq_preRow]; exact lifted os started H enc F)

theorem plain (f : FuncId) (fn : Func) (hf : Tryz.pinned.checked.prog.funcNamed "moot/mootlaw6.RecordKin" = some f) (hfn : Tryz.pinned.checked.prog.funcs[f]? = some fn) :
    true = Tryz.pinned.checked.prog.looks [] ∧ ∀ (j : Nat) t, fn.params[j]? = some t → Tryz.pinned.checked.prog.wantsStandIn t = false := by
  obtain rfl : f = 5 := Option.some.inj ((show Tryz.prog.funcNamed "moot/mootlaw6.RecordKin" = some 5 by kernel_rfl).symm.trans hf) |>.symm
  obtain rfl : fn = Tryz.f5 := (Option.some.inj (Tryz.func5.symm.trans hfn)).symm
  refine ⟨by kernel_rfl, fun j t ht => ?_⟩
  rw [Tryz.params5] at ht
  have hm : t ∈ [3, 23, 25, 27, 3, 28] := by simpa using Array.mem_of_getElem? ht
  have hall : ([3, 23, 25, 27, 3, 28].all fun u => !Tryz.prog.wantsStandIn u) = true := by kernel_rfl
  exact (show Tryz.prog.wantsStandIn t = false by simpa using List.all_eq_true.1 hall t hm)

end recordKin
theorem recordKin_proved : Rows.RecordKinCardSaid :=
  Claim7.holds_tied_plain_at .later [] _ _ _ _ recordKin.said (fun _ h => by cases h) (by kernel_rfl) (fun _ h => by cases h) recordKin_row_tie rfl ⟨rfl, rfl⟩ (by kernel_rfl) rfl recordKin.plain (by kernel_rfl)
#print axioms recordKin_proved
end Go.Proofs.YtlapgnbiflcpfaaGreatDoor
