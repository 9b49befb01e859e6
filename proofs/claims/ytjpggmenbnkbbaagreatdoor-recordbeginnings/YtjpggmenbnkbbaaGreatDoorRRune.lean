/- The contracts of strings.ContainsRune at an ASCII letter, and of cmp.Or at two errors. -/
import Derived.Test.YtjpggmenbnkbbaaGreatDoorRows
import Derived.Test.YtjpggmenbnkbbaaGreatDoorRMath
import Derived.Test.YtjpggmenbnkbbaaGreatDoorBlk
import Derived.WalkKit
import Derived.WalkLawsBesides
import Derived.Lib.Bytealg
namespace Go.Proofs.YtjpggmenbnkbbaaGreatDoor
open Go.RowKit Go.Wire1

set_option maxHeartbeats 2000000 in
set_option maxRecDepth 100000 in
theorem liteIndexByte_any (s : ByteArray) (c : Nat) (w : World) :
    Calls Tryz.prog 111 #[.string s, .int .u8 (c : Int)] w fun e w' => e = .returned (.int .i64 (Lib.indexByte s.data.toList c.toUInt8)) ∧ w = w' := by
  go_enter Tryz.func111, Tryz.ntmps111
  go_wp2
  rw [run_callFunc_extern Tryz.func124 (by kernel_rfl) (by kernel_rfl) (by kernel_rfl) (e := Extern.BytealgIndexByte.indexByte) (by kernel_rfl), Lib.run_indexByteString]
  simp only [Result.andThen]
  rw [Oper.upon_value]
  go_wp2
  go_ret
  exact ⟨rfl, rfl⟩

set_option maxHeartbeats 2000000 in
set_option maxRecDepth 100000 in
theorem indexByte_any (s : ByteArray) (c : Nat) (w : World) :
    Calls Tryz.prog 92 #[.string s, .int .u8 (c : Int)] w fun e w' => e = .returned (.int .i64 (Lib.indexByte s.data.toList c.toUInt8)) ∧ w = w' := by
  go_enter Tryz.func92, Tryz.ntmps92
  go_wp2_with (go_at_call 111; refine (liteIndexByte_any s c _).mono ?_; rintro e w' ⟨rfl, rfl⟩)
  go_ret
  exact ⟨rfl, rfl⟩

set_option maxHeartbeats 2000000 in
set_option maxRecDepth 100000 in
theorem indexRune_any (s : ByteArray) (c : Nat) (w : World) (hc : c < 128) :
    Calls Tryz.prog 67 #[.string s, .int .i32 (c : Int)] w fun e w' => e = .returned (.int .i64 (Lib.indexByte s.data.toList c.toUInt8)) ∧ w = w' := by
  have h0 : (0 : Int) ≤ (c : Int) := by omega
  have h1 : (c : Int) < 128 := by omega
  go_enter Tryz.func67, Tryz.ntmps67
  go_wp2_with (go_at_call 92; refine (indexByte_any s c _).mono ?_; rintro e w' ⟨rfl, rfl⟩)
  go_ret
  exact ⟨rfl, rfl⟩

set_option maxHeartbeats 2000000 in
set_option maxRecDepth 100000 in
theorem containsRune_any (s : ByteArray) (c : Nat) (w : World) (hc : c < 128) :
    Calls Tryz.prog 44 #[.string s, .int .i32 (c : Int)] w fun e w' => e = .returned (.bool (decide (0 ≤ Lib.indexByte s.data.toList c.toUInt8))) ∧ w = w' := by
  go_enter Tryz.func44, Tryz.ntmps44
  go_wp2_with (go_at_call 67; refine (indexRune_any s c _ hc).mono ?_; rintro e w' ⟨rfl, rfl⟩)
  go_ret
  exact ⟨rfl, rfl⟩

/-- The first of two errors that is one. -/
def orR (a b : Nat) : Nat := if a = 0 then b else a
set_option maxHeartbeats 2000000 in
set_option maxRecDepth 100000 in
theorem cmpOr_any (a b q : Nat) (w : World) (h : Blk w q [.int .i64 (a : Int), .int .i64 (b : Int)]) :
    Calls Tryz.prog 50 #[.slice (some ⟨q, 0, none⟩) 2 2] w fun e w' => e = .returned (.int .i64 (orR a b : Nat)) ∧ w = w' := by
  have c0 := h.cell 0 _ rfl
  have c1 := h.cell 1 _ rfl
  clear h
  by_cases ha : a = 0
  · subst ha
    by_cases hb : b = 0
    · subst hb
      go_enter Tryz.func50, Tryz.ntmps50
      go_wp2
      refine wp_loop_rounds 3 ?_
      rw [rounds_succ]; go_wp2
      rw [rounds_succ]; go_wp2
      rw [rounds_succ]; go_wp2
      go_ret
      exact ⟨rfl, rfl⟩
    · have e1 : Hid (orR 0 b = b) := rfl
      have n1 : ((b : Int) != 0) = true := by rw [bne_iff_ne]; omega
      go_enter Tryz.func50, Tryz.ntmps50
      go_wp2
      refine wp_loop_rounds 3 ?_
      rw [rounds_succ]; go_wp2
      rw [rounds_succ]; go_wp2
      go_ret
      exact ⟨by rw [e1.out]; rfl, rfl⟩
  · have e1 : Hid (orR a b = a) := by show _ = _; unfold orR; rw [if_neg ha]
    have n1 : ((a : Int) != 0) = true := by rw [bne_iff_ne]; omega
    go_enter Tryz.func50, Tryz.ntmps50
    go_wp2
    refine wp_loop_rounds 3 ?_
    rw [rounds_succ]; go_wp2
    go_ret
    exact ⟨by rw [e1.out]; rfl, rfl⟩
end Go.Proofs.YtjpggmenbnkbbaaGreatDoor
