/- Texts of the proof, joined. -/
import Derived.Test.YtnjihfbghaefoaaGreatDoorJ06
import Derived.Deep.Light
import Derived.Test.YtnjihfbghaefoaaGreatDoorRows
import Derived.Test.YtnjihfbghaefoaaGreatDoorJ05
import Derived.Test.YtnjihfbghaefoaaGreatDoorJ02
import Derived.WalkKit
import Derived.WalkLawsBesides
import Derived.Lib.Bytealg
/- The contract of package record's isZero. -/
namespace Go.Proofs.YtnjihfbghaefoaaGreatDoor
open Go.RowKit Go.Wire1

set_option maxHeartbeats 2000000 in
set_option maxRecDepth 100000 in
theorem risZero_id (r : Rc) (w : World) :
    Calls Tryz.prog 52 #[.agg (rcs r).toArray, .int .i32 119] w fun e w' => e = .returned (.bool (zeroR r 119)) ∧ Below w.heap.size w w' := by
  have g16 := rcs16 r
  go_enter Tryz.func52, Tryz.ntmps52
  go_wp2
  go_ret
  exact ⟨rfl, (Below.refl _ _).alloc (Nat.le_refl _) _⟩
set_option maxHeartbeats 2000000 in
set_option maxRecDepth 100000 in
theorem risZero_n (r : Rc) (w : World) :
    Calls Tryz.prog 52 #[.agg (rcs r).toArray, .int .i32 110] w fun e w' => e = .returned (.bool (zeroR r 110)) ∧ Below w.heap.size w w' := by
  have g17 := rcs17 r
  go_enter Tryz.func52, Tryz.ntmps52
  go_wp2
  go_ret
  exact ⟨rfl, (Below.refl _ _).alloc (Nat.le_refl _) _⟩
set_option maxHeartbeats 2000000 in
set_option maxRecDepth 100000 in
theorem risZero_inst (r : Rc) (w : World) :
    Calls Tryz.prog 52 #[.agg (rcs r).toArray, .int .i32 105] w fun e w' => e = .returned (.bool (zeroR r 105)) ∧ Below w.heap.size w w' := by
  have g1 := rcs1 r
  have g2 := rcs2 r
  go_enter Tryz.func52, Tryz.ntmps52
  go_wp2
  all_goals
    go_ret
    refine ⟨?_, (Below.refl _ _).alloc (Nat.le_refl _) _⟩
    go_light
    simp [zeroR, *]
set_option maxHeartbeats 2000000 in
set_option maxRecDepth 100000 in
theorem risZero_bal (r : Rc) (w : World) :
    Calls Tryz.prog 52 #[.agg (rcs r).toArray, .int .i32 98] w fun e w' => e = .returned (.bool (zeroR r 98)) ∧ Below w.heap.size w w' := by
  have g3 := rcs3 r
  have g4 := rcs4 r
  go_enter Tryz.func52, Tryz.ntmps52
  go_wp2
  all_goals
    go_ret
    refine ⟨?_, (Below.refl _ _).alloc (Nat.le_refl _) _⟩
    go_light
    simp [zeroR, *]
set_option maxHeartbeats 2000000 in
set_option maxRecDepth 100000 in
theorem risZero_same (r : Rc) (w : World) :
    Calls Tryz.prog 52 #[.agg (rcs r).toArray, .int .i32 115] w fun e w' => e = .returned (.bool (zeroR r 115)) ∧ Below w.heap.size w w' := by
  have g5 := rcs5 r
  go_enter Tryz.func52, Tryz.ntmps52
  go_wp2
  go_ret
  exact ⟨rfl, (Below.refl _ _).alloc (Nat.le_refl _) _⟩
set_option maxHeartbeats 2000000 in
set_option maxRecDepth 100000 in
theorem risZero_cmd (r : Rc) (w : World) :
    Calls Tryz.prog 52 #[.agg (rcs r).toArray, .int .i32 99] w fun e w' => e = .returned (.bool (zeroR r 99)) ∧ Below w.heap.size w w' := by
  have g6 := rcs6 r
  have g7 := rcs7 r
  have g8 := rcs8 r
  have g9 := rcs9 r
  have g10 := rcs10 r
  have g11 := rcs11 r
  have g12 := rcs12 r
  have g13 := rcs13 r
  go_enter Tryz.func52, Tryz.ntmps52
  go_wp2
  all_goals
    go_ret
    refine ⟨?_, (Below.refl _ _).alloc (Nat.le_refl _) _⟩
    go_light
    simp [zeroR, zeroCm, *]
set_option maxHeartbeats 2000000 in
set_option maxRecDepth 100000 in
theorem risZero_seq (r : Rc) (w : World) :
    Calls Tryz.prog 52 #[.agg (rcs r).toArray, .int .i32 113] w fun e w' => e = .returned (.bool (zeroR r 113)) ∧ Below w.heap.size w w' := by
  have g14 := rcs14 r
  go_enter Tryz.func52, Tryz.ntmps52
  go_wp2
  go_ret
  exact ⟨rfl, (Below.refl _ _).alloc (Nat.le_refl _) _⟩
set_option maxHeartbeats 2000000 in
set_option maxRecDepth 100000 in
theorem risZero_deps (r : Rc) (w : World) (hd : r.deps.length = r.dn) :
    Calls Tryz.prog 52 #[.agg (rcs r).toArray, .int .i32 100] w fun e w' => e = .returned (.bool (zeroR r 100)) ∧ Below w.heap.size w w' := by
  have g15 := rcs15 r
  have HD := hide hd
  clear hd
  go_enter Tryz.func52, Tryz.ntmps52
  go_wp2
  go_ret
  exact ⟨by show _ = Ending.returned (.bool (r.deps.length == 0)); rw [HD.out]; go_light; show Ending.returned (.bool ((r.dn : Int) == 0)) = _; rw [show ((r.dn : Int) == 0) = (r.dn == 0) by rw [Bool.eq_iff_iff]; simp], (Below.refl _ _).alloc (Nat.le_refl _) _⟩
/-- A letter of a field. -/
def Ltr (x : Nat) : Prop := x = 119 ∨ x = 110 ∨ x = 105 ∨ x = 98 ∨ x = 115 ∨ x = 99 ∨ x = 113 ∨ x = 100
theorem risZero_any (r : Rc) (x : Nat) (w : World) (hx : Ltr x) (hd : r.deps.length = r.dn) :
    Calls Tryz.prog 52 #[.agg (rcs r).toArray, .int .i32 (x : Int)] w fun e w' => e = .returned (.bool (zeroR r x)) ∧ Below w.heap.size w w' := by
  rcases hx with rfl | rfl | rfl | rfl | rfl | rfl | rfl | rfl
  · exact risZero_id r w
  · exact risZero_n r w
  · exact risZero_inst r w
  · exact risZero_bal r w
  · exact risZero_same r w
  · exact risZero_cmd r w
  · exact risZero_seq r w
  · exact risZero_deps r w hd
end Go.Proofs.YtnjihfbghaefoaaGreatDoor
/- The contracts of strings.ContainsRune at an ASCII letter, and of cmp.Or at two errors. -/
namespace Go.Proofs.YtnjihfbghaefoaaGreatDoor
open Go.RowKit Go.Wire1

set_option maxHeartbeats 2000000 in
set_option maxRecDepth 100000 in
theorem liteIndexByte_any (s : ByteArray) (c : Nat) (w : World) :
    Calls Tryz.prog 148 #[.string s, .int .u8 (c : Int)] w fun e w' => e = .returned (.int .i64 (Lib.indexByte s.data.toList c.toUInt8)) ∧ w = w' := by
  go_enter Tryz.func148, Tryz.ntmps148
  go_wp2
  rw [run_callFunc_extern Tryz.func172 (by kernel_rfl) (by kernel_rfl) (by kernel_rfl) (e := Extern.BytealgIndexByte.indexByte) (by kernel_rfl), Lib.run_indexByteString]
  simp only [Result.andThen]
  rw [Oper.upon_value]
  go_wp2
  go_ret
  exact ⟨rfl, rfl⟩

set_option maxHeartbeats 2000000 in
set_option maxRecDepth 100000 in
theorem indexByte_any (s : ByteArray) (c : Nat) (w : World) :
    Calls Tryz.prog 118 #[.string s, .int .u8 (c : Int)] w fun e w' => e = .returned (.int .i64 (Lib.indexByte s.data.toList c.toUInt8)) ∧ w = w' := by
  go_enter Tryz.func118, Tryz.ntmps118
  go_wp2_with (go_at_call 148; refine (liteIndexByte_any s c _).mono ?_; rintro e w' ⟨rfl, rfl⟩)
  go_ret
  exact ⟨rfl, rfl⟩

set_option maxHeartbeats 2000000 in
set_option maxRecDepth 100000 in
theorem indexRune_any (s : ByteArray) (c : Nat) (w : World) (hc : c < 128) :
    Calls Tryz.prog 80 #[.string s, .int .i32 (c : Int)] w fun e w' => e = .returned (.int .i64 (Lib.indexByte s.data.toList c.toUInt8)) ∧ w = w' := by
  have h0 : (0 : Int) ≤ (c : Int) := by omega
  have h1 : (c : Int) < 128 := by omega
  go_enter Tryz.func80, Tryz.ntmps80
  go_wp2_with (go_at_call 118; refine (indexByte_any s c _).mono ?_; rintro e w' ⟨rfl, rfl⟩)
  go_ret
  exact ⟨rfl, rfl⟩

set_option maxHeartbeats 2000000 in
set_option maxRecDepth 100000 in
theorem containsRune_any (s : ByteArray) (c : Nat) (w : World) (hc : c < 128) :
    Calls Tryz.prog 51 #[.string s, .int .i32 (c : Int)] w fun e w' => e = .returned (.bool (decide (0 ≤ Lib.indexByte s.data.toList c.toUInt8))) ∧ w = w' := by
  go_enter Tryz.func51, Tryz.ntmps51
  go_wp2_with (go_at_call 80; refine (indexRune_any s c _ hc).mono ?_; rintro e w' ⟨rfl, rfl⟩)
  go_ret
  exact ⟨rfl, rfl⟩

/-- The first of two errors that is one. -/
def orR (a b : Nat) : Nat := if a = 0 then b else a
set_option maxHeartbeats 2000000 in
set_option maxRecDepth 100000 in
theorem cmpOr_any (a b q : Nat) (w : World) (h : Blk w q [.int .i64 (a : Int), .int .i64 (b : Int)]) :
    Calls Tryz.prog 57 #[.slice (some ⟨q, 0, none⟩) 2 2] w fun e w' => e = .returned (.int .i64 (orR a b : Nat)) ∧ w = w' := by
  have c0 := h.cell 0 _ rfl
  have c1 := h.cell 1 _ rfl
  clear h
  by_cases ha : a = 0
  · subst ha
    by_cases hb : b = 0
    · subst hb
      go_enter Tryz.func57, Tryz.ntmps57
      go_wp2
      refine wp_loop_rounds 3 ?_
      rw [rounds_succ]; go_wp2
      rw [rounds_succ]; go_wp2
      rw [rounds_succ]; go_wp2
      go_ret
      exact ⟨rfl, rfl⟩
    · have e1 : Hid (orR 0 b = b) := rfl
      have n1 : ((b : Int) != 0) = true := by rw [bne_iff_ne]; omega
      go_enter Tryz.func57, Tryz.ntmps57
      go_wp2
      refine wp_loop_rounds 3 ?_
      rw [rounds_succ]; go_wp2
      rw [rounds_succ]; go_wp2
      go_ret
      exact ⟨by rw [e1.out]; rfl, rfl⟩
  · have e1 : Hid (orR a b = a) := by show _ = _; unfold orR; rw [if_neg ha]
    have n1 : ((a : Int) != 0) = true := by rw [bne_iff_ne]; omega
    go_enter Tryz.func57, Tryz.ntmps57
    go_wp2
    refine wp_loop_rounds 3 ?_
    rw [rounds_succ]; go_wp2
    go_ret
    exact ⟨by rw [e1.out]; rfl, rfl⟩
end Go.Proofs.YtnjihfbghaefoaaGreatDoor
