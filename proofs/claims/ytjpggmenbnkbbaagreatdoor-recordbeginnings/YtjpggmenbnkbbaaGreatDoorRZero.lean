/- The contract of package record's isZero. -/
import Derived.Test.YtjpggmenbnkbbaaGreatDoorRPred
import Derived.Deep.Light
namespace Go.Proofs.YtjpggmenbnkbbaaGreatDoor
open Go.RowKit Go.Wire1

set_option maxHeartbeats 2000000 in
set_option maxRecDepth 100000 in
theorem risZero_id (r : Rc) (w : World) :
    Calls Tryz.prog 45 #[.agg (rcs r).toArray, .int .i32 119] w fun e w' => e = .returned (.bool (zeroR r 119)) ∧ Below w.heap.size w w' := by
  have g16 := rcs16 r
  go_enter Tryz.func45, Tryz.ntmps45
  go_wp2
  go_ret
  exact ⟨rfl, (Below.refl _ _).alloc (Nat.le_refl _) _⟩
set_option maxHeartbeats 2000000 in
set_option maxRecDepth 100000 in
theorem risZero_n (r : Rc) (w : World) :
    Calls Tryz.prog 45 #[.agg (rcs r).toArray, .int .i32 110] w fun e w' => e = .returned (.bool (zeroR r 110)) ∧ Below w.heap.size w w' := by
  have g17 := rcs17 r
  go_enter Tryz.func45, Tryz.ntmps45
  go_wp2
  go_ret
  exact ⟨rfl, (Below.refl _ _).alloc (Nat.le_refl _) _⟩
set_option maxHeartbeats 2000000 in
set_option maxRecDepth 100000 in
theorem risZero_inst (r : Rc) (w : World) :
    Calls Tryz.prog 45 #[.agg (rcs r).toArray, .int .i32 105] w fun e w' => e = .returned (.bool (zeroR r 105)) ∧ Below w.heap.size w w' := by
  have g1 := rcs1 r
  have g2 := rcs2 r
  go_enter Tryz.func45, Tryz.ntmps45
  go_wp2
  all_goals
    go_ret
    refine ⟨?_, (Below.refl _ _).alloc (Nat.le_refl _) _⟩
    go_light
    simp [zeroR, *]
set_option maxHeartbeats 2000000 in
set_option maxRecDepth 100000 in
theorem risZero_bal (r : Rc) (w : World) :
    Calls Tryz.prog 45 #[.agg (rcs r).toArray, .int .i32 98] w fun e w' => e = .returned (.bool (zeroR r 98)) ∧ Below w.heap.size w w' := by
  have g3 := rcs3 r
  have g4 := rcs4 r
  go_enter Tryz.func45, Tryz.ntmps45
  go_wp2
  all_goals
    go_ret
    refine ⟨?_, (Below.refl _ _).alloc (Nat.le_refl _) _⟩
    go_light
    simp [zeroR, *]
set_option maxHeartbeats 2000000 in
set_option maxRecDepth 100000 in
theorem risZero_same (r : Rc) (w : World) :
    Calls Tryz.prog 45 #[.agg (rcs r).toArray, .int .i32 115] w fun e w' => e = .returned (.bool (zeroR r 115)) ∧ Below w.heap.size w w' := by
  have g5 := rcs5 r
  go_enter Tryz.func45, Tryz.ntmps45
  go_wp2
  go_ret
  exact ⟨rfl, (Below.refl _ _).alloc (Nat.le_refl _) _⟩
set_option maxHeartbeats 2000000 in
set_option maxRecDepth 100000 in
theorem risZero_cmd (r : Rc) (w : World) :
    Calls Tryz.prog 45 #[.agg (rcs r).toArray, .int .i32 99] w fun e w' => e = .returned (.bool (zeroR r 99)) ∧ Below w.heap.size w w' := by
  have g6 := rcs6 r
  have g7 := rcs7 r
  have g8 := rcs8 r
  have g9 := rcs9 r
  have g10 := rcs10 r
  have g11 := rcs11 r
  have g12 := rcs12 r
  have g13 := rcs13 r
  go_enter Tryz.func45, Tryz.ntmps45
  go_wp2
  all_goals
    go_ret
    refine ⟨?_, (Below.refl _ _).alloc (Nat.le_refl _) _⟩
    go_light
    simp [zeroR, zeroCm, *]
set_option maxHeartbeats 2000000 in
set_option maxRecDepth 100000 in
theorem risZero_seq (r : Rc) (w : World) :
    Calls Tryz.prog 45 #[.agg (rcs r).toArray, .int .i32 113] w fun e w' => e = .returned (.bool (zeroR r 113)) ∧ Below w.heap.size w w' := by
  have g14 := rcs14 r
  go_enter Tryz.func45, Tryz.ntmps45
  go_wp2
  go_ret
  exact ⟨rfl, (Below.refl _ _).alloc (Nat.le_refl _) _⟩
set_option maxHeartbeats 2000000 in
set_option maxRecDepth 100000 in
theorem risZero_deps (r : Rc) (w : World) (hd : r.deps.length = r.dn) :
    Calls Tryz.prog 45 #[.agg (rcs r).toArray, .int .i32 100] w fun e w' => e = .returned (.bool (zeroR r 100)) ∧ Below w.heap.size w w' := by
  have g15 := rcs15 r
  have HD := hide hd
  clear hd
  go_enter Tryz.func45, Tryz.ntmps45
  go_wp2
  go_ret
  exact ⟨by show _ = Ending.returned (.bool (r.deps.length == 0)); rw [HD.out]; go_light; show Ending.returned (.bool ((r.dn : Int) == 0)) = _; rw [show ((r.dn : Int) == 0) = (r.dn == 0) by rw [Bool.eq_iff_iff]; simp], (Below.refl _ _).alloc (Nat.le_refl _) _⟩
/-- A letter of a field. -/
def Ltr (x : Nat) : Prop := x = 119 ∨ x = 110 ∨ x = 105 ∨ x = 98 ∨ x = 115 ∨ x = 99 ∨ x = 113 ∨ x = 100
theorem risZero_any (r : Rc) (x : Nat) (w : World) (hx : Ltr x) (hd : r.deps.length = r.dn) :
    Calls Tryz.prog 45 #[.agg (rcs r).toArray, .int .i32 (x : Int)] w fun e w' => e = .returned (.bool (zeroR r x)) ∧ Below w.heap.size w w' := by
  rcases hx with rfl | rfl | rfl | rfl | rfl | rfl | rfl | rfl
  · exact risZero_id r w
  · exact risZero_n r w
  · exact risZero_inst r w
  · exact risZero_bal r w
  · exact risZero_same r w
  · exact risZero_cmd r w
  · exact risZero_seq r w
  · exact risZero_deps r w hd
end Go.Proofs.YtjpggmenbnkbbaaGreatDoor
