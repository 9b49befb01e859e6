/- The contract of giveUp, and what the reading methods share. -/
import Derived.Test.YtooejihnifphkaaGreatDoorRdr
namespace Go.Proofs.YtooejihnifphkaaGreatDoor
open Go.RowKit Go.Wire1

set_option maxHeartbeats 400000 in
set_option maxRecDepth 100000 in
theorem giveUp_any (b : Nat) (k x f : Int) (i : Nat) (hi : i < 5) (a : Nat → Addr) (w : World) (he : Errs w a) (h5 : 7 ≤ b) (hab : ∀ i, i < 5 → (a i).block ≠ b)
    (c1 : w.cell? ⟨b, 1, none⟩ = some (.int .i64 x)) (f1 : w.frozen? ⟨b, 1, none⟩ = false) (c2 : w.cell? ⟨b, 2, none⟩ = some (.int .i64 f)) (f2 : w.frozen? ⟨b, 2, none⟩ = false) :
    Calls Tryz.prog 113 #[.pointer (some ⟨b, 0, none⟩), .int .i64 k, errV (a i)] w fun e w' => e = .returned (.tuple #[]) ∧ w' = (w.setCell ⟨b, 1, none⟩ (.int .i64 k)).setCell ⟨b, 2, none⟩ (.int .i64 (11 + (i : Int))) := by
  have he' : Errs (w.setCell ⟨b, 1, none⟩ (.int .i64 k)) a := he.only ((Only.refl b 1 w).setCell _) h5 hab
  go_enter Tryz.func113, Tryz.ntmps113
  go_wp2_with fail
  refine (errno_any i hi a _ he').mono ?_
  rintro e w1 ⟨rfl, rfl⟩
  go_wp2
  go_end0
  exact ⟨rfl, rfl⟩

/-- What a reading method answers, and what it leaves: Z where it answers nothing. -/
def Meth (Z : Value) (r : Except Nat (Value × Nat)) (k : Nat) (f : Int) : Value × Nat × Int :=
  if f = 0 then (match r with | .ok (v, m) => (v, k + m, 0) | .error i => (Z, k, 11 + (i : Int))) else (Z, k, f)

theorem meth_broken {Z : Value} {r : Except Nat (Value × Nat)} {k : Nat} {f : Int} (h : ¬ f = 0) : Meth Z r k f = (Z, k, f) := by unfold Meth; rw [if_neg h]
theorem meth_ok {Z : Value} {r : Except Nat (Value × Nat)} {k m : Nat} {v : Value} (h : r = .ok (v, m)) : Meth Z r k 0 = (v, k + m, 0) := by unfold Meth; rw [if_pos rfl, h]
theorem meth_err {Z : Value} {r : Except Nat (Value × Nat)} {k i : Nat} (h : r = .error i) : Meth Z r k 0 = (Z, k, 11 + (i : Int)) := by unfold Meth; rw [if_pos rfl, h]

/-- The three blocks that a reading method makes: the receiver's variable, the result's, the start's. -/
theorem new3 (w : World) (v0 v1 v2 : Value) (t0 t1 t2 : TypeId) :
    Below w.heap.size w (((w.alloc (.cells #[v0] t0)).alloc (.cells #[v1] t1)).alloc (.cells #[v2] t2)) ∧
    (((w.alloc (.cells #[v0] t0)).alloc (.cells #[v1] t1)).alloc (.cells #[v2] t2)).cell? ⟨w.heap.size, 0, none⟩ = some v0 ∧
    (((w.alloc (.cells #[v0] t0)).alloc (.cells #[v1] t1)).alloc (.cells #[v2] t2)).cell? ⟨w.heap.size + 1, 0, none⟩ = some v1 ∧
    (((w.alloc (.cells #[v0] t0)).alloc (.cells #[v1] t1)).alloc (.cells #[v2] t2)).cell? ⟨w.heap.size + 1 + 1, 0, none⟩ = some v2 ∧
    (((w.alloc (.cells #[v0] t0)).alloc (.cells #[v1] t1)).alloc (.cells #[v2] t2)).frozen? ⟨w.heap.size + 1, 0, none⟩ = false := by
  refine ⟨?_, ?_, ?_, ?_, ?_⟩
  · exact (((Below.refl _ _).alloc (Nat.le_refl _) _).alloc (by simp) _).alloc (by simp; omega) _
  · rw [World.cell?_alloc_past _ _ _ (by simp; omega), World.cell?_alloc_past _ _ _ (by simp), World.cell?_alloc_at _ _ _ _ rfl]; rfl
  · rw [World.cell?_alloc_past _ _ _ (by simp), World.cell?_alloc_at _ _ _ _ (by simp)]; rfl
  · rw [World.cell?_alloc_at _ _ _ _ (by simp)]; rfl
  · rw [World.frozen?_alloc_past _ _ _ (by simp)]; exact World.frozen?_alloc_at _ _ _ _ (by simp)

end Go.Proofs.YtooejihnifphkaaGreatDoor
