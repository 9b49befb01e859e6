/- An instance in a block of its own. -/
import Derived.Test.YtkddbcgkfnmgbabVLit
namespace Go.Proofs.Ytkddbcgkfnmgbab
open Go.RowKit Go.Wire1

/-- An instance in a block of its own. -/
def Box (w : World) (g : Nat) (r x : Int) : Prop := w.cell? ⟨g, 0, none⟩ = some (.int .i64 r) ∧ w.cell? ⟨g, 1, none⟩ = some (.int .i64 x)
theorem Box.below {w w' : World} {g B : Nat} {r x : Int} (h : Box w g r x) (hb : Below B w w') (hB : w.heap.size ≤ B) : Box w' g r x :=
  ⟨by rw [hb.cell (p := ⟨g, 0, none⟩) (by have := cell_lt h.1; show g < B; omega)]; exact h.1, by rw [hb.cell (p := ⟨g, 1, none⟩) (by have := cell_lt h.2; show g < B; omega)]; exact h.2⟩
theorem box_new (w : World) (r x : Int) (t : TypeId) : Box (w.alloc (.cells #[.int .i64 r, .int .i64 x] t)) w.heap.size r x := ⟨cell_new w [.int .i64 r, .int .i64 x] t 0, cell_new w [.int .i64 r, .int .i64 x] t 1⟩
end Go.Proofs.Ytkddbcgkfnmgbab
