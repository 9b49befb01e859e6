/- The contracts of cmp.Or (of two errors) and of Open. -/
import Derived.Test.YtiajkdjljilndaaDoorFrLk
namespace Go.Proofs.YtiajkdjljilndaaDoor
open Go.RowKit Go.Wire1 Go.Crc2 Go.Frm

theorem pair_cells (W : World) (x y : Value) (T : TypeId) (b : Nat) (hb : b = W.heap.size) : (W.alloc (.cells #[x, y] T)).cell? ⟨b, 0, none⟩ = some x ∧ (W.alloc (.cells #[x, y] T)).cell? ⟨b, 1, none⟩ = some y := by
  subst hb
  exact ⟨by rw [World.cell?_alloc_at _ _ _ _ rfl]; rfl, by rw [World.cell?_alloc_at _ _ _ _ rfl]; rfl⟩
theorem below_drewN {B : Nat} {x y : World} (h : Below B x y) (q : Nat) : Below B x (y.drewN q) := ⟨h.os, h.tape, h.output, h.size, h.block⟩
/-- What Open answers. -/
def opn (v : Nat) (l : List Int) : List Int × Nat × Nat :=
  match Frm.look v l with
  | .short => ([], 0, 11)
  | .bad _ e => ([], 0, e)
  | .whole f t => ((l.take t).drop f, t + 4, 0)

end Go.Proofs.YtiajkdjljilndaaDoor
