/- Texts of the proof, joined. -/
import Derived.Test.YtpjdgbhjjknopaaDoorJ01
import Derived.WalkKit
/- A command in a block of its own. -/
namespace Go.Proofs.YtpjdgbhjjknopaaDoor
open Go.RowKit Go.Wire1

/-- A command in a block of its own. -/
def CBox (w : World) (g : Nat) (kind client req : Int) (key key2 val old : ByteArray) (n : Int) : Prop :=
  w.cell? ⟨g, 0, none⟩ = some (.int .i64 kind) ∧ w.cell? ⟨g, 1, none⟩ = some (.int .i64 client) ∧ w.cell? ⟨g, 2, none⟩ = some (.int .i64 req) ∧ w.cell? ⟨g, 3, none⟩ = some (.string key) ∧ w.cell? ⟨g, 4, none⟩ = some (.string key2) ∧ w.cell? ⟨g, 5, none⟩ = some (.string val) ∧ w.cell? ⟨g, 6, none⟩ = some (.string old) ∧ w.cell? ⟨g, 7, none⟩ = some (.int .i64 n)
theorem CBox.below {w w' : World} {g B : Nat} {kind client req : Int} {key key2 val old : ByteArray} {n : Int} (h : CBox w g kind client req key key2 val old n) (hb : Below B w w') (hB : w.heap.size ≤ B) : CBox w' g kind client req key key2 val old n := by
  have hg : g < w.heap.size := cell_lt h.1
  have key : ∀ o, w'.cell? ⟨g, o, none⟩ = w.cell? ⟨g, o, none⟩ := fun o => hb.cell (p := ⟨g, o, none⟩) (by show g < B; omega)
  unfold CBox
  rw [key, key, key, key, key, key, key, key]
  exact h
theorem CBox.drewN {w : World} {g : Nat} {kind client req : Int} {key key2 val old : ByteArray} {n : Int} (h : CBox w g kind client req key key2 val old n) (q : Nat) : CBox (w.drewN q) g kind client req key key2 val old n := h
theorem cbox_new (w : World) (t : TypeId) (kind client req : Int) (key key2 val old : ByteArray) (n : Int) : CBox (w.alloc (.cells #[.int .i64 kind, .int .i64 client, .int .i64 req, .string key, .string key2, .string val, .string old, .int .i64 n] t)) w.heap.size kind client req key key2 val old n := by
  refine ⟨?_, ?_, ?_, ?_, ?_, ?_, ?_, ?_⟩ <;> simp [go_sem]
end Go.Proofs.YtpjdgbhjjknopaaDoor
