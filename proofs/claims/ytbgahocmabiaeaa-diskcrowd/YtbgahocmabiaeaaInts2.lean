/- How an argument that is a list of ints is opened for the walks, with its size. -/
import Derived.Test.YtbgahocmabiaeaaArgs
namespace Go.Proofs.Ytbgahocmabiaeaa
open Go.ChangeShapes Go.WideShapes Go.ChangeAt Go.RowKit Go.Wire1

/-- A list of ints in memory. -/
def SegI (w : World) (a : Option Addr) (n : Nat) (l : List Int) : Prop :=
  l.length = n ∧ n ≤ maxLen ∧ (0 < n → ∃ b off, a = some ⟨b, off, none⟩ ∧ ∀ j, j < n → w.cell? ⟨b, off + j, none⟩ = some (.int .i64 (l.getD j 0))) ∧ ∀ j, -9223372036854775808 ≤ l.getD j 0 ∧ l.getD j 0 ≤ 9223372036854775807
theorem SegI.later {w w' : World} {a : Option Addr} {n : Nat} {l : List Int} (h : SegI w a n l) (hb : Below w.heap.size w w') : SegI w' a n l := by
  obtain ⟨h1, h2, h3, h4⟩ := h
  refine ⟨h1, h2, fun hn => ?_, h4⟩
  obtain ⟨b, off, e, hc⟩ := h3 hn
  exact ⟨b, off, e, fun j hj => by
    have h := hc j hj
    have hlt : b < w.heap.size := by
      rcases Nat.lt_or_ge b w.heap.size with h' | h'
      · exact h'
      · simp [World.cell?, Array.getElem?_eq_none h'] at h
    rw [hb.cell (p := ⟨b, off + j, none⟩) hlt]; exact h⟩
theorem bytes3 : Try.prog.bytesOf 3 = 8 := by kernel_rfl
theorem cells3 : Try.prog.cellsOf 3 = 1 := by kernel_rfl

theorem open_ints {H : Type} {enc : TypeId × Value → H} {W : World} {fuel : Nat} {a : Option Addr} {len cap : Nat} {x : DataW H × List MemPlace}
    (h : DataW.trod enc Try.prog W 0 (fun _ => true) true fuel 23 [.slice a len cap] = some x) : ∃ l, SegI W a len l ∧ len ≤ cap ∧ ((x.1 = .nil ∧ len = 0 ∧ cap = 0) ∨ ∃ elems spare, x.1 = .slice elems spare ∧ elems.length = len ∧ elems.length + spare.length = cap) := by
  rcases Go.ChangeShapes.open_ints Try.underlying23 Try.underlying3 cells3 h with ⟨hcs, hx⟩ | ⟨b, len', cap', zs, hcs, _, hl, hm, hz, hx, hcell, hwz⟩
  · simp only [List.cons.injEq, Value.slice.injEq, and_true] at hcs
    obtain ⟨rfl, rfl, rfl⟩ := hcs
    exact ⟨[], ⟨rfl, by unfold maxLen; omega, (fun h => by omega), fun j => by simp⟩, Nat.le_refl _, .inl ⟨by rw [hx], rfl, rfl⟩⟩
  · simp only [List.cons.injEq, Value.slice.injEq, and_true] at hcs
    obtain ⟨rfl, rfl, rfl⟩ := hcs
    simp only [if_true] at hz
    refine ⟨zs.take len, ⟨by rw [List.length_take]; omega, by omega, fun hn => ?_, fun j => ?_⟩, hl, .inr ⟨_, _, by rw [hx], by simp [lits]; omega, by simp [lits]; omega⟩⟩
    · obtain ⟨bb, off, spot⟩ := b
      have hc0 := hcell 0 (by omega)
      have hspot : spot = none := by simpa [Addr.add] using World.cell?_spot hc0
      subst hspot
      refine ⟨bb, off, rfl, fun j hj => ?_⟩
      have := hcell j (by omega)
      rw [add_at] at this
      rw [this]
      simp [hj]
    · by_cases hj : j < (zs.take len).length
      · rw [List.getD, List.getElem?_eq_getElem hj]
        have := bounds_i64 (hwz _ (List.mem_of_mem_take (List.getElem_mem hj)))
        simp only [Option.getD_some]; omega
      · rw [List.getD, List.getElem?_eq_none (by omega)]; simp
end Go.Proofs.Ytbgahocmabiaeaa
