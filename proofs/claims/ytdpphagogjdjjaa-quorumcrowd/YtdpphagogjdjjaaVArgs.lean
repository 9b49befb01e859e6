/- How arguments that are lists of ints, lists of them, and instances are opened for the walks. -/
import Derived.Test.YtdpphagogjdjjaaRows
import Derived.Test.YtdpphagogjdjjaaVMath
import Derived.WalkKit
import Derived.ProofKit
import Derived.OpenShut
import Derived.ShutString
import Derived.ChangeOld
import Derived.Below
import Derived.SizedLaws
import Derived.Lib.SmallJoins
namespace Go.Proofs.Ytdpphagogjdjjaa
open Go.ChangeShapes Go.WideShapes Go.ChangeAt Go.RowKit Go.Wire1

theorem vown : ownKnob Try.prog.godebug = none := by kernel_rfl
theorem vlaid : laidOutB Try.prog = true := by kernel_rfl
theorem vbytes3 : Try.prog.bytesOf 3 = 8 := by kernel_rfl
theorem vcells3 : Try.prog.cellsOf 3 = 1 := by kernel_rfl

theorem vopen_ints {H : Type} {enc : TypeId × Value → H} {W : World} {fuel : Nat} {a : Option Addr} {len cap : Nat} {x : DataW H × List MemPlace}
    (h : DataW.trod enc Try.prog W 0 (fun _ => true) true fuel 22 [.slice a len cap] = some x) : ∃ l, SegI W a len l ∧ len ≤ cap ∧ ((x.1 = .nil ∧ len = 0 ∧ cap = 0) ∨ ∃ elems spare, x.1 = .slice elems spare ∧ elems.length = len ∧ elems.length + spare.length = cap) := by
  rcases Go.ChangeShapes.open_ints Try.underlying22 Try.underlying3 vcells3 h with ⟨hcs, hx⟩ | ⟨b, len', cap', zs, hcs, _, hl, hm, hz, hx, hcell, hwz⟩
  · simp only [List.cons.injEq, Value.slice.injEq, and_true] at hcs
    obtain ⟨rfl, rfl, rfl⟩ := hcs
    exact ⟨[], ⟨rfl, by unfold maxLen; omega, (fun h => by omega), fun j => by simp⟩, Nat.le_refl _, .inl ⟨by rw [hx], rfl, rfl⟩⟩
  · simp only [List.cons.injEq, Value.slice.injEq, and_true] at hcs
    obtain ⟨rfl, rfl, rfl⟩ := hcs
    simp only [if_true] at hz
    refine ⟨zs.take len, ⟨by rw [List.length_take]; omega, by omega, fun hn => ?_, fun j => ?_⟩, hl, .inr ⟨_, _, by rw [hx], by simp [lits]; omega, by simp [lits]; omega⟩⟩
    · obtain ⟨bb, off, spot⟩ := b
      have hc0 := hcell 0 (by omega)
      have hspot : spot = none := by simpa [Addr.add] using World.cell?_spot hc0
      subst hspot
      refine ⟨bb, off, rfl, fun j hj => ?_⟩
      have := hcell j (by omega)
      rw [add_at] at this
      rw [this]
      simp [hj]
    · by_cases hj : j < (zs.take len).length
      · rw [List.getD, List.getElem?_eq_getElem hj]
        have := bounds_i64 (hwz _ (List.mem_of_mem_take (List.getElem_mem hj)))
        simp only [Option.getD_some]; omega
      · rw [List.getD, List.getElem?_eq_none (by omega)]; simp

end Go.Proofs.Ytdpphagogjdjjaa
