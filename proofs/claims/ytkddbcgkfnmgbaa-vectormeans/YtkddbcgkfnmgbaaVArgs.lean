/- How arguments that are lists of ints, lists of them, and instances are opened for the walks. -/
import Derived.Test.YtkddbcgkfnmgbaaRows
import Derived.Test.YtkddbcgkfnmgbaaVMath
import Derived.WalkKit
import Derived.ProofKit
import Derived.OpenShut
import Derived.ShutString
import Derived.ChangeOld
import Derived.Below
import Derived.SizedLaws
import Derived.Lib.SmallJoins
namespace Go.Proofs.Ytkddbcgkfnmgbaa
open Go.ChangeShapes Go.WideShapes Go.ChangeAt Go.RowKit Go.Wire1

theorem vown : ownKnob Try.prog.godebug = none := by kernel_rfl
theorem vlaid : laidOutB Try.prog = true := by kernel_rfl
theorem vbytes3 : Try.prog.bytesOf 3 = 8 := by kernel_rfl
theorem vcells3 : Try.prog.cellsOf 3 = 1 := by kernel_rfl
theorem vcellsL : Try.prog.cellsOf 23 = 1 := by kernel_rfl

theorem vopen_ints {H : Type} {enc : TypeId × Value → H} {W : World} {fuel : Nat} {a : Option Addr} {len cap : Nat} {x : DataW H × List MemPlace}
    (h : DataW.trod enc Try.prog W 0 (fun _ => true) true fuel 23 [.slice a len cap] = some x) : ∃ l, SegI W a len l ∧ len ≤ cap ∧ ((x.1 = .nil ∧ len = 0 ∧ cap = 0) ∨ ∃ elems spare, x.1 = .slice elems spare ∧ elems.length = len ∧ elems.length + spare.length = cap) := by
  rcases Go.ChangeShapes.open_ints Try.underlying23 Try.underlying3 vcells3 h with ⟨hcs, hx⟩ | ⟨b, len', cap', zs, hcs, _, hl, hm, hz, hx, hcell, hwz⟩
  · simp only [List.cons.injEq, Value.slice.injEq, and_true] at hcs
    obtain ⟨rfl, rfl, rfl⟩ := hcs
    exact ⟨[], ⟨rfl, by unfold maxLen; omega, (fun h => by omega), fun j => by simp⟩, Nat.le_refl _, .inl ⟨by rw [hx], rfl, rfl⟩⟩
  · simp only [List.cons.injEq, Value.slice.injEq, and_true] at hcs
    obtain ⟨rfl, rfl, rfl⟩ := hcs
    simp only [if_true] at hz
    refine ⟨zs.take len, ⟨by rw [List.length_take]; omega, by omega, fun hn => ?_, fun j => ?_⟩, hl, .inr ⟨_, _, by rw [hx], by simp [lits]; omega, by simp [lits]; omega⟩⟩
    · obtain ⟨bb, off, spot⟩ := b
      have hc0 := hcell 0 (by omega)
      have hspot : spot = none := by simpa [Addr.add] using World.cell?_spot hc0
      subst hspot
      refine ⟨bb, off, rfl, fun j hj => ?_⟩
      have := hcell j (by omega)
      rw [add_at] at this
      rw [this]
      simp [hj]
    · by_cases hj : j < (zs.take len).length
      · rw [List.getD, List.getElem?_eq_getElem hj]
        have := bounds_i64 (hwz _ (List.mem_of_mem_take (List.getElem_mem hj)))
        simp only [Option.getD_some]; omega
      · rw [List.getD, List.getElem?_eq_none (by omega)]; simp

set_option maxRecDepth 100000 in
theorem vopen_rows {H : Type} {enc : TypeId × Value → H} {W : World} {fuel : Nat} {a : Option Addr} {len cap : Nat} {x : DataW H × List MemPlace}
    (h : DataW.trod enc Try.prog W 0 (fun _ => true) true fuel 22 [.slice a len cap] = some x) : ∃ l, SegL W a len l ∧ len ≤ cap := by
  rcases DataW.trod_slice Try.underlying22 h with ⟨hcs, _⟩ | ⟨ad, len', cap', elems, rest, n, _, hcs, hx, _, hl, hm, hlen, hel, hsp, _⟩
  · simp only [List.cons.injEq, Value.slice.injEq, and_true] at hcs
    obtain ⟨rfl, rfl, rfl⟩ := hcs
    exact ⟨[], ⟨rfl, by unfold maxLen; omega, (fun h => by omega), fun i hi => by omega⟩, by omega⟩
  · simp only [List.cons.injEq, Value.slice.injEq, and_true] at hcs
    obtain ⟨rfl, rfl, rfl⟩ := hcs
    rw [vcellsL] at hel
    have each : ∀ i, i < len → ∃ o : LI, SegI W o.a o.n o.l ∧ W.cells? 0 (ad.add (i * 1)) 1 = some [.slice o.a o.n o.cap] := fun i hi => by
      have h1 := hel i hi
      have hge : elems[i]? = some elems[i] := List.getElem?_eq_getElem (by omega)
      rw [hge, Option.bind_eq_some_iff] at h1
      obtain ⟨cs, hc, ht⟩ := h1
      obtain ⟨la, ln, lc, rfl⟩ : ∃ la ln lc, cs = [.slice la ln lc] := by
        rcases DataW.trod_slice Try.underlying23 ht with ⟨e, _⟩ | ⟨ad', l', c', _, _, _, _, e, _⟩
        · exact ⟨none, 0, 0, e⟩
        · exact ⟨_, _, _, e⟩
      obtain ⟨l, hseg, _, _⟩ := vopen_ints ht
      exact ⟨⟨la, ln, lc, l⟩, hseg, hc⟩
    have pick : ∃ f : Nat → LI, ∀ i, i < len → SegI W (f i).a (f i).n (f i).l ∧ W.cells? 0 (ad.add (i * 1)) 1 = some [.slice (f i).a (f i).n (f i).cap] :=
      ⟨fun i => if hi : i < len then (each i hi).choose else liZ, fun i hi => by simp only [dif_pos hi]; exact (each i hi).choose_spec⟩
    obtain ⟨f, hf⟩ := pick
    have hget : ∀ i, i < len → ((List.range len).map f).getD i liZ = f i := fun i hi => by simp [hi]
    refine ⟨(List.range len).map f, ⟨by simp, by omega, fun hn => ?_, fun i hi => by rw [hget i hi]; exact (hf i hi).1⟩, hl⟩
    obtain ⟨bb, off, spot⟩ := ad
    have hs0 := (World.cells?_some (hf 0 hn).2).2.2 0 (by omega)
    have hs1 : W.cell? ⟨bb, off, spot⟩ = some (.slice (f 0).a (f 0).n (f 0).cap) := by simpa [Addr.add] using hs0
    have hspot : spot = none := World.cell?_spot hs1
    subst hspot
    refine ⟨bb, off, rfl, fun i hi => ?_⟩
    rw [hget i hi]
    have hc := (World.cells?_some (hf i hi).2).2.2 0 (by omega)
    simp only [add_at, Nat.mul_one, Nat.add_zero] at hc
    exact hc
end Go.Proofs.Ytkddbcgkfnmgbaa
