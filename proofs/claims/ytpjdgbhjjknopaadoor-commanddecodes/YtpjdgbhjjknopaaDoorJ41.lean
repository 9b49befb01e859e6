/- Texts of the proof, joined. -/
import Derived.Test.YtpjdgbhjjknopaaDoorRows
import Derived.Test.YtpjdgbhjjknopaaDoorJ01
import Derived.WalkKit
import Derived.ProofKit
import Derived.OpenShut
import Derived.ShutString
import Derived.ChangeOld
import Derived.Below
import Derived.SizedLaws
import Derived.Lib.SmallJoins
/- How an argument that is a list of bytes is opened for the walks. -/
namespace Go.Proofs.YtpjdgbhjjknopaaDoor
open Go.ChangeShapes Go.WideShapes Go.ChangeAt Go.RowKit Go.Wire1

theorem own : ownKnob Tryd.prog.godebug = none := by kernel_rfl
theorem bytes5 : Tryd.prog.bytesOf 5 = 1 := by kernel_rfl
theorem cells5 : Tryd.prog.cellsOf 5 = 1 := by kernel_rfl

theorem byt_wf {zs : List Int} (h : ∀ n ∈ zs, (Lit.int .u8 n).wf = true) : Byt zs := fun z hz => by have := bounds_u8 (h z hz); omega

/-- A list of bytes that came in: what the walks want of it, and that its length is its datum's. -/
theorem open_bytes {H : Type} {enc : TypeId × Value → H} {W : World} {fuel : Nat} {a : Option Addr} {len cap : Nat} {x : DataW H × List MemPlace}
    (h : DataW.trod enc Tryd.prog W 0 (fun _ => true) true fuel 22 [.slice a len cap] = some x) :
    ∃ l, Seg W a len l ∧ Byt l ∧ len ≤ cap ∧ ((x.1 = .nil ∧ len = 0 ∧ cap = 0) ∨ ∃ elems spare, x.1 = .slice elems spare ∧ elems.length = len ∧ elems.length + spare.length = cap) := by
  rcases open_ints Tryd.underlying22 Tryd.underlying5 cells5 h with ⟨hcs, hx⟩ | ⟨b, len', cap', zs, hcs, _, hl, hm, hz, hx, hcell, hwz⟩
  · simp only [List.cons.injEq, Value.slice.injEq, and_true] at hcs
    obtain ⟨rfl, rfl, rfl⟩ := hcs
    exact ⟨[], ⟨rfl, by unfold maxLen; omega, fun h => by omega⟩, (fun z hz => by cases hz), Nat.le_refl _, .inl ⟨by rw [hx], rfl, rfl⟩⟩
  · simp only [List.cons.injEq, Value.slice.injEq, and_true] at hcs
    obtain ⟨rfl, rfl, rfl⟩ := hcs
    simp only [if_true] at hz
    refine ⟨zs.take len, ⟨by rw [List.length_take]; omega, by omega, fun hn => ?_⟩, byt_take (byt_wf hwz) _, hl, .inr ⟨_, _, by rw [hx], by simp [lits]; omega, by simp [lits]; omega⟩⟩
    obtain ⟨bb, off, spot⟩ := b
    have hc0 := hcell 0 (by omega)
    have hspot : spot = none := by simpa [Addr.add] using World.cell?_spot hc0
    subst hspot
    refine ⟨bb, off, rfl, fun j hj => ?_⟩
    have := hcell j (by omega)
    rw [add_at] at this
    rw [this]
    simp [hj]

end Go.Proofs.YtpjdgbhjjknopaaDoor
/- How an argument that is a command is opened for the walks. -/
namespace Go.Proofs.YtpjdgbhjjknopaaDoor
open Go.ChangeShapes Go.WideShapes Go.ChangeAt Go.RowKit Go.Wire1

theorem cown : ownKnob Tryd.prog.godebug = none := by kernel_rfl
theorem claid : laidOutB Tryd.prog = true := by kernel_rfl
end Go.Proofs.YtpjdgbhjjknopaaDoor
