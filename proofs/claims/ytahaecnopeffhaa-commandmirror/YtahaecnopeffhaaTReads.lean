/- The contract of the statements' own reads. -/
import Derived.Test.YtahaecnopeffhaaTLaw
namespace Go.Proofs.Ytahaecnopeffhaa
open Go.RowKit Go.Wire1
set_option maxHeartbeats 400000 in
set_option maxRecDepth 100000 in
theorem lreads_any (kind : Int) (w : World) :
    Calls Try.prog 9 #[.int .i64 kind] w fun e w' => e = .returned (.bool (readK kind)) ∧ w = w' := by
  cases h1 : (kind == 1) with
  | true =>
    have HR : Hid (readK kind = true) := by simp [Hid, readK, h1]
    go_enter Try.func9, Try.ntmps9
    go_wp2
    go_ret
    exact ⟨by rw [HR.out]; rfl, rfl⟩
  | false =>
    obtain ⟨c, hc⟩ : ∃ c, Hid ((kind == 8) = c) := ⟨_, rfl⟩
    have HR : Hid (readK kind = c) := by simp [Hid, readK, h1, hc.out]
    have hc' := hc.out
    go_enter Try.func9, Try.ntmps9
    go_wp2
    go_ret
    exact ⟨by rw [HR.out, ← hc.out]; rfl, rfl⟩
end Go.Proofs.Ytahaecnopeffhaa
