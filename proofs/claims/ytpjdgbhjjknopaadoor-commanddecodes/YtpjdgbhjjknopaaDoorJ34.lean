/- Texts of the proof, joined. -/
import Derived.Test.YtpjdgbhjjknopaaDoorJ32
/- What Decode takes is what Encode writes: the mathematics. -/
namespace Go.Proofs.YtpjdgbhjjknopaaDoor
open Go.RowKit Go.Wire1

end Go.Proofs.YtpjdgbhjjknopaaDoor
/- What Decode takes is what Encode writes: the mathematics, second part. -/
namespace Go.Proofs.YtpjdgbhjjknopaaDoor
open Go.RowKit Go.Wire1

/-- The fields behind Key: which a kind has, and that each is allowed. -/
def TailOk (v : Int) (c : Cm) : Prop :=
  (if 6 ≤ c.kind then 1 ≤ c.key2.size ∧ c.key2.size ≤ 64 ∧ isPairB c.kind c.key c.key2 = true else c.key2 = ⟨#[]⟩) ∧
  (if c.kind = 2 ∨ c.kind = 5 then c.val.size ≤ mostV v else c.val = ⟨#[]⟩) ∧
  (if c.kind = 5 then c.old.size ≤ mostV v else c.old = ⟨#[]⟩) ∧ (if c.kind = 4 then True else c.n = 0)
end Go.Proofs.YtpjdgbhjjknopaaDoor
/- What Encode writes is read back, and each beginning of it ends too early: the mathematics. -/
namespace Go.Proofs.YtpjdgbhjjknopaaDoor
open Go.RowKit Go.Wire1

/-- A scan that has come to the bytes' end too early. -/
def Bad (s : St) : Prop := s.f = 11 ∧ s.ft = 11
theorem note_none (own : Int) : noteF own 0 0 = 0 := by simp [noteF]
end Go.Proofs.YtpjdgbhjjknopaaDoor
/- What Encode writes is read back, and each beginning of it ends too early: the mathematics, second part. -/
namespace Go.Proofs.YtpjdgbhjjknopaaDoor
open Go.RowKit Go.Wire1

theorem mostV_le (v : Int) : mostV v ≤ 65536 := by unfold mostV; split <;> omega
theorem sKind_full {v x : Int} {l r : List Int} (hx : isKd v x = true) (h : l = x :: r) : sKind v l ⟨0, 0, 0⟩ = (x, ⟨1, 0, 0⟩) := by
  have hr := isKd_range hx
  have e : gB 255 l ⟨0, 0, 0⟩ = (x, 1, 0) := by
    unfold gB
    subst h
    simp only [if_true, List.length_cons]
    rw [if_neg (by omega), if_neg (by simp; omega)]
    rfl
  unfold sKind
  rw [e]
  simp only [hx, if_true, note_none]
end Go.Proofs.YtpjdgbhjjknopaaDoor
