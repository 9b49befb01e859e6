/- What is read of bytes with one byte turned: the mathematics. -/
import Derived.Test.YtooejihnifphkaaGreatDoorDBack2
import Derived.Test.YtooejihnifphkaaGreatDoorSameC
import Derived.Test.YtooejihnifphkaaGreatDoorMine
namespace Go.Proofs.YtooejihnifphkaaGreatDoor
open Go.RowKit Go.Wire1

theorem byt_tx (s : ByteArray) : Byt (tx s) := fun z hz => by
  obtain ⟨u, _, rfl⟩ := List.mem_map.1 hz
  have := u.toNat_lt
  omega
theorem byt_ptx (s : ByteArray) : Byt (ptx s) := byt_app (byt_enc _) (byt_tx _)
theorem byt_restC (c : Cm) : Byt (restC c) := by
  unfold restC
  split
  · exact byt_app (byt_enc _) (byt_ptx _)
  · split
    · exact byt_app (byt_ptx _) (byt_ptx _)
    · split
      · exact byt_ptx _
      · split
        · exact byt_enc _
        · intro z hz; simp at hz
theorem byt_encC {c : Cm} (h0 : 0 ≤ c.kind) (h8 : c.kind ≤ 8) : Byt (encC c) := by
  unfold encC
  split
  · intro z hz; simp at hz; omega
  · exact byt_app (byt_app (byt_app (byt_app (fun z hz => by simp at hz; omega) (byt_enc _)) (byt_enc _)) (byt_ptx _)) (byt_restC c)
theorem sameC_eq {c d : Cm} (h : sameC c d = true) : c = d := by
  unfold sameC at h
  simp only [Bool.and_eq_true, beq_iff_eq, teq_iff] at h
  obtain ⟨⟨⟨⟨⟨⟨⟨h0, h1⟩, h2⟩, h3⟩, h4⟩, h5⟩, h6⟩, h7⟩ := h
  cases c; cases d
  simp only at h0 h1 h2 h3 h4 h5 h6 h7
  rw [h0, h1, h2, h3, h4, h5, h6, h7]
theorem sameC_self (c : Cm) : sameC c c = true := by
  unfold sameC
  simp [teq]
theorem nat_xor_ne {a b : Nat} (h : b ≠ 0) : a ^^^ b ≠ a := fun e => by
  have := congrArg (a ^^^ ·) e
  simp only [← Nat.xor_assoc, Nat.xor_self, Nat.zero_xor] at this
  exact h this
/-- A command's bytes with one byte turned are not read as that command. -/
theorem spoilt {v : Int} {c : Cm} {k : Nat} {z : Int} (h : chk v c = 0) (hk : k < (encC c).length) (hz : 0 ≤ z ∧ z < 256) (hne : (encC c).getD k 0 ≠ z) (h0 : (decC v ((encC c).set k z)).2.2 = 0) : sameC c (decC v ((encC c).set k z)).1 = false := by
  have hs := sound_of h
  have hy := byt_set (byt_encC hs.k0 hs.k8) k hz
  cases hc : sameC c (decC v ((encC c).set k z)).1 with
  | false => rfl
  | true =>
    obtain ⟨_, _, _, q1, q2⟩ := decC_one hy h0
    rw [← sameC_eq hc] at q2
    have hl := congrArg List.length q2
    rw [List.length_take, List.length_set] at hl
    rw [List.length_set] at q1
    rw [List.take_of_length_le (by rw [List.length_set]; omega)] at q2
    exact absurd (by conv => lhs; rw [q2]
                     simp [List.getD, hk]) hne
end Go.Proofs.YtooejihnifphkaaGreatDoor
