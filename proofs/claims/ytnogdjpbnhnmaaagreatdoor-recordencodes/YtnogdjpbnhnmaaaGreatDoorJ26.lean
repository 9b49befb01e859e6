/- Texts of the proof, joined. -/
import Derived.Test.YtnogdjpbnhnmaaaGreatDoorJ25
/- What Encode writes is read back, and each beginning of it ends too early: the mathematics, second part. -/
namespace Go.Proofs.YtnogdjpbnhnmaaaGreatDoor
open Go.RowKit Go.Wire1

theorem ext_size (k2 : ByteArray) (i : Nat) : (k2.extract i k2.size).size = k2.size - i := by
  rw [ByteArray.size_extract]; omega
theorem mostV_le (v : Int) : mostV v ≤ 65536 := by unfold mostV; split <;> omega
theorem ptx_le {s : ByteArray} (h : s.size ≤ 65536) : (ptx s).length ≤ 10 + s.size := by
  unfold ptx
  rw [List.length_append, tx_len]
  have := enc_le s.size (by omega)
  omega
theorem encC_le {v : Int} {c : Cm} (h : chk v c = 0) : (encC c).length ≤ 131281 := by
  have hc := chk_zero h
  have hs := sound_of h
  have hr := isKd_range hc.2.1
  by_cases h0 : c.kind = 0
  · have : (encC c).length = 1 := by unfold encC; rw [if_pos h0]; rfl
    omega
  · have ht := tailOk_of h h0
    have hcl := hs.client h0
    have hrq := hs.req h0
    have hky := hs.key h0
    have hm := mostV_le v
    have a1 := enc_le c.client.toNat (by omega)
    have a2 := enc_le c.req.toNat (by omega)
    have a3 := ptx_le (s := c.key) (by omega)
    have eL : (encC c).length = 1 + (enc c.client.toNat).length + (enc c.req.toNat).length + (ptx c.key).length + (restC c).length := by unfold encC; rw [if_neg h0]; simp; omega
    have a4 : (restC c).length ≤ 131092 := by
      obtain ⟨t1, t2, t3, t4⟩ := ht
      unfold restC
      split
      · rename_i q
        rw [if_pos q] at t1
        have s1 := shared_le c.key c.key2
        have s2 := ext_size c.key2 (shared c.key c.key2)
        have b1 := enc_le (shared c.key c.key2) (by omega)
        have b2 := ptx_le (s := c.key2.extract (shared c.key c.key2) c.key2.size) (by omega)
        rw [List.length_append]
        omega
      · split
        · rename_i q
          rw [if_pos (Or.inr q)] at t2
          rw [if_pos q] at t3
          have b1 := ptx_le (s := c.old) (by omega)
          have b2 := ptx_le (s := c.val) (by omega)
          rw [List.length_append]
          omega
        · split
          · rename_i q
            rw [if_pos (Or.inl q)] at t2
            have b2 := ptx_le (s := c.val) (by omega)
            omega
          · split
            · have : ∀ x, (enc x).length ≤ 10 := fun x => by
                have : ∀ f y, (encF f y).length ≤ f := fun f => by
                  induction f with
                  | zero => intro y; simp [encF]
                  | succ g ih => intro y; simp only [encF]; split <;> simp; exact ih _
                exact this 10 x
              have := this (zig c.n)
              omega
            · simp
    omega
end Go.Proofs.YtnogdjpbnhnmaaaGreatDoor
