/- The plain mathematics of the document's own Encode; nothing of the program is named here. -/
import Derived.Test.YtahaecnopeffhabDoorEMath
import Derived.Test.YtahaecnopeffhabDoorHRMath
namespace Go.Wire1
open Go.RowKit

/-- The bytes of one field, by its letter. -/
def partB (b : Int) (c : Cm) : List Int :=
  if b = 99 then enc c.client.toNat else if b = 114 then enc c.req.toNat else if b = 107 then ptx c.key
  else if b = 106 then enc (shared c.key c.key2) ++ ptx (c.key2.extract (shared c.key c.key2) c.key2.size)
  else if b = 111 then ptx c.old else if b = 118 then ptx c.val else enc (zig c.n)
structure PartOk (b : Int) (c : Cm) : Prop where
  client : b = 99 → 0 ≤ c.client ∧ c.client ≤ 65535
  req : b = 114 → 0 ≤ c.req ∧ c.req ≤ 1073741824
  key : b = 107 → 1 ≤ c.key.size ∧ c.key.size ≤ 64
  key2 : b = 106 → 1 ≤ c.key.size ∧ c.key.size ≤ 64 ∧ 1 ≤ c.key2.size ∧ c.key2.size ≤ 64
  old : b = 111 → c.old.size ≤ 65536
  val : b = 118 → c.val.size ≤ 65536
theorem letters (k : Fin 9) (i : Fin 5) : (tb (fldS (k.val : Int)) i.val = 106 → 6 ≤ k.val) ∧ (tb (fldS (k.val : Int)) i.val = 111 → k.val = 5) ∧ (tb (fldS (k.val : Int)) i.val = 118 → k.val = 2 ∨ k.val = 5) := by
  revert k i; decide +kernel
theorem part_ok {c : Cm} (h : Sound c) (hk : c.kind ≠ 0) {i : Nat} (hi : i < 5) : PartOk (tb (fldS c.kind) i) c := by
  obtain ⟨k, hkk⟩ := Int.eq_ofNat_of_zero_le h.k0
  have h8 := h.k8
  obtain ⟨l1, l2, l3⟩ := letters ⟨k, by omega⟩ ⟨i, hi⟩
  simp only at l1 l2 l3
  rw [← hkk] at l1 l2 l3
  have kk := h.key hk
  exact ⟨fun _ => h.client hk, fun _ => h.req hk, fun _ => kk, fun e => by have := l1 e; have := h.key2 (by omega); exact ⟨kk.1, kk.2, this.1, this.2.1⟩, fun e => h.old (by have := l2 e; omega), fun e => h.val (by have := l3 e; omega)⟩
theorem part_len {b : Int} {c : Cm} (h : PartOk b c) (hn : -9223372036854775808 ≤ c.n ∧ c.n ≤ 9223372036854775807) : 1 ≤ (partB b c).length ∧ (partB b c).length ≤ 70000 := by
  have pl : ∀ s : ByteArray, s.size ≤ 65536 → 1 ≤ (ptx s).length ∧ (ptx s).length ≤ 65546 := fun s hs => by
    have := enc_le s.size (by omega)
    unfold ptx; rw [List.length_append, tx_len]; omega
  unfold partB
  split
  · rename_i e
    have := h.client e
    have := enc_le c.client.toNat (by omega)
    omega
  · split
    · rename_i e
      have := h.req e
      have := enc_le c.req.toNat (by omega)
      omega
    · split
      · rename_i e
        have := h.key e
        have := pl c.key (by omega)
        omega
      · split
        · rename_i e
          have hk := h.key2 e
          have sl := shared_le c.key c.key2
          have h1 := enc_le (shared c.key c.key2) (by omega)
          have h2 := pl (c.key2.extract (shared c.key c.key2) c.key2.size) (by rw [ByteArray.size_extract]; omega)
          rw [List.length_append]; omega
        · split
          · rename_i e
            have := pl c.old (h.old e)
            omega
          · split
            · rename_i e
              have := pl c.val (h.val e)
              omega
            · have := enc_le (zig c.n) (zig_lt c.n hn.1 hn.2)
              omega
def preB (c : Cm) (i : Nat) : List Int := [c.kind] ++ (List.range i).flatMap fun j => partB (tb (fldS c.kind) j) c
theorem preB_next (c : Cm) (i : Nat) : preB c (i + 1) = preB c i ++ partB (tb (fldS c.kind) i) c := by
  unfold preB
  rw [List.range_succ, List.flatMap_append, ← List.append_assoc]; simp
theorem preB_all {c : Cm} (h0 : 0 ≤ c.kind) (h8 : c.kind ≤ 8) : preB c (fldS c.kind).size = encC c := by
  obtain ⟨kind, client, req, key, key2, val, old, n⟩ := c
  simp only at h0 h8
  rcases (by omega : kind = 0 ∨ kind = 1 ∨ kind = 2 ∨ kind = 3 ∨ kind = 4 ∨ kind = 5 ∨ kind = 6 ∨ kind = 7 ∨ kind = 8) with rfl | rfl | rfl | rfl | rfl | rfl | rfl | rfl | rfl
  · rfl
  all_goals
    first
    | (rw [show (fldS _).size = 3 from rfl]; simp [preB, encC, restC, List.range_succ, partB, show tb (fldS 1) 0 = 99 from rfl, show tb (fldS 1) 1 = 114 from rfl, show tb (fldS 1) 2 = 107 from rfl]; done)
    | (rw [show (fldS _).size = 3 from rfl]; simp [preB, encC, restC, List.range_succ, partB, show tb (fldS 3) 0 = 99 from rfl, show tb (fldS 3) 1 = 114 from rfl, show tb (fldS 3) 2 = 107 from rfl]; done)
    | (rw [show (fldS _).size = 4 from rfl]; simp [preB, encC, restC, List.range_succ, partB, show tb (fldS 2) 0 = 99 from rfl, show tb (fldS 2) 1 = 114 from rfl, show tb (fldS 2) 2 = 107 from rfl, show tb (fldS 2) 3 = 118 from rfl]; done)
    | (rw [show (fldS _).size = 4 from rfl]; simp [preB, encC, restC, List.range_succ, partB, show tb (fldS 4) 0 = 99 from rfl, show tb (fldS 4) 1 = 114 from rfl, show tb (fldS 4) 2 = 107 from rfl, show tb (fldS 4) 3 = 110 from rfl]; done)
    | (rw [show (fldS _).size = 4 from rfl]; simp [preB, encC, restC, List.range_succ, partB, show tb (fldS 6) 0 = 99 from rfl, show tb (fldS 6) 1 = 114 from rfl, show tb (fldS 6) 2 = 107 from rfl, show tb (fldS 6) 3 = 106 from rfl]; done)
    | (rw [show (fldS _).size = 4 from rfl]; simp [preB, encC, restC, List.range_succ, partB, show tb (fldS 7) 0 = 99 from rfl, show tb (fldS 7) 1 = 114 from rfl, show tb (fldS 7) 2 = 107 from rfl, show tb (fldS 7) 3 = 106 from rfl]; done)
    | (rw [show (fldS _).size = 4 from rfl]; simp [preB, encC, restC, List.range_succ, partB, show tb (fldS 8) 0 = 99 from rfl, show tb (fldS 8) 1 = 114 from rfl, show tb (fldS 8) 2 = 107 from rfl, show tb (fldS 8) 3 = 106 from rfl]; done)
    | (rw [show (fldS _).size = 5 from rfl]; simp [preB, encC, restC, List.range_succ, partB, show tb (fldS 5) 0 = 99 from rfl, show tb (fldS 5) 1 = 114 from rfl, show tb (fldS 5) 2 = 107 from rfl, show tb (fldS 5) 3 = 111 from rfl, show tb (fldS 5) 4 = 118 from rfl]; done)
end Go.Wire1
