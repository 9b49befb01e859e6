/- Bits within 32 neighbouring places that are turned in a frame: it is told by the sum; nothing of the program is named here but frames. -/
import Derived.Test.YtnlohbfolphafaaDoorFrLaw
namespace Go.Proofs.YtnlohbfolphafaaDoor
namespace frameBurst
open Go.RowKit Go.Wire1 Go.Crc2 Go.Frm

/-- The list behind k rounds. -/
def burst (l : List Int) (p : Nat) (x : R) : Nat → List Int
  | 0 => l
  | k + 1 => if x.getLsbD k = true ∧ p + k < 8 * l.length then flip (burst l p x k) (p + k) else burst l p x k
theorem burst_len (l : List Int) (p : Nat) (x : R) (k : Nat) : (burst l p x k).length = l.length := by
  induction k with
  | zero => rfl
  | succ k ih => rw [burst]; split <;> simp [flip_len, ih]
theorem burst_byt {l : List Int} (h : Byt l) (p : Nat) (x : R) (k : Nat) : Byt (burst l p x k) := by
  induction k with
  | zero => exact h
  | succ k ih => rw [burst]; split; exact flip_byt ih _; exact ih
theorem burst_takes {l : List Int} (h : Byt l) (p : Nat) (x r : R) (hp : p < 8 * l.length) (k : Nat) (hk : k ≤ 32) :
    takes r (burst l p x k) = takes r l ^^^ steps (8 * l.length - p) (low (min k (8 * l.length - p)) x) ∧ (low (min k (8 * l.length - p)) x = 0#32 → burst l p x k = l) := by
  induction k with
  | zero => rw [Nat.zero_min, low_zero]; exact ⟨by rw [Lin.zero (steps_xor _), BitVec.xor_zero]; rfl, fun _ => rfl⟩
  | succ k ih =>
    obtain ⟨i1, i2⟩ := ih (by omega)
    rw [burst]
    by_cases hc : x.getLsbD k = true ∧ p + k < 8 * l.length
    · rw [if_pos hc]
      have m1 : min (k + 1) (8 * l.length - p) = k + 1 := by omega
      have m2 : min k (8 * l.length - p) = k := by omega
      rw [m1]
      rw [m2] at i1 i2
      refine ⟨?_, fun h0 => ?_⟩
      · rw [takes_flip _ _ _ (burst_byt h p x k) (by rw [burst_len]; exact hc.2), burst_len, i1, low_succ, hc.1, if_pos rfl, steps_xor, BitVec.xor_assoc]
        congr 2
        have e : 8 * l.length - p = k + (8 * l.length - (p + k)) := by omega
        have hu := unit_steps ⟨k, by omega⟩
        simp only at hu
        rw [e, steps_add, hu]
      · exfalso
        have hb := low_bit (k + 1) x k
        rw [h0, hc.1] at hb
        simp at hb
    · rw [if_neg hc]
      have e : low (min (k + 1) (8 * l.length - p)) x = low (min k (8 * l.length - p)) x := by
        by_cases h1 : p + k < 8 * l.length
        · have hb : x.getLsbD k = false := by cases hx : x.getLsbD k; rfl; exact absurd ⟨hx, h1⟩ hc
          have m1 : min (k + 1) (8 * l.length - p) = k + 1 := by omega
          have m2 : min k (8 * l.length - p) = k := by omega
          rw [m1, m2, low_succ, hb]; simp
        · have m1 : min (k + 1) (8 * l.length - p) = min k (8 * l.length - p) := by omega
          rw [m1]
      rw [e]
      exact ⟨i1, i2⟩
theorem law {l : List Int} (h : Byt l) (p : Nat) (x : R) (hp : p < 8 * l.length) : upd 0#32 l = upd 0#32 (burst l p x 32) ↔ l = burst l p x 32 := by
  obtain ⟨h1, h2⟩ := burst_takes h p x (~~~ 0#32) hp 32 (by omega)
  constructor
  · intro e
    unfold upd at e
    have e' := not_inj e
    rw [h1] at e'
    have e2 := xor_cancel (a := takes (~~~ 0#32) l) (b := 0#32) (c := steps (8 * l.length - p) (low (min 32 (8 * l.length - p)) x)) (by rw [BitVec.xor_zero]; exact e')
    have e3 : low (min 32 (8 * l.length - p)) x = 0#32 := steps_inj (8 * l.length - p) (by rw [Lin.zero (steps_xor _)]; exact e2.symm)
    exact (h2 e3).symm
  · intro e; rw [← e]


/-- Has a bit been turned in the first k rounds? -/
def trn (M : Nat) (x : R) (k : Nat) : Bool := decide (low (min k M) x ≠ 0#32)
theorem trn_yes {M : Nat} {x : R} {k : Nat} (hb : x.getLsbD k = true) (hk : k < M) : trn M x (k + 1) = true := by
  unfold trn
  rw [show min (k + 1) M = k + 1 by omega]
  simp only [ne_eq, decide_eq_true_eq]
  intro h0
  have := low_bit (k + 1) x k
  rw [h0, hb] at this
  simp at this
theorem trn_no {M : Nat} {x : R} {k : Nat} (hc : ¬ (x.getLsbD k = true ∧ k < M)) : trn M x (k + 1) = trn M x k := by
  unfold trn
  have e : low (min (k + 1) M) x = low (min k M) x := by
    by_cases h1 : k < M
    · have hb : x.getLsbD k = false := by cases hx : x.getLsbD k; rfl; exact absurd ⟨hx, h1⟩ hc
      rw [show min (k + 1) M = k + 1 by omega, show min k M = k by omega, low_succ, hb]; simp
    · rw [show min (k + 1) M = min k M by omega]
  rw [e]
theorem burst_same {l : List Int} (h : Byt l) (p : Nat) (x : R) (hp : p < 8 * l.length) (ht : trn (8 * l.length - p) x 32 = false) : burst l p x 32 = l := by
  obtain ⟨_, h2⟩ := burst_takes h p x 0#32 hp 32 (by omega)
  unfold trn at ht
  simp only [ne_eq, decide_eq_false_iff_not, Classical.not_not] at ht
  exact h2 ht
theorem burst_other {l : List Int} (h : Byt l) (p : Nat) (x : R) (hp : p < 8 * l.length) (ht : trn (8 * l.length - p) x 32 = true) : burst l p x 32 ≠ l := by
  obtain ⟨h1, _⟩ := burst_takes h p x 0#32 hp 32 (by omega)
  unfold trn at ht
  simp only [ne_eq, decide_eq_true_eq] at ht
  intro e
  rw [e] at h1
  apply ht
  have e2 := xor_cancel (a := takes 0#32 l) (b := 0#32) (c := steps (8 * l.length - p) (low (min 32 (8 * l.length - p)) x)) (by rw [BitVec.xor_zero]; exact h1)
  exact steps_inj (8 * l.length - p) (by rw [Lin.zero (steps_xor _)]; exact e2.symm)
theorem flip_head (l : List Int) (k q : Nat) (h : 8 * q ≤ k) : (flip l k).take q = l.take q := by
  unfold Crc2.flip
  exact List.take_set_of_le (by omega)
theorem burst_head (l : List Int) (p : Nat) (x : R) (q : Nat) (h : 8 * q ≤ p) (k : Nat) : (burst l p x k).take q = l.take q := by
  induction k with
  | zero => rfl
  | succ k ih =>
    rw [burst]
    split
    · rw [flip_head _ _ _ (by omega), ih]
    · exact ih
theorem opn_burst (v : Nat) (p : List Int) (hv : v ≤ 2) (hy : Byt p) (hp : p.length ≤ 1048576) (P : Nat) (x : R) (h1 : 8 * (hdL v p.length).length ≤ P) (h2 : P < 8 * (frm v p).length) (ht : trn (8 * (frm v p).length - P) x 32 = true) :
    opn v (burst (frm v p) P x 32) = ([], 0, 74) := by
  have hb := byt_frm v p hv hy
  have hne := burst_other hb P x h2 ht
  have hlaw := law hb P x h2
  have hlen := burst_len (frm v p) P x 32
  have hhd := burst_head (frm v p) P x (hdL v p.length).length h1 32
  have hfh : (frm v p).take (hdL v p.length).length = hdL v p.length := by unfold frm body; rw [List.append_assoc]; exact List.take_left
  generalize burst (frm v p) P x 32 = G at *
  obtain ⟨r, hr⟩ : ∃ r, G = hdL v p.length ++ r := ⟨G.drop (hdL v p.length).length, by have := List.take_append_drop (hdL v p.length).length G; rw [hhd.trans hfh] at this; exact this.symm⟩
  have hrl : r.length = p.length + 4 := by have := hlen; rw [hr, List.length_append, frm_len] at this; omega
  have H := hd_frm v p hp
  have hgl : G.length = (hdL v p.length).length + p.length + 4 := by rw [hlen, frm_len]
  unfold opn
  have hlk := look_hd H r
  rw [← hr] at hlk
  rw [hlk]
  rcases lookS_cases (hdL v p.length).length ((hdL v p.length).length + p.length) (fb (upd 0#32 (G.take ((hdL v p.length).length + p.length)))) (G.drop ((hdL v p.length).length + p.length)) 0 with ⟨_, _, q2⟩ | ⟨_, q, q2⟩ | ⟨d, z, q, _, _, _, _, q5⟩
  · exfalso
    rw [List.length_drop, fb_len] at q2
    omega
  · exfalso
    have hq : q = [] := by
      have := congrArg List.length q2
      rw [List.length_drop, List.length_append, fb_len] at this
      exact List.length_eq_zero_iff.1 (by omega)
    rw [hq, List.append_nil] at q2
    have e1 : G = G.take ((hdL v p.length).length + p.length) ++ fb (upd 0#32 (G.take ((hdL v p.length).length + p.length))) := by
      have := List.take_append_drop ((hdL v p.length).length + p.length) G
      rw [q2] at this
      exact this.symm
    have e2 : upd 0#32 G = 0x48674BC7#32 := by rw [e1]; exact residue _
    have e3 : upd 0#32 (frm v p) = 0x48674BC7#32 := residue _
    exact hne (hlaw.1 (by rw [e2, e3])).symm
  · rw [q5]
end frameBurst
end Go.Proofs.YtnlohbfolphafaaDoor
