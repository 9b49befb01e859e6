/- The bounds of a valid message's fields. -/
import Derived.Test.YtooejihnifphkaaGreatDoorMOne3
namespace Go.Proofs.YtooejihnifphkaaGreatDoor
open Go.RowKit Go.Wire1

structure Bnd (v n : Int) (m : Ms) : Prop where
  row : 0 ≤ m.row ∧ m.row < n
  num : 1 ≤ m.num ∧ m.num ≤ 1048576
  x : 0 ≤ m.x ∧ m.x ≤ 65535
  y : 0 ≤ m.y ∧ m.y < n
  p : 0 ≤ m.p ∧ m.p ≤ 65535
  q : 0 ≤ m.q ∧ m.q < n
  len : m.dl.length = 0 ∨ (m.dl.length : Int) = n
  deps : ∀ d ∈ m.dl, 0 ≤ d ∧ d ≤ 1048576
  keys : m.c.key.size ≤ 64 ∧ m.c.key2.size ≤ 64 ∧ m.c.val.size ≤ mostV v ∧ m.c.old.size ≤ mostV v
  sq : 0 ≤ m.sq ∧ m.sq ≤ 1073741824
  st : 0 ≤ m.st ∧ m.st ≤ 2
theorem load_bnd {v n : Int} {may : Bool} {c : Cm} {sq : Int} {dl : List Int} (hn : 1 ≤ n ∧ n ≤ 7) (h : loadF v n may c sq dl = 0) : ((dl.length = 0 ∨ (dl.length : Int) = n) ∧ ∀ d ∈ dl, 0 ≤ d ∧ d ≤ 1048576) ∧ (c.key.size ≤ 64 ∧ c.key2.size ≤ 64 ∧ c.val.size ≤ mostV v ∧ c.old.size ≤ mostV v) ∧ (0 ≤ sq ∧ sq ≤ 1073741824) := by
  obtain ⟨h1, h2, h3, h4⟩ := val_load h
  have hd := val_deps h4 hn
  refine ⟨⟨.inr hd.1, fun d hd2 => ?_⟩, chk_sizes h1, val_seq h3⟩
  have := hd.2.2 d hd2
  split at this <;> omega
theorem zero_keys (v : Int) : zeroC.key.size ≤ 64 ∧ zeroC.key2.size ≤ 64 ∧ zeroC.val.size ≤ mostV v ∧ zeroC.old.size ≤ mostV v := ⟨Nat.zero_le _, Nat.zero_le _, Nat.zero_le _, Nat.zero_le _⟩
theorem msg_bnd {v n : Int} {m : Ms} (h0 : chkM v n m = 0) : Bnd v n m := by
  obtain ⟨h1, h2, h3, h4⟩ := val_msg h0
  obtain ⟨hv, hn⟩ := val_call h1
  have ho := only_self h3
  have h7 := shK_le m
  have hi := val_inst (shF_inst h4)
  have hb : ∀ z, hasB z = true → shF v n m z = 0 → (0 ≤ m.x ∧ m.x ≤ 65535) ∧ (0 ≤ m.y ∧ m.y < n) := fun z hz h => by
    have := val_bal (val_ball (shF_ball h hz)).1
    exact ⟨⟨this.1, this.2.1⟩, this.2.2.1, this.2.2.2.1⟩
  generalize shK m = z at *
  have z1 : (0 : Int) ≤ 0 ∧ (0 : Int) < n := by omega
  have z2 : (0 : Int) ≤ 0 ∧ (0 : Int) ≤ 65535 := by omega
  have z3 : (0 : Int) ≤ 0 ∧ (0 : Int) ≤ 1073741824 := by omega
  have z4 : (0 : Int) ≤ 0 ∧ (0 : Int) ≤ 2 := by omega
  have zd : (([] : List Int).length = 0 ∨ (([] : List Int).length : Int) = n) := .inl rfl
  have ze : ∀ d ∈ ([] : List Int), 0 ≤ d ∧ d ≤ 1048576 := fun d h => by cases h
  obtain ⟨k, row, num, x, y, p, q, st, sm, c, sq, dl⟩ := m
  rcases (by omega : z = 0 ∨ z = 1 ∨ z = 2 ∨ z = 3 ∨ z = 4 ∨ z = 5 ∨ z = 6 ∨ z = 7) with rfl | rfl | rfl | rfl | rfl | rfl | rfl | rfl
  · simp only [only, Ms.mk.injEq, true_and] at ho
    obtain ⟨rfl, rfl, rfl, rfl, rfl, rfl, rfl, rfl, rfl⟩ := ho
    exact ⟨⟨hi.1, hi.2.1⟩, hi.2.2, z2, z1, z2, z1, zd, ze, zero_keys v, z3, z4⟩
  · simp only [only, Ms.mk.injEq, true_and, and_true] at ho
    obtain ⟨rfl, rfl, rfl, rfl⟩ := ho
    have b := hb 1 rfl h4
    have l := load_bnd hn (orL_cons.1 (orL_cons.1 (orL_cons.1 h4).2).2).1
    exact ⟨⟨hi.1, hi.2.1⟩, hi.2.2, b.1, b.2, z2, z1, l.1.1, l.1.2, l.2.1, l.2.2, z4⟩
  · simp only [only, Ms.mk.injEq, true_and, and_true] at ho
    obtain ⟨rfl, rfl, rfl, rfl, rfl⟩ := ho
    have b := hb 2 rfl h4
    have hs5 := (unl_zero (show (55 : Int) ≠ 0 by decide)).1 (orL_cons.1 (orL_cons.1 (orL_cons.1 h4).2).2).1
    have hd5 := (unl_zero (show (56 : Int) ≠ 0 by decide)).1 (orL_cons.1 (orL_cons.1 (orL_cons.1 (orL_cons.1 h4).2).2).2).1
    have hd := val_deps hd5 hn
    exact ⟨⟨hi.1, hi.2.1⟩, hi.2.2, b.1, b.2, z2, z1, .inr hd.1, fun d h => hd.2.2 d h, zero_keys v, val_seq hs5, z4⟩
  · simp only [only, Ms.mk.injEq, true_and] at ho
    obtain ⟨rfl, rfl, rfl, rfl, rfl, rfl, rfl⟩ := ho
    have b := hb 3 rfl h4
    exact ⟨⟨hi.1, hi.2.1⟩, hi.2.2, b.1, b.2, z2, z1, zd, ze, zero_keys v, z3, z4⟩
  · simp only [only, Ms.mk.injEq, true_and, and_true] at ho
    obtain ⟨rfl, rfl, rfl, rfl, rfl, rfl⟩ := ho
    have l := load_bnd hn (orL_cons.1 (orL_cons.1 h4).2).1
    exact ⟨⟨hi.1, hi.2.1⟩, hi.2.2, z2, z1, z2, z1, l.1.1, l.1.2, l.2.1, l.2.2, z4⟩
  · simp only [only, Ms.mk.injEq, true_and] at ho
    obtain ⟨rfl, rfl, rfl, rfl, rfl, rfl, rfl⟩ := ho
    have b := hb 5 rfl h4
    exact ⟨⟨hi.1, hi.2.1⟩, hi.2.2, b.1, b.2, z2, z1, zd, ze, zero_keys v, z3, z4⟩
  · have b := hb 6 rfl h4
    have hvt := (unl_zero (show (54 : Int) ≠ 0 by decide)).1 (orL_cons.1 (orL_cons.1 (orL_cons.1 h4).2).2).1
    have hvv := val_vote hvt
    have l := load_bnd hn (orL_cons.1 (orL_cons.1 (orL_cons.1 (orL_cons.1 h4).2).2).2).1
    exact ⟨⟨hi.1, hi.2.1⟩, hi.2.2, b.1, b.2, ⟨hvv.2.1, hvv.2.2.1⟩, ⟨hvv.2.2.2.1, hvv.2.2.2.2.1⟩, l.1.1, l.1.2, l.2.1, l.2.2, by have := hvv.1; simp only at this ⊢; omega⟩
  · simp only [only, Ms.mk.injEq, true_and] at ho
    obtain ⟨rfl, rfl, rfl, rfl, rfl⟩ := ho
    have b := hb 7 rfl h4
    have hvv := val_nack ((unl_zero (show (54 : Int) ≠ 0 by decide)).1 (orL_cons.1 (orL_cons.1 (orL_cons.1 h4).2).2).1)
    exact ⟨⟨hi.1, hi.2.1⟩, hi.2.2, b.1, b.2, ⟨hvv.1, hvv.2.1⟩, ⟨hvv.2.2.1, hvv.2.2.2.1⟩, zd, ze, zero_keys v, z3, z4⟩
end Go.Proofs.YtooejihnifphkaaGreatDoor
