/- Texts of the proof, joined. -/
import Derived.Test.YtbdkelffncmkhaaGreatDoorJ44
import Derived.Test.YtbdkelffncmkhaaGreatDoorRows
import Derived.Test.YtbdkelffncmkhaaGreatDoorJ01
import Derived.WalkKit
import Derived.ProofKit
import Derived.OpenShut
import Derived.ShutString
import Derived.ChangeOld
import Derived.Below
import Derived.SizedLaws
import Derived.Test.YtbdkelffncmkhaaGreatDoorJ05
/- The bounds of a valid message's fields. -/
namespace Go.Proofs.YtbdkelffncmkhaaGreatDoor
open Go.RowKit Go.Wire1

structure Bnd (v n : Int) (m : Ms) : Prop where
  row : 0 ≤ m.row ∧ m.row < n
  num : 1 ≤ m.num ∧ m.num ≤ 1048576
  x : 0 ≤ m.x ∧ m.x ≤ 65535
  y : 0 ≤ m.y ∧ m.y < n
  p : 0 ≤ m.p ∧ m.p ≤ 65535
  q : 0 ≤ m.q ∧ m.q < n
  len : m.dl.length = 0 ∨ (m.dl.length : Int) = n
  deps : ∀ d ∈ m.dl, 0 ≤ d ∧ d ≤ 1048576
  keys : m.c.key.size ≤ 64 ∧ m.c.key2.size ≤ 64 ∧ m.c.val.size ≤ mostV v ∧ m.c.old.size ≤ mostV v
  sq : 0 ≤ m.sq ∧ m.sq ≤ 1073741824
  st : 0 ≤ m.st ∧ m.st ≤ 2
theorem load_bnd {v n : Int} {may : Bool} {c : Cm} {sq : Int} {dl : List Int} (hn : 1 ≤ n ∧ n ≤ 7) (h : loadF v n may c sq dl = 0) : ((dl.length = 0 ∨ (dl.length : Int) = n) ∧ ∀ d ∈ dl, 0 ≤ d ∧ d ≤ 1048576) ∧ (c.key.size ≤ 64 ∧ c.key2.size ≤ 64 ∧ c.val.size ≤ mostV v ∧ c.old.size ≤ mostV v) ∧ (0 ≤ sq ∧ sq ≤ 1073741824) := by
  obtain ⟨h1, h2, h3, h4⟩ := val_load h
  have hd := val_deps h4 hn
  refine ⟨⟨.inr hd.1, fun d hd2 => ?_⟩, chk_sizes h1, val_seq h3⟩
  have := hd.2.2 d hd2
  split at this <;> omega
theorem zero_keys (v : Int) : zeroC.key.size ≤ 64 ∧ zeroC.key2.size ≤ 64 ∧ zeroC.val.size ≤ mostV v ∧ zeroC.old.size ≤ mostV v := ⟨Nat.zero_le _, Nat.zero_le _, Nat.zero_le _, Nat.zero_le _⟩
theorem msg_bnd {v n : Int} {m : Ms} (h0 : chkM v n m = 0) : Bnd v n m := by
  obtain ⟨h1, h2, h3, h4⟩ := val_msg h0
  obtain ⟨hv, hn⟩ := val_call h1
  have ho := only_self h3
  have h7 := shK_le m
  have hi := val_inst (shF_inst h4)
  have hb : ∀ z, hasB z = true → shF v n m z = 0 → (0 ≤ m.x ∧ m.x ≤ 65535) ∧ (0 ≤ m.y ∧ m.y < n) := fun z hz h => by
    have := val_bal (val_ball (shF_ball h hz)).1
    exact ⟨⟨this.1, this.2.1⟩, this.2.2.1, this.2.2.2.1⟩
  generalize shK m = z at *
  have z1 : (0 : Int) ≤ 0 ∧ (0 : Int) < n := by omega
  have z2 : (0 : Int) ≤ 0 ∧ (0 : Int) ≤ 65535 := by omega
  have z3 : (0 : Int) ≤ 0 ∧ (0 : Int) ≤ 1073741824 := by omega
  have z4 : (0 : Int) ≤ 0 ∧ (0 : Int) ≤ 2 := by omega
  have zd : (([] : List Int).length = 0 ∨ (([] : List Int).length : Int) = n) := .inl rfl
  have ze : ∀ d ∈ ([] : List Int), 0 ≤ d ∧ d ≤ 1048576 := fun d h => by cases h
  obtain ⟨k, row, num, x, y, p, q, st, sm, c, sq, dl⟩ := m
  rcases (by omega : z = 0 ∨ z = 1 ∨ z = 2 ∨ z = 3 ∨ z = 4 ∨ z = 5 ∨ z = 6 ∨ z = 7) with rfl | rfl | rfl | rfl | rfl | rfl | rfl | rfl
  · simp only [only, Ms.mk.injEq, true_and] at ho
    obtain ⟨rfl, rfl, rfl, rfl, rfl, rfl, rfl, rfl, rfl⟩ := ho
    exact ⟨⟨hi.1, hi.2.1⟩, hi.2.2, z2, z1, z2, z1, zd, ze, zero_keys v, z3, z4⟩
  · simp only [only, Ms.mk.injEq, true_and, and_true] at ho
    obtain ⟨rfl, rfl, rfl, rfl⟩ := ho
    have b := hb 1 rfl h4
    have l := load_bnd hn (orL_cons.1 (orL_cons.1 (orL_cons.1 h4).2).2).1
    exact ⟨⟨hi.1, hi.2.1⟩, hi.2.2, b.1, b.2, z2, z1, l.1.1, l.1.2, l.2.1, l.2.2, z4⟩
  · simp only [only, Ms.mk.injEq, true_and, and_true] at ho
    obtain ⟨rfl, rfl, rfl, rfl, rfl⟩ := ho
    have b := hb 2 rfl h4
    have hs5 := (unl_zero (show (55 : Int) ≠ 0 by decide)).1 (orL_cons.1 (orL_cons.1 (orL_cons.1 h4).2).2).1
    have hd5 := (unl_zero (show (56 : Int) ≠ 0 by decide)).1 (orL_cons.1 (orL_cons.1 (orL_cons.1 (orL_cons.1 h4).2).2).2).1
    have hd := val_deps hd5 hn
    exact ⟨⟨hi.1, hi.2.1⟩, hi.2.2, b.1, b.2, z2, z1, .inr hd.1, fun d h => hd.2.2 d h, zero_keys v, val_seq hs5, z4⟩
  · simp only [only, Ms.mk.injEq, true_and] at ho
    obtain ⟨rfl, rfl, rfl, rfl, rfl, rfl, rfl⟩ := ho
    have b := hb 3 rfl h4
    exact ⟨⟨hi.1, hi.2.1⟩, hi.2.2, b.1, b.2, z2, z1, zd, ze, zero_keys v, z3, z4⟩
  · simp only [only, Ms.mk.injEq, true_and, and_true] at ho
    obtain ⟨rfl, rfl, rfl, rfl, rfl, rfl⟩ := ho
    have l := load_bnd hn (orL_cons.1 (orL_cons.1 h4).2).1
    exact ⟨⟨hi.1, hi.2.1⟩, hi.2.2, z2, z1, z2, z1, l.1.1, l.1.2, l.2.1, l.2.2, z4⟩
  · simp only [only, Ms.mk.injEq, true_and] at ho
    obtain ⟨rfl, rfl, rfl, rfl, rfl, rfl, rfl⟩ := ho
    have b := hb 5 rfl h4
    exact ⟨⟨hi.1, hi.2.1⟩, hi.2.2, b.1, b.2, z2, z1, zd, ze, zero_keys v, z3, z4⟩
  · have b := hb 6 rfl h4
    have hvt := (unl_zero (show (54 : Int) ≠ 0 by decide)).1 (orL_cons.1 (orL_cons.1 (orL_cons.1 h4).2).2).1
    have hvv := val_vote hvt
    have l := load_bnd hn (orL_cons.1 (orL_cons.1 (orL_cons.1 (orL_cons.1 h4).2).2).2).1
    exact ⟨⟨hi.1, hi.2.1⟩, hi.2.2, b.1, b.2, ⟨hvv.2.1, hvv.2.2.1⟩, ⟨hvv.2.2.2.1, hvv.2.2.2.2.1⟩, l.1.1, l.1.2, l.2.1, l.2.2, by have := hvv.1; simp only at this ⊢; omega⟩
  · simp only [only, Ms.mk.injEq, true_and] at ho
    obtain ⟨rfl, rfl, rfl, rfl, rfl⟩ := ho
    have b := hb 7 rfl h4
    have hvv := val_nack ((unl_zero (show (54 : Int) ≠ 0 by decide)).1 (orL_cons.1 (orL_cons.1 (orL_cons.1 h4).2).2).1)
    exact ⟨⟨hi.1, hi.2.1⟩, hi.2.2, b.1, b.2, ⟨hvv.1, hvv.2.1⟩, ⟨hvv.2.2.1, hvv.2.2.2.1⟩, zd, ze, zero_keys v, z3, z4⟩
end Go.Proofs.YtbdkelffncmkhaaGreatDoor
/- How an argument that is a list of bytes is opened for the walks. -/
namespace Go.Proofs.YtbdkelffncmkhaaGreatDoor
open Go.ChangeShapes Go.WideShapes Go.ChangeAt Go.RowKit Go.Wire1

theorem own : ownKnob Tryz.prog.godebug = none := by kernel_rfl
theorem cells5 : Tryz.prog.cellsOf 5 = 1 := by kernel_rfl

theorem byt_wf {zs : List Int} (h : ∀ n ∈ zs, (Lit.int .u8 n).wf = true) : Byt zs := fun z hz => by have := bounds_u8 (h z hz); omega

/-- A list of bytes that came in: what the walks want of it, and that its length is its datum's. -/
theorem open_bytes {H : Type} {enc : TypeId × Value → H} {W : World} {fuel : Nat} {a : Option Addr} {len cap : Nat} {x : DataW H × List MemPlace}
    (h : DataW.trod enc Tryz.prog W 0 (fun _ => true) true fuel 22 [.slice a len cap] = some x) :
    ∃ l, Seg W a len l ∧ Byt l ∧ len ≤ cap ∧ ((x.1 = .nil ∧ len = 0 ∧ cap = 0) ∨ ∃ elems spare, x.1 = .slice elems spare ∧ elems.length = len ∧ elems.length + spare.length = cap) := by
  rcases open_ints Tryz.underlying22 Tryz.underlying5 cells5 h with ⟨hcs, hx⟩ | ⟨b, len', cap', zs, hcs, _, hl, hm, hz, hx, hcell, hwz⟩
  · simp only [List.cons.injEq, Value.slice.injEq, and_true] at hcs
    obtain ⟨rfl, rfl, rfl⟩ := hcs
    exact ⟨[], ⟨rfl, by unfold maxLen; omega, fun h => by omega⟩, (fun z hz => by cases hz), Nat.le_refl _, .inl ⟨by rw [hx], rfl, rfl⟩⟩
  · simp only [List.cons.injEq, Value.slice.injEq, and_true] at hcs
    obtain ⟨rfl, rfl, rfl⟩ := hcs
    simp only [if_true] at hz
    refine ⟨zs.take len, ⟨by rw [List.length_take]; omega, by omega, fun hn => ?_⟩, byt_take (byt_wf hwz) _, hl, .inr ⟨_, _, by rw [hx], by simp [lits]; omega, by simp [lits]; omega⟩⟩
    obtain ⟨bb, off, spot⟩ := b
    have hc0 := hcell 0 (by omega)
    have hspot : spot = none := by simpa [Addr.add] using World.cell?_spot hc0
    subst hspot
    refine ⟨bb, off, rfl, fun j hj => ?_⟩
    have := hcell j (by omega)
    rw [add_at] at this
    rw [this]
    simp [hj]

end Go.Proofs.YtbdkelffncmkhaaGreatDoor
/- What is known of the place of a list of bytes that came in. -/
namespace Go.Proofs.YtbdkelffncmkhaaGreatDoor
open Go.ChangeShapes Go.WideShapes Go.ChangeAt Go.RowKit Go.Wire1

theorem src_of {H : Type} {enc : TypeId × Value → H} {W : World} {fuel : Nat} {a : Option Addr} {len cap : Nat} {x : DataW H × List MemPlace}
    (h : DataW.trod enc Tryz.prog W 0 (fun _ => true) true fuel 22 [.slice a len cap] = some x) : Src a len cap := by
  rcases open_ints Tryz.underlying22 Tryz.underlying5 cells5 h with ⟨hcs, hx⟩ | ⟨b, len', cap', zs, hcs, _, hl, hm, hz, hx, hcell, hwz⟩
  · simp only [List.cons.injEq, Value.slice.injEq, and_true] at hcs
    exact .inl ⟨hcs.2.1, hcs.2.2⟩
  · simp only [List.cons.injEq, Value.slice.injEq, and_true] at hcs
    obtain ⟨rfl, rfl, rfl⟩ := hcs
    simp only [if_true] at hz
    by_cases h0 : cap = 0
    · exact .inl ⟨by omega, h0⟩
    · obtain ⟨bb, off, spot⟩ := b
      have hc0 := hcell 0 (by omega)
      have hspot : spot = none := by simpa [Addr.add] using World.cell?_spot hc0
      subst hspot
      exact .inr ⟨⟨bb, off, rfl⟩, hl, hm⟩
end Go.Proofs.YtbdkelffncmkhaaGreatDoor
