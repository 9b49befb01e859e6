/- The contract of the statements' helper any1: one call at a reader; a broken reader answers nothing and stays as it is. -/
import Derived.Test.YtifhbbljjalpfabDoorMUint
import Derived.Test.YtifhbbljjalpfabDoorMInt
import Derived.Test.YtifhbbljjalpfabDoorMByte
import Derived.Test.YtifhbbljjalpfabDoorMText
import Derived.Test.YtifhbbljjalpfabDoorOps
namespace Go.Proofs.YtifhbbljjalpfabDoor
open Go.RowKit Go.Wire1

theorem shapeU (most : Nat) (l : List Int) (k : Nat) (f : Int) : ∃ z : Int, (Meth (.int .u64 0) (rU most l k) k f).1 = .int .u64 z ∧ (f ≠ 0 → z = 0) := by
  by_cases hf : f = 0
  · subst hf
    cases hd : rU most l k with
    | error i => exact ⟨0, by rw [meth_err rfl], fun h => absurd rfl h⟩
    | ok p => obtain ⟨v, m⟩ := p; obtain ⟨z, rfl⟩ := mUint.rU_val hd; exact ⟨z, by rw [meth_ok rfl], fun h => absurd rfl h⟩
  · exact ⟨0, by rw [meth_broken hf], fun _ => rfl⟩
theorem shapeI (l : List Int) (k : Nat) (f : Int) : ∃ z : Int, (Meth (.int .i64 0) (rI l k) k f).1 = .int .i64 z ∧ (f ≠ 0 → z = 0) := by
  by_cases hf : f = 0
  · subst hf
    cases hd : rI l k with
    | error i => exact ⟨0, by rw [meth_err rfl], fun h => absurd rfl h⟩
    | ok p => obtain ⟨v, m⟩ := p; obtain ⟨z, rfl⟩ := mInt.r_val hd; exact ⟨z, by rw [meth_ok rfl], fun h => absurd rfl h⟩
  · exact ⟨0, by rw [meth_broken hf], fun _ => rfl⟩
theorem shapeB (most : Int) (l : List Int) (k : Nat) (f : Int) : ∃ z : Int, (Meth (.int .i64 0) (rB most l k) k f).1 = .int .i64 z ∧ (f ≠ 0 → z = 0) := by
  by_cases hf : f = 0
  · subst hf
    cases hd : rB most l k with
    | error i => exact ⟨0, by rw [meth_err rfl], fun h => absurd rfl h⟩
    | ok p => obtain ⟨v, m⟩ := p; obtain ⟨z, rfl⟩ := mByte.r_val hd; exact ⟨z, by rw [meth_ok rfl], fun h => absurd rfl h⟩
  · exact ⟨0, by rw [meth_broken hf], fun _ => rfl⟩
theorem shapeT (least most : Int) (l : List Int) (k : Nat) (f : Int) : ∃ z : ByteArray, (Meth (.string ⟨#[]⟩) (rT least most l k) k f).1 = .string z ∧ (f ≠ 0 → z = ⟨#[]⟩) := by
  by_cases hf : f = 0
  · subst hf
    cases hd : rT least most l k with
    | error i => exact ⟨⟨#[]⟩, by rw [meth_err rfl], fun h => absurd rfl h⟩
    | ok p => obtain ⟨v, m⟩ := p; obtain ⟨z, rfl⟩ := mText.r_val hd; exact ⟨z, by rw [meth_ok rfl], fun h => absurd rfl h⟩
  · exact ⟨⟨#[]⟩, by rw [meth_broken hf], fun _ => rfl⟩
theorem stays {Z : Value} {r : Except Nat (Value × Nat)} {k : Nat} {f : Int} (h : f ≠ 0) : (Meth Z r k f).2.1 = k ∧ (Meth Z r k f).2.2 = f := by rw [meth_broken h]; exact ⟨rfl, rfl⟩
theorem closes {n k : Nat} {f : Int} (h : f ≠ 0) : closeF n k f = f := by unfold closeF; rw [if_neg (fun e => h e.1)]

set_option maxHeartbeats 2000000 in
set_option maxRecDepth 100000 in
theorem any1_any (o : OpV) (ho : OpOk o) (b n cap k : Nat) (f : Int) (sa : Option Addr) (l : List Int) (a : Nat → Addr) (w : World) (h : Rdr w b sa n cap k f l a) :
    Calls Tryd.prog 17 #[.pointer (some ⟨b, 0, none⟩), .agg #[.int .i64 o.kind, .bool o.second, .int .u64 (o.u : Int), .int .i64 o.a, .int .i64 o.b]] w fun e w' =>
      ∃ r k' f', e = .returned (.bool r) ∧ Touch b w w' ∧ Rdr w' b sa n cap k' f' l a ∧ (f ≠ 0 → r = true ∧ k' = k ∧ f' = f) := by
  obtain ⟨kind, second, u, oa, ob⟩ := o
  obtain ⟨hu, ha, hb⟩ := ho
  simp only at hu ha hb ⊢
  have hbel : Below w.heap.size w (w.alloc (.cells #[.int .i64 kind, .bool second, .int .u64 (u : Int), .int .i64 oa, .int .i64 ob] 39)) := (Below.refl _ _).alloc (Nat.le_refl _) _
  have HT : Hid (Touch b w (w.alloc (.cells #[.int .i64 kind, .bool second, .int .u64 (u : Int), .int .i64 oa, .int .i64 ob] 39))) := Touch.ofBelow hbel
  have hR := h.below hbel (Nat.le_refl _)
  clear hbel h
  by_cases k1 : kind = 1
  · subst k1
    obtain ⟨z, hz, hz0⟩ := shapeU u l k f
    go_enter Tryd.func17, Tryd.ntmps17
    go_wp2_with fail
    refine (mUint.any u b n cap k f sa l a _ hR).mono ?_
    rintro e w1 ⟨rfl, T1, R1⟩
    rw [hz]
    go_wp2
    go_ret
    exact ⟨_, _, _, rfl, HT.out.trans T1, R1, fun hf => ⟨by rw [hz0 hf]; rfl, (stays hf).1, (stays hf).2⟩⟩
  · by_cases k2 : kind = 2
    · subst k2
      obtain ⟨z, hz, hz0⟩ := shapeI l k f
      go_enter Tryd.func17, Tryd.ntmps17
      go_wp2_with fail
      refine (mInt.any b n cap k f sa l a _ hR).mono ?_
      rintro e w1 ⟨rfl, T1, R1⟩
      rw [hz]
      go_wp2
      go_ret
      exact ⟨_, _, _, rfl, HT.out.trans T1, R1, fun hf => ⟨by rw [hz0 hf]; rfl, (stays hf).1, (stays hf).2⟩⟩
    · by_cases k3 : kind = 3
      · subst k3
        obtain ⟨z, hz, hz0⟩ := shapeB oa l k f
        go_enter Tryd.func17, Tryd.ntmps17
        go_wp2_with fail
        refine (mByte.any oa b n cap k f sa l a _ hR).mono ?_
        rintro e w1 ⟨rfl, T1, R1⟩
        rw [hz]
        go_wp2
        go_ret
        exact ⟨_, _, _, rfl, HT.out.trans T1, R1, fun hf => ⟨by rw [hz0 hf]; rfl, (stays hf).1, (stays hf).2⟩⟩
      · by_cases k4 : kind = 4
        · subst k4
          obtain ⟨z, hz, hz0⟩ := shapeT oa ob l k f
          go_enter Tryd.func17, Tryd.ntmps17
          go_wp2_with fail
          refine (mText.any oa ob ha.1 ha.2 hb.1 hb.2 b n cap k f sa l a _ hR).mono ?_
          rintro e w1 ⟨rfl, T1, R1⟩
          rw [hz]
          go_wp2
          go_ret
          exact ⟨_, _, _, rfl, HT.out.trans T1, R1, fun hf => ⟨by rw [hz0 hf]; decide +kernel, (stays hf).1, (stays hf).2⟩⟩
        · by_cases k7 : kind = 7
          · subst k7
            go_enter Tryd.func17, Tryd.ntmps17
            go_wp2_with fail
            refine (close_any b n cap k f sa l a _ hR).mono ?_
            rintro e w1 ⟨rfl, T1, R1⟩
            go_wp2
            go_ret
            exact ⟨_, _, _, rfl, HT.out.trans T1, R1, fun hf => ⟨rfl, rfl, closes hf⟩⟩
          · have j1 : (kind == 1) = false := beq_eq_false_iff_ne.2 k1
            have j2 : (kind == 2) = false := beq_eq_false_iff_ne.2 k2
            have j3 : (kind == 3) = false := beq_eq_false_iff_ne.2 k3
            have j4 : (kind == 4) = false := beq_eq_false_iff_ne.2 k4
            have j7 : (kind == 7) = false := beq_eq_false_iff_ne.2 k7
            clear k1 k2 k3 k4 k7
            go_enter Tryd.func17, Tryd.ntmps17
            go_wp2
            go_ret
            exact ⟨_, _, _, rfl, HT.out, hR, fun _ => ⟨rfl, rfl, rfl⟩⟩
end Go.Proofs.YtifhbbljjalpfabDoor
