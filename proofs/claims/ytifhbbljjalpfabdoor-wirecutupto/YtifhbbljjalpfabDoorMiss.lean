/- The contract of the statements' helper got where the reader is broken, or the item's bytes are cut off. -/
import Derived.Test.YtifhbbljjalpfabDoorGot
namespace Go.Proofs.YtifhbbljjalpfabDoor
open Go.RowKit Go.Wire1

/-- What a reading meets: a broken reader, or a proper beginning of the item's bytes. -/
def Miss (o : ItemV) (l : List Int) (k : Nat) (f : Int) : Prop := f ≠ 0 ∨ (f = 0 ∧ ∃ j, j < (putL o).length ∧ l.drop k = (putL o).take j)
def missF (f : Int) : Int := if f = 0 then 11 else f

theorem miss_of {Z : Value} {r : Except Nat (Value × Nat)} {k : Nat} {f : Int} (h : f ≠ 0 ∨ (f = 0 ∧ r = .error 0)) : Meth Z r k f = (Z, k, missF f) := by
  unfold missF
  rcases h with h | ⟨rfl, h⟩
  · rw [meth_broken h, if_neg h]
  · rw [meth_err h]; rfl
theorem missU {u : Nat} {l : List Int} {k : Nat} {f : Int} (h : f ≠ 0 ∨ (f = 0 ∧ ∃ j, j < (enc u).length ∧ l.drop k = (enc u).take j)) : f ≠ 0 ∨ (f = 0 ∧ rU 18446744073709551615 l k = .error 0) := by
  rcases h with h | ⟨h, j, hj, hd⟩
  · exact .inl h
  · exact .inr ⟨h, by unfold rU; rw [hd, dec_cut u j hj]⟩
theorem missI {u : Nat} {l : List Int} {k : Nat} {f : Int} (h : f ≠ 0 ∨ (f = 0 ∧ ∃ j, j < (enc u).length ∧ l.drop k = (enc u).take j)) : f ≠ 0 ∨ (f = 0 ∧ rI l k = .error 0) := by
  rcases h with h | ⟨h, j, hj, hd⟩
  · exact .inl h
  · exact .inr ⟨h, by unfold rI; rw [hd, dec_cut u j hj]⟩
theorem missB {z : Int} {l : List Int} {k : Nat} {f : Int} (h : f ≠ 0 ∨ (f = 0 ∧ ∃ j, j < [z].length ∧ l.drop k = [z].take j)) : f ≠ 0 ∨ (f = 0 ∧ rB 255 l k = .error 0) := by
  rcases h with h | ⟨h, j, hj, hd⟩
  · exact .inl h
  · obtain rfl : j = 0 := by simp at hj; exact hj
    have := congrArg List.length hd
    rw [List.length_drop] at this
    simp at this
    exact .inr ⟨h, by unfold rB; rw [if_pos (by omega)]⟩
theorem missT {s : ByteArray} (hs : s.size ≤ 140737488351232) {l : List Int} {k : Nat} (hk : k ≤ l.length) {f : Int} (h : f ≠ 0 ∨ (f = 0 ∧ ∃ j, j < (enc s.size ++ txt s).length ∧ l.drop k = (enc s.size ++ txt s).take j)) : f ≠ 0 ∨ (f = 0 ∧ rT 0 4611686018427387904 l k = .error 0) := by
  rcases h with h | ⟨h, j, hj, hd⟩
  · exact .inl h
  · refine .inr ⟨h, ?_⟩
    have hl := congrArg List.length hd
    rw [List.length_drop, List.length_take] at hl
    rw [List.length_append, txt_len] at hj hl
    by_cases hc : j < (enc s.size).length
    · unfold rT
      rw [hd, List.take_append_of_le_length (by omega), dec_cut s.size j hc]
    · unfold rT
      rw [hd, List.take_append, List.take_of_length_le (by omega : (enc s.size).length ≤ j), dec_enc s.size _ (by omega)]
      show (if _ then _ else _) = _
      rw [if_pos ⟨by omega, by omega⟩, if_neg (by omega)]

set_option maxHeartbeats 4000000 in
set_option maxRecDepth 100000 in
theorem got_miss (o : ItemV) (ho : ItemOk o) (hs : o.s.size ≤ 140737488351232) (b n cap k : Nat) (f : Int) (sa : Option Addr) (l : List Int) (a : Nat → Addr) (w : World) (h : Rdr w b sa n cap k f l a) (hm : Miss o l k f) :
    Calls Tryd.prog 22 #[.pointer (some ⟨b, 0, none⟩), .agg #[.int .i64 o.kind, .int .u64 (o.u : Int), .int .i64 o.i, .string o.s], .bool true] w fun e w' => e = .returned (.bool true) ∧ Touch b w w' ∧ Rdr w' b sa n cap k (missF f) l a := by
  have hkl : k ≤ l.length := by have := h.ready.le; have := h.ready.seg.1; omega
  unfold Miss at hm
  obtain ⟨kind, u, i, s⟩ := o
  obtain ⟨hu, hi⟩ := ho
  simp only at hu hi hs ⊢
  have hbel : Below w.heap.size w (w.alloc (.cells #[.int .i64 kind, .int .u64 (u : Int), .int .i64 i, .string s] 46)) := (Below.refl _ _).alloc (Nat.le_refl _) _
  have HT : Hid (Touch b w (w.alloc (.cells #[.int .i64 kind, .int .u64 (u : Int), .int .i64 i, .string s] 46))) := Touch.ofBelow hbel
  have hR := h.below hbel (Nat.le_refl _)
  have HM0 := hide hm
  clear hbel h hm
  by_cases k0 : kind = 0
  · subst k0
    have HP : Hid (putL ⟨0, u, i, s⟩ = enc u) := by show _ = _; unfold putL; rw [if_pos rfl]
    have HM := hide (miss_of (Z := .int .u64 0) (k := k) (missU (u := u) (HP.out ▸ HM0.out)))
    clear HM0
    go_enter Tryd.func22, Tryd.ntmps22
    go_wp2_with fail
    refine (mUint.any 18446744073709551615 b n cap k f sa l a _ hR).mono ?_
    rintro e w1 ⟨rfl, T1, R1⟩
    rw [HM.out] at R1 ⊢
    have HT2 := hide (HT.out.trans T1)
    have HR1 := hide R1
    clear T1 R1 hR HT
    go_wp2
    go_ret
    exact ⟨rfl, HT2.out, HR1.out⟩
  · by_cases k1 : kind = 1
    · subst k1
      have HP : Hid (putL ⟨1, u, i, s⟩ = enc (zig i)) := by show _ = _; unfold putL; rw [if_neg k0, if_pos rfl]
      have HM := hide (miss_of (Z := .int .i64 0) (k := k) (missI (u := zig i) (HP.out ▸ HM0.out)))
      clear HM0
      go_enter Tryd.func22, Tryd.ntmps22
      go_wp2_with fail
      refine (mInt.any b n cap k f sa l a _ hR).mono ?_
      rintro e w1 ⟨rfl, T1, R1⟩
      rw [HM.out] at R1 ⊢
      have HT2 := hide (HT.out.trans T1)
      have HR1 := hide R1
      clear T1 R1 hR HT
      go_wp2
      go_ret
      exact ⟨rfl, HT2.out, HR1.out⟩
    · by_cases k2 : kind = 2
      · subst k2
        have HP : Hid (putL ⟨2, u, i, s⟩ = [((u % 256 : Nat) : Int)]) := by show _ = _; unfold putL; rw [if_neg k0, if_neg k1, if_pos rfl]
        have HM := hide (miss_of (Z := .int .i64 0) (k := k) (missB (HP.out ▸ HM0.out)))
        clear HM0
        go_enter Tryd.func22, Tryd.ntmps22
        go_wp2_with fail
        refine (mByte.any 255 b n cap k f sa l a _ hR).mono ?_
        rintro e w1 ⟨rfl, T1, R1⟩
        rw [HM.out] at R1 ⊢
        have HT2 := hide (HT.out.trans T1)
        have HR1 := hide R1
        clear T1 R1 hR HT
        go_wp2
        go_ret
        exact ⟨rfl, HT2.out, HR1.out⟩
      · have HP : Hid (putL ⟨kind, u, i, s⟩ = enc s.size ++ txt s) := by show _ = _; unfold putL; rw [if_neg k0, if_neg k1, if_neg k2]
        have HM := hide (miss_of (Z := .string ⟨#[]⟩) (k := k) (missT hs hkl (HP.out ▸ HM0.out)))
        have j0 : (kind == 0) = false := beq_eq_false_iff_ne.2 k0
        have j1 : (kind == 1) = false := beq_eq_false_iff_ne.2 k1
        have j2 : (kind == 2) = false := beq_eq_false_iff_ne.2 k2
        clear k0 k1 k2 HM0
        go_enter Tryd.func22, Tryd.ntmps22
        go_wp2_with fail
        refine (mText.any 0 4611686018427387904 (by decide) (by decide) (by decide) (by decide) b n cap k f sa l a _ hR).mono ?_
        rintro e w1 ⟨rfl, T1, R1⟩
        rw [HM.out] at R1 ⊢
        have HT2 := hide (HT.out.trans T1)
        have HR1 := hide R1
        clear T1 R1 hR HT
        go_wp2
        go_ret
        exact ⟨by simp, HT2.out, HR1.out⟩
end Go.Proofs.YtifhbbljjalpfabDoor
