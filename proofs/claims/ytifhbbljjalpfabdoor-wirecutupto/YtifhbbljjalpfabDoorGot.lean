/- The contracts of the statements' helpers put, got and stands. -/
import Derived.Test.YtifhbbljjalpfabDoorItems
import Derived.Test.YtifhbbljjalpfabDoorAny1
import Derived.Test.YtifhbbljjalpfabDoorJoin
namespace Go.Proofs.YtifhbbljjalpfabDoor
open Go.RowKit Go.Wire1

theorem own_low {w : World} {B B' : Nat} {e : TypeId} {s : Nat} {v : Value} {n : Nat} {xs : List Value} (h : w.ownsRow B e s v n xs) (hB : B' ≤ B) : w.ownsRow B' e s v n xs := by
  refine ⟨h.1, ?_⟩
  rcases h.2 with h2 | ⟨g, cap, cur, rfl, hb, r⟩
  · exact .inl h2
  · exact .inr ⟨g, cap, cur, rfl, Nat.le_trans hB hb, r⟩

theorem own_one {w : World} {B : Nat} (hB : B ≤ w.heap.size) (z : Int) : (w.alloc (.cells #[.int .u8 z] 5)).ownsRow B 5 1 (.slice (some ⟨w.heap.size, 0, none⟩) 1 1) [z].length ([z].map (Value.int .u8)) :=
  ⟨rfl, .inr ⟨w.heap.size, 1, #[.int .u8 z], rfl, hB, by show (w.heap.push _)[w.heap.size]? = _; simp, Nat.le_refl _, by unfold maxLen; omega, rfl, rfl⟩⟩
theorem str_of_txt (s : ByteArray) : strOfNums (txt s) = s := by
  obtain ⟨d⟩ := s
  have e : ((fun n : Int => UInt8.ofNat n.toNat) ∘ fun b : UInt8 => (b.toNat : Int)) = id := by funext b; simp
  simp [strOfNums, txt, e]

set_option maxHeartbeats 4000000 in
set_option maxRecDepth 100000 in
theorem put_any (o : ItemV) (ho : ItemOk o) (hs : o.s.size ≤ 140737488351232) (w : World) :
    Calls Tryd.prog 20 #[.agg #[.int .i64 o.kind, .int .u64 (o.u : Int), .int .i64 o.i, .string o.s]] w fun e w' => ∃ v, e = .returned v ∧ w'.ownsRow w.heap.size 5 1 v (putL o).length ((putL o).map (Value.int .u8)) ∧ Below w.heap.size w w' := by
  obtain ⟨kind, u, i, s⟩ := o
  obtain ⟨hu, hi⟩ := ho
  simp only at hu hi hs ⊢
  have HBel : Hid (Below w.heap.size w (w.alloc (.cells #[.int .i64 kind, .int .u64 (u : Int), .int .i64 i, .string s] 46))) := (Below.refl _ _).alloc (Nat.le_refl _) _
  have HS : Hid (w.heap.size ≤ (w.alloc (.cells #[.int .i64 kind, .int .u64 (u : Int), .int .i64 i, .string s] 46)).heap.size) := HBel.out.size
  by_cases k0 : kind = 0
  · subst k0
    have HP : Hid (putL ⟨0, u, i, s⟩ = enc u) := by show _ = _; unfold putL; rw [if_pos rfl]
    go_enter Tryd.func20, Tryd.ntmps20
    go_wp2_with fail
    refine (putUint_any u _ hu).mono ?_
    rintro e w1 ⟨v, rfl, hown, hbel⟩
    go_wp2
    go_ret
    rw [HP.out]
    exact ⟨_, rfl, own_low hown HS.out, HBel.out.trans (hbel.mono HS.out)⟩
  · by_cases k1 : kind = 1
    · subst k1
      have HP : Hid (putL ⟨1, u, i, s⟩ = enc (zig i)) := by show _ = _; unfold putL; rw [if_neg k0, if_pos rfl]
      go_enter Tryd.func20, Tryd.ntmps20
      go_wp2_with fail
      refine (putInt_any i _ hi.1 hi.2).mono ?_
      rintro e w1 ⟨v, rfl, hown, hbel⟩
      go_wp2
      go_ret
      rw [HP.out]
      exact ⟨_, rfl, own_low hown HS.out, HBel.out.trans (hbel.mono HS.out)⟩
    · by_cases k2 : kind = 2
      · subst k2
        have HP : Hid (putL ⟨2, u, i, s⟩ = [((u % 256 : Nat) : Int)]) := by show _ = _; unfold putL; rw [if_neg k0, if_neg k1, if_pos rfl]
        go_enter Tryd.func20, Tryd.ntmps20
        go_wp2
        go_ret
        rw [HP.out]
        refine ⟨_, rfl, ?_, HBel.out.alloc HS.out _⟩
        have hz : (u : Int) % 256 = ((u % 256 : Nat) : Int) := by omega
        rw [hz]
        have hone := own_one HS.out ((u % 256 : Nat) : Int)
        rw [show (w.alloc (.cells #[.int .i64 2, .int .u64 (u : Int), .int .i64 i, .string s] 46)).heap.size = w.heap.size + 1 from Array.size_push _] at hone
        exact hone
      · have HP : Hid (putL ⟨kind, u, i, s⟩ = enc s.size ++ txt s) := by show _ = _; unfold putL; rw [if_neg k0, if_neg k1, if_neg k2]
        have j0 : (kind == 0) = false := beq_eq_false_iff_ne.2 k0
        have j1 : (kind == 1) = false := beq_eq_false_iff_ne.2 k1
        have j2 : (kind == 2) = false := beq_eq_false_iff_ne.2 k2
        clear k0 k1 k2
        go_enter Tryd.func20, Tryd.ntmps20
        go_wp2_with fail
        refine (putText_any s _ hs).mono ?_
        rintro e w1 ⟨v, rfl, hown, hbel⟩
        go_wp2
        go_ret
        rw [HP.out]
        exact ⟨_, rfl, own_low hown HS.out, HBel.out.trans (hbel.mono HS.out)⟩

set_option maxHeartbeats 1000000 in
set_option maxRecDepth 100000 in
theorem stands_any (E : Int) (at' : Int) (b n cap k : Nat) (f : Int) (sa : Option Addr) (l : List Int) (a : Nat → Addr) (w : World) (h : Rdr w b sa n cap k f l a) (hE : f = E) (hk : (k : Int) = at') :
    Calls Tryd.prog 23 #[.pointer (some ⟨b, 0, none⟩), .int .i64 E, .int .i64 at'] w fun e w' => e = .returned (.bool true) ∧ ∃ q, w' = w.drewN q := by
  subst hE hk
  have HR := hide h
  go_enter Tryd.func23, Tryd.ntmps23
  go_wp2_with fail
  refine (err_any b n cap k f sa l a _ h).mono ?_
  rintro e w1 ⟨rfl, q1, rfl⟩
  clear h HR
  go_wp2_with (first | (go_at_call 13; refine (num_any _ _).mono ?_; rintro e w' ⟨rfl, rfl⟩))
  go_ret
  exact ⟨rfl, q1, rfl⟩
theorem hitU {o : ItemV} {l : List Int} {k : Nat} {post : List Int} (hu : o.u < 18446744073709551616) (hd : l.drop k = enc o.u ++ post) : rU 18446744073709551615 l k = .ok (.int .u64 (o.u : Int), (enc o.u).length) := by
  unfold rU; rw [hd, dec_enc o.u post hu]; exact if_neg (by omega)
theorem hitI {i : Int} {l : List Int} {k : Nat} {post : List Int} (h1 : -9223372036854775808 ≤ i) (h2 : i ≤ 9223372036854775807) (hd : l.drop k = enc (zig i) ++ post) : rI l k = .ok (.int .i64 i, (enc (zig i)).length) := by
  unfold rI; rw [hd, dec_enc (zig i) post (zig_lt i h1 h2)]; show Except.ok (Value.int .i64 (unzig (zig i)), _) = _; rw [unzig_zig]
theorem hitB {z : Int} {l : List Int} {k : Nat} {post : List Int} (hz : z ≤ 255) (hd : l.drop k = [z] ++ post) : rB 255 l k = .ok (.int .i64 z, 1) := by
  have hk : k < l.length := by
    have := congrArg List.length hd
    rw [List.length_drop, List.length_append, List.length_singleton] at this
    omega
  have hg : l.getD k 0 = z := by rw [drop_cons hk] at hd; exact (List.cons.inj hd).1
  unfold rB; rw [hg, if_neg (by omega), if_neg (by omega)]
theorem hitT {s : ByteArray} {l : List Int} {k : Nat} {post : List Int} (hs : s.size ≤ 140737488351232) (hd : l.drop k = (enc s.size ++ txt s) ++ post) : rT 0 4611686018427387904 l k = .ok (.string s, (enc s.size ++ txt s).length) := by
  have hl := congrArg List.length hd
  rw [List.length_drop, List.length_append, List.length_append, txt_len] at hl
  have h1 := (enc_le s.size (by omega)).1
  have e2 : (l.drop (k + (enc s.size).length)).take s.size = txt s := by
    rw [← List.drop_drop, hd, List.append_assoc, List.drop_left, ← txt_len, List.take_left]
  unfold rT
  rw [hd, List.append_assoc, dec_enc s.size (txt s ++ post) (by omega)]
  show (if _ then _ else _) = _
  rw [if_pos ⟨by omega, by omega⟩, if_pos (by omega), e2, str_of_txt, List.length_append, txt_len]

set_option maxHeartbeats 4000000 in
set_option maxRecDepth 100000 in
theorem got_hit (o : ItemV) (ho : ItemOk o) (hs : o.s.size ≤ 140737488351232) (b n cap k : Nat) (sa : Option Addr) (l post : List Int) (a : Nat → Addr) (w : World) (h : Rdr w b sa n cap k 0 l a) (hd : l.drop k = putL o ++ post) :
    Calls Tryd.prog 22 #[.pointer (some ⟨b, 0, none⟩), .agg #[.int .i64 o.kind, .int .u64 (o.u : Int), .int .i64 o.i, .string o.s], .bool false] w fun e w' => e = .returned (.bool true) ∧ Touch b w w' ∧ Rdr w' b sa n cap (k + (putL o).length) 0 l a := by
  obtain ⟨kind, u, i, s⟩ := o
  obtain ⟨hu, hi⟩ := ho
  simp only at hu hi hs ⊢
  have hbel : Below w.heap.size w (w.alloc (.cells #[.int .i64 kind, .int .u64 (u : Int), .int .i64 i, .string s] 46)) := (Below.refl _ _).alloc (Nat.le_refl _) _
  have HT : Hid (Touch b w (w.alloc (.cells #[.int .i64 kind, .int .u64 (u : Int), .int .i64 i, .string s] 46))) := Touch.ofBelow hbel
  have hR := h.below hbel (Nat.le_refl _)
  have hbw := h.lt
  have HKeep : Hid (∀ (w1 : World) (j : Nat) (v : Value), Touch b (w.alloc (.cells #[.int .i64 kind, .int .u64 (u : Int), .int .i64 i, .string s] 46)) w1 →
      (#[.int .i64 kind, .int .u64 (u : Int), .int .i64 i, .string s] : Array Value)[j]? = some v → w1.cell? ⟨w.heap.size, j, none⟩ = some v) := fun w1 j v T e => by
    rw [World.cell?_of_block (a := ⟨w.heap.size, j, none⟩) (T.block w.heap.size (by show _ < (w.heap.push _).size; rw [Array.size_push]; omega) (by omega)), World.cell?_alloc_at _ _ _ _ rfl]
    exact e
  have HD := hide hd
  clear hbel h hbw hd
  by_cases k0 : kind = 0
  · subst k0
    have HP : Hid (putL ⟨0, u, i, s⟩ = enc u) := by show _ = _; unfold putL; rw [if_pos rfl]
    have HM := hide (meth_ok (Z := .int .u64 0) (k := k) (hitU (o := ⟨0, u, i, s⟩) hu (HP.out ▸ HD.out)))
    go_enter Tryd.func22, Tryd.ntmps22
    go_wp2_with fail
    refine (mUint.any 18446744073709551615 b n cap k 0 sa l a _ hR).mono ?_
    rintro e w1 ⟨rfl, T1, R1⟩
    rw [HM.out] at R1 ⊢
    have o1 := HKeep.out _ 1 _ T1 rfl
    have HT2 := hide (HT.out.trans T1)
    have HR1 := hide R1
    clear T1 R1 hR HT
    go_wp2
    go_ret
    rw [HP.out]
    exact ⟨rfl, HT2.out, HR1.out⟩
  · by_cases k1 : kind = 1
    · subst k1
      have HP : Hid (putL ⟨1, u, i, s⟩ = enc (zig i)) := by show _ = _; unfold putL; rw [if_neg k0, if_pos rfl]
      have HM := hide (meth_ok (Z := .int .i64 0) (k := k) (hitI hi.1 hi.2 (HP.out ▸ HD.out)))
      go_enter Tryd.func22, Tryd.ntmps22
      go_wp2_with fail
      refine (mInt.any b n cap k 0 sa l a _ hR).mono ?_
      rintro e w1 ⟨rfl, T1, R1⟩
      rw [HM.out] at R1 ⊢
      have o2 := HKeep.out _ 2 _ T1 rfl
      have HT2 := hide (HT.out.trans T1)
      have HR1 := hide R1
      clear T1 R1 hR HT
      go_wp2
      go_ret
      rw [HP.out]
      exact ⟨rfl, HT2.out, HR1.out⟩
    · by_cases k2 : kind = 2
      · subst k2
        have HP : Hid (putL ⟨2, u, i, s⟩ = [((u % 256 : Nat) : Int)]) := by show _ = _; unfold putL; rw [if_neg k0, if_neg k1, if_pos rfl]
        have HM := hide (meth_ok (Z := .int .i64 0) (k := k) (hitB (z := ((u % 256 : Nat) : Int)) (by omega) (HP.out ▸ HD.out)))
        go_enter Tryd.func22, Tryd.ntmps22
        go_wp2_with fail
        refine (mByte.any 255 b n cap k 0 sa l a _ hR).mono ?_
        rintro e w1 ⟨rfl, T1, R1⟩
        rw [HM.out] at R1 ⊢
        have o1 := HKeep.out _ 1 _ T1 rfl
        have HT2 := hide (HT.out.trans T1)
        have HR1 := hide R1
        clear T1 R1 hR HT
        go_wp2
        go_ret
        rw [HP.out]
        exact ⟨by simp, HT2.out, HR1.out⟩
      · have HP : Hid (putL ⟨kind, u, i, s⟩ = enc s.size ++ txt s) := by show _ = _; unfold putL; rw [if_neg k0, if_neg k1, if_neg k2]
        have HM := hide (meth_ok (Z := .string ⟨#[]⟩) (k := k) (hitT hs (HP.out ▸ HD.out)))
        have j0 : (kind == 0) = false := beq_eq_false_iff_ne.2 k0
        have j1 : (kind == 1) = false := beq_eq_false_iff_ne.2 k1
        have j2 : (kind == 2) = false := beq_eq_false_iff_ne.2 k2
        clear k0 k1 k2
        go_enter Tryd.func22, Tryd.ntmps22
        go_wp2_with fail
        refine (mText.any 0 4611686018427387904 (by decide) (by decide) (by decide) (by decide) b n cap k 0 sa l a _ hR).mono ?_
        rintro e w1 ⟨rfl, T1, R1⟩
        rw [HM.out] at R1 ⊢
        have o3 := HKeep.out _ 3 _ T1 rfl
        have HT2 := hide (HT.out.trans T1)
        have HR1 := hide R1
        clear T1 R1 hR HT
        go_wp2
        go_ret
        rw [HP.out]
        exact ⟨by simp, HT2.out, HR1.out⟩
end Go.Proofs.YtifhbbljjalpfabDoor
