/- The contract of the statements' helper read: the program's reader and the document's answer alike. -/
import Derived.Test.YtifhbbljjalpfabDoorMUint
import Derived.Test.YtifhbbljjalpfabDoorMInt
import Derived.Test.YtifhbbljjalpfabDoorMByte
import Derived.Test.YtifhbbljjalpfabDoorMText
import Derived.Test.YtifhbbljjalpfabDoorRefT
import Derived.Test.YtifhbbljjalpfabDoorOps
import Derived.Test.YtifhbbljjalpfabDoorAny1
import Derived.Test.YtifhbbljjalpfabDoorJoin
namespace Go.Proofs.YtifhbbljjalpfabDoor
open Go.RowKit Go.Wire1

/-- Two readers of the same bytes at the same place with the same fault, apart from one another. -/
structure Pair (w : World) (b c : Nat) (sa sc : Option Addr) (n cap cap' k : Nat) (f : Int) (l : List Int) (a : Nat → Addr) : Prop where
  one : Rdr w b sa n cap k f l a
  two : Rdr w c sc n cap' k f l a
  ne : b ≠ c
  s1 : ∀ x, sa = some x → 0 < n → x.block ≠ c
  s2 : ∀ x, sc = some x → 0 < n → x.block ≠ b

theorem Pair.touched1 {w w' : World} {b c : Nat} {sa sc : Option Addr} {n cap cap' k : Nat} {f : Int} {l : List Int} {a : Nat → Addr} (h : Pair w b c sa sc n cap cap' k f l a) (ht : Touch b w w') : Rdr w' c sc n cap' k f l a :=
  h.two.beside ht h.ne.symm h.s2 h.one.ready.five h.one.ready.apart
theorem Pair.drewN {w : World} {b c : Nat} {sa sc : Option Addr} {n cap cap' k : Nat} {f : Int} {l : List Int} {a : Nat → Addr} (h : Pair w b c sa sc n cap cap' k f l a) (q : Nat) : Pair (w.drewN q) b c sa sc n cap cap' k f l a :=
  ⟨h.one.drewN q, h.two.drewN q, h.ne, h.s1, h.s2⟩
theorem Pair.below {w w' : World} {b c : Nat} {sa sc : Option Addr} {n cap cap' k : Nat} {f : Int} {l : List Int} {a : Nat → Addr} {C : Nat} (h : Pair w b c sa sc n cap cap' k f l a) (hb : Below C w w') (hC : w.heap.size ≤ C) : Pair w' b c sa sc n cap cap' k f l a :=
  ⟨h.one.below hb hC, h.two.below hb hC, h.ne, h.s1, h.s2⟩

/-- Of what was there nothing but blocks b and c has turned. -/
structure Touch2 (b c : Nat) (w w' : World) : Prop where
  os : w'.os = w.os
  tape : w'.tape = w.tape
  output : w'.output = w.output
  size : w.heap.size ≤ w'.heap.size
  block : ∀ k, k < w.heap.size → k ≠ b → k ≠ c → w'.heap[k]? = w.heap[k]?
theorem Touch.and {b c : Nat} {x y z : World} (h : Touch b x y) (k : Touch c y z) : Touch2 b c x z :=
  ⟨k.os.trans h.os, k.tape.trans h.tape, k.output.trans h.output, Nat.le_trans h.size k.size, fun i hi h1 h2 => (k.block i (Nat.lt_of_lt_of_le hi h.size) h2).trans (h.block i hi h1)⟩
theorem Touch2.drewN {b c : Nat} {x y : World} (h : Touch2 b c x y) (q : Nat) : Touch2 b c x (y.drewN q) := ⟨h.os, h.tape, h.output, h.size, h.block⟩
theorem Touch2.ofBelow {b c : Nat} {x y z : World} (h : Below x.heap.size x y) (k : Touch2 b c y z) : Touch2 b c x z :=
  ⟨k.os.trans h.os, k.tape.trans h.tape, k.output.trans h.output, Nat.le_trans h.size k.size, fun i hi h1 h2 => (k.block i (Nat.lt_of_lt_of_le hi h.size) h1 h2).trans (h.block i hi)⟩
theorem Touch2.below {b c : Nat} {w0 x y : World} (h : Touch2 b c x y) (hB : w0.heap.size ≤ b) (hC : w0.heap.size ≤ c) (h0 : Below w0.heap.size w0 x) : Below w0.heap.size w0 y :=
  ⟨h.os.trans h0.os, h.tape.trans h0.tape, h.output.trans h0.output, Nat.le_trans h0.size h.size, fun i hi => (h.block i (Nat.lt_of_lt_of_le hi h0.size) (by omega) (by omega)).trans (h0.block i hi)⟩
/-- A pair beside another one that is touched. -/
theorem Pair.beside {w w' : World} {b c b' c' : Nat} {sa sc : Option Addr} {n cap cap' k : Nat} {f : Int} {l : List Int} {a : Nat → Addr} (h : Pair w b c sa sc n cap cap' k f l a) (ht : Touch2 b' c' w w')
    (h1 : b ≠ b') (h2 : b ≠ c') (h3 : c ≠ b') (h4 : c ≠ c') (s1 : ∀ x, sa = some x → 0 < n → x.block ≠ b' ∧ x.block ≠ c') (s2 : ∀ x, sc = some x → 0 < n → x.block ≠ b' ∧ x.block ≠ c') (h5 : 5 ≤ b') (h6 : 5 ≤ c') (hab : ∀ i, i < 5 → (a i).block ≠ b' ∧ (a i).block ≠ c') : Pair w' b c sa sc n cap cap' k f l a := by
  have mv : ∀ {d : Nat} {sd : Option Addr} {cp : Nat}, Rdr w d sd n cp k f l a → d ≠ b' → d ≠ c' → (∀ x, sd = some x → 0 < n → x.block ≠ b' ∧ x.block ≠ c') → Rdr w' d sd n cp k f l a := fun {d sd cp} hd g1 g2 g3 => by
    have e : w'.heap[d]? = w.heap[d]? := ht.block d hd.lt g1 g2
    have he := hd.ready.errs
    have h5' := he.five
    have key : ∀ g, g < 5 → w'.cell? ⟨g, 0, none⟩ = w.cell? ⟨g, 0, none⟩ := fun g hg => World.cell?_of_block (w := w) (ht.block g (by omega) (by omega) (by omega))
    have hE : Errs w' a := ⟨(key _ (by decide)).trans he.s0, (key _ (by decide)).trans he.s1, (key _ (by decide)).trans he.s2, (key _ (by decide)).trans he.s3, (key _ (by decide)).trans he.s4, fun i hi => by
      obtain ⟨cc, t, e⟩ := he.blk i hi; exact ⟨cc, t, (ht.block _ (he.lt i hi) (hab i hi).1 (hab i hi).2).trans e⟩, he.ne⟩
    have hS : Seg w' sd n l := by
      have hs := hd.ready.seg
      refine ⟨hs.1, hs.2.1, fun hn => ?_⟩
      obtain ⟨cc, off, rfl, hc⟩ := hs.2.2 hn
      exact ⟨cc, off, rfl, fun j hj => by rw [World.cell?_of_block (w := w) (ht.block cc (cell_lt (hc j hj)) (g3 _ rfl hn).1 (g3 _ rfl hn).2)]; exact hc j hj⟩
    exact ⟨⟨⟨(World.cell?_of_block (a := ⟨d, 0, none⟩) e).trans hd.ready.cur.1, (World.cell?_of_block (a := ⟨d, 0 + 1, none⟩) e).trans hd.ready.cur.2.1, (World.frozen?_of_block (a := ⟨d, 0 + 1, none⟩) e).trans hd.ready.cur.2.2⟩, hS, hd.ready.sep, hd.ready.byt, hd.ready.le, hE, hd.ready.five, hd.ready.apart⟩,
      (World.cell?_of_block (a := ⟨d, 2, none⟩) e).trans hd.fault, (World.frozen?_of_block (a := ⟨d, 2, none⟩) e).trans hd.thaw, hd.capLe, hd.capMax⟩
  exact ⟨mv h.one h1 h2 s1, mv h.two h3 h4 s2, h.ne, h.s1, h.s2⟩

set_option maxHeartbeats 4000000 in
set_option maxRecDepth 100000 in
theorem read_any (o : OpV) (ho : OpOk o) (b c n cap cap' k : Nat) (f : Int) (sa sc : Option Addr) (l : List Int) (a : Nat → Addr) (w : World) (h : Pair w b c sa sc n cap cap' k f l a) :
    Calls Tryd.prog 32 #[.agg #[.int .i64 o.kind, .bool o.second, .int .u64 (o.u : Int), .int .i64 o.a, .int .i64 o.b], .pointer (some ⟨b, 0, none⟩), .pointer (some ⟨c, 0, none⟩)] w fun e w' =>
      e = .returned (.bool true) ∧ ∃ k' f', Touch2 b c w w' ∧ Pair w' b c sa sc n cap cap' k' f' l a := by
  obtain ⟨kind, second, u, oa, ob⟩ := o
  obtain ⟨hu, ha, hb⟩ := ho
  simp only at hu ha hb ⊢
  have hbel : Below w.heap.size w (w.alloc (.cells #[.int .i64 kind, .bool second, .int .u64 (u : Int), .int .i64 oa, .int .i64 ob] 39)) := (Below.refl _ _).alloc (Nat.le_refl _) _
  have hP := h.below hbel (Nat.le_refl _)
  have hbw := h.one.lt
  have HKeep : Hid (∀ (w1 : World) (j : Nat) (v : Value), Touch b (w.alloc (.cells #[.int .i64 kind, .bool second, .int .u64 (u : Int), .int .i64 oa, .int .i64 ob] 39)) w1 →
      (#[.int .i64 kind, .bool second, .int .u64 (u : Int), .int .i64 oa, .int .i64 ob] : Array Value)[j]? = some v → w1.cell? ⟨w.heap.size, j, none⟩ = some v) := fun w1 j v T e => by
    rw [World.cell?_of_block (a := ⟨w.heap.size, j, none⟩) (T.block w.heap.size (by show _ < (w.heap.push _).size; rw [Array.size_push]; omega) (by omega)), World.cell?_alloc_at _ _ _ _ rfl]
    exact e
  have HBel := hide hbel
  clear hbw
  clear hbel h
  by_cases k1 : kind = 1
  · subst k1
    obtain ⟨z, hz, _⟩ := shapeU u l k f
    go_enter Tryd.func32, Tryd.ntmps32
    go_wp2_with fail
    refine (mUint.any u b n cap k f sa l a _ hP.one).mono ?_
    rintro e w1 ⟨rfl, T1, R1⟩
    have R2 := hP.touched1 T1
    have o2 := HKeep.out _ 2 _ T1 rfl
    go_wp2_with fail
    refine (refRUint_any u c n cap' k f sc l a _ R2).mono ?_
    rintro e w2 ⟨rfl, T2, R3⟩
    rw [hz]
    go_wp2
    go_ret
    exact ⟨rfl, _, _, Touch2.ofBelow HBel.out (T1.and T2), R1.beside T2 hP.ne hP.s1 hP.two.ready.five hP.two.ready.apart, R3, hP.ne, hP.s1, hP.s2⟩
  · by_cases k2 : kind = 2
    · subst k2
      obtain ⟨z, hz, _⟩ := shapeI l k f
      go_enter Tryd.func32, Tryd.ntmps32
      go_wp2_with fail
      refine (mInt.any b n cap k f sa l a _ hP.one).mono ?_
      rintro e w1 ⟨rfl, T1, R1⟩
      have R2 := hP.touched1 T1
      go_wp2_with fail
      refine (refRInt_any c n cap' k f sc l a _ R2).mono ?_
      rintro e w2 ⟨rfl, T2, R3⟩
      rw [hz]
      go_wp2
      go_ret
      exact ⟨rfl, _, _, Touch2.ofBelow HBel.out (T1.and T2), R1.beside T2 hP.ne hP.s1 hP.two.ready.five hP.two.ready.apart, R3, hP.ne, hP.s1, hP.s2⟩
    · by_cases k3 : kind = 3
      · subst k3
        obtain ⟨z, hz, _⟩ := shapeB oa l k f
        go_enter Tryd.func32, Tryd.ntmps32
        go_wp2_with fail
        refine (mByte.any oa b n cap k f sa l a _ hP.one).mono ?_
        rintro e w1 ⟨rfl, T1, R1⟩
        have R2 := hP.touched1 T1
        have o3 := HKeep.out _ 3 _ T1 rfl
        go_wp2_with fail
        refine (refRByte_any oa c n cap' k f sc l a _ R2).mono ?_
        rintro e w2 ⟨rfl, T2, R3⟩
        rw [hz]
        go_wp2
        go_ret
        exact ⟨rfl, _, _, Touch2.ofBelow HBel.out (T1.and T2), R1.beside T2 hP.ne hP.s1 hP.two.ready.five hP.two.ready.apart, R3, hP.ne, hP.s1, hP.s2⟩
      · by_cases k4 : kind = 4
        · subst k4
          obtain ⟨z, hz, _⟩ := shapeT oa ob l k f
          go_enter Tryd.func32, Tryd.ntmps32
          go_wp2_with fail
          refine (mText.any oa ob ha.1 ha.2 hb.1 hb.2 b n cap k f sa l a _ hP.one).mono ?_
          rintro e w1 ⟨rfl, T1, R1⟩
          have R2 := hP.touched1 T1
          have o3 := HKeep.out _ 3 _ T1 rfl
          have o4 := HKeep.out _ 4 _ T1 rfl
          go_wp2_with fail
          refine (refRText_any oa ob ha.1 ha.2 hb.1 hb.2 c n cap' k f sc l a _ R2).mono ?_
          rintro e w2 ⟨rfl, T2, R3⟩
          rw [hz]
          go_wp2
          go_ret
          exact ⟨by simp, _, _, Touch2.ofBelow HBel.out (T1.and T2), R1.beside T2 hP.ne hP.s1 hP.two.ready.five hP.two.ready.apart, R3, hP.ne, hP.s1, hP.s2⟩
        · by_cases k5 : kind = 5
          · subst k5
            go_enter Tryd.func32, Tryd.ntmps32
            go_wp2_with fail
            refine (err_any b n cap k f sa l a _ hP.one).mono ?_
            rintro e w1 ⟨rfl, q1, rfl⟩
            have R2 := hP.two.drewN q1
            go_wp2_with fail
            refine (refErr_any c n cap' k f sc l a _ R2).mono ?_
            rintro e w2 ⟨rfl, q2, rfl⟩
            have hP2 := (hP.drewN q1).drewN q2
            have HT := hide (Touch2.ofBelow HBel.out ((((Touch.refl b _).and (Touch.refl c _)).drewN q1).drewN q2))
            clear R2 hP HBel
            generalize World.drewN (World.drewN _ q1) q2 = W2 at *
            go_wp2_with (first | (go_at_call 13; refine (num_any _ _).mono ?_; rintro e w' ⟨rfl, rfl⟩))
            go_ret
            exact ⟨rfl, _, _, HT.out, hP2⟩
          · by_cases k6 : kind = 6
            · subst k6
              go_enter Tryd.func32, Tryd.ntmps32
              go_wp2_with fail
              refine (leftR_any b n cap k f sa l a _ hP.one).mono ?_
              rintro e w1 ⟨rfl, q1, rfl⟩
              have R2 := hP.two.drewN q1
              go_wp2_with fail
              refine (refLeft_any c n cap' k f sc l a _ R2).mono ?_
              rintro e w2 ⟨rfl, q2, rfl⟩
              clear R2
              go_wp2_with fail
              go_ret
              exact ⟨rfl, _, _, Touch2.ofBelow HBel.out (((Touch.refl b _).and (Touch.refl c _)).drewN _), hP.drewN _⟩
            · by_cases k7 : kind = 7
              · subst k7
                go_enter Tryd.func32, Tryd.ntmps32
                go_wp2_with fail
                refine (close_any b n cap k f sa l a _ hP.one).mono ?_
                rintro e w1 ⟨rfl, T1, R1⟩
                have R2 := hP.touched1 T1
                go_wp2_with fail
                refine (refClose_any c n cap' k f sc l a _ R2).mono ?_
                rintro e w2 ⟨rfl, T2, R3⟩
                have HT := hide (Touch2.ofBelow HBel.out (T1.and T2))
                have hP2 : Pair w2 b c sa sc n cap cap' k (closeF n k f) l a := ⟨R1.beside T2 hP.ne hP.s1 hP.two.ready.five hP.two.ready.apart, R3, hP.ne, hP.s1, hP.s2⟩
                clear R1 R2 R3 T1 T2 hP HBel
                generalize closeF n k f = F at *
                go_wp2_with (first | (go_at_call 13; refine (num_any _ _).mono ?_; rintro e w' ⟨rfl, rfl⟩))
                go_ret
                exact ⟨rfl, _, _, HT.out, hP2⟩
              · have j1 : (kind == 1) = false := beq_eq_false_iff_ne.2 k1
                have j2 : (kind == 2) = false := beq_eq_false_iff_ne.2 k2
                have j3 : (kind == 3) = false := beq_eq_false_iff_ne.2 k3
                have j4 : (kind == 4) = false := beq_eq_false_iff_ne.2 k4
                have j5 : (kind == 5) = false := beq_eq_false_iff_ne.2 k5
                have j6 : (kind == 6) = false := beq_eq_false_iff_ne.2 k6
                have j7 : (kind == 7) = false := beq_eq_false_iff_ne.2 k7
                clear k1 k2 k3 k4 k5 k6 k7
                go_enter Tryd.func32, Tryd.ntmps32
                go_wp2
                go_ret
                exact ⟨rfl, _, _, Touch2.ofBelow HBel.out ((Touch.refl b _).and (Touch.refl c _)), hP⟩
end Go.Proofs.YtifhbbljjalpfabDoor
