/- Proved: for every two lists of bytes and every list of calls, WireReads answers true: two readers answer as the document's own do, each for itself, also when the memory that they were made from is written over. The five sentinels of package wire are as the program's text lays them. -/
import Derived.Test.YtifhbbljjalpfabDoorRead
import Derived.Test.YtifhbbljjalpfabDoorRoom
import Derived.Test.YtifhbbljjalpfabDoorSame
import Derived.Test.YtifhbbljjalpfabDoorNew
import Derived.Test.YtifhbbljjalpfabDoorLaid
import Derived.Test.YtifhbbljjalpfabDoorArgs
import Derived.Test.YtifhbbljjalpfabDoorCards
import Derived.Test.YtifhbbljjalpfabDoorTie
import Derived.Deep.DeepHandedRow
import Derived.Deep.DeepWitnessRowRef
import Derived.WalkSmall
namespace Go.Proofs.YtifhbbljjalpfabDoor
namespace wireReads
open Go.ChangeShapes Go.WideShapes Go.ChangeAt Go.RowKit Go.Wire1

theorem own_below {w w' : World} {B : Nat} {e : TypeId} {s : Nat} {v : Value} {n : Nat} {xs : List Value} {C : Nat} (h : w.ownsRow B e s v n xs) (hb : Below C w w') (hC : w.heap.size ≤ C) : w'.ownsRow B e s v n xs := by
  refine ⟨h.1, ?_⟩
  rcases h.2 with h2 | ⟨g, cap, cur, rfl, hB, hh, r⟩
  · exact .inl h2
  · exact .inr ⟨g, cap, cur, rfl, hB, by rw [hb.block g (by have := (Array.getElem?_eq_some_iff.1 hh).1; omega)]; exact hh, r⟩

/-- A row of bytes of our own, at its block. -/
def Mine (w : World) (B g N cap : Nat) (L : List Int) : Prop := w.ownsRow B 5 1 (.slice (some ⟨g, 0, none⟩) N cap) N (L.map (Value.int .u8)) ∧ L.length = N ∧ N ≤ cap ∧ cap ≤ maxLen ∧ B ≤ g

theorem mine_of {w : World} {B : Nat} {v : Value} {L : List Int} (h : w.ownsRow B 5 1 v L.length (L.map (Value.int .u8))) (hl : 0 < L.length) : ∃ g cap, v = .slice (some ⟨g, 0, none⟩) L.length cap ∧ Mine w B g L.length cap L := by
  rcases h.2 with ⟨_, h2⟩ | ⟨g, cap, cur, rfl, hB, hh, h3, h4, h5, h6⟩
  · omega
  · exact ⟨g, cap, rfl, h, rfl, h3, h4, hB⟩
theorem Mine.below {w w' : World} {B g N cap C : Nat} {L : List Int} (h : Mine w B g N cap L) (hb : Below C w w') (hC : w.heap.size ≤ C) : Mine w' B g N cap L := ⟨own_below h.1 hb hC, h.2⟩
theorem Mine.drewN {w : World} {B g N cap : Nat} {L : List Int} (h : Mine w B g N cap L) (q : Nat) : Mine (w.drewN q) B g N cap L := h
theorem Mine.seg {w : World} {B g N cap : Nat} {L : List Int} (h : Mine w B g N cap L) : Seg w (some ⟨g, 0, none⟩) N L := by
  obtain ⟨h1, rfl, h3, h4, _⟩ := h
  refine ⟨rfl, by omega, fun _ => ⟨g, 0, rfl, fun j hj => ?_⟩⟩
  rw [Nat.zero_add, h1.cellAt j (by omega)]
  simp [List.getElem?_eq_getElem hj]
theorem Mine.store {w : World} {B g N cap : Nat} {L : List Int} (h : Mine w B g N cap L) (k : Nat) (z : Int) : Mine (w.setCell ⟨g, k, none⟩ (.int .u8 z)) B g N cap (L.set k z) := by
  obtain ⟨h1, h2, h3⟩ := h
  exact ⟨by rw [List.map_set]; exact (h1.stored k _).1, by rw [List.length_set]; exact h2, h3⟩
theorem Mine.beside {w : World} {B g N cap : Nat} {L : List Int} (h : Mine w B g N cap L) {c : Nat} (hc : c ≠ g) (k : Nat) (v : Value) : Mine (w.setCell ⟨c, k, none⟩ v) B g N cap L := by
  refine ⟨⟨h.1.1, ?_⟩, h.2⟩
  rcases h.1.2 with h2 | ⟨g', cap', cur, e, hB, hh, r⟩
  · exact .inl h2
  · cases e
    refine .inr ⟨g, cap, cur, rfl, hB, ?_, r⟩
    have := (Touch.setB (o := k) (Touch.refl c w) v).block g (Array.getElem?_eq_some_iff.1 hh).1 (Ne.symm hc)
    rw [this]; exact hh
theorem Mine.lt {w : World} {B g N cap : Nat} {L : List Int} (h : Mine w B g N cap L) (hN : 0 < N) : g < w.heap.size := (h.seg).lt hN rfl

/-- Block x is none of a pair's. -/
def Off (x b c : Nat) (sa sc : Option Addr) (n : Nat) : Prop := b ≠ x ∧ c ≠ x ∧ (∀ y, sa = some y → 0 < n → y.block ≠ x) ∧ (∀ y, sc = some y → 0 < n → y.block ≠ x)
/-- A reader's blocks lie between two marks. -/
def Lies (lo hi b : Nat) (sa : Option Addr) (n : Nat) : Prop := lo ≤ b ∧ b < hi ∧ ∀ y, sa = some y → 0 < n → lo ≤ y.block ∧ y.block < hi
theorem lies_of {w : World} {lo b : Nat} {sa : Option Addr} {n cap k : Nat} {f : Int} {l : List Int} {a : Nat → Addr} (h : Rdr w b sa n cap k f l a) (h1 : lo ≤ b) (h2 : ∀ y, sa = some y → 0 < n → lo ≤ y.block) : Lies lo w.heap.size b sa n :=
  ⟨h1, h.lt, fun y e hn => ⟨h2 y e hn, h.ready.seg.lt hn e⟩⟩
theorem off_of {x lo hi lo' hi' b c : Nat} {sa sc : Option Addr} {n : Nat} (h : Lies lo hi b sa n) (h' : Lies lo' hi' c sc n) (hx : x < lo ∨ hi ≤ x) (hx' : x < lo' ∨ hi' ≤ x) : Off x b c sa sc n := by
  obtain ⟨a1, a2, a3⟩ := h
  obtain ⟨c1, c2, c3⟩ := h'
  exact ⟨by omega, by omega, fun y e hn => by have := a3 y e hn; omega, fun y e hn => by have := c3 y e hn; omega⟩
theorem pair_of {w : World} {lo hi lo' hi' b c : Nat} {sa sc : Option Addr} {n cap cap' k : Nat} {f : Int} {l : List Int} {a : Nat → Addr} (h : Rdr w b sa n cap k f l a) (h' : Rdr w c sc n cap' k f l a) (hl : Lies lo hi b sa n) (hl' : Lies lo' hi' c sc n) (hx : hi' ≤ lo) : Pair w b c sa sc n cap cap' k f l a := by
  obtain ⟨a1, a2, a3⟩ := hl
  obtain ⟨c1, c2, c3⟩ := hl'
  exact ⟨h, h', by omega, fun y e hn => by have := a3 y e hn; omega, fun y e hn => by have := c3 y e hn; omega⟩
theorem Pair.turned {w w' : World} {b c b' c' : Nat} {sa sc : Option Addr} {n cap cap' k : Nat} {f : Int} {l : List Int} {a : Nat → Addr} (h : Pair w b c sa sc n cap cap' k f l a) (ht : Touch2 b' c' w w') (o1 : Off b' b c sa sc n) (o2 : Off c' b c sa sc n) (h5 : 5 ≤ b') (h6 : 5 ≤ c') (hab : ∀ i, i < 5 → (a i).block ≠ b' ∧ (a i).block ≠ c') : Pair w' b c sa sc n cap cap' k f l a :=
  h.beside ht o1.1 o2.1 o1.2.1 o2.2.1 (fun y e hn => ⟨o1.2.2.1 y e hn, o2.2.2.1 y e hn⟩) (fun y e hn => ⟨o1.2.2.2 y e hn, o2.2.2.2 y e hn⟩) h5 h6 hab
theorem Pair.store {w : World} {b c g : Nat} {sa sc : Option Addr} {n cap cap' k : Nat} {f : Int} {l : List Int} {a : Nat → Addr} (h : Pair w b c sa sc n cap cap' k f l a) (o : Off g b c sa sc n) (h5 : 5 ≤ g) (hag : ∀ i, i < 5 → (a i).block ≠ g) (j : Nat) (v : Value) : Pair (w.setCell ⟨g, j, none⟩ v) b c sa sc n cap cap' k f l a :=
  Pair.turned h (((Touch.refl g w).setB v).and (Touch.refl g _)) o o h5 h5 (fun i hi => ⟨hag i hi, hag i hi⟩)

set_option maxHeartbeats 4000000 in
set_option maxRecDepth 100000 in
theorem walk (ta ua oa : Option Addr) (tn tcap un ucap on ocap : Nat) (tl ul : List Int) (ops : List OpV) (a : Nat → Addr) (w : World) (ht : Seg w ta tn tl) (hty : Byt tl) (hreach : tn ≤ 140737488351232) (hu : Seg w ua un ul) (huy : Byt ul) (hreach' : un ≤ 140737488351232)
    (ho : OpSeg w oa on ops) (he : Errs w a) :
    Calls Tryd.prog 8 #[.slice ta tn tcap, .slice ua un ucap, .slice oa on ocap] w fun e w' => e = .returned (.bool true) ∧ Below w.heap.size w w' := by
  have hon := ho.2.1
  unfold maxLen at hon
  have hlen := hide ht.1
  have hlen' := hide hu.1
  have h5 := he.five
  have halt := hide he.lt
  go_enter Tryd.func8, Tryd.ntmps8
  go_wp2_with fail
  refine (refNew_any ta tn tcap tl a _ ht hty he (by omega)).mono ?_
  rintro e w1 ⟨d1, e1, dc1, rfl, hd1, B1, D1, q1⟩
  rw [hlen.out] at D1 q1
  have Z1 := hide (lies_of D1 hd1 q1)
  clear q1
  go_wp2_with fail
  refine (refNew_any ua un ucap ul a _ (hu.below B1 (Nat.le_refl _)) huy (he.below B1 (Nat.le_refl _)) (by omega)).mono ?_
  rintro e w2 ⟨d2, e2, dc2, rfl, hd2, B2, D2, q2⟩
  rw [hlen'.out] at D2 q2
  have Z2 := hide (lies_of D2 hd2 q2)
  have hs1 := B1.size
  have hs2 := B2.size
  replace D1 := D1.below B2 (Nat.le_refl _)
  replace B2 : Below w.heap.size w w2 := B1.trans (B2.mono B1.size)
  clear q2 B1
  go_wp2_with fail
  refine (room_any ta tn tcap tl _ (ht.below B2 (Nat.le_refl _)) hreach).mono ?_
  rintro e w3 ⟨v, rfl, hown1, B3⟩
  have hs3 := B3.size
  replace D1 := D1.below B3 (Nat.le_refl _)
  replace D2 := D2.below B3 (Nat.le_refl _)
  replace B3 : Below w.heap.size w w3 := B2.trans (B3.mono B2.size)
  have HL1 : Hid ((tl ++ [161, 162, 163]).length = tn + 3) := by show _ = _; rw [List.length_append, ht.1]; rfl
  have HT1 : Hid ((tl ++ [161, 162, 163]).take tn = tl) := by show _ = _; rw [← ht.1]; exact List.take_left
  generalize hLE : tl ++ [161, 162, 163] = L at *
  have HLE := hide hLE
  obtain ⟨g1, c1, rfl, M1⟩ := mine_of hown1 (by rw [HL1.out]; omega)
  rw [HL1.out] at M1
  rw [HL1.out]
  have hg1 := M1.lt (by omega)
  have hg1' := M1.2.2.2.2
  have hc1 := M1.2.2.1
  have hc1' := M1.2.2.2.1
  unfold maxLen at hc1'
  clear hLE hown1 B2
  go_wp2_with fail
  refine (room_any ua un ucap ul _ (hu.below B3 (Nat.le_refl _)) hreach').mono ?_
  rintro e w4 ⟨v, rfl, hown2, B4⟩
  have hs4 := B4.size
  replace D1 := D1.below B4 (Nat.le_refl _)
  replace D2 := D2.below B4 (Nat.le_refl _)
  replace M1 := M1.below B4 (Nat.le_refl _)
  replace B4 : Below w.heap.size w w4 := B3.trans (B4.mono B3.size)
  have HL2 : Hid ((ul ++ [161, 162, 163]).length = un + 3) := by show _ = _; rw [List.length_append, hu.1]; rfl
  have HT2 : Hid ((ul ++ [161, 162, 163]).take un = ul) := by show _ = _; rw [← hu.1]; exact List.take_left
  generalize hKE : ul ++ [161, 162, 163] = K at *
  have HKE := hide hKE
  obtain ⟨g2, c2, rfl, M2⟩ := mine_of hown2 (by rw [HL2.out]; omega)
  rw [HL2.out] at M2
  rw [HL2.out]
  have hg2 := M2.lt (by omega)
  have hg2' := M2.2.2.2.2
  have hc2 := M2.2.2.1
  have hc2' := M2.2.2.2.1
  unfold maxLen at hc2'
  clear hKE hown2 B3
  have s1 : Seg w4 (some ⟨g1, 0, none⟩) tn tl := by have := M1.seg.take (k := tn) (by omega); rwa [HT1.out] at this
  go_wp2_with fail
  refine (newReader_any _ tn _ tl a _ s1 hty (he.below B4 (Nat.le_refl _)) (by omega) (fun e => by cases e)).mono ?_
  rintro e w5 ⟨b1, f1, bc1, rfl, hb1, B5, R1, q5⟩
  rw [hlen.out] at R1 q5
  have Z3 := hide (lies_of R1 hb1 q5)
  have hs5 := B5.size
  replace D1 := D1.below B5 (Nat.le_refl _)
  replace D2 := D2.below B5 (Nat.le_refl _)
  replace M1 := M1.below B5 (Nat.le_refl _)
  replace M2 := M2.below B5 (Nat.le_refl _)
  replace B5 : Below w.heap.size w w5 := B4.trans (B5.mono B4.size)
  clear s1 B4 q5
  have s2 : Seg w5 (some ⟨g2, 0, none⟩) un ul := by have := M2.seg.take (k := un) (by omega); rwa [HT2.out] at this
  go_wp2_with fail
  refine (newReader_any _ un _ ul a _ s2 huy (he.below B5 (Nat.le_refl _)) (by omega) (fun e => by cases e)).mono ?_
  rintro e w6 ⟨b2, f2, bc2, rfl, hb2, B6, R2, q6⟩
  rw [hlen'.out] at R2 q6
  have Z4 := hide (lies_of R2 hb2 q6)
  have hs6 := B6.size
  replace D1 := D1.below B6 (Nat.le_refl _)
  replace D2 := D2.below B6 (Nat.le_refl _)
  replace R1 := R1.below B6 (Nat.le_refl _)
  replace M1 := M1.below B6 (Nat.le_refl _)
  replace M2 := M2.below B6 (Nat.le_refl _)
  replace B6 : Below w.heap.size w w6 := B5.trans (B6.mono B5.size)
  clear s2 B5 q6
  have P1 := pair_of R1 D1 Z3.out Z1.out (by omega)
  have P2 := pair_of R2 D2 Z4.out Z2.out (by omega)
  clear R1 R2 D1 D2
  go_wp2_with fail
  refine (room_any ta tn tcap tl _ (ht.below B6 (Nat.le_refl _)) hreach).mono ?_
  rintro e w7 ⟨v, rfl, hown, B7⟩
  rw [HLE.out] at hown
  replace P1 := P1.below B7 (Nat.le_refl _)
  replace P2 := P2.below B7 (Nat.le_refl _)
  replace M1 := M1.below B7 (Nat.le_refl _)
  replace M2 := M2.below B7 (Nat.le_refl _)
  replace B7 : Below w.heap.size w w7 := B6.trans (B7.mono B6.size)
  obtain ⟨a7, c7, rfl, _, _, s7⟩ := seg_own hown
  clear hown B6
  have HS : Hid (sameB L L = true) := same_yes rfl
  have HS' : Hid (sameB K K = true) := same_yes rfl
  go_wp2_with fail
  refine (same_any _ _ _ _ _ _ L L _ M1.seg s7).mono ?_
  rintro e w8 ⟨rfl, q, rfl⟩
  rw [HS.out]
  replace P1 := P1.drewN q
  replace P2 := P2.drewN q
  replace M1 := M1.drewN q
  replace M2 := M2.drewN q
  replace B7 : Below w.heap.size w (w7.drewN q) := below_drewN B7 q
  clear s7 HS
  generalize w7.drewN q = w8 at *
  go_wp2_with fail
  refine (room_any ua un ucap ul _ (hu.below B7 (Nat.le_refl _)) hreach').mono ?_
  rintro e w9 ⟨v, rfl, hown, B9⟩
  rw [HKE.out] at hown
  replace P1 := P1.below B9 (Nat.le_refl _)
  replace P2 := P2.below B9 (Nat.le_refl _)
  replace M1 := M1.below B9 (Nat.le_refl _)
  replace M2 := M2.below B9 (Nat.le_refl _)
  replace B9 : Below w.heap.size w w9 := B7.trans (B9.mono B7.size)
  obtain ⟨a9, c9, rfl, _, _, s9⟩ := seg_own hown
  clear hown B7
  go_wp2_with fail
  refine (same_any _ _ _ _ _ _ K K _ M2.seg s9).mono ?_
  rintro e w10 ⟨rfl, q, rfl⟩
  rw [HS'.out]
  replace P1 := P1.drewN q
  replace P2 := P2.drewN q
  replace M1 := M1.drewN q
  replace M2 := M2.drewN q
  have HB : Hid (Below w.heap.size w (w9.drewN q)) := below_drewN B9 q
  clear s9 HS' B9
  generalize w9.drewN q = w10 at *
  have hag1 : Hid (∀ i, i < 5 → (a i).block ≠ g1) := fun i hi => by have := halt.out i hi; omega
  have hag2 : Hid (∀ i, i < 5 → (a i).block ≠ g2) := fun i hi => by have := halt.out i hi; omega
  have O11 : Hid (Off g1 b1 d1 f1 e1 tn) := off_of Z3.out Z1.out (by omega) (by omega)
  have O12 : Hid (Off g1 b2 d2 f2 e2 un) := off_of Z4.out Z2.out (by omega) (by omega)
  have O21 : Hid (Off g2 b1 d1 f1 e1 tn) := off_of Z3.out Z1.out (by omega) (by omega)
  have O22 : Hid (Off g2 b2 d2 f2 e2 un) := off_of Z4.out Z2.out (by omega) (by omega)
  have y1 := Z1.out.1
  have y2 := Z2.out.1
  have y3 := Z3.out.1
  have y4 := Z4.out.1
  have y1' := Z1.out.2.1
  have y2' := Z2.out.2.1
  have y3' := Z3.out.2.1
  have Ob1 : Hid (Off b1 b2 d2 f2 e2 un) := off_of Z4.out Z2.out (by omega) (by omega)
  have Od1 : Hid (Off d1 b2 d2 f2 e2 un) := off_of Z4.out Z2.out (by omega) (by omega)
  have Ob2 : Hid (Off b2 b1 d1 f1 e1 tn) := off_of Z3.out Z1.out (by omega) (by omega)
  have Od2 : Hid (Off d2 b1 d1 f1 e1 tn) := off_of Z3.out Z1.out (by omega) (by omega)
  have g5 : 5 ≤ g1 := by omega
  have g6 : 5 ≤ g2 := by omega
  have hg12 : g1 ≠ g2 := by omega
  have hw1 : w.heap.size ≤ g1 := by omega
  have hw2 : w.heap.size ≤ g2 := by omega
  have hw3 : w.heap.size ≤ b1 ∧ w.heap.size ≤ d1 ∧ w.heap.size ≤ b2 ∧ w.heap.size ≤ d2 := by omega
  clear hs1 hs2 hs3 hs4 hs5 hs6 hg1 hg1' hg2 hg2' y1 y2 y3 y4 y1' y2' y3' hd1 hd2 hb1 hb2 HL1 HT1 HL2 HT2 HLE HKE Z1 Z2 Z3 Z4
  generalize w2.heap.size = BB1 at *
  generalize w3.heap.size = BB2 at *
  clear w1 w2 w3 w4 w5 w6 w7 w8 w9
  go_wp2_with fail
  go_loopw [15] (fun c wr => ∃ (k : Nat) (M : List Int), c = .int .i64 (k : Int) ∧ k ≤ tn + 3 ∧ Mine wr BB1 g1 (tn + 3) c1 M ∧ Mine wr BB2 g2 (un + 3) c2 K ∧ Pair wr b1 d1 f1 e1 tn bc1 dc1 0 0 tl a ∧ Pair wr b2 d2 f2 e2 un bc2 dc2 0 0 ul a ∧ Hid (Below w.heap.size w wr)) (fun c _ => tn + 3 - (intOf c).toNat)
  case atStart => exact ⟨0, L, rfl, Nat.zero_le _, M1, M2, P1, P2, HB⟩
  case round =>
    clear M1 M2 P1 P2 HB
    obtain ⟨k, M, rfl, hk, M1, M2, P1, P2, HB⟩ := hrel
    by_cases hlt : k < tn + 3
    · obtain ⟨b', o', e', hc'⟩ := M1.seg.2.2 (by omega)
      cases e'
      have hck := hc' k (by omega)
      rw [Nat.zero_add] at hck
      have hfr := M1.1.frozenAt k
      have M1' := hide (M1.store k 238)
      have M2' := hide (M2.beside hg12 k (.int .u8 238))
      have P1' := hide (Pair.store P1 O11.out g5 hag1.out k (.int .u8 238))
      have P2' := hide (Pair.store P2 O12.out g5 hag1.out k (.int .u8 238))
      clear hc' M1 M2 P1 P2
      go_wp2_with fail
      go_roundw
      case rel => exact ⟨k + 1, _, by go_num, by omega, M1'.out, M2'.out, P1'.out, P2'.out, HB.out.setCell (p := ⟨_, k, none⟩) hw1 _⟩
      case measure => simp [intOf]; omega
    · go_wp2_with fail
      go_loopw [16] (fun c wr => ∃ (k : Nat) (M : List Int), c = .int .i64 (k : Int) ∧ k ≤ un + 3 ∧ Mine wr BB2 g2 (un + 3) c2 M ∧ Pair wr b1 d1 f1 e1 tn bc1 dc1 0 0 tl a ∧ Pair wr b2 d2 f2 e2 un bc2 dc2 0 0 ul a ∧ Hid (Below w.heap.size w wr)) (fun c _ => un + 3 - (intOf c).toNat)
      case atStart => exact ⟨0, K, rfl, Nat.zero_le _, M2, P1, P2, HB⟩
      case round =>
        clear M1 M2 P1 P2 HB
        obtain ⟨k, M, rfl, hk, M2, P1, P2, HB⟩ := hrel
        by_cases hlt2 : k < un + 3
        · obtain ⟨b', o', e', hc'⟩ := M2.seg.2.2 (by omega)
          cases e'
          have hck := hc' k (by omega)
          rw [Nat.zero_add] at hck
          have hfr := M2.1.frozenAt k
          have M2' := hide (M2.store k 17)
          have P1' := hide (Pair.store P1 O21.out g6 hag2.out k (.int .u8 17))
          have P2' := hide (Pair.store P2 O22.out g6 hag2.out k (.int .u8 17))
          clear hc' M2 P1 P2
          go_wp2_with fail
          go_roundw
          case rel => exact ⟨k + 1, _, by go_num, by omega, M2'.out, P1'.out, P2'.out, HB.out.setCell (p := ⟨_, k, none⟩) hw2 _⟩
          case measure => simp [intOf]; omega
        · clear M2
          go_wp2_with fail
          go_loopw [17] (fun c wr => ∃ (j k1 k2 : Nat) (z1 z2 : Int), c = .int .i64 (j : Int) ∧ j ≤ on ∧ Pair wr b1 d1 f1 e1 tn bc1 dc1 k1 z1 tl a ∧ Pair wr b2 d2 f2 e2 un bc2 dc2 k2 z2 ul a ∧ Hid (Below w.heap.size w wr)) (fun c _ => on - (intOf c).toNat)
          case atStart => exact ⟨0, 0, 0, 0, 0, rfl, Nat.zero_le _, P1, P2, HB⟩
          case round =>
            clear P1 P2 HB
            obtain ⟨j, k1, k2, z1, z2, rfl, hj, P1, P2, HB⟩ := hrel
            by_cases hlt3 : j < on
            · obtain ⟨ob, oo, rfl, hc⟩ := (ho.below HB.out (Nat.le_refl _)).2.2.1 (by omega)
              obtain ⟨c0, c1, c2, c3, c4⟩ := hc j hlt3
              have hok := opOk_at ho.2.2.2 j
              clear hc
              generalize ops.getD j opZ = o at *
              cases hsec : o.second with
              | true =>
                rw [hsec] at c1
                have rd := read_any o hok b2 d2 un bc2 dc2 k2 z2 f2 e2 ul a _ P2
                rw [hsec] at rd
                have Rd := hide rd
                clear rd
                go_wp2_with fail
                refine Rd.out.mono ?_
                rintro e wn ⟨rfl, k', z', T, Pn⟩
                have Qn := Pair.turned P1 T Ob2.out Od2.out P2.one.ready.five P2.two.ready.five (fun i hi => ⟨P2.one.ready.apart i hi, P2.two.ready.apart i hi⟩)
                have HB2 := hide (T.below (by omega) (by omega) HB.out)
                clear T P1 P2 HB c0 c1 c2 c3 c4 Rd
                go_wp2_with fail
                go_roundw
                case rel => exact ⟨j + 1, k1, k', z1, z', by go_num, by omega, Qn, Pn, HB2⟩
                case measure => simp [intOf]; omega
              | false =>
                rw [hsec] at c1
                have rd := read_any o hok b1 d1 tn bc1 dc1 k1 z1 f1 e1 tl a _ P1
                rw [hsec] at rd
                have Rd := hide rd
                clear rd
                go_wp2_with fail
                refine Rd.out.mono ?_
                rintro e wn ⟨rfl, k', z', T, Pn⟩
                have Qn := Pair.turned P2 T Ob1.out Od1.out P1.one.ready.five P1.two.ready.five (fun i hi => ⟨P1.one.ready.apart i hi, P1.two.ready.apart i hi⟩)
                have HB2 := hide (T.below (by omega) (by omega) HB.out)
                clear T P1 P2 HB c0 c1 c2 c3 c4 Rd
                go_wp2_with fail
                go_roundw
                case rel => exact ⟨j + 1, k', k2, z', z2, by go_num, by omega, Pn, Qn, HB2⟩
                case measure => simp [intOf]; omega
            · go_wp2_with fail
              go_ret
              exact ⟨rfl, HB.out⟩

set_option maxRecDepth 100000 in
/-- For every argument and every world that holds the sentinels. -/
theorem contract (H : Type) (enc : TypeId × Value → H) (W : World) (base : Nat) (args : Array Value) (ds gs : List (DataW H)) (before : List MemPlace)
    (hval : ∀ (j : Nat) t v, Tryd.f8.params[j]? = some t → args[j]? = some v → Value.okWide Tryd.prog W .any base t v)
    (hW : DataW.Whole enc Tryd.prog Tryd.f8.params.toList Rows.wireReadsSpec.vars false W args.toList ds gs before)
    (hsz : (DataW.weightsEach Tryd.prog (Tryd.f8.params.toList ++ (OpenSpec.ofChange Rows.wireReadsSpec).bare.plain.varTypes Tryd.prog) (ds ++ gs)).all (· ≤ reachBytes) = true)
    (hL : laidMetH Tryd.prog Rows.wireReadsRow.laid W) :
    Calls Tryd.prog 8 args W fun e W' => ∃ v, e = .returned v ∧ Rows.wireReadsSpec.post enc Tryd.prog Tryd.f8 false true false false W args v W' := by
  have hW' := hW
  obtain ⟨p, q, hA0, hV, rfl, hfz, hnd⟩ := hW
  have hA : DataW.TrodAll enc Tryd.prog W 0 (fun _ => true) true Tryd.f8.params.toList args.toList ds p := hA0
  rw [Tryd.params8] at hA hval hsz
  obtain ⟨v0, vs0, d0, ds0, p0, q0, hargs, rfl, rfl, h0, r0⟩ := trodAll_cons hA
  obtain ⟨v1, vs1, d1, ds1, p1, q1, rfl, rfl, rfl, h1, r1⟩ := trodAll_cons r0
  obtain ⟨v2, vs2, d2, ds2, p2, q2, rfl, rfl, rfl, h2, r2⟩ := trodAll_cons r1
  obtain ⟨rfl, rfl, rfl⟩ := trodAll_nil r2
  obtain rfl : args = #[v0, v1, v2] := by cases args; simp_all
  obtain ⟨rfl, rfl⟩ := trodVars_none hV
  obtain ⟨a0, n0, cap0, rfl⟩ := okWide_slice Tryd.underlying25 (hval 0 25 v0 rfl rfl)
  have k0 := h0
  have lt0 : ∀ x ∈ p0, x.block < W.heap.size := by obtain ⟨m, hm⟩ := k0; exact DataW.trod_lt m _ _ _ hm
  obtain ⟨fuel0, hf0⟩ := h0
  obtain ⟨l0, hseg0, hbyt0, hcap0, hdat0⟩ := open_bytes hf0
  obtain ⟨a1, n1, cap1, rfl⟩ := okWide_slice Tryd.underlying25 (hval 1 25 v1 rfl rfl)
  have k1 := h1
  have lt1 : ∀ x ∈ p1, x.block < W.heap.size := by obtain ⟨m, hm⟩ := k1; exact DataW.trod_lt m _ _ _ hm
  obtain ⟨fuel1, hf1⟩ := h1
  obtain ⟨l1, hseg1, hbyt1, hcap1, hdat1⟩ := open_bytes hf1
  obtain ⟨a2, n2, cap2, rfl⟩ := okWide_slice Tryd.underlying36 (hval 2 36 v2 rfl rfl)
  have k2 := h2
  have lt2 : ∀ x ∈ p2, x.block < W.heap.size := by obtain ⟨m, hm⟩ := k2; exact DataW.trod_lt m _ _ _ hm
  obtain ⟨fuel2, hf2⟩ := h2
  obtain ⟨l2, hseg2⟩ := open_ops hf2
  have hreach0 : cap0 ≤ 140737488351232 := by
    rcases hdat0 with ⟨_, _, h⟩ | ⟨elems, spare, hd, he, hc⟩
    · omega
    · have hs := sized_slice hsz (j := 0) (t := 25) (e := 5) (elems := elems) (spare := spare) rfl (by rw [show d0 = _ from hd]; rfl) Tryd.underlying25
      rw [bytes5] at hs
      simp only [reachBytes] at hs
      omega
  have hreach1 : cap1 ≤ 140737488351232 := by
    rcases hdat1 with ⟨_, _, h⟩ | ⟨elems, spare, hd, he, hc⟩
    · omega
    · have hs := sized_slice hsz (j := 1) (t := 25) (e := 5) (elems := elems) (spare := spare) rfl (by rw [show d1 = _ from hd]; rfl) Tryd.underlying25
      rw [bytes5] at hs
      simp only [reachBytes] at hs
      omega
  obtain ⟨a, hE⟩ := errs_of_laid hL
  clear hA0

  refine (walk a0 a1 a2 n0 cap0 n1 cap1 n2 cap2 l0 l1 l2 a W hseg0 hbyt0 (by omega) hseg1 hbyt1 (by omega) hseg2 hE).mono fun e W' ⟨he, bel⟩ => ?_
  subst he
  exact ⟨_, rfl, _, _, _, [], _, [], hW', trodAll_mk1 (shut_bool Tryd.underlying4 _), (trodAll_cons_mk (Below.trod laidOut (by kernel_rfl) (of_decide_eq_true (by kernel_rfl)) k0 bel lt0) (trodAll_cons_mk (Below.trod laidOut (by kernel_rfl) (of_decide_eq_true (by kernel_rfl)) k1 bel lt1) (trodAll_cons_mk (Below.trod laidOut (by kernel_rfl) (of_decide_eq_true (by kernel_rfl)) k2 bel lt2) trodAll_mk0))), rfl, bel.frame _, fun h => by cases h⟩

theorem reads (os : Os) {H : Type} (enc : TypeId × Value → H) : ∃ places, DataW.whole enc Tryd.prog ((World.doorLaid Tryd.prog 104 os).forCall (fun _ _ => 0) ⟨#[], #[.slice none 0 0, .slice none 0 0, .slice none 0 0], []⟩).memory Tryd.f8.params.toList Rows.wireReadsSpec.vars false #[Value.slice none 0 0, .slice none 0 0, .slice none 0 0].toList 8 = some ([.nil, .nil, .nil], [], places) :=
  ⟨[], by kernel_rfl⟩

set_option maxRecDepth 100000 in
theorem lifted (os : Os) (started : os.Started) (H : Type) (enc : TypeId × Value → H) (F : Stop.Interp) :
    ReturnsInHanded {} Tryd.checked os 8 .any ((OpenSpec.ofChange Rows.wireReadsSpec).preRow enc Tryd.prog Tryd.f8 Rows.wireReadsRow.domain false Rows.wireReadsRow.laid) (((OpenSpec.ofChange Rows.wireReadsSpec).at F).post enc Tryd.prog Tryd.f8 false true false false) := by
  obtain ⟨places, hx⟩ := reads os enc
  refine returnsInHanded_of_row (C := Tryd.checked) (s := (OpenSpec.ofChange Rows.wireReadsSpec)) own started (by kernel_rfl) Tryd.func8
    (witness_row_atRef (enc := enc) (C := Tryd.checked) false (World.doorLaid Tryd.prog 104 os) #[.slice none 0 0, .slice none 0 0, .slice none 0 0] rfl (by kernel_rfl) (by kernel_rfl) (by kernel_rfl)
      (OpenSpec.preRow_of_cond 8 hx (by kernel_rfl) (fun k hk => by cases hk) (by kernel_rfl) (door_met os _))) ?_
  intro W base args ds gs before hval hW _ hcond hsz hL _ _
  exact contract H enc W base args ds gs before hval hW hsz hL

theorem said : Rows.WireReadsSaid :=
  OpenClaim.holds_of_cond 8 Tryd.f8 rfl rfl rfl rfl rfl rfl rfl ⟨rfl, rfl, rfl, rfl, rfl⟩ rfl rfl rfl rfl rfl (by kernel_rfl) Tryd.func8 (by kernel_rfl)
    (of_decide_eq_true (by kernel_rfl)) (by unfold Func.isWrapper; first | (rw [if_pos (by decide +kernel)]; kernel_rfl) | (rw [if_neg (by decide +kernel)]; exact ⟨rfl, rfl⟩))
    (fun os started H enc _ F => by rw [OpenClaim.pre_eq_preRow]; exact lifted os started H enc F)

theorem plain (f : FuncId) (fn : Func) (hf : Tryd.pinned.checked.prog.funcNamed "moot/mootlaw1.WireReads" = some f) (hfn : Tryd.pinned.checked.prog.funcs[f]? = some fn) :
    true = Tryd.pinned.checked.prog.looks [] ∧ ∀ (j : Nat) t, fn.params[j]? = some t → Tryd.pinned.checked.prog.wantsStandIn t = false := by
  obtain rfl : f = 8 := Option.some.inj ((show Tryd.prog.funcNamed "moot/mootlaw1.WireReads" = some 8 by kernel_rfl).symm.trans hf) |>.symm
  obtain rfl : fn = Tryd.f8 := (Option.some.inj (Tryd.func8.symm.trans hfn)).symm
  refine ⟨by kernel_rfl, fun j t ht => ?_⟩
  rw [Tryd.params8] at ht
  have hm : t ∈ [25, 25, 36] := by simpa using Array.mem_of_getElem? ht
  have hall : ([25, 25, 36].all fun u => !Tryd.prog.wantsStandIn u) = true := by kernel_rfl
  exact (show Tryd.prog.wantsStandIn t = false by simpa using List.all_eq_true.1 hall t hm)

end wireReads
theorem wireReads_proved : Rows.WireReadsCardSaid :=
  Claim7.holds_tied_plain_at .later [] _ _ _ _ wireReads.said (fun _ h => by cases h) (by kernel_rfl) (fun _ h => by cases h) wireReads_row_tie rfl ⟨rfl, rfl⟩ (by kernel_rfl) rfl wireReads.plain (by kernel_rfl)
#print axioms wireReads_proved
end Go.Proofs.YtifhbbljjalpfabDoor
