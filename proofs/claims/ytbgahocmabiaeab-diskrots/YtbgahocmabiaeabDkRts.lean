/- The contract of the statements' helper rots. -/
import Derived.Test.YtbgahocmabiaeabDkShow
namespace Go.Proofs.Ytbgahocmabiaeab
open Go.RowKit Go.Wire1 Go.MuLone

theorem set_self (l : List Int) (k : Nat) (h : k < l.length) : l.set k (l.getD k 0) = l := by
  apply List.ext_getElem?
  intro i
  rw [List.getElem?_set]
  by_cases e : k = i
  · subst e; simp [h]
  · rw [if_neg e]

set_option maxHeartbeats 4000000 in
set_option maxRecDepth 100000 in
theorem rots_low (w : World) (b : Nat) (pv : Value) (l : List Int) (m E0 : Nat) (z x : Int) (h : Dsk 0 w b pv l m E0) (hz : z < 0) :
    Calls Try.prog 8 #[.pointer (some ⟨b, 0, none⟩), .int .i64 z, .int .i64 x] w fun r w' => r = .returned (.bool true) ∧ ∃ pv', Dst 0 w w' b pv pv' l m E0 := by
  have Hz0 : Hid (z < 0) := by show z < 0; omega
  obtain ⟨ln, hln⟩ : ∃ ln, ln = l.length := ⟨_, rfl⟩
  have Hz : Hid (z < 0 ∧ ln = l.length) := by have := Hz0.out; show z < 0 ∧ ln = l.length; omega
  have HL := hide hln
  have HD := hide h
  clear Hz0 hln h hz
  have q1 : ¬ ((0 : Int) ≤ z) := by have := Hz.out; omega
  go_enter Try.func8, Try.ntmps8
  go_wp2_with fail
  refine (look_any _ b pv l m E0 HD.out).mono ?_
  rintro e w1 ⟨v, rfl, hown, hb1⟩
  obtain ⟨va, vc, rfl, _, _, sg⟩ := seg_own hown
  have DD := hide (HD.out.later hb1)
  have B1 := hide hb1
  have SV := hide sg
  rw [← HL.out] at SV ⊢
  clear hown hb1 sg
  go_wp2_with fail
  refine (rot_low _ b pv l m E0 z x DD.out (by have := Hz.out; omega)).mono ?_
  rintro e w2 ⟨rfl, hb2⟩
  have D2 := hide (DD.out.later hb2)
  have B2 := hide (B1.out.trans (hb2.mono B1.out.size))
  have SV2 := hide (SV.out.below hb2 (Nat.le_refl _))
  clear hb2 B1 SV DD
  go_wp2_with fail
  refine (look_any _ b pv l m E0 D2.out).mono ?_
  rintro e w3 ⟨v3, rfl, hown3, hb3⟩
  obtain ⟨vb, vd, rfl, _, _, sg3⟩ := seg_own hown3
  have B3 := hide (B2.out.trans (hb3.mono B2.out.size))
  have SV3 := hide (SV2.out.below hb3 (Nat.le_refl _))
  have SW3 := hide sg3
  rw [← HL.out] at SW3 ⊢
  clear hown3 hb3 sg3 B2 SV2
  go_wp2_with fail
  refine (num9_any 93 _).mono ?_
  rintro e w4 ⟨rfl, rfl⟩
  go_wp2_with fail
  refine (same_any va vb ln ln vc vd l l _ SV3.out SW3.out).mono ?_
  rintro e w4 ⟨rfl, q, rfl⟩
  rw [same_yes rfl]
  have S4 := hide (HD.out.stay (below_drewN' B3.out q))
  go_wp2
  go_ret
  exact ⟨rfl, _, S4.out⟩

set_option maxHeartbeats 4000000 in
set_option maxRecDepth 100000 in
theorem rots_high (w : World) (b : Nat) (pv : Value) (l : List Int) (m E0 : Nat) (z x : Int) (h : Dsk 0 w b pv l m E0) (hz : ¬ z < 0) (hz2 : (l.length : Int) ≤ z) :
    Calls Try.prog 8 #[.pointer (some ⟨b, 0, none⟩), .int .i64 z, .int .i64 x] w fun r w' => r = .returned (.bool true) ∧ ∃ pv', Dst 0 w w' b pv pv' l m E0 := by
  have Hz0 : Hid (0 ≤ z ∧ (l.length : Int) ≤ z) := by show 0 ≤ z ∧ (l.length : Int) ≤ z; omega
  obtain ⟨ln, hln⟩ : ∃ ln, ln = l.length := ⟨_, rfl⟩
  have Hz : Hid (0 ≤ z ∧ (ln : Int) ≤ z ∧ ln = l.length) := by have := Hz0.out; show 0 ≤ z ∧ (ln : Int) ≤ z ∧ ln = l.length; omega
  have HL := hide hln
  have HD := hide h
  clear Hz0 hln h hz2 hz
  have q1 : (0 : Int) ≤ z := by have := Hz.out; omega
  have q2 : ¬ (z < (ln : Int)) := by have := Hz.out; omega
  go_enter Try.func8, Try.ntmps8
  go_wp2_with fail
  refine (look_any _ b pv l m E0 HD.out).mono ?_
  rintro e w1 ⟨v, rfl, hown, hb1⟩
  obtain ⟨va, vc, rfl, _, _, sg⟩ := seg_own hown
  have DD := hide (HD.out.later hb1)
  have B1 := hide hb1
  have SV := hide sg
  rw [← HL.out] at SV ⊢
  clear hown hb1 sg
  go_wp2_with fail
  refine (rot_high _ b pv l m E0 z x DD.out (by have := Hz.out; omega) (by have := Hz.out; omega)).mono ?_
  rintro e w2 ⟨rfl, hb2⟩
  have D2 := hide (DD.out.later hb2)
  have B2 := hide (B1.out.trans (hb2.mono B1.out.size))
  have SV2 := hide (SV.out.below hb2 (Nat.le_refl _))
  clear hb2 B1 SV DD
  go_wp2_with fail
  refine (look_any _ b pv l m E0 D2.out).mono ?_
  rintro e w3 ⟨v3, rfl, hown3, hb3⟩
  obtain ⟨vb, vd, rfl, _, _, sg3⟩ := seg_own hown3
  have B3 := hide (B2.out.trans (hb3.mono B2.out.size))
  have SV3 := hide (SV2.out.below hb3 (Nat.le_refl _))
  have SW3 := hide sg3
  rw [← HL.out] at SW3 ⊢
  clear hown3 hb3 sg3 B2 SV2
  go_wp2_with fail
  refine (num9_any 93 _).mono ?_
  rintro e w4 ⟨rfl, rfl⟩
  go_wp2_with fail
  refine (same_any va vb ln ln vc vd l l _ SV3.out SW3.out).mono ?_
  rintro e w4 ⟨rfl, q, rfl⟩
  rw [same_yes rfl]
  have S4 := hide (HD.out.stay (below_drewN' B3.out q))
  go_wp2
  go_ret
  exact ⟨rfl, _, S4.out⟩

set_option maxHeartbeats 4000000 in
set_option maxRecDepth 100000 in
theorem rots_zero (w : World) (b : Nat) (pv : Value) (l : List Int) (m E0 : Nat) (z x : Int) (h : Dsk 0 w b pv l m E0) (hz : ¬ z < 0) (hz2 : z < (l.length : Int)) (hx : x < 1) :
    Calls Try.prog 8 #[.pointer (some ⟨b, 0, none⟩), .int .i64 z, .int .i64 x] w fun r w' => r = .returned (.bool true) ∧ ∃ pv', Dst 0 w w' b pv pv' l m E0 := by
  have Hz0 : Hid (0 ≤ z ∧ z < (l.length : Int) ∧ x < 1) := by show 0 ≤ z ∧ z < (l.length : Int) ∧ x < 1; omega
  obtain ⟨ln, hln⟩ : ∃ ln, ln = l.length := ⟨_, rfl⟩
  have Hz : Hid (0 ≤ z ∧ z < (ln : Int) ∧ x < 1 ∧ ln = l.length) := by have := Hz0.out; show 0 ≤ z ∧ z < (ln : Int) ∧ x < 1 ∧ ln = l.length; omega
  have HL := hide hln
  have HD := hide h
  clear Hz0 hln h hx hz2 hz
  have q1 : (0 : Int) ≤ z := by have := Hz.out; omega
  have q2 : z < (ln : Int) := by have := Hz.out; omega
  have q3 : ¬ ((1 : Int) ≤ x) := by have := Hz.out; omega
  go_enter Try.func8, Try.ntmps8
  go_wp2_with fail
  refine (look_any _ b pv l m E0 HD.out).mono ?_
  rintro e w1 ⟨v, rfl, hown, hb1⟩
  obtain ⟨va, vc, rfl, _, _, sg⟩ := seg_own hown
  have DD := hide (HD.out.later hb1)
  have B1 := hide hb1
  have SV := hide sg
  rw [← HL.out] at SV ⊢
  clear hown hb1 sg
  go_wp2_with fail
  refine (rot_zero _ b pv l m E0 z x DD.out (by have := Hz.out; omega) (by have := Hz.out; omega) (by have := Hz.out; omega)).mono ?_
  rintro e w2 ⟨rfl, hb2⟩
  have D2 := hide (DD.out.later hb2)
  have B2 := hide (B1.out.trans (hb2.mono B1.out.size))
  have SV2 := hide (SV.out.below hb2 (Nat.le_refl _))
  clear hb2 B1 SV DD
  go_wp2_with fail
  refine (look_any _ b pv l m E0 D2.out).mono ?_
  rintro e w3 ⟨v3, rfl, hown3, hb3⟩
  obtain ⟨vb, vd, rfl, _, _, sg3⟩ := seg_own hown3
  have B3 := hide (B2.out.trans (hb3.mono B2.out.size))
  have SV3 := hide (SV2.out.below hb3 (Nat.le_refl _))
  have SW3 := hide sg3
  rw [← HL.out] at SW3 ⊢
  clear hown3 hb3 sg3 B2 SV2
  go_wp2_with fail
  refine (num9_any 94 _).mono ?_
  rintro e w4 ⟨rfl, rfl⟩
  go_wp2_with fail
  refine (same_any va vb ln ln vc vd l l _ SV3.out SW3.out).mono ?_
  rintro e w4 ⟨rfl, q, rfl⟩
  rw [same_yes rfl]
  have S4 := hide (HD.out.stay (below_drewN' B3.out q))
  go_wp2
  go_ret
  exact ⟨rfl, _, S4.out⟩

set_option maxHeartbeats 4000000 in
set_option maxRecDepth 100000 in
theorem rots_wide (w : World) (b : Nat) (pv : Value) (l : List Int) (m E0 : Nat) (z x : Int) (h : Dsk 0 w b pv l m E0) (hz : ¬ z < 0) (hz2 : z < (l.length : Int)) (_hx : ¬ x < 1) (hx2 : 255 < x) :
    Calls Try.prog 8 #[.pointer (some ⟨b, 0, none⟩), .int .i64 z, .int .i64 x] w fun r w' => r = .returned (.bool true) ∧ ∃ pv', Dst 0 w w' b pv pv' l m E0 := by
  have Hz0 : Hid (0 ≤ z ∧ z < (l.length : Int) ∧ 1 ≤ x ∧ 255 < x) := by show 0 ≤ z ∧ z < (l.length : Int) ∧ 1 ≤ x ∧ 255 < x; omega
  obtain ⟨ln, hln⟩ : ∃ ln, ln = l.length := ⟨_, rfl⟩
  have Hz : Hid (0 ≤ z ∧ z < (ln : Int) ∧ 1 ≤ x ∧ 255 < x ∧ ln = l.length) := by have := Hz0.out; show 0 ≤ z ∧ z < (ln : Int) ∧ 1 ≤ x ∧ 255 < x ∧ ln = l.length; omega
  have HL := hide hln
  have HD := hide h
  clear Hz0 hln h hx2 hz2 hz
  have q1 : (0 : Int) ≤ z := by have := Hz.out; omega
  have q2 : z < (ln : Int) := by have := Hz.out; omega
  have q3 : (1 : Int) ≤ x := by have := Hz.out; omega
  have q4 : ¬ (x ≤ 255) := by have := Hz.out; omega
  go_enter Try.func8, Try.ntmps8
  go_wp2_with fail
  refine (look_any _ b pv l m E0 HD.out).mono ?_
  rintro e w1 ⟨v, rfl, hown, hb1⟩
  obtain ⟨va, vc, rfl, _, _, sg⟩ := seg_own hown
  have DD := hide (HD.out.later hb1)
  have B1 := hide hb1
  have SV := hide sg
  rw [← HL.out] at SV ⊢
  clear hown hb1 sg
  go_wp2_with fail
  refine (rot_wide _ b pv l m E0 z x DD.out (by have := Hz.out; omega) (by have := Hz.out; omega) (by have := Hz.out; omega) (by have := Hz.out; omega)).mono ?_
  rintro e w2 ⟨rfl, hb2⟩
  have D2 := hide (DD.out.later hb2)
  have B2 := hide (B1.out.trans (hb2.mono B1.out.size))
  have SV2 := hide (SV.out.below hb2 (Nat.le_refl _))
  clear hb2 B1 SV DD
  go_wp2_with fail
  refine (look_any _ b pv l m E0 D2.out).mono ?_
  rintro e w3 ⟨v3, rfl, hown3, hb3⟩
  obtain ⟨vb, vd, rfl, _, _, sg3⟩ := seg_own hown3
  have B3 := hide (B2.out.trans (hb3.mono B2.out.size))
  have SV3 := hide (SV2.out.below hb3 (Nat.le_refl _))
  have SW3 := hide sg3
  rw [← HL.out] at SW3 ⊢
  clear hown3 hb3 sg3 B2 SV2
  go_wp2_with fail
  refine (num9_any 94 _).mono ?_
  rintro e w4 ⟨rfl, rfl⟩
  go_wp2_with fail
  refine (same_any va vb ln ln vc vd l l _ SV3.out SW3.out).mono ?_
  rintro e w4 ⟨rfl, q, rfl⟩
  rw [same_yes rfl]
  have S4 := hide (HD.out.stay (below_drewN' B3.out q))
  go_wp2
  go_ret
  exact ⟨(by rw [show decide (x ≤ 255) = false from decide_eq_false (by have := Hz.out; omega)]; rfl), _, S4.out⟩

set_option maxHeartbeats 4000000 in
set_option maxRecDepth 100000 in
theorem rots_yes (w : World) (b : Nat) (pv : Value) (l : List Int) (m E0 : Nat) (k x : Nat) (h : Dsk 0 w b pv l m E0) (hk : k < l.length) (hx : 1 ≤ x) (hx2 : x ≤ 255) :
    Calls Try.prog 8 #[.pointer (some ⟨b, 0, none⟩), .int .i64 (k : Int), .int .i64 (x : Int)] w fun r w' => r = .returned (.bool true) ∧ ∃ pv', Dst 0 w w' b pv pv' l m E0 := by
  obtain ⟨ln, hln⟩ : ∃ ln, ln = l.length := ⟨_, rfl⟩
  have HL := hide hln
  have HD := hide h
  have ht := h.top
  have hcb := hide (byt_at h.byt k)
  obtain ⟨c, hc⟩ : ∃ c, c = l.getD k 0 := ⟨_, rfl⟩
  obtain ⟨z, hz⟩ : ∃ z, z = rotZ c (x : Int) := ⟨_, rfl⟩
  have HZb : Hid (0 ≤ z ∧ z < 256) := by show 0 ≤ z ∧ z < 256; rw [hz, hc]; exact rotZ_byte hcb.out (by omega)
  have HZ2 : Hid (rotZ z (x : Int) = c) := by show rotZ z (x : Int) = c; rw [hz, hc]; exact rotZ_twice hcb.out (by omega)
  have hzx : bits .xor .u8 c (x : Int) = z := by rw [hz]; rfl
  have hw : IntKind.u8.wrap (x : Int) = (x : Int) := by simp only [IntKind.wrap_u8]; omega
  have HC := hide hc
  have HZ := hide hz
  rw [← hln] at hk ht
  have hk0 : (k : Int) < (ln : Int) := by omega
  have q1 : ¬ ((k : Int) < 0) := by omega
  have q2 : ¬ ((ln : Int) ≤ (k : Int)) := by omega
  clear hln h hc hz
  go_enter Try.func8, Try.ntmps8
  go_wp2_with fail
  refine (look_any _ b pv l m E0 HD.out).mono ?_
  rintro e w1 ⟨v, rfl, hown, hb1⟩
  obtain ⟨g1, vc, rfl, M1⟩ := mine_of hown (by rw [← HL.out]; omega)
  have DD := hide (HD.out.later hb1)
  have HM1 := hide M1
  have S1 := hide (HD.out.stay hb1)
  have Z1 := hide hb1.size
  rw [← HL.out] at HM1 ⊢
  clear hown hb1 M1
  go_wp2_with fail
  refine (rot_yes _ b pv l m E0 k x DD.out (by rw [← HL.out]; exact hk) hx hx2).mono ?_
  rintro e w2 ⟨rfl, k2⟩
  rw [← HC.out, ← HZ.out] at k2
  have S2 := hide (S1.out.trans k2)
  have hg1 : Hid (w.heap.size ≤ g1) := HM1.out.2.2.2.2
  have hb0 : Hid (b < w.heap.size) := HD.out.box.lt
  have hp0 : Hid (∀ j, pv.ownBlock = some j → j < w.heap.size) := fun j hj => (HD.out.own.lt j hj).2
  have HM2 : Hid (Mine w2 w.heap.size g1 ln vc l) := ⟨own_other HM1.out.1 (fun j hj => by
    injection hj with hj
    subst hj
    exact k2.tch.block g1 (HM1.out.1.lt g1 rfl).2 (by have := hg1.out; have := hb0.out; omega) (fun e => by have := hp0.out g1 e.symm; have := hg1.out; omega)), HM1.out.2⟩
  have D2 := hide k2.dsk
  have hlt2 : Hid (g1 < w2.heap.size) := Nat.lt_of_lt_of_le (HM1.out.1.lt g1 rfl).2 k2.tch.size
  clear k2 HM1 S1 DD
  go_wp2_with fail
  refine (look_any _ b pv (l.set k z) m E0 D2.out).mono ?_
  rintro e w3 ⟨v3, rfl, hown3, hb3⟩
  obtain ⟨g3, vd, rfl, M3⟩ := mine_of hown3 (by rw [List.length_set, ← HL.out]; omega)
  have HM3 := hide M3
  have D3 := hide (D2.out.later hb3)
  have S3 := hide (S2.out.trans (D2.out.stay hb3))
  have HMa := hide (HM2.out.below hb3 (Nat.le_refl _))
  have hz23 := hide hb3.size
  rw [List.length_set, ← HL.out] at HM3 ⊢
  clear hown3 hb3 M3 HM2 D2 S2
  have hg3 : Hid (w2.heap.size ≤ g3) := HM3.out.2.2.2.2
  have cg1 : w3.cell? ⟨g1, k, none⟩ = some (.int .u8 c) := by
    have := (HMa.out.seg.2.2 (by omega))
    obtain ⟨b9, o9, e9, h9⟩ := this
    cases e9
    have := h9 k hk
    rw [Nat.zero_add, ← HC.out] at this
    exact this
  have cg3 : w3.cell? ⟨g3, k, none⟩ = some (.int .u8 z) := by
    have := (HM3.out.seg.2.2 (by omega))
    obtain ⟨b9, o9, e9, h9⟩ := this
    cases e9
    have h8 := h9 k hk
    rw [Nat.zero_add] at h8
    rw [h8]
    simp [← HL.out, hk]
  have fg3 : w3.frozen? ⟨g3, k, none⟩ = false := by
    rcases HM3.out.1.2 with ⟨e, _⟩ | ⟨g', cap', cur, e, _, hh, _⟩
    · cases e
    · cases e; exact frozen_of_row w3 g3 k cur 5 hh
  have h13 : g1 ≠ g3 := by have := hlt2.out; have := hg3.out; omega
  go_wp2_with fail
  refine (num9_any 0 _).mono ?_
  rintro e w4 ⟨rfl, rfl⟩
  go_wp2_with fail
  go_quiet (fail)
  obtain ⟨W4, hW4⟩ : ∃ W4, W4 = (w3.drewN nq).setCell ⟨g3, k, none⟩ (.int .u8 c) := ⟨_, rfl⟩
  have HM4 : Hid (Mine W4 w2.heap.size g3 ln vd l) := by
    have h1 := (HM3.out.drewN nq).store k c
    rw [← hW4] at h1
    have e : (l.set k z).set k c = l := by rw [List.set_set, HC.out]; exact set_self l k (by rw [← HL.out]; exact hk)
    rw [e] at h1
    exact h1
  have hbW : Below w2.heap.size w3 W4 := by rw [hW4]; exact (below_drewN' (Below.refl _ _) nq).setCell (p := ⟨g3, k, none⟩) hg3.out _
  have HMb : Hid (Mine W4 w.heap.size g1 ln vc l) := ⟨own_other HMa.out.1 (fun j hj => by
    injection hj with hj
    subst hj
    exact hbW.block g1 hlt2.out), HMa.out.2⟩
  have hD4 : Dsk 0 W4 b pv (l.set k z) m E0 := D3.out.on (hbW.block b (by have := hb0.out; have := hlt2.out; have := hg1.out; omega)) (fun j hj => hbW.block j (by have := hp0.out j hj; have := hlt2.out; have := hg1.out; omega))
  have S4 : Hid (Dst 0 w W4 b pv pv (l.set k z) m E0) := ⟨hD4, ⟨hbW.os.trans S3.out.tch.os, hbW.tape.trans S3.out.tch.tape, hbW.output.trans S3.out.tch.output, Nat.le_trans S3.out.tch.size hbW.size, fun j hj h1 h2 => (hbW.block j (by have := hlt2.out; have := hg1.out; omega)).trans (S3.out.tch.block j hj h1 h2)⟩, Lat.refl _ _⟩
  have HW4 := hide hW4
  clear hD4 hbW hW4 D3 S3 HM3 HMa
  go_wp2_with fail
  rw [← HW4.out]
  clear HW4 cg1 cg3 fg3
  refine (same_any (some ⟨g1, 0, none⟩) (some ⟨g3, 0, none⟩) ln ln vc vd l l _ HMb.out.seg HM4.out.seg).mono ?_
  rintro e w5 ⟨rfl, q, rfl⟩
  rw [same_yes rfl]
  have S5 := hide (S4.out.drewN q)
  have HMc := hide (HMb.out.drewN q)
  have ZW : Hid (g1 < (W4.drewN q).heap.size) := (HMb.out.1.lt g1 rfl).2
  generalize W4.drewN q = w5 at *
  clear S4 HMb HM4
  go_wp2_with fail
  refine (rot_yes _ b pv (l.set k z) m E0 k x S5.out.dsk (by rw [List.length_set, ← HL.out]; exact hk) hx hx2).mono ?_
  rintro e w6 ⟨rfl, k6⟩
  have eL : (l.set k z).set k (rotZ ((l.set k z).getD k 0) (x : Int)) = l := by
    have hkl : k < l.length := by rw [← HL.out]; exact hk
    have e1 : (l.set k z).getD k 0 = z := by simp [hkl]
    rw [e1, HZ2.out, List.set_set, HC.out]; exact set_self l k hkl
  rw [eL] at k6
  have S6 := hide (S5.out.trans k6)
  have D6 := hide k6.dsk
  have HMd : Hid (Seg w6 (some ⟨g1, 0, none⟩) ln l) := k6.tch.seg HMc.out.seg (fun y hy _ => by
    injection hy with hy
    subst hy
    exact ⟨by have := hg1.out; have := hb0.out; show g1 ≠ b; omega, fun e => by have := hp0.out g1 e.symm; have := hg1.out; omega⟩)
  clear k6 eL S5 HMc
  go_wp2_with fail
  refine (shows_yes _ b pv l m E0 (some ⟨g1, 0, none⟩) ln vc D6.out HMd.out).mono ?_
  rintro e w7 ⟨rfl, hb7⟩
  have S7 := hide (S6.out.trans (D6.out.stay hb7))
  clear hb7 S6 D6
  go_wp2_with fail
  refine (num9_any 0 _).mono ?_
  rintro e w8 ⟨rfl, rfl⟩
  go_wp2
  go_ret
  exact ⟨rfl, _, S7.out⟩

theorem rots_any (w : World) (b : Nat) (pv : Value) (l : List Int) (m E0 : Nat) (z x : Int) (h : Dsk 0 w b pv l m E0) :
    Calls Try.prog 8 #[.pointer (some ⟨b, 0, none⟩), .int .i64 z, .int .i64 x] w fun r w' => r = .returned (.bool true) ∧ ∃ pv', Dst 0 w w' b pv pv' l m E0 := by
  by_cases h1 : z < 0
  · exact rots_low w b pv l m E0 z x h h1
  by_cases h2 : (l.length : Int) ≤ z
  · exact rots_high w b pv l m E0 z x h h1 h2
  by_cases h3 : x < 1
  · exact rots_zero w b pv l m E0 z x h h1 (by omega) h3
  by_cases h4 : 255 < x
  · exact rots_wide w b pv l m E0 z x h h1 (by omega) h3 h4
  obtain ⟨k, rfl⟩ := Int.eq_ofNat_of_zero_le (show 0 ≤ z by omega)
  obtain ⟨y, rfl⟩ := Int.eq_ofNat_of_zero_le (show 0 ≤ x by omega)
  exact rots_yes w b pv l m E0 k y h (by omega) (by omega) (by omega)
end Go.Proofs.Ytbgahocmabiaeab
