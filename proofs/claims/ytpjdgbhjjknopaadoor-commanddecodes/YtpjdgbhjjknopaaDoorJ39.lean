/- Texts of the proof, joined. -/
import Derived.Test.YtpjdgbhjjknopaaDoorJ36
import Derived.Test.YtpjdgbhjjknopaaDoorJ37
import Derived.Test.YtpjdgbhjjknopaaDoorJ38
/- The walk of CommandDecodes: it answers true at every version and all bytes. -/
namespace Go.Proofs.YtpjdgbhjjknopaaDoor
namespace commandDecodes
open Go.RowKit Go.Wire1

theorem self (c : Cm) : sameC c c = true := by simp [sameC, teq]
theorem seg_new11 (w : World) (x0 x1 x2 x3 x4 x5 x6 x7 x8 x9 x10 : Int) : Seg (w.alloc (.cells #[.int .u8 x0, .int .u8 x1, .int .u8 x2, .int .u8 x3, .int .u8 x4, .int .u8 x5, .int .u8 x6, .int .u8 x7, .int .u8 x8, .int .u8 x9, .int .u8 x10] 5)) (some ⟨w.heap.size, 0, none⟩) 11 [x0, x1, x2, x3, x4, x5, x6, x7, x8, x9, x10] := by
  refine ⟨rfl, by unfold maxLen; omega, fun _ => ⟨w.heap.size, 0, rfl, fun j hj => ?_⟩⟩
  rw [World.cell?_alloc_at _ _ _ _ rfl]
  rcases (by omega : j = 0 ∨ j = 1 ∨ j = 2 ∨ j = 3 ∨ j = 4 ∨ j = 5 ∨ j = 6 ∨ j = 7 ∨ j = 8 ∨ j = 9 ∨ j = 10) with rfl | rfl | rfl | rfl | rfl | rfl | rfl | rfl | rfl | rfl | rfl <;> rfl
theorem mine_some {w : World} {B : Nat} {v : Value} {l : List Int} {m : Nat} (hl : l.length = m) (hm : 0 < m) (h : w.ownsRow B 5 1 v l.length (l.map (Value.int .u8))) : ∃ g cap, v = .slice (some ⟨g, 0, none⟩) m cap ∧ Mine w B g m cap l ∧ g < w.heap.size := by
  subst hl
  obtain ⟨g, cap, rfl, hM⟩ := mine_of h hm
  exact ⟨g, cap, rfl, hM, (World.ownsRow.lt h g rfl).2⟩

theorem xor_in {y t : Int} (h : 0 ≤ y ∧ y < 256) : 0 ≤ bits .xor .u8 y (t % 256) ∧ bits .xor .u8 y (t % 256) < 256 := by
  rw [u8_xor y (t % 256) h.1 h.2 (by omega) (by omega)]
  have : y.toNat ^^^ (t % 256).toNat < 2 ^ 8 := Nat.xor_lt_two_pow (by omega) (by omega)
  omega
set_option maxHeartbeats 2000000 in
set_option maxRecDepth 100000 in
theorem decodes_any (v : Int) (ta : Option Addr) (tn tcap : Nat) (tl : List Int) (a : Nat → Addr) (w : World) (ht : Seg w ta tn tl) (hty : Byt tl) (hc : tn ≤ tcap) (hcm : tcap ≤ 140737488351232) (he : Errs w a) (hK : Knd w) :
    Calls Tryd.prog 4 #[.int .i64 v, .slice ta tn tcap] w fun e w' => e = .returned (.bool true) ∧ Below w.heap.size w w' := by
  have HLen : Hid ((tl ++ [161, 162, 163]).length = tn + 3) := by show _ = _; rw [List.length_append, ht.1]; rfl
  have HTk : Hid ((tl ++ [161, 162, 163]).take tn = tl) := by show _ = _; rw [← ht.1]; exact List.take_left
  have HYR : Hid (Byt (tl ++ [161, 162, 163])) := byt_app hty (by intro z hz; simp at hz; omega)
  obtain ⟨X, hX⟩ : ∃ X : List Int, Hid (tl ++ [161, 162, 163] = X) := ⟨tl ++ [161, 162, 163], rfl⟩
  obtain ⟨⟨c, k, f⟩, hD⟩ : ∃ p, Hid (decC v tl = p) := ⟨_, rfl⟩
  have HD2 : Hid (rcD v tl = (c, k, f)) := by rw [rcD_decC v tl hty]; exact hD
  have HT := hide ht
  have HY := hide hty
  have HE := hide he
  have HK := hide hK
  rw [hX.out] at HLen HTk HYR
  clear ht hty he hK
  go_enter Tryd.func4, Tryd.ntmps4
  go_wp2_with fail
  refine (room4_any ta tn tcap tl _ HT.out (by omega)).mono ?_
  rintro e w1 ⟨u1, rfl, o1, b1⟩
  rw [hX.out] at o1
  obtain ⟨g, gc, rfl, M1, hgl⟩ := mine_some HLen.out (by omega) o1
  have B1 : Hid (Below w.heap.size w w1) := b1
  have HM1 := hide M1
  have hg1 : w.heap.size ≤ g := M1.2.2.2.2
  have hgc : tn + 3 ≤ gc := M1.2.2.1
  have hgm : gc ≤ 9223372036854775807 := by have := M1.2.2.2.1; unfold maxLen at this; omega
  have SG1 : Hid (Seg w1 (some ⟨g, 0, none⟩) tn tl) := by have := M1.seg.take (k := tn) (by omega); rw [HTk.out] at this; exact this
  clear o1 b1 M1
  go_wp2_with fail
  refine (decode_any _ tn gc tl a v _ SG1.out HY.out (HE.out.below B1.out (Nat.le_refl _)) (HK.out.below B1.out (Nat.le_refl _)) (by omega) hgm (fun h => by cases h)).mono ?_
  rintro e w2 ⟨rfl, b2⟩
  rw [hD.out]
  have B2 : Hid (Below w.heap.size w w2) := B1.out.trans (b2.mono B1.out.size)
  have HM2 := hide (HM1.out.below b2 (Nat.le_refl _))
  have z2 : w1.heap.size ≤ w2.heap.size := b2.size
  clear b2
  obtain ⟨V2, hV2⟩ : ∃ V, V = w2.alloc (.cells #[.int .i64 c.kind, .int .i64 c.client, .int .i64 c.req, .string c.key, .string c.key2, .string c.val, .string c.old, .int .i64 c.n] 26) := ⟨_, rfl⟩
  have BV2 : Hid (Below w2.heap.size w2 V2) := by rw [hV2]; exact (Below.refl _ _).alloc (Nat.le_refl _) _
  have X2 : Hid (Bx V2 w2.heap.size c) := by rw [hV2]; exact bx_new w2 26 _ _ _ _ _ _ _ _
  go_wp2_with fail
  rw [← hV2]
  clear hV2
  have B2' : Hid (Below w.heap.size w V2) := B2.out.trans (BV2.out.mono B2.out.size)
  refine (rcDec_any v ta tn tcap tl a _ (HT.out.below B2'.out (Nat.le_refl _)) HY.out (HE.out.below B2'.out (Nat.le_refl _)) hc (by omega)).mono ?_
  rintro e w3 ⟨rfl, b3⟩
  rw [HD2.out]
  have B3 : Hid (Below w.heap.size w w3) := B2'.out.trans (b3.mono B2'.out.size)
  have HM3 := hide ((HM2.out.below BV2.out (Nat.le_refl _)).below b3 (Nat.le_refl _))
  have X3 : Hid (Bx w3 w2.heap.size c) := X2.out.of_block (b3.block _ X2.out.lt)
  have z3 : w2.heap.size < w3.heap.size := X3.out.lt
  clear b3 B2 BV2 X2 HM1 HM2 B2' B1 SG1
  obtain ⟨x0, x1, x2, x3, x4, x5, x6, x7⟩ := X3.out.box
  obtain ⟨V3, hV3⟩ : ∃ V, V = w3.alloc (.cells #[.int .i64 c.kind, .int .i64 c.client, .int .i64 c.req, .string c.key, .string c.key2, .string c.val, .string c.old, .int .i64 c.n] 26) := ⟨_, rfl⟩
  have BV3 : Hid (Below w3.heap.size w3 V3) := by rw [hV3]; exact (Below.refl _ _).alloc (Nat.le_refl _) _
  have Y3 : Hid (Bx V3 w3.heap.size c) := by rw [hV3]; exact bx_new w3 26 _ _ _ _ _ _ _ _
  go_wp2_with fail
  rw [← hV3]
  clear hV3 x0 x1 x2 x3 x4 x5 x6 x7
  refine (sameCmd_any c c _).mono ?_
  rintro e w4 ⟨rfl, b4⟩
  rw [self]
  have B4 : Hid (Below w.heap.size w w4) := (B3.out.trans (BV3.out.mono B3.out.size)).trans (b4.mono (Nat.le_trans B3.out.size BV3.out.size))
  have HM4 := hide ((HM3.out.below BV3.out (Nat.le_refl _)).below b4 (Nat.le_refl _))
  have X4 : Hid (Bx w4 w2.heap.size c) := (X3.out.of_block (BV3.out.block _ X3.out.lt)).of_block (b4.block _ (Nat.lt_of_lt_of_le X3.out.lt BV3.out.size))
  have Y4 : Hid (Bx w4 w3.heap.size c) := Y3.out.of_block (b4.block _ Y3.out.lt)
  clear b4 B3 BV3 X3 Y3 HM3
  go_wp2_with fail
  refine (num_any _ _).mono ?_
  rintro e w4' ⟨rfl, rfl⟩
  go_wp2_with fail
  refine (room4_any ta tn tcap tl _ (HT.out.below B4.out (Nat.le_refl _)) (by omega)).mono ?_
  rintro e w5 ⟨u5, rfl, o5, b5⟩
  rw [hX.out] at o5
  obtain ⟨g5, gc5, rfl, M5, _⟩ := mine_some HLen.out (by omega) o5
  have B5 : Hid (Below w.heap.size w w5) := B4.out.trans (b5.mono B4.out.size)
  have HM5 := hide (HM4.out.below b5 (Nat.le_refl _))
  have X5 : Hid (Bx w5 w2.heap.size c) := X4.out.of_block (b5.block _ X4.out.lt)
  have Y5 : Hid (Bx w5 w3.heap.size c) := Y4.out.of_block (b5.block _ Y4.out.lt)
  have SA := hide HM5.out.seg
  have SB := hide M5.seg
  clear o5 b5 M5 B4 X4 Y4 HM4
  go_wp2_with fail
  refine (same_any _ _ _ _ _ _ X X _ SA.out SB.out).mono ?_
  rintro e w6 ⟨rfl, q, rfl⟩
  rw [show sameB X X = true from same_yes rfl]
  clear SA SB
  obtain ⟨w6, hw6⟩ : ∃ w6, w6 = w5.drewN q := ⟨_, rfl⟩
  have B6 : Hid (Below w.heap.size w w6) := by rw [hw6]; exact low_drewN B5.out q
  have HM6 : Hid (Mine w6 w.heap.size g (tn + 3) gc X) := by rw [hw6]; exact HM5.out.drewN q
  have X6 : Hid (Bx w6 w2.heap.size c) := by rw [hw6]; exact X5.out.of_block rfl
  have Y6 : Hid (Bx w6 w3.heap.size c) := by rw [hw6]; exact Y5.out.of_block rfl
  go_wp2_with fail
  rw [← hw6]
  clear hw6 B5 HM5 X5 Y5
  go_loopw [13] (fun u wr => ∃ (i : Nat) (L : List Int), u = .int .i64 (i : Int) ∧ i ≤ tn ∧ Hid (Mine wr w.heap.size g (tn + 3) gc L) ∧ Hid (Byt L) ∧ Hid (Touch g w6 wr)) (fun u _ => tn - (intOf u).toNat)
  case atStart => exact ⟨0, X, rfl, by omega, HM6, HYR, Touch.refl _ _⟩
  case round =>
    obtain ⟨i, L, rfl, hi, HM, HB, HTo⟩ := hrel
    by_cases hlt : i < tn
    · have d1 : decide ((i : Int) < (tn : Int)) = true := decide_eq_true (by omega)
      obtain ⟨b', o', e', hc'⟩ := HM.out.seg.2.2 (by omega)
      cases e'
      have hci := hc' i (by omega)
      rw [Nat.zero_add] at hci
      clear hc'
      have hfr := HM.out.1.frozenAt i
      have hyb := byt_at HB.out i
      obtain ⟨y, hy⟩ : ∃ y, Hid (L.getD i 0 = y) := ⟨_, rfl⟩
      rw [hy.out] at hci hyb
      have hz1 : Hid (0 ≤ bits .xor .u8 y (bits .and .i64 (i : Int) 1 % 256) ∧ bits .xor .u8 y (bits .and .i64 (i : Int) 1 % 256) < 256) := xor_in hyb
      have HS := fun z => hide (HM.out.store i z)
      have hyk : ∀ z, Hid (0 ≤ z ∧ z < 256 → Byt (L.set i z)) := fun z q => byt_set HB.out i q
      go_wp2
      go_roundw
      case rel => exact ⟨i + 1, L.set i (bits .xor .u8 y (bits .and .i64 (i : Int) 1 % 256)), by go_num, by omega, HS _, (hyk _).out hz1.out, HTo.out.setB _⟩
      case measure => simp [intOf]; omega
    · have d1 : decide ((i : Int) < (tn : Int)) = false := decide_eq_false (by omega)
      have BR : Hid (Below w.heap.size w wr) := HTo.out.below hg1 B6.out
      have XR : Hid (Bx wr w2.heap.size c) := X6.out.beside HTo.out (by omega)
      have YR : Hid (Bx wr w3.heap.size c) := Y6.out.beside HTo.out (by omega)
      have HLt : Hid ((L.take tn).length = tn) := by show _ = _; rw [List.length_take, HM.out.2.1]; omega
      have SG := hide (HM.out.seg.take (k := tn) (by omega))
      have HBt : Hid (Byt (L.take tn)) := byt_take HB.out tn
      obtain ⟨T, hTT⟩ : ∃ T, Hid (L.take tn = T) := ⟨_, rfl⟩
      rw [hTT.out] at HLt SG HBt
      obtain ⟨⟨c2, k2, f2⟩, hE⟩ : ∃ p, Hid (decC v T = p) := ⟨_, rfl⟩
      have hE2 : Hid (rcD v T = (c2, k2, f2)) := by rw [rcD_decC v T HBt.out]; exact hE
      clear HTo HM HB hTT
      go_wp2_with fail
      refine (decode_any _ tn gc T a v _ SG.out HBt.out (HE.out.below BR.out (Nat.le_refl _)) (HK.out.below BR.out (Nat.le_refl _)) (by omega) hgm (fun h => by cases h)).mono ?_
      rintro e w7 ⟨rfl, b7⟩
      rw [hE.out]
      have B7 : Hid (Below w.heap.size w w7) := BR.out.trans (b7.mono BR.out.size)
      have X7 : Hid (Bx w7 w2.heap.size c) := XR.out.of_block (b7.block _ XR.out.lt)
      have Y7 : Hid (Bx w7 w3.heap.size c) := YR.out.of_block (b7.block _ YR.out.lt)
      have S7 := hide (SG.out.below b7 (Nat.le_refl _))
      clear b7 BR XR YR SG
      have x0 : w7.cell? ⟨w2.heap.size, 0, none⟩ = some (.int .i64 c.kind) := X7.out.box.1
      have fx0 : w7.frozen? ⟨w2.heap.size, 0, none⟩ = false := X7.out.thaw 0
      have x1 : w7.cell? ⟨w2.heap.size, 1, none⟩ = some (.int .i64 c.client) := X7.out.box.2.1
      have fx1 : w7.frozen? ⟨w2.heap.size, 1, none⟩ = false := X7.out.thaw 1
      have x2 : w7.cell? ⟨w2.heap.size, 2, none⟩ = some (.int .i64 c.req) := X7.out.box.2.2.1
      have fx2 : w7.frozen? ⟨w2.heap.size, 2, none⟩ = false := X7.out.thaw 2
      have x3 : w7.cell? ⟨w2.heap.size, 3, none⟩ = some (.string c.key) := X7.out.box.2.2.2.1
      have fx3 : w7.frozen? ⟨w2.heap.size, 3, none⟩ = false := X7.out.thaw 3
      have x4 : w7.cell? ⟨w2.heap.size, 4, none⟩ = some (.string c.key2) := X7.out.box.2.2.2.2.1
      have fx4 : w7.frozen? ⟨w2.heap.size, 4, none⟩ = false := X7.out.thaw 4
      have x5 : w7.cell? ⟨w2.heap.size, 5, none⟩ = some (.string c.val) := X7.out.box.2.2.2.2.2.1
      have fx5 : w7.frozen? ⟨w2.heap.size, 5, none⟩ = false := X7.out.thaw 5
      have x6 : w7.cell? ⟨w2.heap.size, 6, none⟩ = some (.string c.old) := X7.out.box.2.2.2.2.2.2.1
      have fx6 : w7.frozen? ⟨w2.heap.size, 6, none⟩ = false := X7.out.thaw 6
      have x7 : w7.cell? ⟨w2.heap.size, 7, none⟩ = some (.int .i64 c.n) := X7.out.box.2.2.2.2.2.2.2
      have fx7 : w7.frozen? ⟨w2.heap.size, 7, none⟩ = false := X7.out.thaw 7
      obtain ⟨w8, hw8⟩ : ∃ w8, w8 = ((((((((w7.setCell ⟨w2.heap.size, 0, none⟩ (.int .i64 c2.kind)).setCell ⟨w2.heap.size, 1, none⟩ (.int .i64 c2.client)).setCell ⟨w2.heap.size, 2, none⟩ (.int .i64 c2.req)).setCell ⟨w2.heap.size, 3, none⟩ (.string c2.key)).setCell ⟨w2.heap.size, 4, none⟩ (.string c2.key2)).setCell ⟨w2.heap.size, 5, none⟩ (.string c2.val)).setCell ⟨w2.heap.size, 6, none⟩ (.string c2.old)).setCell ⟨w2.heap.size, 7, none⟩ (.int .i64 c2.n)) := ⟨_, rfl⟩
      have T8 : Hid (Touch w2.heap.size w7 w8) := by rw [hw8]; exact ((((((((Touch.refl _ w7).setB _).setB _).setB _).setB _).setB _).setB _).setB _).setB _
      have X8 : Hid (Bx w8 w2.heap.size c2) := by rw [hw8]; exact X7.out.all c2
      go_wp2_with fail
      rw [← hw8]
      clear hw8 x0 x1 x2 x3 x4 x5 x6 x7 fx0 fx1 fx2 fx3 fx4 fx5 fx6 fx7
      have B8 : Hid (Below w.heap.size w w8) := T8.out.below (by have := B6.out.size; omega) B7.out
      have Y8 : Hid (Bx w8 w3.heap.size c) := Y7.out.beside T8.out (by omega)
      have S8 : Hid (Seg w8 (some ⟨g, 0, none⟩) tn T) := T8.out.seg S7.out (fun x hx hn => by cases hx; show g ≠ w2.heap.size; omega)
      clear T8 B7 X7 Y7 S7
      refine (bytes_any _ tn gc T _ S8.out (by omega)).mono ?_
      rintro e w9 ⟨u9, rfl, o9, b9⟩
      obtain ⟨a9, c9, rfl, hc9, hm9, s9⟩ := seg_own o9
      rw [HLt.out] at hc9 s9 ⊢
      unfold maxLen at hm9
      have B9 : Hid (Below w.heap.size w w9) := B8.out.trans (b9.mono B8.out.size)
      have X9 : Hid (Bx w9 w2.heap.size c2) := X8.out.of_block (b9.block _ X8.out.lt)
      have Y9 : Hid (Bx w9 w3.heap.size c) := Y8.out.of_block (b9.block _ Y8.out.lt)
      have S9 := hide s9
      clear o9 b9 B8 X8 Y8 S8 s9
      go_wp2_with fail
      refine (rcDec_any v _ tn c9 T a _ S9.out HBt.out (HE.out.below B9.out (Nat.le_refl _)) hc9 (by omega)).mono ?_
      rintro e wA ⟨rfl, bA⟩
      rw [hE2.out]
      have BA : Hid (Below w.heap.size w wA) := B9.out.trans (bA.mono B9.out.size)
      have XA : Hid (Bx wA w2.heap.size c2) := X9.out.of_block (bA.block _ X9.out.lt)
      have YA : Hid (Bx wA w3.heap.size c) := Y9.out.of_block (bA.block _ Y9.out.lt)
      clear bA B9 X9 Y9 S9
      have x0 : wA.cell? ⟨w2.heap.size, 0, none⟩ = some (.int .i64 c2.kind) := XA.out.box.1
      have x1 : wA.cell? ⟨w2.heap.size, 1, none⟩ = some (.int .i64 c2.client) := XA.out.box.2.1
      have x2 : wA.cell? ⟨w2.heap.size, 2, none⟩ = some (.int .i64 c2.req) := XA.out.box.2.2.1
      have x3 : wA.cell? ⟨w2.heap.size, 3, none⟩ = some (.string c2.key) := XA.out.box.2.2.2.1
      have x4 : wA.cell? ⟨w2.heap.size, 4, none⟩ = some (.string c2.key2) := XA.out.box.2.2.2.2.1
      have x5 : wA.cell? ⟨w2.heap.size, 5, none⟩ = some (.string c2.val) := XA.out.box.2.2.2.2.2.1
      have x6 : wA.cell? ⟨w2.heap.size, 6, none⟩ = some (.string c2.old) := XA.out.box.2.2.2.2.2.2.1
      have x7 : wA.cell? ⟨w2.heap.size, 7, none⟩ = some (.int .i64 c2.n) := XA.out.box.2.2.2.2.2.2.2
      have y0 : wA.cell? ⟨w3.heap.size, 0, none⟩ = some (.int .i64 c.kind) := YA.out.box.1
      have fy0 : wA.frozen? ⟨w3.heap.size, 0, none⟩ = false := YA.out.thaw 0
      have y1 : wA.cell? ⟨w3.heap.size, 1, none⟩ = some (.int .i64 c.client) := YA.out.box.2.1
      have fy1 : wA.frozen? ⟨w3.heap.size, 1, none⟩ = false := YA.out.thaw 1
      have y2 : wA.cell? ⟨w3.heap.size, 2, none⟩ = some (.int .i64 c.req) := YA.out.box.2.2.1
      have fy2 : wA.frozen? ⟨w3.heap.size, 2, none⟩ = false := YA.out.thaw 2
      have y3 : wA.cell? ⟨w3.heap.size, 3, none⟩ = some (.string c.key) := YA.out.box.2.2.2.1
      have fy3 : wA.frozen? ⟨w3.heap.size, 3, none⟩ = false := YA.out.thaw 3
      have y4 : wA.cell? ⟨w3.heap.size, 4, none⟩ = some (.string c.key2) := YA.out.box.2.2.2.2.1
      have fy4 : wA.frozen? ⟨w3.heap.size, 4, none⟩ = false := YA.out.thaw 4
      have y5 : wA.cell? ⟨w3.heap.size, 5, none⟩ = some (.string c.val) := YA.out.box.2.2.2.2.2.1
      have fy5 : wA.frozen? ⟨w3.heap.size, 5, none⟩ = false := YA.out.thaw 5
      have y6 : wA.cell? ⟨w3.heap.size, 6, none⟩ = some (.string c.old) := YA.out.box.2.2.2.2.2.2.1
      have fy6 : wA.frozen? ⟨w3.heap.size, 6, none⟩ = false := YA.out.thaw 6
      have y7 : wA.cell? ⟨w3.heap.size, 7, none⟩ = some (.int .i64 c.n) := YA.out.box.2.2.2.2.2.2.2
      have fy7 : wA.frozen? ⟨w3.heap.size, 7, none⟩ = false := YA.out.thaw 7
      obtain ⟨wB, hwB⟩ : ∃ wB, wB = ((((((((wA.setCell ⟨w3.heap.size, 0, none⟩ (.int .i64 c2.kind)).setCell ⟨w3.heap.size, 1, none⟩ (.int .i64 c2.client)).setCell ⟨w3.heap.size, 2, none⟩ (.int .i64 c2.req)).setCell ⟨w3.heap.size, 3, none⟩ (.string c2.key)).setCell ⟨w3.heap.size, 4, none⟩ (.string c2.key2)).setCell ⟨w3.heap.size, 5, none⟩ (.string c2.val)).setCell ⟨w3.heap.size, 6, none⟩ (.string c2.old)).setCell ⟨w3.heap.size, 7, none⟩ (.int .i64 c2.n)) := ⟨_, rfl⟩
      have TB : Hid (Touch w3.heap.size wA wB) := by rw [hwB]; exact ((((((((Touch.refl _ wA).setB _).setB _).setB _).setB _).setB _).setB _).setB _).setB _
      go_wp2_with fail
      rw [← hwB]
      clear hwB x0 x1 x2 x3 x4 x5 x6 x7 y0 y1 y2 y3 y4 y5 y6 y7 fy0 fy1 fy2 fy3 fy4 fy5 fy6 fy7
      have BB : Hid (Below w.heap.size w wB) := TB.out.below (by have := B6.out.size; omega) BA.out
      refine (sameCmd_any c2 c2 _).mono ?_
      rintro e wC ⟨rfl, bC⟩
      rw [self]
      have BC : Hid (Below w.heap.size w wC) := BB.out.trans (bC.mono BB.out.size)
      clear bC
      go_wp2_with fail
      refine (num_any _ _).mono ?_
      rintro e wC' ⟨rfl, rfl⟩
      go_wp2
      go_ret
      exact ⟨rfl, BC.out⟩
set_option maxHeartbeats 1000000 in
set_option maxRecDepth 100000 in
theorem walk (v : Int) (ta : Option Addr) (tn tcap : Nat) (tl : List Int) (a : Nat → Addr) (w : World) (ht : Seg w ta tn tl) (hty : Byt tl) (he : Errs w a) (hK : Knd w) (hc : tn ≤ tcap) (hcm : tcap ≤ 140737488351232) :
    Calls Tryd.prog 3 #[.int .i64 v, .slice ta tn tcap] w fun e w' => e = .returned (.bool true) ∧ Below w.heap.size w w' := by
  obtain ⟨V, hV⟩ : ∃ V, V = w.alloc (.cells #[.int .u8 8, .int .u8 0, .int .u8 0, .int .u8 2, .int .u8 97, .int .u8 98, .int .u8 1, .int .u8 2, .int .u8 99, .int .u8 100, .int .u8 9] 5) := ⟨_, rfl⟩
  have BV : Hid (Below w.heap.size w V) := by rw [hV]; exact (Below.refl _ _).alloc (Nat.le_refl _) _
  have SV : Hid (Seg V (some ⟨w.heap.size, 0, none⟩) 11 [8, 0, 0, 2, 97, 98, 1, 2, 99, 100, 9]) := by rw [hV]; exact seg_new11 w _ _ _ _ _ _ _ _ _ _ _
  have YV : Hid (Byt [8, 0, 0, 2, 97, 98, 1, 2, 99, 100, 9]) := by intro z hz; simp at hz; omega
  have HT := hide ht
  have HY := hide hty
  have HE := hide he
  have HK := hide hK
  clear ht hty he hK
  go_enter Tryd.func3, Tryd.ntmps3
  go_wp2_with fail
  rw [← hV]
  clear hV
  refine (decodes_any 2 _ 11 _ _ a _ SV.out YV.out (by omega) (by omega) (HE.out.below BV.out (Nat.le_refl _)) (HK.out.below BV.out (Nat.le_refl _))).mono ?_
  rintro e w1 ⟨rfl, b1⟩
  have B1 : Hid (Below w.heap.size w w1) := BV.out.trans (b1.mono BV.out.size)
  clear b1
  go_wp2_with fail
  refine (decodes_any v ta tn tcap tl a _ (HT.out.below B1.out (Nat.le_refl _)) HY.out hc hcm (HE.out.below B1.out (Nat.le_refl _)) (HK.out.below B1.out (Nat.le_refl _))).mono ?_
  rintro e w2 ⟨rfl, b2⟩
  have B2 : Hid (Below w.heap.size w w2) := B1.out.trans (b2.mono B1.out.size)
  clear b2
  go_wp2
  go_ret
  exact ⟨rfl, B2.out⟩
end commandDecodes
end Go.Proofs.YtpjdgbhjjknopaaDoor
