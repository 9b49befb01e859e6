/- The walk of CommandBack: it answers true at every version, command and list of bytes. -/
import Derived.Test.YtjojiccojmajoaaDoorDSpoilt
import Derived.Test.YtjojiccojmajoaaDoorDJoin
import Derived.Test.YtjojiccojmajoaaDoorEEnc
import Derived.Test.YtjojiccojmajoaaDoorHNum
import Derived.Test.YtjojiccojmajoaaDoorHPut
namespace Go.Proofs.YtjojiccojmajoaaDoor
namespace commandBack
open Go.RowKit Go.Wire1

theorem k1 : chk 1 ⟨2, 7, 300, ⟨#[107]⟩, ⟨#[]⟩, ⟨#[118, 119]⟩, ⟨#[]⟩, 0⟩ = 0 := by decide +kernel
theorem k9 : (encC ⟨2, 7, 300, ⟨#[107]⟩, ⟨#[]⟩, ⟨#[118, 119]⟩, ⟨#[]⟩, 0⟩).length = 9 := by decide +kernel
theorem _root_.Go.Proofs.YtjojiccojmajoaaDoor.Bx.kind {w : World} {q : Nat} {c : Cm} (h : Bx w q c) (x : Int) : Bx (w.setCell ⟨q, 0, none⟩ (.int .i64 x)) q { c with kind := x } := by
  obtain ⟨h0, h1, h2, h3, h4, h5, h6, h7⟩ := h.box
  refine ⟨⟨World.cell?_setCell_same w ⟨q, 0, none⟩ _ h0, ?_, ?_, ?_, ?_, ?_, ?_, ?_⟩, h.setThaw _ _⟩ <;> (rw [World.cell?_setCell_other _ _ _ _ (by simp)]; assumption)

set_option maxHeartbeats 4000000 in
set_option maxRecDepth 100000 in
theorem walk (v : Int) (c : Cm) (sa : Option Addr) (n tcap : Nat) (l : List Int) (a : Nat → Addr) (w : World) (hseg : Seg w sa n l) (hbyt : Byt l) (he : Errs w a) (hK : Knd w) (hk : c.key.size ≤ 140737488351232) (hk2 : c.key2.size ≤ 140737488351232) (hn1 : -9223372036854775808 ≤ c.n) (hn2 : c.n ≤ 9223372036854775807) (hcap : n ≤ tcap) (hreach : tcap ≤ 140737488351232) :
    Calls Tryd.prog 4 #[.int .i64 v, .agg #[.int .i64 c.kind, .int .i64 c.client, .int .i64 c.req, .string c.key, .string c.key2, .string c.val, .string c.old, .int .i64 c.n], .slice sa n tcap] w fun e w' => e = .returned (.bool true) ∧ Below w.heap.size w w' := by
  obtain ⟨V, hV⟩ : ∃ V, V = w.alloc (.cells #[.int .i64 c.kind, .int .i64 c.client, .int .i64 c.req, .string c.key, .string c.key2, .string c.val, .string c.old, .int .i64 c.n] 23) := ⟨_, rfl⟩
  have X : Hid (CBox V w.heap.size c.kind c.client c.req c.key c.key2 c.val c.old c.n) := by rw [hV]; exact cbox_new w 23 _ _ _ _ _ _ _ _
  have BV : Hid (Below w.heap.size w V) := by rw [hV]; exact (Below.refl _ _).alloc (Nat.le_refl _) _
  have hVs : w.heap.size ≤ V.heap.size := BV.out.size
  have HK : Hid (Knd V) := hK.below BV.out (Nat.le_refl _)
  have HE : Hid (Errs V a) := he.below BV.out (Nat.le_refl _)
  have HT : Hid (Seg V sa n l) := hseg.below BV.out (Nat.le_refl _)
  have HTY := hide hbyt
  have none' : Hid ((⟨#[]⟩ : ByteArray).size ≤ 140737488351232) := by show (0 : Nat) ≤ _; omega
  have one' : Hid ((⟨#[107]⟩ : ByteArray).size ≤ 140737488351232) := by show (1 : Nat) ≤ _; omega
  clear he hK hseg hbyt
  go_enter Tryd.func4, Tryd.ntmps4
  go_wp2_with fail
  rw [← hV]
  clear hV
  refine (put_any _ _).mono ?_
  rintro e w1 ⟨rfl, hb1⟩
  have B1 : Hid (Below V.heap.size V w1) := hb1
  clear hb1
  go_wp2_with fail
  refine (check_any 1 ⟨2, 7, 300, ⟨#[107]⟩, ⟨#[]⟩, ⟨#[118, 119]⟩, ⟨#[]⟩, 0⟩ _ (HK.out.below B1.out (Nat.le_refl _)) one'.out none'.out).mono ?_
  rintro e w1a ⟨rfl, hb1a⟩
  rw [k1]
  have B1a : Hid (Below V.heap.size V w1a) := low_on B1.out hb1a B1.out.size
  clear hb1a B1
  go_wp2_with fail
  refine (put_any _ _).mono ?_
  rintro e w1b ⟨rfl, hb1b⟩
  have B1b : Hid (Below V.heap.size V w1b) := low_on B1a.out hb1b B1a.out.size
  clear hb1b B1a
  go_wp2_with fail
  refine (encode_any 1 ⟨2, 7, 300, ⟨#[107]⟩, ⟨#[]⟩, ⟨#[118, 119]⟩, ⟨#[]⟩, 0⟩ _ (HK.out.below B1b.out (Nat.le_refl _)) one'.out none'.out (by decide) (by decide) k1).mono ?_
  rintro e w2 ⟨u2, rfl, o2, hb2⟩
  have B2 : Hid (Below V.heap.size V w2) := low_on B1b.out hb2 B1b.out.size
  obtain ⟨a2, c2, hu2, _, _, _⟩ := seg_own o2
  subst hu2
  rw [k9]
  clear hb2 o2 B1b
  obtain ⟨x0, x1, x2, x3, x4, x5, x6, x7⟩ := X.out.below B2.out (Nat.le_refl _)
  go_wp2_with fail
  refine (num_any _ _).mono ?_
  rintro e w3 ⟨rfl, rfl⟩
  go_wp2_with fail
  refine (num_any _ _).mono ?_
  rintro e w3 ⟨rfl, rfl⟩
  go_wp2_with fail
  refine (check_any v c _ (HK.out.below B2.out (Nat.le_refl _)) hk hk2).mono ?_
  rintro e w3 ⟨rfl, hb3⟩
  have B3 : Hid (Below V.heap.size V w3) := low_on B2.out hb3 B2.out.size
  clear hb3 B2 x0 x1 x2 x3 x4 x5 x6 x7
  obtain ⟨x0, x1, x2, x3, x4, x5, x6, x7⟩ := X.out.below B3.out (Nat.le_refl _)
  go_wp2_with fail
  by_cases hz : chk v c = 0
  · rw [hz]
    refine (encode_any v c _ (HK.out.below B3.out (Nat.le_refl _)) hk hk2 hn1 hn2 hz).mono ?_
    rintro e w4 ⟨u4, rfl, o4, hb4⟩
    have B4 : Hid (Below V.heap.size V w4) := low_on B3.out hb4 B3.out.size
    obtain ⟨g, cap, hu4, M4⟩ := mine_of o4 (encC_pos c)
    subst hu4
    have hcp := M4.2.2.2.1
    have hcp2 := M4.2.2.1
    have HM := hide M4.seg
    have hs := sound_of hz
    have HF := hide (decC_full (r := l) hz hn1 hn2)
    have HC : Hid (∀ j, j < (encC c).length → decC v ((encC c).take j) = (zeroC, 0, 11)) := fun j hj => decC_cut hz hj
    have hlm := encC_le hz
    have hpos := encC_pos c
    have HY := hide (byt_encC hs.k0 hs.k8)
    clear hb4 o4 B3 M4 hs hz x0 x1 x2 x3 x4 x5 x6 x7
    obtain ⟨E, hE⟩ : ∃ E, Hid (encC c = E) := ⟨_, rfl⟩
    rw [hE.out] at HM HY hcp2 HF HC hlm hpos ⊢
    obtain ⟨m, hm⟩ : ∃ m, Hid (E.length = m) := ⟨_, rfl⟩
    rw [hm.out] at HM hcp2 HF HC hlm hpos ⊢
    clear hE
    unfold maxLen at hcp
    go_wp2_with fail
    refine (num_any _ _).mono ?_
    rintro e w5 ⟨rfl, rfl⟩
    go_wp2_with fail
    refine (num_any _ _).mono ?_
    rintro e w5 ⟨rfl, rfl⟩
    go_wp2_with fail
    refine (num_any _ _).mono ?_
    rintro e w5 ⟨rfl, rfl⟩
    go_wp2_with fail
    refine (joined_any (some ⟨g, 0, none⟩) sa m n cap tcap E l _ HM.out (HT.out.below B4.out (Nat.le_refl _)) (by omega) (by omega)).mono ?_
    rintro e w5 ⟨u5, rfl, o5, hb5⟩
    have B5 : Hid (Below V.heap.size V w5) := low_on B4.out hb5 B4.out.size
    have HM5 : Hid (Seg w5 (some ⟨g, 0, none⟩) m E) := HM.out.below hb5 (Nat.le_refl _)
    obtain ⟨g5, cap5, hu5, M5⟩ := mine_of o5 (by rw [List.length_append, hm.out]; omega)
    subst hu5
    have hcp5 := M5.2.2.2.1
    unfold maxLen at hcp5
    have hcp5b := M5.2.2.1
    have HM5b := hide M5.seg
    have HY5 : Hid (Byt (E ++ l)) := byt_app HY.out HTY.out
    clear hb5 o5 M5 B4 HM
    generalize (E ++ l).length = ml at *
    go_wp2_with fail
    refine (decode_any (some ⟨g5, 0, none⟩) ml cap5 (E ++ l) a v _ HM5b.out HY5.out (HE.out.below B5.out (Nat.le_refl _)) (HK.out.below B5.out (Nat.le_refl _)) hcp5b hcp5 (by intro q; cases q)).mono ?_
    rintro e w6 ⟨rfl, hb6⟩
    rw [HF.out]
    simp only
    have B6 : Hid (Below V.heap.size V w6) := low_on B5.out hb6 B5.out.size
    have HM6 : Hid (Seg w6 (some ⟨g, 0, none⟩) m E) := HM5.out.below hb6 (Nat.le_refl _)
    have HM6lt : Hid (g < w6.heap.size) := HM6.out.lt hpos rfl
    clear hb6 B5 HM5 HM5b HY5 HF
    obtain ⟨x0, x1, x2, x3, x4, x5, x6, x7⟩ := X.out.below (B6.out.alloc B6.out.size (.cells #[.int .i64 c.kind, .int .i64 c.client, .int .i64 c.req, .string c.key, .string c.key2, .string c.val, .string c.old, .int .i64 c.n] 23)) (Nat.le_refl _)
    go_wp2_with fail
    refine (sameCmd_any c c _).mono ?_
    rintro e w7 ⟨rfl, hb7⟩
    rw [sameC_self]
    have B7 : Hid (Below V.heap.size V w7) := by
      refine low_on (B6.out.alloc B6.out.size _) hb7 ?_
      simp
      have := B6.out.size
      omega
    have hq6 : V.heap.size ≤ w6.heap.size := B6.out.size
    have X7 : Hid (Bx w7 w6.heap.size c) := (bx_new w6 23 c.kind c.client c.req c.key c.key2 c.val c.old c.n).of_block (hb7.block w6.heap.size (by simp))
    have HM7 : Hid (Seg w7 (some ⟨g, 0, none⟩) m E) := HM6.out.below (Below.trans ((Below.refl w6.heap.size w6).alloc (Nat.le_refl _) _) (hb7.mono (by simp))) (Nat.le_refl _)
    clear hb7 B6 HM6 x0 x1 x2 x3 x4 x5 x6 x7
    have hgq : g ≠ w6.heap.size := fun q => by have := HM6lt.out; omega
    generalize w6.heap.size = q6 at *
    go_wp2_with fail
    refine (num_any _ _).mono ?_
    rintro e w8 ⟨rfl, rfl⟩
    go_wp2
    go_loopw [7, 11, 12, 13] (fun _ _ _ i wr => ∃ (j : Nat) (dd : Cm), i = .int .i64 (j : Int) ∧ j ≤ m ∧ Hid (Below V.heap.size V wr) ∧ Hid (Seg wr (some ⟨g, 0, none⟩) m E) ∧ Hid (Bx wr q6 dd)) (fun _ _ _ i _ => m - (intOf i).toNat)
    case atStart => exact ⟨0, c, rfl, Nat.zero_le _, B7, HM7, X7⟩
    case round =>
      obtain ⟨j, dd, rfl, hj, HB, HS, HX⟩ := hrel
      clear B7 HM7 X7
      by_cases hlt : j < m
      · by_cases hc : 400 < m ∧ 200 < j ∧ j + 200 < m
        · have q1 : decide ((400 : Int) < (m : Int)) = true := decide_eq_true (by omega)
          have q2 : decide ((200 : Int) < (j : Int)) = true := decide_eq_true (by omega)
          have q3 : decide ((j : Int) < (m : Int) - 200) = true := decide_eq_true (by omega)
          obtain ⟨h4, h5, h6⟩ := hc
          go_wp2
          go_roundw
          case rel => exact ⟨j + 1, dd, by go_num, by omega, HB, HS, HX⟩
          case measure => simp [intOf]; omega
        · have hc3 : m ≤ 400 ∨ (400 < m ∧ j ≤ 200) ∨ (400 < m ∧ 200 < j ∧ m ≤ j + 200) := by omega
          have SK : Hid (Seg wr (some ⟨g, 0, none⟩) j (E.take j)) := HS.out.take (by omega)
          have YK : Hid (Byt (E.take j)) := byt_take HY.out j
          have HCj := hide (HC.out j hlt)
          have ik : (j : Int) ≤ (cap : Int) := by omega
          clear hc
          rcases hc3 with h4 | ⟨h4, h5⟩ | ⟨h4, h5, h6⟩
          · have q1 : decide ((400 : Int) < (m : Int)) = false := decide_eq_false (by omega)
            go_wp2_with fail
            refine (decode_any (some ⟨g, 0, none⟩) j cap (E.take j) a v _ SK.out YK.out (HE.out.below HB.out (Nat.le_refl _)) (HK.out.below HB.out (Nat.le_refl _)) (by omega) hcp (by intro q; cases q)).mono ?_
            rintro e w8 ⟨rfl, hb8⟩
            rw [HCj.out]
            simp only [zeroC]
            have B8 : Hid (Below V.heap.size V w8) := low_on HB.out hb8 HB.out.size
            have HS8 : Hid (Seg w8 (some ⟨g, 0, none⟩) m E) := HS.out.below hb8 (Nat.le_refl _)
            have X8 : Hid (Bx w8 q6 dd) := HX.out.of_block (hb8.block q6 HX.out.lt)
            clear hb8 HB HS HX SK YK HCj
            have r0 : w8.cell? ⟨q6, 0, none⟩ = some (.int .i64 dd.kind) := X8.out.box.1
            have fr0 : w8.frozen? ⟨q6, 0, none⟩ = false := X8.out.thaw 0
            have r1 : w8.cell? ⟨q6, 1, none⟩ = some (.int .i64 dd.client) := X8.out.box.2.1
            have fr1 : w8.frozen? ⟨q6, 1, none⟩ = false := X8.out.thaw 1
            have r2 : w8.cell? ⟨q6, 2, none⟩ = some (.int .i64 dd.req) := X8.out.box.2.2.1
            have fr2 : w8.frozen? ⟨q6, 2, none⟩ = false := X8.out.thaw 2
            have r3 : w8.cell? ⟨q6, 3, none⟩ = some (.string dd.key) := X8.out.box.2.2.2.1
            have fr3 : w8.frozen? ⟨q6, 3, none⟩ = false := X8.out.thaw 3
            have r4 : w8.cell? ⟨q6, 4, none⟩ = some (.string dd.key2) := X8.out.box.2.2.2.2.1
            have fr4 : w8.frozen? ⟨q6, 4, none⟩ = false := X8.out.thaw 4
            have r5 : w8.cell? ⟨q6, 5, none⟩ = some (.string dd.val) := X8.out.box.2.2.2.2.2.1
            have fr5 : w8.frozen? ⟨q6, 5, none⟩ = false := X8.out.thaw 5
            have r6 : w8.cell? ⟨q6, 6, none⟩ = some (.string dd.old) := X8.out.box.2.2.2.2.2.2.1
            have fr6 : w8.frozen? ⟨q6, 6, none⟩ = false := X8.out.thaw 6
            have r7 : w8.cell? ⟨q6, 7, none⟩ = some (.int .i64 dd.n) := X8.out.box.2.2.2.2.2.2.2
            have fr7 : w8.frozen? ⟨q6, 7, none⟩ = false := X8.out.thaw 7
            go_wp2_with fail
            refine (sameCmd_any ⟨0, 0, 0, ⟨#[]⟩, ⟨#[]⟩, ⟨#[]⟩, ⟨#[]⟩, 0⟩ ⟨0, 0, 0, ⟨#[]⟩, ⟨#[]⟩, ⟨#[]⟩, ⟨#[]⟩, 0⟩ _).mono ?_
            rintro e w9 ⟨rfl, hb9⟩
            rw [sameC_self]
            have X9 : Hid (Bx ((((((((w8.setCell ⟨q6, 0, none⟩ (.int .i64 0)).setCell ⟨q6, 1, none⟩ (.int .i64 0)).setCell ⟨q6, 2, none⟩ (.int .i64 0)).setCell ⟨q6, 3, none⟩ (.string ⟨#[]⟩)).setCell ⟨q6, 4, none⟩ (.string ⟨#[]⟩)).setCell ⟨q6, 5, none⟩ (.string ⟨#[]⟩)).setCell ⟨q6, 6, none⟩ (.string ⟨#[]⟩)).setCell ⟨q6, 7, none⟩ (.int .i64 0)) q6 ⟨0, 0, 0, ⟨#[]⟩, ⟨#[]⟩, ⟨#[]⟩, ⟨#[]⟩, 0⟩) := ((((((((X8.out.kind 0).client 0).req 0).key ⟨#[]⟩).key2 ⟨#[]⟩).val ⟨#[]⟩).old ⟨#[]⟩).n 0)
            have B9 : Hid (Below V.heap.size V ((((((((w8.setCell ⟨q6, 0, none⟩ (.int .i64 0)).setCell ⟨q6, 1, none⟩ (.int .i64 0)).setCell ⟨q6, 2, none⟩ (.int .i64 0)).setCell ⟨q6, 3, none⟩ (.string ⟨#[]⟩)).setCell ⟨q6, 4, none⟩ (.string ⟨#[]⟩)).setCell ⟨q6, 5, none⟩ (.string ⟨#[]⟩)).setCell ⟨q6, 6, none⟩ (.string ⟨#[]⟩)).setCell ⟨q6, 7, none⟩ (.int .i64 0))) := by
              iterate 8 refine Below.setCell ?_ (by exact hq6) _
              exact B8.out
            have O9 : Hid (Touch q6 w8 ((((((((w8.setCell ⟨q6, 0, none⟩ (.int .i64 0)).setCell ⟨q6, 1, none⟩ (.int .i64 0)).setCell ⟨q6, 2, none⟩ (.int .i64 0)).setCell ⟨q6, 3, none⟩ (.string ⟨#[]⟩)).setCell ⟨q6, 4, none⟩ (.string ⟨#[]⟩)).setCell ⟨q6, 5, none⟩ (.string ⟨#[]⟩)).setCell ⟨q6, 6, none⟩ (.string ⟨#[]⟩)).setCell ⟨q6, 7, none⟩ (.int .i64 0))) := (((((((((Touch.refl q6 w8).setB _).setB _).setB _).setB _).setB _).setB _).setB _).setB _)
            have HS9 : Hid (Seg ((((((((w8.setCell ⟨q6, 0, none⟩ (.int .i64 0)).setCell ⟨q6, 1, none⟩ (.int .i64 0)).setCell ⟨q6, 2, none⟩ (.int .i64 0)).setCell ⟨q6, 3, none⟩ (.string ⟨#[]⟩)).setCell ⟨q6, 4, none⟩ (.string ⟨#[]⟩)).setCell ⟨q6, 5, none⟩ (.string ⟨#[]⟩)).setCell ⟨q6, 6, none⟩ (.string ⟨#[]⟩)).setCell ⟨q6, 7, none⟩ (.int .i64 0)) (some ⟨g, 0, none⟩) m E) := O9.out.seg HS8.out (fun x hx _ => by cases hx; exact hgq)
            generalize ((((((((w8.setCell ⟨q6, 0, none⟩ (.int .i64 0)).setCell ⟨q6, 1, none⟩ (.int .i64 0)).setCell ⟨q6, 2, none⟩ (.int .i64 0)).setCell ⟨q6, 3, none⟩ (.string ⟨#[]⟩)).setCell ⟨q6, 4, none⟩ (.string ⟨#[]⟩)).setCell ⟨q6, 5, none⟩ (.string ⟨#[]⟩)).setCell ⟨q6, 6, none⟩ (.string ⟨#[]⟩)).setCell ⟨q6, 7, none⟩ (.int .i64 0)) = W9 at *
            have B10 : Hid (Below V.heap.size V w9) := low_on B9.out hb9 B9.out.size
            have HS10 : Hid (Seg w9 (some ⟨g, 0, none⟩) m E) := HS9.out.below hb9 (Nat.le_refl _)
            have X10 : Hid (Bx w9 q6 ⟨0, 0, 0, ⟨#[]⟩, ⟨#[]⟩, ⟨#[]⟩, ⟨#[]⟩, 0⟩) := X9.out.of_block (hb9.block q6 X9.out.lt)
            clear hb9 B8 HS8 X8 X9 B9 O9 HS9 r0 r1 r2 r3 r4 r5 r6 r7 fr0 fr1 fr2 fr3 fr4 fr5 fr6 fr7
            go_wp2_with fail
            refine (num_any _ _).mono ?_
            rintro e w10 ⟨rfl, rfl⟩
            go_wp2
            go_roundw
            case rel => exact ⟨j + 1, _, by go_num, by omega, B10, HS10, X10⟩
            case measure => simp [intOf]; omega
          · have q1 : decide ((400 : Int) < (m : Int)) = true := decide_eq_true (by omega)
            have q2 : decide ((200 : Int) < (j : Int)) = false := decide_eq_false (by omega)
            go_wp2_with fail
            refine (decode_any (some ⟨g, 0, none⟩) j cap (E.take j) a v _ SK.out YK.out (HE.out.below HB.out (Nat.le_refl _)) (HK.out.below HB.out (Nat.le_refl _)) (by omega) hcp (by intro q; cases q)).mono ?_
            rintro e w8 ⟨rfl, hb8⟩
            rw [HCj.out]
            simp only [zeroC]
            have B8 : Hid (Below V.heap.size V w8) := low_on HB.out hb8 HB.out.size
            have HS8 : Hid (Seg w8 (some ⟨g, 0, none⟩) m E) := HS.out.below hb8 (Nat.le_refl _)
            have X8 : Hid (Bx w8 q6 dd) := HX.out.of_block (hb8.block q6 HX.out.lt)
            clear hb8 HB HS HX SK YK HCj
            have r0 : w8.cell? ⟨q6, 0, none⟩ = some (.int .i64 dd.kind) := X8.out.box.1
            have fr0 : w8.frozen? ⟨q6, 0, none⟩ = false := X8.out.thaw 0
            have r1 : w8.cell? ⟨q6, 1, none⟩ = some (.int .i64 dd.client) := X8.out.box.2.1
            have fr1 : w8.frozen? ⟨q6, 1, none⟩ = false := X8.out.thaw 1
            have r2 : w8.cell? ⟨q6, 2, none⟩ = some (.int .i64 dd.req) := X8.out.box.2.2.1
            have fr2 : w8.frozen? ⟨q6, 2, none⟩ = false := X8.out.thaw 2
            have r3 : w8.cell? ⟨q6, 3, none⟩ = some (.string dd.key) := X8.out.box.2.2.2.1
            have fr3 : w8.frozen? ⟨q6, 3, none⟩ = false := X8.out.thaw 3
            have r4 : w8.cell? ⟨q6, 4, none⟩ = some (.string dd.key2) := X8.out.box.2.2.2.2.1
            have fr4 : w8.frozen? ⟨q6, 4, none⟩ = false := X8.out.thaw 4
            have r5 : w8.cell? ⟨q6, 5, none⟩ = some (.string dd.val) := X8.out.box.2.2.2.2.2.1
            have fr5 : w8.frozen? ⟨q6, 5, none⟩ = false := X8.out.thaw 5
            have r6 : w8.cell? ⟨q6, 6, none⟩ = some (.string dd.old) := X8.out.box.2.2.2.2.2.2.1
            have fr6 : w8.frozen? ⟨q6, 6, none⟩ = false := X8.out.thaw 6
            have r7 : w8.cell? ⟨q6, 7, none⟩ = some (.int .i64 dd.n) := X8.out.box.2.2.2.2.2.2.2
            have fr7 : w8.frozen? ⟨q6, 7, none⟩ = false := X8.out.thaw 7
            go_wp2_with fail
            refine (sameCmd_any ⟨0, 0, 0, ⟨#[]⟩, ⟨#[]⟩, ⟨#[]⟩, ⟨#[]⟩, 0⟩ ⟨0, 0, 0, ⟨#[]⟩, ⟨#[]⟩, ⟨#[]⟩, ⟨#[]⟩, 0⟩ _).mono ?_
            rintro e w9 ⟨rfl, hb9⟩
            rw [sameC_self]
            have X9 : Hid (Bx ((((((((w8.setCell ⟨q6, 0, none⟩ (.int .i64 0)).setCell ⟨q6, 1, none⟩ (.int .i64 0)).setCell ⟨q6, 2, none⟩ (.int .i64 0)).setCell ⟨q6, 3, none⟩ (.string ⟨#[]⟩)).setCell ⟨q6, 4, none⟩ (.string ⟨#[]⟩)).setCell ⟨q6, 5, none⟩ (.string ⟨#[]⟩)).setCell ⟨q6, 6, none⟩ (.string ⟨#[]⟩)).setCell ⟨q6, 7, none⟩ (.int .i64 0)) q6 ⟨0, 0, 0, ⟨#[]⟩, ⟨#[]⟩, ⟨#[]⟩, ⟨#[]⟩, 0⟩) := ((((((((X8.out.kind 0).client 0).req 0).key ⟨#[]⟩).key2 ⟨#[]⟩).val ⟨#[]⟩).old ⟨#[]⟩).n 0)
            have B9 : Hid (Below V.heap.size V ((((((((w8.setCell ⟨q6, 0, none⟩ (.int .i64 0)).setCell ⟨q6, 1, none⟩ (.int .i64 0)).setCell ⟨q6, 2, none⟩ (.int .i64 0)).setCell ⟨q6, 3, none⟩ (.string ⟨#[]⟩)).setCell ⟨q6, 4, none⟩ (.string ⟨#[]⟩)).setCell ⟨q6, 5, none⟩ (.string ⟨#[]⟩)).setCell ⟨q6, 6, none⟩ (.string ⟨#[]⟩)).setCell ⟨q6, 7, none⟩ (.int .i64 0))) := by
              iterate 8 refine Below.setCell ?_ (by exact hq6) _
              exact B8.out
            have O9 : Hid (Touch q6 w8 ((((((((w8.setCell ⟨q6, 0, none⟩ (.int .i64 0)).setCell ⟨q6, 1, none⟩ (.int .i64 0)).setCell ⟨q6, 2, none⟩ (.int .i64 0)).setCell ⟨q6, 3, none⟩ (.string ⟨#[]⟩)).setCell ⟨q6, 4, none⟩ (.string ⟨#[]⟩)).setCell ⟨q6, 5, none⟩ (.string ⟨#[]⟩)).setCell ⟨q6, 6, none⟩ (.string ⟨#[]⟩)).setCell ⟨q6, 7, none⟩ (.int .i64 0))) := (((((((((Touch.refl q6 w8).setB _).setB _).setB _).setB _).setB _).setB _).setB _).setB _)
            have HS9 : Hid (Seg ((((((((w8.setCell ⟨q6, 0, none⟩ (.int .i64 0)).setCell ⟨q6, 1, none⟩ (.int .i64 0)).setCell ⟨q6, 2, none⟩ (.int .i64 0)).setCell ⟨q6, 3, none⟩ (.string ⟨#[]⟩)).setCell ⟨q6, 4, none⟩ (.string ⟨#[]⟩)).setCell ⟨q6, 5, none⟩ (.string ⟨#[]⟩)).setCell ⟨q6, 6, none⟩ (.string ⟨#[]⟩)).setCell ⟨q6, 7, none⟩ (.int .i64 0)) (some ⟨g, 0, none⟩) m E) := O9.out.seg HS8.out (fun x hx _ => by cases hx; exact hgq)
            generalize ((((((((w8.setCell ⟨q6, 0, none⟩ (.int .i64 0)).setCell ⟨q6, 1, none⟩ (.int .i64 0)).setCell ⟨q6, 2, none⟩ (.int .i64 0)).setCell ⟨q6, 3, none⟩ (.string ⟨#[]⟩)).setCell ⟨q6, 4, none⟩ (.string ⟨#[]⟩)).setCell ⟨q6, 5, none⟩ (.string ⟨#[]⟩)).setCell ⟨q6, 6, none⟩ (.string ⟨#[]⟩)).setCell ⟨q6, 7, none⟩ (.int .i64 0)) = W9 at *
            have B10 : Hid (Below V.heap.size V w9) := low_on B9.out hb9 B9.out.size
            have HS10 : Hid (Seg w9 (some ⟨g, 0, none⟩) m E) := HS9.out.below hb9 (Nat.le_refl _)
            have X10 : Hid (Bx w9 q6 ⟨0, 0, 0, ⟨#[]⟩, ⟨#[]⟩, ⟨#[]⟩, ⟨#[]⟩, 0⟩) := X9.out.of_block (hb9.block q6 X9.out.lt)
            clear hb9 B8 HS8 X8 X9 B9 O9 HS9 r0 r1 r2 r3 r4 r5 r6 r7 fr0 fr1 fr2 fr3 fr4 fr5 fr6 fr7
            go_wp2_with fail
            refine (num_any _ _).mono ?_
            rintro e w10 ⟨rfl, rfl⟩
            go_wp2
            go_roundw
            case rel => exact ⟨j + 1, _, by go_num, by omega, B10, HS10, X10⟩
            case measure => simp [intOf]; omega
          · have q1 : decide ((400 : Int) < (m : Int)) = true := decide_eq_true (by omega)
            have q2 : decide ((200 : Int) < (j : Int)) = true := decide_eq_true (by omega)
            have q3 : decide ((j : Int) < (m : Int) - 200) = false := decide_eq_false (by omega)
            go_wp2_with fail
            refine (decode_any (some ⟨g, 0, none⟩) j cap (E.take j) a v _ SK.out YK.out (HE.out.below HB.out (Nat.le_refl _)) (HK.out.below HB.out (Nat.le_refl _)) (by omega) hcp (by intro q; cases q)).mono ?_
            rintro e w8 ⟨rfl, hb8⟩
            rw [HCj.out]
            simp only [zeroC]
            have B8 : Hid (Below V.heap.size V w8) := low_on HB.out hb8 HB.out.size
            have HS8 : Hid (Seg w8 (some ⟨g, 0, none⟩) m E) := HS.out.below hb8 (Nat.le_refl _)
            have X8 : Hid (Bx w8 q6 dd) := HX.out.of_block (hb8.block q6 HX.out.lt)
            clear hb8 HB HS HX SK YK HCj
            have r0 : w8.cell? ⟨q6, 0, none⟩ = some (.int .i64 dd.kind) := X8.out.box.1
            have fr0 : w8.frozen? ⟨q6, 0, none⟩ = false := X8.out.thaw 0
            have r1 : w8.cell? ⟨q6, 1, none⟩ = some (.int .i64 dd.client) := X8.out.box.2.1
            have fr1 : w8.frozen? ⟨q6, 1, none⟩ = false := X8.out.thaw 1
            have r2 : w8.cell? ⟨q6, 2, none⟩ = some (.int .i64 dd.req) := X8.out.box.2.2.1
            have fr2 : w8.frozen? ⟨q6, 2, none⟩ = false := X8.out.thaw 2
            have r3 : w8.cell? ⟨q6, 3, none⟩ = some (.string dd.key) := X8.out.box.2.2.2.1
            have fr3 : w8.frozen? ⟨q6, 3, none⟩ = false := X8.out.thaw 3
            have r4 : w8.cell? ⟨q6, 4, none⟩ = some (.string dd.key2) := X8.out.box.2.2.2.2.1
            have fr4 : w8.frozen? ⟨q6, 4, none⟩ = false := X8.out.thaw 4
            have r5 : w8.cell? ⟨q6, 5, none⟩ = some (.string dd.val) := X8.out.box.2.2.2.2.2.1
            have fr5 : w8.frozen? ⟨q6, 5, none⟩ = false := X8.out.thaw 5
            have r6 : w8.cell? ⟨q6, 6, none⟩ = some (.string dd.old) := X8.out.box.2.2.2.2.2.2.1
            have fr6 : w8.frozen? ⟨q6, 6, none⟩ = false := X8.out.thaw 6
            have r7 : w8.cell? ⟨q6, 7, none⟩ = some (.int .i64 dd.n) := X8.out.box.2.2.2.2.2.2.2
            have fr7 : w8.frozen? ⟨q6, 7, none⟩ = false := X8.out.thaw 7
            go_wp2_with fail
            refine (sameCmd_any ⟨0, 0, 0, ⟨#[]⟩, ⟨#[]⟩, ⟨#[]⟩, ⟨#[]⟩, 0⟩ ⟨0, 0, 0, ⟨#[]⟩, ⟨#[]⟩, ⟨#[]⟩, ⟨#[]⟩, 0⟩ _).mono ?_
            rintro e w9 ⟨rfl, hb9⟩
            rw [sameC_self]
            have X9 : Hid (Bx ((((((((w8.setCell ⟨q6, 0, none⟩ (.int .i64 0)).setCell ⟨q6, 1, none⟩ (.int .i64 0)).setCell ⟨q6, 2, none⟩ (.int .i64 0)).setCell ⟨q6, 3, none⟩ (.string ⟨#[]⟩)).setCell ⟨q6, 4, none⟩ (.string ⟨#[]⟩)).setCell ⟨q6, 5, none⟩ (.string ⟨#[]⟩)).setCell ⟨q6, 6, none⟩ (.string ⟨#[]⟩)).setCell ⟨q6, 7, none⟩ (.int .i64 0)) q6 ⟨0, 0, 0, ⟨#[]⟩, ⟨#[]⟩, ⟨#[]⟩, ⟨#[]⟩, 0⟩) := ((((((((X8.out.kind 0).client 0).req 0).key ⟨#[]⟩).key2 ⟨#[]⟩).val ⟨#[]⟩).old ⟨#[]⟩).n 0)
            have B9 : Hid (Below V.heap.size V ((((((((w8.setCell ⟨q6, 0, none⟩ (.int .i64 0)).setCell ⟨q6, 1, none⟩ (.int .i64 0)).setCell ⟨q6, 2, none⟩ (.int .i64 0)).setCell ⟨q6, 3, none⟩ (.string ⟨#[]⟩)).setCell ⟨q6, 4, none⟩ (.string ⟨#[]⟩)).setCell ⟨q6, 5, none⟩ (.string ⟨#[]⟩)).setCell ⟨q6, 6, none⟩ (.string ⟨#[]⟩)).setCell ⟨q6, 7, none⟩ (.int .i64 0))) := by
              iterate 8 refine Below.setCell ?_ (by exact hq6) _
              exact B8.out
            have O9 : Hid (Touch q6 w8 ((((((((w8.setCell ⟨q6, 0, none⟩ (.int .i64 0)).setCell ⟨q6, 1, none⟩ (.int .i64 0)).setCell ⟨q6, 2, none⟩ (.int .i64 0)).setCell ⟨q6, 3, none⟩ (.string ⟨#[]⟩)).setCell ⟨q6, 4, none⟩ (.string ⟨#[]⟩)).setCell ⟨q6, 5, none⟩ (.string ⟨#[]⟩)).setCell ⟨q6, 6, none⟩ (.string ⟨#[]⟩)).setCell ⟨q6, 7, none⟩ (.int .i64 0))) := (((((((((Touch.refl q6 w8).setB _).setB _).setB _).setB _).setB _).setB _).setB _).setB _)
            have HS9 : Hid (Seg ((((((((w8.setCell ⟨q6, 0, none⟩ (.int .i64 0)).setCell ⟨q6, 1, none⟩ (.int .i64 0)).setCell ⟨q6, 2, none⟩ (.int .i64 0)).setCell ⟨q6, 3, none⟩ (.string ⟨#[]⟩)).setCell ⟨q6, 4, none⟩ (.string ⟨#[]⟩)).setCell ⟨q6, 5, none⟩ (.string ⟨#[]⟩)).setCell ⟨q6, 6, none⟩ (.string ⟨#[]⟩)).setCell ⟨q6, 7, none⟩ (.int .i64 0)) (some ⟨g, 0, none⟩) m E) := O9.out.seg HS8.out (fun x hx _ => by cases hx; exact hgq)
            generalize ((((((((w8.setCell ⟨q6, 0, none⟩ (.int .i64 0)).setCell ⟨q6, 1, none⟩ (.int .i64 0)).setCell ⟨q6, 2, none⟩ (.int .i64 0)).setCell ⟨q6, 3, none⟩ (.string ⟨#[]⟩)).setCell ⟨q6, 4, none⟩ (.string ⟨#[]⟩)).setCell ⟨q6, 5, none⟩ (.string ⟨#[]⟩)).setCell ⟨q6, 6, none⟩ (.string ⟨#[]⟩)).setCell ⟨q6, 7, none⟩ (.int .i64 0)) = W9 at *
            have B10 : Hid (Below V.heap.size V w9) := low_on B9.out hb9 B9.out.size
            have HS10 : Hid (Seg w9 (some ⟨g, 0, none⟩) m E) := HS9.out.below hb9 (Nat.le_refl _)
            have X10 : Hid (Bx w9 q6 ⟨0, 0, 0, ⟨#[]⟩, ⟨#[]⟩, ⟨#[]⟩, ⟨#[]⟩, 0⟩) := X9.out.of_block (hb9.block q6 X9.out.lt)
            clear hb9 B8 HS8 X8 X9 B9 O9 HS9 r0 r1 r2 r3 r4 r5 r6 r7 fr0 fr1 fr2 fr3 fr4 fr5 fr6 fr7
            go_wp2_with fail
            refine (num_any _ _).mono ?_
            rintro e w10 ⟨rfl, rfl⟩
            go_wp2
            go_roundw
            case rel => exact ⟨j + 1, _, by go_num, by omega, B10, HS10, X10⟩
            case measure => simp [intOf]; omega
      · go_wp2
        go_ret
        exact ⟨rfl, BV.out.trans (HB.out.mono hVs)⟩
  · refine (encode_no v c _ (HK.out.below B3.out (Nat.le_refl _)) hk hk2 hz).mono ?_
    rintro e w4 ⟨rfl, hb4⟩
    have B4 : Hid (Below V.heap.size V w4) := low_on B3.out hb4 B3.out.size
    clear hb4 x0 x1 x2 x3 x4 x5 x6 x7
    generalize chk v c = z at *
    have g1 : (((z : Nat) : Int) == 0) = false := by rw [beq_eq_false_iff_ne]; omega
    have g2 : (((z : Nat) : Int) != 0) = true := by rw [bne_iff_ne]; omega
    go_wp2_with fail
    refine (num_any _ _).mono ?_
    rintro e w5 ⟨rfl, rfl⟩
    go_wp2_with fail
    refine (num_any _ _).mono ?_
    rintro e w5 ⟨rfl, rfl⟩
    go_wp2_with fail
    refine (num_any _ _).mono ?_
    rintro e w5 ⟨rfl, rfl⟩
    go_wp2
    go_ret
    exact ⟨rfl, BV.out.trans (B4.out.mono hVs)⟩
end commandBack
end Go.Proofs.YtjojiccojmajoaaDoor
