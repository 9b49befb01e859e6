/- Proved: for every list of bytes, place and number x, CrcBursts answers true: a fault whose bits lie within 32 neighbouring places is told. The table of sixteen is as the program's text lays it. -/
import Derived.Test.YtibdgnegdnapoabDoorCrc
import Derived.Test.YtibdgnegdnapoabDoorFlip
import Derived.Test.YtibdgnegdnapoabDoorLong
import Derived.Test.YtibdgnegdnapoabDoorCSame
import Derived.Test.YtibdgnegdnapoabDoorCLaid
import Derived.Test.YtibdgnegdnapoabDoorArgs
import Derived.Test.YtibdgnegdnapoabDoorCards
import Derived.Test.YtibdgnegdnapoabDoorTie
import Derived.WalkSmall
import Derived.Deep.DeepHandedRow
import Derived.Deep.DeepWitnessRowRef
namespace Go.Proofs.YtibdgnegdnapoabDoor
namespace crcBursts
open Go.ChangeShapes Go.WideShapes Go.ChangeAt Go.RowKit Go.Wire1 Go.Crc2

/-- The list behind k rounds. -/
def burst (l : List Int) (p : Nat) (x : R) : Nat → List Int
  | 0 => l
  | k + 1 => if x.getLsbD k = true ∧ p + k < 8 * l.length then flip (burst l p x k) (p + k) else burst l p x k
theorem burst_len (l : List Int) (p : Nat) (x : R) (k : Nat) : (burst l p x k).length = l.length := by
  induction k with
  | zero => rfl
  | succ k ih => rw [burst]; split <;> simp [flip_len, ih]
theorem burst_byt {l : List Int} (h : Byt l) (p : Nat) (x : R) (k : Nat) : Byt (burst l p x k) := by
  induction k with
  | zero => exact h
  | succ k ih => rw [burst]; split; exact flip_byt ih _; exact ih
theorem burst_takes {l : List Int} (h : Byt l) (p : Nat) (x r : R) (hp : p < 8 * l.length) (k : Nat) (hk : k ≤ 32) :
    takes r (burst l p x k) = takes r l ^^^ steps (8 * l.length - p) (low (min k (8 * l.length - p)) x) ∧ (low (min k (8 * l.length - p)) x = 0#32 → burst l p x k = l) := by
  induction k with
  | zero => rw [Nat.zero_min, low_zero]; exact ⟨by rw [Lin.zero (steps_xor _), BitVec.xor_zero]; rfl, fun _ => rfl⟩
  | succ k ih =>
    obtain ⟨i1, i2⟩ := ih (by omega)
    rw [burst]
    by_cases hc : x.getLsbD k = true ∧ p + k < 8 * l.length
    · rw [if_pos hc]
      have m1 : min (k + 1) (8 * l.length - p) = k + 1 := by omega
      have m2 : min k (8 * l.length - p) = k := by omega
      rw [m1]
      rw [m2] at i1 i2
      refine ⟨?_, fun h0 => ?_⟩
      · rw [takes_flip _ _ _ (burst_byt h p x k) (by rw [burst_len]; exact hc.2), burst_len, i1, low_succ, hc.1, if_pos rfl, steps_xor, BitVec.xor_assoc]
        congr 2
        have e : 8 * l.length - p = k + (8 * l.length - (p + k)) := by omega
        have hu := unit_steps ⟨k, by omega⟩
        simp only at hu
        rw [e, steps_add, hu]
      · exfalso
        have hb := low_bit (k + 1) x k
        rw [h0, hc.1] at hb
        simp at hb
    · rw [if_neg hc]
      have e : low (min (k + 1) (8 * l.length - p)) x = low (min k (8 * l.length - p)) x := by
        by_cases h1 : p + k < 8 * l.length
        · have hb : x.getLsbD k = false := by cases hx : x.getLsbD k; rfl; exact absurd ⟨hx, h1⟩ hc
          have m1 : min (k + 1) (8 * l.length - p) = k + 1 := by omega
          have m2 : min k (8 * l.length - p) = k := by omega
          rw [m1, m2, low_succ, hb]; simp
        · have m1 : min (k + 1) (8 * l.length - p) = min k (8 * l.length - p) := by omega
          rw [m1]
      rw [e]
      exact ⟨i1, i2⟩
theorem law {l : List Int} (h : Byt l) (p : Nat) (x : R) (hp : p < 8 * l.length) : upd 0#32 l = upd 0#32 (burst l p x 32) ↔ l = burst l p x 32 := by
  obtain ⟨h1, h2⟩ := burst_takes h p x (~~~ 0#32) hp 32 (by omega)
  constructor
  · intro e
    unfold upd at e
    have e' := not_inj e
    rw [h1] at e'
    have e2 := xor_cancel (a := takes (~~~ 0#32) l) (b := 0#32) (c := steps (8 * l.length - p) (low (min 32 (8 * l.length - p)) x)) (by rw [BitVec.xor_zero]; exact e')
    have e3 : low (min 32 (8 * l.length - p)) x = 0#32 := steps_inj (8 * l.length - p) (by rw [Lin.zero (steps_xor _)]; exact e2.symm)
    exact (h2 e3).symm
  · intro e; rw [← e]

theorem bit_and (x : R) (k : Nat) : bits .and .u32 (Int.ofNat x.toNat / (2 : Int) ^ k) 1 = if x.getLsbD k then 1 else 0 := by
  have e : Int.ofNat x.toNat / (2 : Int) ^ k = ((x.toNat / 2 ^ k : Nat) : Int) := by simp
  have hlt : x.toNat / 2 ^ k < 4294967296 := Nat.lt_of_le_of_lt (Nat.div_le_self _ _) x.isLt
  have := u32_and_nat (x.toNat / 2 ^ k) 1 hlt (by decide)
  rw [Nat.and_one_is_mod] at this
  rw [e, show (1 : Int) = ((1 : Nat) : Int) by rfl, this, BitVec.getLsbD, Nat.testBit_eq_decide_div_mod_eq]
  rcases (by omega : x.toNat / 2 ^ k % 2 = 0 ∨ x.toNat / 2 ^ k % 2 = 1) with h | h <;> simp [h]

set_option maxHeartbeats 1000000 in
set_option maxRecDepth 100000 in
theorem walk (a : Option Addr) (n cap : Nat) (l : List Int) (i : Int) (x : R) (w : World) (hs : Seg w a n l) (hy : Byt l) (hreach : n ≤ 140737488351232) (i1 : -9223372036854775808 ≤ i) (i2 : i ≤ 9223372036854775807) (hH : Hal w) :
    Calls Tryd.prog 5 #[.slice a n cap, .int .i64 i, .int .u32 (x.toNat : Int)] w fun e w' => e = .returned (.bool true) ∧ Below w.heap.size w w' := by
  have HH : Hid (Hal w) := hH
  have HS : Hid (Seg w a n l) := hs
  have HY : Hid (Byt l) := hy
  have HL : Hid (l.length = n) := hs.1
  clear hH hs hy
  have first : ∀ (w : World) (b : Bool), decide (268435456 ≤ n) = b → Calls Tryd.prog 15 #[.slice a n cap] w fun e w' => e = .returned (.bool b) ∧ w' = w := fun w b hb => by
    rw [← hb]; exact tooLong_any a n cap w
  have HF := hide first
  clear first
  by_cases c0 : 268435456 ≤ n
  · have D0 : Hid (decide (268435456 ≤ n) = true) := by show _ = _; simp; exact c0
    go_enter Tryd.func5, Tryd.ntmps5
    go_wp2_with fail
    refine (known_any _ HH.out).mono ?_
    rintro e w1 ⟨rfl, hbel⟩
    have HB := hide hbel
    clear hbel
    go_wp2_with fail
    refine (HF.out _ true D0.out).mono ?_
    rintro e w1 ⟨rfl, rfl⟩
    go_wp2
    go_ret
    exact ⟨rfl, HB.out⟩
  have D0 : Hid (decide (268435456 ≤ n) = false) := by show _ = _; simp; omega
  by_cases c1 : i < 0
  · go_enter Tryd.func5, Tryd.ntmps5
    go_wp2_with fail
    refine (known_any _ HH.out).mono ?_
    rintro e w1 ⟨rfl, hbel⟩
    have HB := hide hbel
    clear hbel
    go_wp2_with fail
    refine (HF.out _ false D0.out).mono ?_
    rintro e w1 ⟨rfl, rfl⟩
    go_wp2
    go_ret
    exact ⟨rfl, HB.out⟩
  have c1' : 0 ≤ i := by omega
  clear c1
  by_cases c3 : 8 * (n : Int) ≤ i
  · go_enter Tryd.func5, Tryd.ntmps5
    go_wp2_with fail
    refine (known_any _ HH.out).mono ?_
    rintro e w1 ⟨rfl, hbel⟩
    have HB := hide hbel
    clear hbel
    go_wp2_with fail
    refine (HF.out _ false D0.out).mono ?_
    rintro e w1 ⟨rfl, rfl⟩
    go_wp2
    go_ret
    exact ⟨rfl, HB.out⟩
  have c3' : i < 8 * (n : Int) := by omega
  clear c3
  obtain ⟨p, rfl⟩ := Int.eq_ofNat_of_zero_le c1'
  have hp : p < 8 * n := by omega
  have d1 : decide ((p : Int) < 0) = false := by simp only [decide_eq_false_iff_not]; omega
  have d3 : decide (8 * (n : Int) ≤ (p : Int)) = false := by simp only [decide_eq_false_iff_not]; omega
  have LAW := hide (law HY.out p x (by rw [HL.out]; exact hp))
  have bx := r_lt x
  go_enter Tryd.func5, Tryd.ntmps5
  go_wp2_with fail
  refine (known_any _ HH.out).mono ?_
  rintro e w1 ⟨rfl, hbel⟩
  have HB := hide hbel
  have HS1 := hide (HS.out.below hbel (Nat.le_refl _))
  have HH1 := hide (HH.out.later hbel)
  have hsz := hbel.size
  clear hbel
  go_wp2_with fail
  refine (HF.out _ false D0.out).mono ?_
  rintro e w1 ⟨rfl, rfl⟩
  go_wp2_with fail
  refine (bytes_any a n cap l _ HS1.out (by omega)).mono ?_
  rintro e w2 ⟨v, rfl, hown, hbel⟩
  obtain ⟨a2, c2, rfl, hseg2⟩ : ∃ a2 c2, v = .slice a2 n c2 ∧ Seg w2 a2 n l := by
    obtain ⟨a2, c2, h, _, _, hs⟩ := seg_own hown
    rw [HL.out] at h hs
    exact ⟨a2, c2, h, hs⟩
  have HB2 := hide hbel
  have HS2 := hide hseg2
  clear hown hseg2 hbel
  go_wp2_with fail
  go_loopw [7, 8] (fun s i wr => ∃ (k : Nat) (b : Option Addr) (c : Nat), i = .int .i64 (k : Int) ∧ s = .slice b n c ∧ k ≤ 32 ∧ Hid (Seg wr b n (burst l p x k)) ∧ Hid (Below w1.heap.size w1 wr)) (fun _ i _ => 32 - (intOf i).toNat)
  case atStart => exact ⟨0, a2, c2, rfl, rfl, by omega, HS2, HB2⟩
  case round =>
    clear HS2 HB2
    obtain ⟨k, b, c, rfl, rfl, hk, HS2, HB2⟩ := hrel
    by_cases hlt : k < 32
    · have e1 := bit_and x k
      simp only [Int.ofNat_eq_natCast] at e1
      by_cases hbit : x.getLsbD k = true
      · rw [if_pos hbit] at e1
        have hsw := HB2.out.size
        by_cases hin : p + k < 8 * n
        · have HT : Hid (burst l p x (k + 1) = flip (burst l p x k) (p + k)) := by show _ = _; rw [burst, if_pos ⟨hbit, by rw [HL.out]; exact hin⟩]
          have C := fun ww (h : Seg ww b n (burst l p x k)) => flipped_in b n c (p + k) (burst l p x k) ww h (burst_byt HY.out p x k) (by omega) hin
          simp only [Int.natCast_add] at C
          have HC := hide C
          clear C
          go_wp2_with fail
          refine (HC.out _ HS2.out).mono ?_
          rintro e w3 ⟨v3, rfl, hown, hbel⟩
          obtain ⟨a3, c3, rfl, hseg3⟩ : ∃ a3 c3, v3 = .slice a3 n c3 ∧ Seg w3 a3 n (burst l p x (k + 1)) := by
            rw [← HT.out] at hown
            have e0 : (burst l p x (k + 1)).length = n := by rw [burst_len, HL.out]
            rw [← e0] at hown
            obtain ⟨a3, c3, h, _, _, hs⟩ := seg_own hown
            rw [e0] at h hs
            exact ⟨a3, c3, h, hs⟩
          have HS3 := hide hseg3
          have HB3 := hide (HB2.out.trans (hbel.mono hsw))
          clear hown hseg3 hbel
          go_wp2
          go_roundw
          case rel => exact ⟨k + 1, a3, c3, by go_num, rfl, by omega, HS3, HB3⟩
          case measure => simp [intOf]; omega
        · have HT : Hid (burst l p x (k + 1) = burst l p x k) := by show _ = _; rw [burst, if_neg (by rw [HL.out]; intro h; exact hin h.2)]
          have C := fun ww (h : Seg ww b n (burst l p x k)) => flipped_out b n c ((p : Int) + (k : Int)) (burst l p x k) ww h (by omega) (by omega) (by omega) (by omega)
          have HC := hide C
          clear C
          go_wp2_with fail
          refine (HC.out _ HS2.out).mono ?_
          rintro e w3 ⟨v3, rfl, hown, hbel⟩
          obtain ⟨a3, c3, rfl, hseg3⟩ : ∃ a3 c3, v3 = .slice a3 n c3 ∧ Seg w3 a3 n (burst l p x (k + 1)) := by
            rw [← HT.out] at hown
            have e0 : (burst l p x (k + 1)).length = n := by rw [burst_len, HL.out]
            rw [← e0] at hown
            obtain ⟨a3, c3, h, _, _, hs⟩ := seg_own hown
            rw [e0] at h hs
            exact ⟨a3, c3, h, hs⟩
          have HS3 := hide hseg3
          have HB3 := hide (HB2.out.trans (hbel.mono hsw))
          clear hown hseg3 hbel
          go_wp2
          go_roundw
          case rel => exact ⟨k + 1, a3, c3, by go_num, rfl, by omega, HS3, HB3⟩
          case measure => simp [intOf]; omega
      · rw [if_neg hbit] at e1
        have HT : Hid (burst l p x (k + 1) = burst l p x k) := by show _ = _; rw [burst, if_neg (fun h => hbit h.1)]
        clear hbit
        go_wp2
        go_roundw
        case rel => exact ⟨k + 1, b, c, by go_num, rfl, by omega, by rw [HT.out]; exact HS2, HB2⟩
        case measure => simp [intOf]; omega
    · obtain rfl : k = 32 := by omega
      have HH3 := hide (HH1.out.later HB2.out)
      have HSA := hide (HS1.out.below HB2.out (Nat.le_refl _))
      have HBF := hide (HB.out.trans (HB2.out.mono hsz))
      have HYB := hide (burst_byt HY.out p x 32)
      obtain ⟨s, hs⟩ : ∃ s, Hid (upd 0#32 l = s) := ⟨_, hide rfl⟩
      obtain ⟨t, ht⟩ : ∃ t, Hid (upd 0#32 (burst l p x 32) = t) := ⟨_, hide rfl⟩
      obtain ⟨L, hL⟩ : ∃ L, Hid (burst l p x 32 = L) := ⟨_, hide rfl⟩
      rw [hL.out] at ht HS2 HYB
      have LAW2 : Hid (s = t ↔ l = L) := by show _ ↔ _; rw [← hs.out, ← ht.out, ← hL.out]; exact LAW.out
      go_wp2_with fail
      refine (sum_any a n cap l _ HSA.out HY.out HH3.out).mono ?_
      rintro e wr ⟨rfl, rfl⟩
      rw [hs.out]
      go_wp2_with fail
      refine (sum_any b n c L _ HS2.out HYB.out HH3.out).mono ?_
      rintro e wr ⟨rfl, rfl⟩
      rw [ht.out]
      go_wp2_with fail
      refine (same_any a b n n cap c l L _ HSA.out HS2.out).mono ?_
      rintro e w4 ⟨rfl, q, rfl⟩
      have HQ := hide (below_drewN HBF.out q)
      by_cases hst : s = t
      · subst hst
        have : sameB l L = true := same_yes (LAW2.out.1 rfl)
        rw [this]
        go_wp2
        go_ret
        exact ⟨rfl, HQ.out⟩
      · have hf : ¬ s.toNat = t.toNat := fun e => hst (BitVec.eq_of_toNat_eq e)
        have h2 : sameB l L = false := by simp only [sameB, decide_eq_false_iff_not]; exact fun e => hst (LAW2.out.2 e)
        have d : ((s.toNat : Int) == (t.toNat : Int)) = false := by simp only [beq_eq_false_iff_ne, ne_eq]; omega
        rw [h2]
        go_wp2
        go_ret
        exact ⟨rfl, HQ.out⟩

set_option maxRecDepth 100000 in
/-- For every argument and every world that holds the sentinels. -/
theorem contract (H : Type) (enc : TypeId × Value → H) (W : World) (base : Nat) (args : Array Value) (ds gs : List (DataW H)) (before : List MemPlace)
    (hval : ∀ (j : Nat) t v, Tryd.f5.params[j]? = some t → args[j]? = some v → Value.okWide Tryd.prog W .any base t v)
    (hW : DataW.Whole enc Tryd.prog Tryd.f5.params.toList Rows.crcBurstsSpec.vars false W args.toList ds gs before)
    (hsz : (DataW.weightsEach Tryd.prog (Tryd.f5.params.toList ++ (OpenSpec.ofChange Rows.crcBurstsSpec).bare.plain.varTypes Tryd.prog) (ds ++ gs)).all (· ≤ reachBytes) = true)
    (hL : laidMetH Tryd.prog Rows.crcBurstsRow.laid W) :
    Calls Tryd.prog 5 args W fun e W' => ∃ v, e = .returned v ∧ Rows.crcBurstsSpec.post enc Tryd.prog Tryd.f5 false true false false W args v W' := by
  have hW' := hW
  obtain ⟨p, q, hA0, hV, rfl, hfz, hnd⟩ := hW
  have hA : DataW.TrodAll enc Tryd.prog W 0 (fun _ => true) true Tryd.f5.params.toList args.toList ds p := hA0
  rw [Tryd.params5] at hA hval hsz
  obtain ⟨v0, vs0, d0, ds0, p0, q0, hargs, rfl, rfl, h0, r0⟩ := trodAll_cons hA
  obtain ⟨v1, vs1, d1, ds1, p1, q1, rfl, rfl, rfl, h1, r1⟩ := trodAll_cons r0
  obtain ⟨v2, vs2, d2, ds2, p2, q2, rfl, rfl, rfl, h2, r2⟩ := trodAll_cons r1
  obtain ⟨rfl, rfl, rfl⟩ := trodAll_nil r2
  obtain rfl : args = #[v0, v1, v2] := by cases args; simp_all
  obtain ⟨rfl, rfl⟩ := trodVars_none hV
  obtain ⟨a0, n0, cap0, rfl⟩ := okWide_slice Tryd.underlying26 (hval 0 26 v0 rfl rfl)
  have k0 := h0
  have lt0 : ∀ x ∈ p0, x.block < W.heap.size := by obtain ⟨m, hm⟩ := k0; exact DataW.trod_lt m _ _ _ hm
  obtain ⟨fuel0, hf0⟩ := h0
  obtain ⟨l0, hseg0, hbyt0, hcap0, hdat0⟩ := open_bytes hf0
  obtain ⟨y1, rfl, rfl, rfl, w1⟩ := open_int Tryd.underlying3 (hval 1 3 v1 rfl rfl) h1
  obtain ⟨y2, rfl, rfl, rfl, w2⟩ := open_int Tryd.underlying23 (hval 2 23 v2 rfl rfl) h2
  have hreach0 : cap0 ≤ 140737488351232 := by
    rcases hdat0 with ⟨_, _, h⟩ | ⟨elems, spare, hd, he, hc⟩
    · omega
    · have hs := sized_slice hsz (j := 0) (t := 26) (e := 5) (elems := elems) (spare := spare) rfl (by rw [show d0 = _ from hd]; rfl) Tryd.underlying26
      rw [bytes5] at hs
      simp only [reachBytes] at hs
      omega
  have hH := hal_of_laid hL
  clear hA0
  have b1 := bounds_i64 w1
  have b2 := bounds_u32 w2
  obtain ⟨reg2, rfl⟩ : ∃ r : R, y2 = (r.toNat : Int) := ⟨BitVec.ofNat 32 y2.toNat, by rw [BitVec.toNat_ofNat]; omega⟩

  refine (walk a0 n0 cap0 l0 y1 reg2 W hseg0 hbyt0 (by omega) b1.1 b1.2 hH).mono fun e W' ⟨he, bel⟩ => ?_
  subst he
  exact ⟨_, rfl, _, _, _, [], _, [], hW', trodAll_mk1 (shut_bool Tryd.underlying4 _), (trodAll_cons_mk (Below.trod laidOut (by kernel_rfl) (of_decide_eq_true (by kernel_rfl)) k0 bel lt0) (trodAll_cons_mk (shut_int Tryd.underlying3 w1) (trodAll_cons_mk (shut_int Tryd.underlying23 w2) trodAll_mk0))), rfl, bel.frame _, fun h => by cases h⟩

theorem reads (os : Os) {H : Type} (enc : TypeId × Value → H) : ∃ places, DataW.whole enc Tryd.prog ((World.doorLaid Tryd.prog 104 os).forCall (fun _ _ => 0) ⟨#[], #[.slice none 0 0, .int .i64 0, .int .u32 0], []⟩).memory Tryd.f5.params.toList Rows.crcBurstsSpec.vars false (#[Value.slice none 0 0, .int .i64 0, .int .u32 0] : Array Value).toList 8 = some ([.nil, .lit (.int .i64 0), .lit (.int .u32 0)], [], places) :=
  ⟨[], by kernel_rfl⟩

set_option maxRecDepth 100000 in
theorem lifted (os : Os) (started : os.Started) (H : Type) (enc : TypeId × Value → H) (F : Stop.Interp) :
    ReturnsInHanded {} Tryd.checked os 5 .any ((OpenSpec.ofChange Rows.crcBurstsSpec).preRow enc Tryd.prog Tryd.f5 Rows.crcBurstsRow.domain false Rows.crcBurstsRow.laid) (((OpenSpec.ofChange Rows.crcBurstsSpec).at F).post enc Tryd.prog Tryd.f5 false true false false) := by
  obtain ⟨places, hx⟩ := reads os enc
  refine returnsInHanded_of_row (C := Tryd.checked) (s := (OpenSpec.ofChange Rows.crcBurstsSpec)) own started (by kernel_rfl) Tryd.func5
    (witness_row_atRef (enc := enc) (C := Tryd.checked) false (World.doorLaid Tryd.prog 104 os) #[.slice none 0 0, .int .i64 0, .int .u32 0] rfl (by kernel_rfl) (by kernel_rfl) (by kernel_rfl)
      (OpenSpec.preRow_of_cond 8 hx (by kernel_rfl) (fun k hk => by cases hk) (by kernel_rfl) (door_met os _))) ?_
  intro W base args ds gs before hval hW _ hcond hsz hL _ _
  exact contract H enc W base args ds gs before hval hW hsz hL

theorem said : Rows.CrcBurstsSaid :=
  OpenClaim.holds_of_cond 5 Tryd.f5 rfl rfl rfl rfl rfl rfl rfl ⟨rfl, rfl, rfl, rfl, rfl⟩ rfl rfl rfl rfl rfl (by kernel_rfl) Tryd.func5 (by kernel_rfl)
    (of_decide_eq_true (by kernel_rfl)) (by unfold Func.isWrapper; first | (rw [if_pos (by decide +kernel)]; kernel_rfl) | (rw [if_neg (by decide +kernel)]; exact ⟨rfl, rfl⟩))
    (fun os started H enc _ F => by rw [OpenClaim.pre_eq_preRow]; exact lifted os started H enc F)

theorem plain (f : FuncId) (fn : Func) (hf : Tryd.pinned.checked.prog.funcNamed "moot/mootlaw2.CrcBursts" = some f) (hfn : Tryd.pinned.checked.prog.funcs[f]? = some fn) :
    false = Tryd.pinned.checked.prog.looks [] ∧ ∀ (j : Nat) t, fn.params[j]? = some t → Tryd.pinned.checked.prog.wantsStandIn t = false := by
  obtain rfl : f = 5 := Option.some.inj ((show Tryd.prog.funcNamed "moot/mootlaw2.CrcBursts" = some 5 by kernel_rfl).symm.trans hf) |>.symm
  obtain rfl : fn = Tryd.f5 := (Option.some.inj (Tryd.func5.symm.trans hfn)).symm
  refine ⟨by kernel_rfl, fun j t ht => ?_⟩
  rw [Tryd.params5] at ht
  have hm : t ∈ [26, 3, 23] := by simpa using Array.mem_of_getElem? ht
  have hall : ([26, 3, 23].all fun u => !Tryd.prog.wantsStandIn u) = true := by kernel_rfl
  exact (show Tryd.prog.wantsStandIn t = false by simpa using List.all_eq_true.1 hall t hm)

end crcBursts
theorem crcBursts_proved : Rows.CrcBurstsCardSaid :=
  Claim7.holds_tied_plain_at .later [] _ _ _ _ crcBursts.said (fun _ h => by cases h) (by kernel_rfl) (fun _ h => by cases h) crcBursts_row_tie rfl ⟨rfl, rfl⟩ (by kernel_rfl) rfl crcBursts.plain (by kernel_rfl)
#print axioms crcBursts_proved
end Go.Proofs.YtibdgnegdnapoabDoor
