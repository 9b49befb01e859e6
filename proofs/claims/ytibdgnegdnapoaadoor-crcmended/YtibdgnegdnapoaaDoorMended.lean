/- Proved: for every list of bytes and numbers want and other, CrcMended answers true: any bytes get any sum that is wanted by the four bytes of Mend behind them, and by no four others. The table of sixteen is as the program's text lays it. -/
import Derived.Test.YtibdgnegdnapoaaDoorMend
import Derived.Test.YtibdgnegdnapoaaDoorCBytes
import Derived.Test.YtibdgnegdnapoaaDoorFlip
import Derived.Test.YtibdgnegdnapoaaDoorCLaid
import Derived.Test.YtibdgnegdnapoaaDoorArgs
import Derived.Test.YtibdgnegdnapoaaDoorCards
import Derived.Test.YtibdgnegdnapoaaDoorTie
import Derived.Deep.DeepHandedRow
import Derived.Deep.DeepWitnessRowRef
namespace Go.Proofs.YtibdgnegdnapoaaDoor
namespace crcMended
open Go.ChangeShapes Go.WideShapes Go.ChangeAt Go.RowKit Go.Wire1 Go.Crc2

theorem and255 (m : Nat) (h : m < 4294967296) : bits .and .u32 (m : Int) 255 = ((m % 256 : Nat) : Int) := by
  have := u32_and_nat m 255 h (by decide)
  rw [show (255 : Nat) = 2 ^ 8 - 1 by decide, Nat.and_two_pow_sub_one_eq_mod] at this
  exact this
theorem bts (c : R) : ∃ x0 x1 x2 x3 : Nat, (x0 < 256 ∧ x1 < 256 ∧ x2 < 256 ∧ x3 < 256) ∧ bits .and .u32 (c.toNat : Int) 255 = (x0 : Int) ∧ bits .and .u32 (Int.ofNat c.toNat / (256 : Int)) 255 = (x1 : Int) ∧ bits .and .u32 (Int.ofNat c.toNat / (65536 : Int)) 255 = (x2 : Int) ∧ bits .and .u32 (Int.ofNat c.toNat / (16777216 : Int)) 255 = (x3 : Int) ∧ Hid (bt c 0 = (x0 : Int)) ∧ Hid (bt c 1 = (x1 : Int)) ∧ Hid (bt c 2 = (x2 : Int)) ∧ Hid (bt c 3 = (x3 : Int)) := by
  have h := c.isLt
  refine ⟨c.toNat / 2 ^ (8 * 0) % 256, c.toNat / 2 ^ (8 * 1) % 256, c.toNat / 2 ^ (8 * 2) % 256, c.toNat / 2 ^ (8 * 3) % 256, by omega, ?_, ?_, ?_, ?_, rfl, rfl, rfl, rfl⟩
  · rw [and255 _ h]; simp
  · have e : Int.ofNat c.toNat / (256 : Int) = ((c.toNat / 256 : Nat) : Int) := by simp only [Int.ofNat_eq_natCast]; omega
    rw [e, and255 _ (by omega)]
  · have e : Int.ofNat c.toNat / (65536 : Int) = ((c.toNat / 65536 : Nat) : Int) := by simp only [Int.ofNat_eq_natCast]; omega
    rw [e, and255 _ (by omega)]
  · have e : Int.ofNat c.toNat / (16777216 : Int) = ((c.toNat / 16777216 : Nat) : Int) := by simp only [Int.ofNat_eq_natCast]; omega
    rw [e, and255 _ (by omega)]

theorem law1 (l : List Int) (want : R) : upd 0#32 (l ++ fb (mend (upd 0#32 l) want)) = want := by rw [upd_append, mend_ok]
theorem law2 (l : List Int) (want o : R) (h : o ≠ 0#32) : upd 0#32 (l ++ fb (mend (upd 0#32 l) want ^^^ o)) ≠ want := by
  intro e
  rw [upd_append] at e
  have := mend_only (upd 0#32 l) _ _ (e.trans (mend_ok (upd 0#32 l) want).symm)
  apply h
  have h2 := xor_cancel (a := mend (upd 0#32 l) want) (b := o) (c := 0#32) (by rw [BitVec.xor_zero]; exact this)
  exact h2
/-- The list with the first k of the last four bytes changed. -/
def part (l : List Int) (m o : R) (k : Nat) : List Int := l ++ ((fb (m ^^^ o)).take k ++ (fb m).drop k)
theorem part_len (l : List Int) (m o : R) (k : Nat) (h : k ≤ 4) : (part l m o k).length = l.length + 4 := by simp [part, fb]; omega
theorem part_zero (l : List Int) (m o : R) : part l m o 0 = l ++ fb m := by simp [part]
theorem part_four (l : List Int) (m o : R) : part l m o 4 = l ++ fb (m ^^^ o) := by simp [part, fb]
theorem part_at (l : List Int) (m o : R) (k : Nat) (h : k < 4) : (part l m o k).getD (l.length + k) 0 = bt m k := by
  rcases (by omega : k = 0 ∨ k = 1 ∨ k = 2 ∨ k = 3) with rfl | rfl | rfl | rfl <;> simp [part, fb]
theorem part_succ (l : List Int) (m o : R) (k : Nat) (h : k < 4) : part l m o (k + 1) = (part l m o k).set (l.length + k) (bx (bt m k) (bt o k)) := by
  rcases (by omega : k = 0 ∨ k = 1 ∨ k = 2 ∨ k = 3) with rfl | rfl | rfl | rfl <;> simp [part, fb, bt_xor]
theorem part_byt {l : List Int} (h : Byt l) (m o : R) (k : Nat) : Byt (part l m o k) := byt_app h (byt_app (byt_take (fb_byt _) _) (byt_drop (fb_byt _) _))

set_option maxHeartbeats 2000000 in
set_option maxRecDepth 100000 in
theorem walk (a : Option Addr) (n cap : Nat) (l : List Int) (want o : R) (w : World) (hs : Seg w a n l) (hb : Byt l) (hreach : n ≤ 140737488351232) (hH : Hal w) :
    Calls Tryd.prog 7 #[.slice a n cap, .int .u32 (want.toNat : Int), .int .u32 (o.toNat : Int)] w fun e w' => e = .returned (.bool true) ∧ Below w.heap.size w w' := by
  obtain ⟨i0, hi, hz0, hz1, hz2⟩ := info_parts Tryd.info5
  have HH : Hid (Hal w) := hH
  have HS : Hid (Seg w a n l) := hs
  have HY : Hid (Byt l) := hb
  have HL : Hid (l.length = n) := hs.1
  have hl : l.length ≤ 140737488351232 := by rw [hs.1]; exact hreach
  have L1 := hide (law1 l want)
  have L2 : Hid (o ≠ 0#32 → upd 0#32 (l ++ fb (mend (upd 0#32 l) want ^^^ o)) ≠ want) := law2 l want o
  clear hH hs hb
  obtain ⟨c, hc⟩ : ∃ c, Hid (upd 0#32 l = c) := ⟨_, rfl⟩
  rw [hc.out] at L1 L2
  obtain ⟨m, hm⟩ : ∃ m, Hid (mend c want = m) := ⟨_, rfl⟩
  rw [hm.out] at L1 L2
  go_enter Tryd.func7, Tryd.ntmps7
  go_wp2_with fail
  refine (known_any _ HH.out).mono ?_
  rintro e w1 ⟨rfl, hbel⟩
  have HH1 : Hid (Hal w1) := HH.out.later hbel
  have HS1 : Hid (Seg w1 a n l) := HS.out.below hbel (Nat.le_refl _)
  have HB : Hid (Below w.heap.size w w1) := hbel
  have hsz := hbel.size
  clear hbel
  go_wp2_with fail
  refine (sum_any a n cap l _ HS1.out HY.out HH1.out).mono ?_
  rintro e w1 ⟨rfl, rfl⟩
  rw [hc.out]
  go_wp2_with fail
  refine (mend_any c want _).mono ?_
  rintro e w2 ⟨rfl, hw2⟩
  rw [hm.out] at hw2
  have HB2 : Hid (Below w1.heap.size w1 w2) := by rw [hw2]; exact (Below.refl _ _).alloc (Nat.le_refl _) _
  have HM2 : Hid (Seg w2 (some ⟨w1.heap.size, 0, none⟩) 4 (fb m)) := by rw [hw2]; exact seg_cells w1 (fb m) _ _ rfl (by simp [fb, maxLen])
  have HH2 : Hid (Hal w2) := HH1.out.later HB2.out
  have HS2 : Hid (Seg w2 a n l) := HS1.out.below HB2.out (Nat.le_refl _)
  have HBw : Hid (Below w.heap.size w w2) := HB.out.trans (HB2.out.mono hsz)
  have hsz2 := HBw.out.size
  clear hw2
  generalize w1.heap.size = G at *
  go_wp2_with fail
  refine (bytes_any a n cap l _ HS2.out (by omega)).mono ?_
  rintro e w3 ⟨v, rfl, hown, hbel⟩
  have HB3 : Hid (Below w2.heap.size w2 w3) := hbel
  have hsz3 := hbel.size
  clear hbel
  go_wp2_with fail
  go_loopw [9, 10] (fun s i wr => ∃ k : Nat, i = .int .i64 (k : Int) ∧ k ≤ 4 ∧ wr.ownsRow w2.heap.size 5 1 s (l ++ (fb m).take k).length ((l ++ (fb m).take k).map (Value.int .u8)) ∧ Below w2.heap.size w2 wr) (fun _ i _ => 4 - (intOf i).toNat)
  case atStart => exact ⟨0, rfl, by omega, by simpa using hown, HB3.out⟩
  case round =>
    obtain ⟨k, rfl, hk, hown, hbel⟩ := hrel
    have hsw := hbel.size
    by_cases hlt : k < 4
    · have hpl : (l ++ (fb m).take k).length ≤ 140737488351236 := by rw [List.length_append, List.length_take]; omega
      have HT : Hid (l ++ (fb m).take (k + 1) = (l ++ (fb m).take k) ++ [(fb m).getD k 0]) := by
        show _ = _
        rcases (by omega : k = 0 ∨ k = 1 ∨ k = 2 ∨ k = 3) with rfl | rfl | rfl | rfl <;> simp [fb]
      obtain ⟨gb, go, ge, hcm⟩ := (HM2.out.below hbel (Nat.le_refl _)).2.2 (by decide)
      cases ge
      have cm : wr.cell? ⟨G, k, none⟩ = some (.int .u8 ((fb m).getD k 0)) := by have := hcm k hlt; rwa [Nat.zero_add] at this
      clear hcm
      generalize (fb m).getD k 0 = z at *
      generalize l ++ (fb m).take k = pre at *
      go_wp2_with (first
        | (at_builtin; refine wpList_append_own _ rfl _ _ 22 rfl w2.heap.size 5 i0 (.int .u8 0) 1 1 Tryd.underlying22 hi hz0 hz1 hz2 rfl (by decide) _ _ _ rfl (hown.alloc _) ⟨wr.heap.size, 0, none⟩ 1 1 [.int .u8 z] rfl rfl ?c1 ?c2 ?c3 ?c4 ?c5 ?_))
      case c1 =>
        intro j u hj
        match j, hj with
        | 0, hj => simp at hj; subst hj; simp [Addr.add]
      case c2 => intro u hu; simp at hu; subst hu; rfl
      case c3 => unfold maxLen; omega
      case c4 => omega
      case c5 => simp; omega
      intro v' w4 hown' hgrow _
      have R := push hsw hown hbel hown' hgrow
      clear hown' hgrow hown
      go_wp2
      go_roundw
      case rel => rw [← HT.out] at R; exact ⟨k + 1, by go_num, by omega, R.1, R.2⟩
      case measure => simp [intOf]; omega
    · obtain rfl : k = 4 := by omega
      have HT : Hid (l ++ (fb m).take 4 = part l m o 0) := by
        show _ = _
        rw [List.take_of_length_le (by simp [fb]), part_zero]
      rw [HT.out] at hown
      have hpl : (part l m o 0).length = n + 4 := by rw [part_len _ _ _ _ (by decide), HL.out]
      obtain ⟨g, gc, rfl, mine⟩ := mine_of hown (by omega)
      rw [hpl] at mine
      simp only [hpl]
      have HSP := hide mine.seg
      have HMI := hide mine
      have HG : Hid (0 ≠ g) := by have h1 := HH2.out.lt; have h2 := mine.2.2.2.2; show _ ≠ _; omega
      have HHr := hide (HH2.out.later hbel)
      have HBr := hide (HBw.out.trans (hbel.mono hsz2))
      have YP := hide (part_byt HY.out m o 0)
      have HP0 : Hid (upd 0#32 (part l m o 0) = want) := by show _ = _; rw [part_zero]; exact L1.out
      clear hown hbel HT mine hpl
      have hrange : n + 4 ≤ 140737488351236 := by omega
      go_wp2_with fail
      refine (sum_any _ (n + 4) gc (part l m o 0) _ HSP.out YP.out HHr.out).mono ?_
      rintro e wr ⟨rfl, rfl⟩
      rw [HP0.out]
      by_cases ho : o = 0#32
      · have ho' : o.toNat = 0 := by rw [ho]; rfl
        rw [ho'] 
        go_wp2
        go_ret
        exact ⟨rfl, HBr.out⟩
      · have bo := r_lt o
        have ho' : 0 < o.toNat := by
          rcases Nat.eq_zero_or_pos o.toNat with h | h
          · exact absurd (BitVec.eq_of_toNat_eq (by rw [h]; rfl)) ho
          · exact h
        have LAW : Hid (upd 0#32 (part l m o 4) ≠ want) := by show _ ≠ _; rw [part_four]; exact L2.out ho
        have d0 : ((o.toNat : Int) == 0) = false := by simp only [beq_eq_false_iff_ne, ne_eq]; omega
        go_wp2_with fail
        go_loopw [13] (fun i wr => ∃ k : Nat, i = .int .i64 (k : Int) ∧ k ≤ 4 ∧ Mine wr w2.heap.size g (n + 4) gc (part l m o k) ∧ Hid (Hal wr) ∧ Hid (Below w.heap.size w wr)) (fun i _ => 4 - (intOf i).toNat)
        case atStart => exact ⟨0, rfl, by omega, HMI.out, HHr, HBr⟩
        case round =>
        clear HSP HMI HHr HBr YP HP0
        obtain ⟨k, rfl, hk, mine, HHr, HBr⟩ := hrel
        by_cases hlt : k < 4
        · have hgB : w2.heap.size ≤ g := mine.2.2.2.2
          have ck : wr.cell? ⟨g, n + k, none⟩ = some (.int .u8 (bt m k)) := by
            obtain ⟨b', o', e', hc'⟩ := mine.seg.2.2 (by omega)
            cases e'
            have := hc' (n + k) (by omega)
            rw [Nat.zero_add] at this
            rw [this, ← HL.out, part_at _ _ _ _ hlt]
          have hfr := mine.1.frozenAt (n + k)
          have ex := x8 (bt_byt m k) (bt_byt o k)
          have HSU : Hid (part l m o (k + 1) = (part l m o k).set (n + k) (bx (bt m k) (bt o k))) := by show _ = _; rw [part_succ _ _ _ _ hlt, HL.out]
          have bm := bt_byt m k
          have HMM := hide (mine.store (n + k) (bx (bt m k) (bt o k)))
          rw [← HSU.out] at HMM
          have HBB := hide (HBr.out.setCell (p := ⟨g, n + k, none⟩) (Nat.le_trans hsz2 hgB) (.int .u8 (bx (bt m k) (bt o k))))
          have HHB := hide (HHr.out.set (b := g) (off := n + k) (v := .int .u8 (bx (bt m k) (bt o k))) HG.out)
          clear mine
          obtain ⟨x0, x1, x2, x3, ⟨l0, l1, l2, l3⟩, q0, q1, q2, q3, p0, p1, p2, p3⟩ := bts o
          generalize bx (bt m k) (bt o k) = y at *
          rcases (by omega : k = 0 ∨ k = 1 ∨ k = 2 ∨ k = 3) with rfl | rfl | rfl | rfl
          · rw [p0.out] at ex
            simp only [Nat.add_zero, Int.ofNat_eq_natCast] at *
            go_wp2_with fail
            go_region
            go_wp2
            go_roundw
            case rel => exact ⟨_, by go_num, by omega, HMM.out, hide (HHB.out.drewN 1), hide HBB.out.drew⟩
            case measure => simp [intOf]
          · rw [p1.out] at ex
            simp only [Int.ofNat_eq_natCast] at *
            go_wp2_with fail
            go_region
            go_wp2
            go_roundw
            case rel => exact ⟨_, by go_num, by omega, HMM.out, hide (HHB.out.drewN 1), hide HBB.out.drew⟩
            case measure => simp [intOf]
          · rw [p2.out] at ex
            simp only [Int.ofNat_eq_natCast] at *
            go_wp2_with fail
            go_region
            go_wp2
            go_roundw
            case rel => exact ⟨_, by go_num, by omega, HMM.out, hide (HHB.out.drewN 1), hide HBB.out.drew⟩
            case measure => simp [intOf]
          · rw [p3.out] at ex
            simp only [Int.ofNat_eq_natCast] at *
            go_wp2_with fail
            go_region
            go_wp2
            go_roundw
            case rel => exact ⟨_, by go_num, by omega, HMM.out, hide (HHB.out.drewN 1), hide HBB.out.drew⟩
            case measure => simp [intOf]
        · obtain rfl : k = 4 := by omega
          have HSP := hide mine.seg
          have YP := hide (part_byt HY.out m o 4)
          clear mine
          obtain ⟨t, ht⟩ : ∃ t, Hid (upd 0#32 (part l m o 4) = t) := ⟨_, rfl⟩
          rw [ht.out] at LAW
          go_wp2_with fail
          refine (sum_any _ (n + 4) gc (part l m o 4) _ HSP.out YP.out HHr.out).mono ?_
          rintro e wr ⟨rfl, rfl⟩
          rw [ht.out]
          go_wp2
          go_ret
          refine ⟨?_, HBr.out⟩
          have hf : ¬ t.toNat = want.toNat := fun e => LAW.out (BitVec.eq_of_toNat_eq e)
          simp
          omega

set_option maxRecDepth 100000 in
/-- For every argument and every world that holds the sentinels. -/
theorem contract (H : Type) (enc : TypeId × Value → H) (W : World) (base : Nat) (args : Array Value) (ds gs : List (DataW H)) (before : List MemPlace)
    (hval : ∀ (j : Nat) t v, Tryd.f7.params[j]? = some t → args[j]? = some v → Value.okWide Tryd.prog W .any base t v)
    (hW : DataW.Whole enc Tryd.prog Tryd.f7.params.toList Rows.crcMendedSpec.vars false W args.toList ds gs before)
    (hsz : (DataW.weightsEach Tryd.prog (Tryd.f7.params.toList ++ (OpenSpec.ofChange Rows.crcMendedSpec).bare.plain.varTypes Tryd.prog) (ds ++ gs)).all (· ≤ reachBytes) = true)
    (hL : laidMetH Tryd.prog Rows.crcMendedRow.laid W) :
    Calls Tryd.prog 7 args W fun e W' => ∃ v, e = .returned v ∧ Rows.crcMendedSpec.post enc Tryd.prog Tryd.f7 false true false false W args v W' := by
  have hW' := hW
  obtain ⟨p, q, hA0, hV, rfl, hfz, hnd⟩ := hW
  have hA : DataW.TrodAll enc Tryd.prog W 0 (fun _ => true) true Tryd.f7.params.toList args.toList ds p := hA0
  rw [Tryd.params7] at hA hval hsz
  obtain ⟨v0, vs0, d0, ds0, p0, q0, hargs, rfl, rfl, h0, r0⟩ := trodAll_cons hA
  obtain ⟨v1, vs1, d1, ds1, p1, q1, rfl, rfl, rfl, h1, r1⟩ := trodAll_cons r0
  obtain ⟨v2, vs2, d2, ds2, p2, q2, rfl, rfl, rfl, h2, r2⟩ := trodAll_cons r1
  obtain ⟨rfl, rfl, rfl⟩ := trodAll_nil r2
  obtain rfl : args = #[v0, v1, v2] := by cases args; simp_all
  obtain ⟨rfl, rfl⟩ := trodVars_none hV
  obtain ⟨a0, n0, cap0, rfl⟩ := okWide_slice Tryd.underlying22 (hval 0 22 v0 rfl rfl)
  have k0 := h0
  have lt0 : ∀ x ∈ p0, x.block < W.heap.size := by obtain ⟨m, hm⟩ := k0; exact DataW.trod_lt m _ _ _ hm
  obtain ⟨fuel0, hf0⟩ := h0
  obtain ⟨l0, hseg0, hbyt0, hcap0, hdat0⟩ := open_bytes hf0
  obtain ⟨y1, rfl, rfl, rfl, w1⟩ := open_int Tryd.underlying24 (hval 1 24 v1 rfl rfl) h1
  obtain ⟨y2, rfl, rfl, rfl, w2⟩ := open_int Tryd.underlying24 (hval 2 24 v2 rfl rfl) h2
  have hreach0 : cap0 ≤ 140737488351232 := by
    rcases hdat0 with ⟨_, _, h⟩ | ⟨elems, spare, hd, he, hc⟩
    · omega
    · have hs := sized_slice hsz (j := 0) (t := 22) (e := 5) (elems := elems) (spare := spare) rfl (by rw [show d0 = _ from hd]; rfl) Tryd.underlying22
      rw [bytes5] at hs
      simp only [reachBytes] at hs
      omega
  have hH := hal_of_laid hL
  clear hA0
  have b1 := bounds_u32 w1
  obtain ⟨reg1, rfl⟩ : ∃ r : R, y1 = (r.toNat : Int) := ⟨BitVec.ofNat 32 y1.toNat, by rw [BitVec.toNat_ofNat]; omega⟩
  have b2 := bounds_u32 w2
  obtain ⟨reg2, rfl⟩ : ∃ r : R, y2 = (r.toNat : Int) := ⟨BitVec.ofNat 32 y2.toNat, by rw [BitVec.toNat_ofNat]; omega⟩

  refine (walk a0 n0 cap0 l0 reg1 reg2 W hseg0 hbyt0 (by omega) hH).mono fun e W' ⟨he, bel⟩ => ?_
  subst he
  exact ⟨_, rfl, _, _, _, [], _, [], hW', trodAll_mk1 (shut_bool Tryd.underlying4 _), (trodAll_cons_mk (Below.trod laidOut (by kernel_rfl) (of_decide_eq_true (by kernel_rfl)) k0 bel lt0) (trodAll_cons_mk (shut_int Tryd.underlying24 w1) (trodAll_cons_mk (shut_int Tryd.underlying24 w2) trodAll_mk0))), rfl, bel.frame _, fun h => by cases h⟩

theorem reads (os : Os) {H : Type} (enc : TypeId × Value → H) : ∃ places, DataW.whole enc Tryd.prog ((World.doorLaid Tryd.prog 104 os).forCall (fun _ _ => 0) ⟨#[], #[.slice none 0 0, .int .u32 0, .int .u32 0], []⟩).memory Tryd.f7.params.toList Rows.crcMendedSpec.vars false (#[Value.slice none 0 0, .int .u32 0, .int .u32 0] : Array Value).toList 8 = some ([.nil, .lit (.int .u32 0), .lit (.int .u32 0)], [], places) :=
  ⟨[], by kernel_rfl⟩

set_option maxRecDepth 100000 in
theorem lifted (os : Os) (started : os.Started) (H : Type) (enc : TypeId × Value → H) (F : Stop.Interp) :
    ReturnsInHanded {} Tryd.checked os 7 .any ((OpenSpec.ofChange Rows.crcMendedSpec).preRow enc Tryd.prog Tryd.f7 Rows.crcMendedRow.domain false Rows.crcMendedRow.laid) (((OpenSpec.ofChange Rows.crcMendedSpec).at F).post enc Tryd.prog Tryd.f7 false true false false) := by
  obtain ⟨places, hx⟩ := reads os enc
  refine returnsInHanded_of_row (C := Tryd.checked) (s := (OpenSpec.ofChange Rows.crcMendedSpec)) own started (by kernel_rfl) Tryd.func7
    (witness_row_atRef (enc := enc) (C := Tryd.checked) false (World.doorLaid Tryd.prog 104 os) #[.slice none 0 0, .int .u32 0, .int .u32 0] rfl (by kernel_rfl) (by kernel_rfl) (by kernel_rfl)
      (OpenSpec.preRow_of_cond 8 hx (by kernel_rfl) (fun k hk => by cases hk) (by kernel_rfl) (door_met os _))) ?_
  intro W base args ds gs before hval hW _ hcond hsz hL _ _
  exact contract H enc W base args ds gs before hval hW hsz hL

theorem said : Rows.CrcMendedSaid :=
  OpenClaim.holds_of_cond 7 Tryd.f7 rfl rfl rfl rfl rfl rfl rfl ⟨rfl, rfl, rfl, rfl, rfl⟩ rfl rfl rfl rfl rfl (by kernel_rfl) Tryd.func7 (by kernel_rfl)
    (of_decide_eq_true (by kernel_rfl)) (by unfold Func.isWrapper; first | (rw [if_pos (by decide +kernel)]; kernel_rfl) | (rw [if_neg (by decide +kernel)]; exact ⟨rfl, rfl⟩))
    (fun os started H enc _ F => by rw [OpenClaim.pre_eq_preRow]; exact lifted os started H enc F)

theorem plain (f : FuncId) (fn : Func) (hf : Tryd.pinned.checked.prog.funcNamed "moot/mootlaw2.CrcMended" = some f) (hfn : Tryd.pinned.checked.prog.funcs[f]? = some fn) :
    false = Tryd.pinned.checked.prog.looks [] ∧ ∀ (j : Nat) t, fn.params[j]? = some t → Tryd.pinned.checked.prog.wantsStandIn t = false := by
  obtain rfl : f = 7 := Option.some.inj ((show Tryd.prog.funcNamed "moot/mootlaw2.CrcMended" = some 7 by kernel_rfl).symm.trans hf) |>.symm
  obtain rfl : fn = Tryd.f7 := (Option.some.inj (Tryd.func7.symm.trans hfn)).symm
  refine ⟨by kernel_rfl, fun j t ht => ?_⟩
  rw [Tryd.params7] at ht
  have hm : t ∈ [22, 24, 24] := by simpa using Array.mem_of_getElem? ht
  have hall : ([22, 24, 24].all fun u => !Tryd.prog.wantsStandIn u) = true := by kernel_rfl
  exact (show Tryd.prog.wantsStandIn t = false by simpa using List.all_eq_true.1 hall t hm)

end crcMended
theorem crcMended_proved : Rows.CrcMendedCardSaid :=
  Claim7.holds_tied_plain_at .later [] _ _ _ _ crcMended.said (fun _ h => by cases h) (by kernel_rfl) (fun _ h => by cases h) crcMended_row_tie rfl ⟨rfl, rfl⟩ (by kernel_rfl) rfl crcMended.plain (by kernel_rfl)
#print axioms crcMended_proved
end Go.Proofs.YtibdgnegdnapoaaDoor
