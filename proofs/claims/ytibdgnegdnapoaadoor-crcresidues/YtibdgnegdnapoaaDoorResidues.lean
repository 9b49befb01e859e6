/- Proved: for every list of bytes, CrcResidues answers true: with its own sum behind it, the lowest byte first, everything has one sum. The table of sixteen is as the program's text lays it. -/
import Derived.Test.YtibdgnegdnapoaaDoorCrc
import Derived.Test.YtibdgnegdnapoaaDoorCBytes
import Derived.Test.YtibdgnegdnapoaaDoorCMath2
import Derived.Test.YtibdgnegdnapoaaDoorCLaid
import Derived.Test.YtibdgnegdnapoaaDoorArgs
import Derived.Test.YtibdgnegdnapoaaDoorCards
import Derived.Test.YtibdgnegdnapoaaDoorTie
import Derived.Deep.DeepHandedRow
import Derived.Deep.DeepWitnessRowRef
namespace Go.Proofs.YtibdgnegdnapoaaDoor
namespace crcResidues
open Go.ChangeShapes Go.WideShapes Go.ChangeAt Go.RowKit Go.Wire1 Go.Crc2

theorem and255 (m : Nat) (h : m < 4294967296) : bits .and .u32 (m : Int) 255 = ((m % 256 : Nat) : Int) := by
  have := u32_and_nat m 255 h (by decide)
  rw [show (255 : Nat) = 2 ^ 8 - 1 by decide, Nat.and_two_pow_sub_one_eq_mod] at this
  exact this
theorem bts (c : R) : ∃ x0 x1 x2 x3 : Nat, (x0 < 256 ∧ x1 < 256 ∧ x2 < 256 ∧ x3 < 256) ∧ bits .and .u32 (c.toNat : Int) 255 = (x0 : Int) ∧ bits .and .u32 (Int.ofNat c.toNat / (256 : Int)) 255 = (x1 : Int) ∧ bits .and .u32 (Int.ofNat c.toNat / (65536 : Int)) 255 = (x2 : Int) ∧ bits .and .u32 (Int.ofNat c.toNat / (16777216 : Int)) 255 = (x3 : Int) ∧ Hid (bt c 0 = (x0 : Int)) ∧ Hid (bt c 1 = (x1 : Int)) ∧ Hid (bt c 2 = (x2 : Int)) ∧ Hid (bt c 3 = (x3 : Int)) := by
  have h := c.isLt
  refine ⟨c.toNat / 2 ^ (8 * 0) % 256, c.toNat / 2 ^ (8 * 1) % 256, c.toNat / 2 ^ (8 * 2) % 256, c.toNat / 2 ^ (8 * 3) % 256, by omega, ?_, ?_, ?_, ?_, rfl, rfl, rfl, rfl⟩
  · rw [and255 _ h]; simp
  · have e : Int.ofNat c.toNat / (256 : Int) = ((c.toNat / 256 : Nat) : Int) := by simp only [Int.ofNat_eq_natCast]; omega
    rw [e, and255 _ (by omega)]
  · have e : Int.ofNat c.toNat / (65536 : Int) = ((c.toNat / 65536 : Nat) : Int) := by simp only [Int.ofNat_eq_natCast]; omega
    rw [e, and255 _ (by omega)]
  · have e : Int.ofNat c.toNat / (16777216 : Int) = ((c.toNat / 16777216 : Nat) : Int) := by simp only [Int.ofNat_eq_natCast]; omega
    rw [e, and255 _ (by omega)]

set_option maxHeartbeats 1000000 in
set_option maxRecDepth 100000 in
theorem walk (a : Option Addr) (n cap : Nat) (l : List Int) (w : World) (hs : Seg w a n l) (hb : Byt l) (hreach : n ≤ 140737488351232) (hH : Hal w) :
    Calls Tryd.prog 5 #[.slice a n cap] w fun e w' => e = .returned (.bool true) ∧ Below w.heap.size w w' := by
  obtain ⟨i0, hi, hz0, hz1, hz2⟩ := info_parts Tryd.info5
  have HH : Hid (Hal w) := hH
  have HS : Hid (Seg w a n l) := hs
  have hl : l.length ≤ 140737488351232 := by rw [hs.1]; exact hreach
  have RES : Hid (upd 0#32 (l ++ fb (upd 0#32 l)) = 0x48674BC7#32) := residue l
  clear hH hs
  obtain ⟨c, hc⟩ : ∃ c, Hid (upd 0#32 l = c) := ⟨_, rfl⟩
  go_enter Tryd.func5, Tryd.ntmps5
  go_wp2_with fail
  refine (known_any _ HH.out).mono ?_
  rintro e w1 ⟨rfl, hbel⟩
  have HH1 : Hid (Hal w1) := HH.out.later hbel
  have HS1 : Hid (Seg w1 a n l) := HS.out.below hbel (Nat.le_refl _)
  have HB : Hid (Below w.heap.size w w1) := hbel
  have hsz := hbel.size
  clear hbel
  go_wp2_with fail
  refine (sum_any a n cap l _ HS1.out hb HH1.out).mono ?_
  rintro e w1 ⟨rfl, rfl⟩
  rw [hc.out]
  go_wp2_with fail
  refine (bytes_any a n cap l _ HS1.out (by omega)).mono ?_
  rintro e w2 ⟨v, rfl, hown, hbel⟩
  have HB2 : Hid (Below w1.heap.size w1 w2) := hbel
  have hsz2 := hbel.size
  clear hbel
  go_wp2_with fail
  go_loopw [4, 5] (fun s i wr => ∃ k : Nat, i = .int .i64 (k : Int) ∧ k ≤ 4 ∧ wr.ownsRow w1.heap.size 5 1 s (l ++ (fb c).take k).length ((l ++ (fb c).take k).map (Value.int .u8)) ∧ Below w1.heap.size w1 wr) (fun _ i _ => 4 - (intOf i).toNat)
  case atStart => exact ⟨0, rfl, by omega, by simpa using hown, HB2.out⟩
  case round =>
    obtain ⟨k, rfl, hk, hown, hbel⟩ := hrel
    have hsw := hbel.size
    by_cases hlt : k < 4
    · have hpl : (l ++ (fb c).take k).length ≤ 140737488351236 := by rw [List.length_append, List.length_take]; omega
      have HT : Hid (l ++ (fb c).take (k + 1) = (l ++ (fb c).take k) ++ [bt c k]) := by
        show _ = _
        rcases (by omega : k = 0 ∨ k = 1 ∨ k = 2 ∨ k = 3) with rfl | rfl | rfl | rfl <;> simp [fb]
      generalize l ++ (fb c).take k = pre at *
      have bc := r_lt c
      simp only [nr]
      obtain ⟨x0, x1, x2, x3, ⟨l0, l1, l2, l3⟩, q0, q1, q2, q3, p0, p1, p2, p3⟩ := bts c
      simp only [Int.ofNat_eq_natCast] at q0 q1 q2 q3
      rcases (by omega : k = 0 ∨ k = 1 ∨ k = 2 ∨ k = 3) with rfl | rfl | rfl | rfl
      · rw [p0.out] at HT
        go_wp2_with (first
          | (at_builtin; refine wpList_append_own _ rfl _ _ 22 rfl w1.heap.size 5 i0 (.int .u8 0) 1 1 Tryd.underlying22 hi hz0 hz1 hz2 rfl (by decide) _ _ _ rfl (hown.alloc _) ⟨wr.heap.size, 0, none⟩ 1 1 [.int .u8 (x0 : Int)] rfl rfl ?c1 ?c2 ?c3 ?c4 ?c5 ?_))
        case c1 =>
          intro j u hj
          match j, hj with
          | 0, hj => simp at hj; subst hj; simp [Addr.add]
        case c2 => intro u hu; simp at hu; subst hu; rfl
        case c3 => unfold maxLen; omega
        case c4 => omega
        case c5 => simp; omega
        intro v' w3 hown' hgrow _
        have R := push hsw hown hbel hown' hgrow
        clear hown' hgrow hown
        go_wp2
        go_roundw
        case rel => rw [← HT.out] at R; exact ⟨_, by go_num, by omega, R.1, R.2⟩
        case measure => simp [intOf]
      · rw [p1.out] at HT
        go_wp2_with (first
          | (at_builtin; refine wpList_append_own _ rfl _ _ 22 rfl w1.heap.size 5 i0 (.int .u8 0) 1 1 Tryd.underlying22 hi hz0 hz1 hz2 rfl (by decide) _ _ _ rfl (hown.alloc _) ⟨wr.heap.size, 0, none⟩ 1 1 [.int .u8 (x1 : Int)] rfl rfl ?c1 ?c2 ?c3 ?c4 ?c5 ?_))
        case c1 =>
          intro j u hj
          match j, hj with
          | 0, hj => simp at hj; subst hj; simp [Addr.add]
        case c2 => intro u hu; simp at hu; subst hu; rfl
        case c3 => unfold maxLen; omega
        case c4 => omega
        case c5 => simp; omega
        intro v' w3 hown' hgrow _
        have R := push hsw hown hbel hown' hgrow
        clear hown' hgrow hown
        go_wp2
        go_roundw
        case rel => rw [← HT.out] at R; exact ⟨_, by go_num, by omega, R.1, R.2⟩
        case measure => simp [intOf]
      · rw [p2.out] at HT
        go_wp2_with (first
          | (at_builtin; refine wpList_append_own _ rfl _ _ 22 rfl w1.heap.size 5 i0 (.int .u8 0) 1 1 Tryd.underlying22 hi hz0 hz1 hz2 rfl (by decide) _ _ _ rfl (hown.alloc _) ⟨wr.heap.size, 0, none⟩ 1 1 [.int .u8 (x2 : Int)] rfl rfl ?c1 ?c2 ?c3 ?c4 ?c5 ?_))
        case c1 =>
          intro j u hj
          match j, hj with
          | 0, hj => simp at hj; subst hj; simp [Addr.add]
        case c2 => intro u hu; simp at hu; subst hu; rfl
        case c3 => unfold maxLen; omega
        case c4 => omega
        case c5 => simp; omega
        intro v' w3 hown' hgrow _
        have R := push hsw hown hbel hown' hgrow
        clear hown' hgrow hown
        go_wp2
        go_roundw
        case rel => rw [← HT.out] at R; exact ⟨_, by go_num, by omega, R.1, R.2⟩
        case measure => simp [intOf]
      · rw [p3.out] at HT
        go_wp2_with (first
          | (at_builtin; refine wpList_append_own _ rfl _ _ 22 rfl w1.heap.size 5 i0 (.int .u8 0) 1 1 Tryd.underlying22 hi hz0 hz1 hz2 rfl (by decide) _ _ _ rfl (hown.alloc _) ⟨wr.heap.size, 0, none⟩ 1 1 [.int .u8 (x3 : Int)] rfl rfl ?c1 ?c2 ?c3 ?c4 ?c5 ?_))
        case c1 =>
          intro j u hj
          match j, hj with
          | 0, hj => simp at hj; subst hj; simp [Addr.add]
        case c2 => intro u hu; simp at hu; subst hu; rfl
        case c3 => unfold maxLen; omega
        case c4 => omega
        case c5 => simp; omega
        intro v' w3 hown' hgrow _
        have R := push hsw hown hbel hown' hgrow
        clear hown' hgrow hown
        go_wp2
        go_roundw
        case rel => rw [← HT.out] at R; exact ⟨_, by go_num, by omega, R.1, R.2⟩
        case measure => simp [intOf]
    · have HT : Hid (l ++ (fb c).take k = l ++ fb c) := by
        show _ = _
        rw [List.take_of_length_le (by simp [fb]; omega)]
      rw [HT.out] at hown
      obtain ⟨sa, sc, rfl, h1, h2, hseg⟩ := seg_own hown
      have HS3 : Hid (Seg wr sa (l ++ fb c).length (l ++ fb c)) := hseg
      have HH3 : Hid (Hal wr) := HH1.out.later hbel
      have HB3 : Hid (Below w.heap.size w wr) := HB.out.trans (hbel.mono hsz)
      have BY : Hid (Byt (l ++ fb c)) := byt_app hb (fb_byt c)
      rw [hc.out] at RES
      clear hown hseg hbel HT
      generalize (l ++ fb c).length = m at *
      go_wp2_with fail
      refine (sum_any sa m sc (l ++ fb c) _ HS3.out BY.out HH3.out).mono ?_
      rintro e w4 ⟨rfl, rfl⟩
      rw [RES.out]
      go_wp2
      go_ret
      exact ⟨rfl, HB3.out⟩

set_option maxRecDepth 100000 in
/-- For every argument and every world that holds the sentinels. -/
theorem contract (H : Type) (enc : TypeId × Value → H) (W : World) (base : Nat) (args : Array Value) (ds gs : List (DataW H)) (before : List MemPlace)
    (hval : ∀ (j : Nat) t v, Tryd.f5.params[j]? = some t → args[j]? = some v → Value.okWide Tryd.prog W .any base t v)
    (hW : DataW.Whole enc Tryd.prog Tryd.f5.params.toList Rows.crcResiduesSpec.vars false W args.toList ds gs before)
    (hsz : (DataW.weightsEach Tryd.prog (Tryd.f5.params.toList ++ (OpenSpec.ofChange Rows.crcResiduesSpec).bare.plain.varTypes Tryd.prog) (ds ++ gs)).all (· ≤ reachBytes) = true)
    (hL : laidMetH Tryd.prog Rows.crcResiduesRow.laid W) :
    Calls Tryd.prog 5 args W fun e W' => ∃ v, e = .returned v ∧ Rows.crcResiduesSpec.post enc Tryd.prog Tryd.f5 false true false false W args v W' := by
  have hW' := hW
  obtain ⟨p, q, hA0, hV, rfl, hfz, hnd⟩ := hW
  have hA : DataW.TrodAll enc Tryd.prog W 0 (fun _ => true) true Tryd.f5.params.toList args.toList ds p := hA0
  rw [Tryd.params5] at hA hval hsz
  obtain ⟨v0, vs0, d0, ds0, p0, q0, hargs, rfl, rfl, h0, r0⟩ := trodAll_cons hA
  obtain ⟨rfl, rfl, rfl⟩ := trodAll_nil r0
  obtain rfl : args = #[v0] := by cases args; simp_all
  obtain ⟨rfl, rfl⟩ := trodVars_none hV
  obtain ⟨a0, n0, cap0, rfl⟩ := okWide_slice Tryd.underlying22 (hval 0 22 v0 rfl rfl)
  have k0 := h0
  have lt0 : ∀ x ∈ p0, x.block < W.heap.size := by obtain ⟨m, hm⟩ := k0; exact DataW.trod_lt m _ _ _ hm
  obtain ⟨fuel0, hf0⟩ := h0
  obtain ⟨l0, hseg0, hbyt0, hcap0, hdat0⟩ := open_bytes hf0
  have hreach0 : cap0 ≤ 140737488351232 := by
    rcases hdat0 with ⟨_, _, h⟩ | ⟨elems, spare, hd, he, hc⟩
    · omega
    · have hs := sized_slice hsz (j := 0) (t := 22) (e := 5) (elems := elems) (spare := spare) rfl (by rw [show d0 = _ from hd]; rfl) Tryd.underlying22
      rw [bytes5] at hs
      simp only [reachBytes] at hs
      omega
  have hH := hal_of_laid hL
  clear hA0

  refine (walk a0 n0 cap0 l0 W hseg0 hbyt0 (by omega) hH).mono fun e W' ⟨he, bel⟩ => ?_
  subst he
  exact ⟨_, rfl, _, _, _, [], _, [], hW', trodAll_mk1 (shut_bool Tryd.underlying4 _), (trodAll_cons_mk (Below.trod laidOut (by kernel_rfl) (of_decide_eq_true (by kernel_rfl)) k0 bel lt0) trodAll_mk0), rfl, bel.frame _, fun h => by cases h⟩

theorem reads (os : Os) {H : Type} (enc : TypeId × Value → H) : ∃ places, DataW.whole enc Tryd.prog ((World.doorLaid Tryd.prog 104 os).forCall (fun _ _ => 0) ⟨#[], #[.slice none 0 0], []⟩).memory Tryd.f5.params.toList Rows.crcResiduesSpec.vars false (#[Value.slice none 0 0] : Array Value).toList 8 = some ([.nil], [], places) :=
  ⟨[], by kernel_rfl⟩

set_option maxRecDepth 100000 in
theorem lifted (os : Os) (started : os.Started) (H : Type) (enc : TypeId × Value → H) (F : Stop.Interp) :
    ReturnsInHanded {} Tryd.checked os 5 .any ((OpenSpec.ofChange Rows.crcResiduesSpec).preRow enc Tryd.prog Tryd.f5 Rows.crcResiduesRow.domain false Rows.crcResiduesRow.laid) (((OpenSpec.ofChange Rows.crcResiduesSpec).at F).post enc Tryd.prog Tryd.f5 false true false false) := by
  obtain ⟨places, hx⟩ := reads os enc
  refine returnsInHanded_of_row (C := Tryd.checked) (s := (OpenSpec.ofChange Rows.crcResiduesSpec)) own started (by kernel_rfl) Tryd.func5
    (witness_row_atRef (enc := enc) (C := Tryd.checked) false (World.doorLaid Tryd.prog 104 os) #[.slice none 0 0] rfl (by kernel_rfl) (by kernel_rfl) (by kernel_rfl)
      (OpenSpec.preRow_of_cond 8 hx (by kernel_rfl) (fun k hk => by cases hk) (by kernel_rfl) (door_met os _))) ?_
  intro W base args ds gs before hval hW _ hcond hsz hL _ _
  exact contract H enc W base args ds gs before hval hW hsz hL

theorem said : Rows.CrcResiduesSaid :=
  OpenClaim.holds_of_cond 5 Tryd.f5 rfl rfl rfl rfl rfl rfl rfl ⟨rfl, rfl, rfl, rfl, rfl⟩ rfl rfl rfl rfl rfl (by kernel_rfl) Tryd.func5 (by kernel_rfl)
    (of_decide_eq_true (by kernel_rfl)) (by unfold Func.isWrapper; first | (rw [if_pos (by decide +kernel)]; kernel_rfl) | (rw [if_neg (by decide +kernel)]; exact ⟨rfl, rfl⟩))
    (fun os started H enc _ F => by rw [OpenClaim.pre_eq_preRow]; exact lifted os started H enc F)

theorem plain (f : FuncId) (fn : Func) (hf : Tryd.pinned.checked.prog.funcNamed "moot/mootlaw2.CrcResidues" = some f) (hfn : Tryd.pinned.checked.prog.funcs[f]? = some fn) :
    false = Tryd.pinned.checked.prog.looks [] ∧ ∀ (j : Nat) t, fn.params[j]? = some t → Tryd.pinned.checked.prog.wantsStandIn t = false := by
  obtain rfl : f = 5 := Option.some.inj ((show Tryd.prog.funcNamed "moot/mootlaw2.CrcResidues" = some 5 by kernel_rfl).symm.trans hf) |>.symm
  obtain rfl : fn = Tryd.f5 := (Option.some.inj (Tryd.func5.symm.trans hfn)).symm
  refine ⟨by kernel_rfl, fun j t ht => ?_⟩
  rw [Tryd.params5] at ht
  have hm : t ∈ [22] := by simpa using Array.mem_of_getElem? ht
  have hall : ([22].all fun u => !Tryd.prog.wantsStandIn u) = true := by kernel_rfl
  exact (show Tryd.prog.wantsStandIn t = false by simpa using List.all_eq_true.1 hall t hm)

end crcResidues
theorem crcResidues_proved : Rows.CrcResiduesCardSaid :=
  Claim7.holds_tied_plain_at .later [] _ _ _ _ crcResidues.said (fun _ h => by cases h) (by kernel_rfl) (fun _ h => by cases h) crcResidues_row_tie rfl ⟨rfl, rfl⟩ (by kernel_rfl) rfl crcResidues.plain (by kernel_rfl)
#print axioms crcResidues_proved
end Go.Proofs.YtibdgnegdnapoaaDoor
