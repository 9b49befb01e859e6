/- Proved: for every list of bytes and every two places, CrcTwos answers true: a fault of two bits is told, however far they are apart, in less than 2 to the 28 bytes. The table of sixteen is as the program's text lays it. -/
import Derived.Test.YtibdgnegdnapoaaDoorCrc
import Derived.Test.YtibdgnegdnapoaaDoorFlip
import Derived.Test.YtibdgnegdnapoaaDoorLong
import Derived.Test.YtibdgnegdnapoaaDoorCLaid
import Derived.Test.YtibdgnegdnapoaaDoorArgs
import Derived.Test.YtibdgnegdnapoaaDoorCards
import Derived.Test.YtibdgnegdnapoaaDoorTie
import Derived.Deep.DeepHandedRow
import Derived.Deep.DeepWitnessRowRef
namespace Go.Proofs.YtibdgnegdnapoaaDoor
namespace crcTwos
open Go.ChangeShapes Go.WideShapes Go.ChangeAt Go.RowKit Go.Wire1 Go.Crc2

theorem ne_toNat {x y : R} (h : x ≠ y) : ¬ x.toNat = y.toNat := fun e => h (BitVec.eq_of_toNat_eq e)

set_option maxHeartbeats 1000000 in
set_option maxRecDepth 100000 in
theorem walk (a : Option Addr) (n cap : Nat) (l : List Int) (i j : Int) (w : World) (hs : Seg w a n l) (hy : Byt l) (hreach : n ≤ 140737488351232) (i1 : -9223372036854775808 ≤ i) (i2 : i ≤ 9223372036854775807) (j1 : -9223372036854775808 ≤ j) (j2 : j ≤ 9223372036854775807) (hH : Hal w) :
    Calls Tryd.prog 8 #[.slice a n cap, .int .i64 i, .int .i64 j] w fun e w' => e = .returned (.bool true) ∧ Below w.heap.size w w' := by
  have HH : Hid (Hal w) := hH
  have HS : Hid (Seg w a n l) := hs
  have HY : Hid (Byt l) := hy
  have HL : Hid (l.length = n) := hs.1
  clear hH hs hy
  have first : ∀ (w : World) (b : Bool), decide (268435456 ≤ n) = b → Calls Tryd.prog 16 #[.slice a n cap] w fun e w' => e = .returned (.bool b) ∧ w' = w := fun w b hb => by
    rw [← hb]; exact tooLong_any a n cap w
  have HF := hide first
  clear first
  by_cases c0 : 268435456 ≤ n
  · have D0 : Hid (decide (268435456 ≤ n) = true) := by show _ = _; simp; exact c0
    go_enter Tryd.func8, Tryd.ntmps8
    go_wp2_with fail
    refine (known_any _ HH.out).mono ?_
    rintro e w1 ⟨rfl, hbel⟩
    have HB := hide hbel
    clear hbel
    go_wp2_with fail
    refine (HF.out _ true D0.out).mono ?_
    rintro e w1 ⟨rfl, rfl⟩
    go_wp2
    go_ret
    exact ⟨rfl, HB.out⟩
  have D0 : Hid (decide (268435456 ≤ n) = false) := by show _ = _; simp; omega
  by_cases c1 : i < 0
  · go_enter Tryd.func8, Tryd.ntmps8
    go_wp2_with fail
    refine (known_any _ HH.out).mono ?_
    rintro e w1 ⟨rfl, hbel⟩
    have HB := hide hbel
    clear hbel
    go_wp2_with fail
    refine (HF.out _ false D0.out).mono ?_
    rintro e w1 ⟨rfl, rfl⟩
    go_wp2
    go_ret
    exact ⟨rfl, HB.out⟩
  have c1' : 0 ≤ i := by omega
  clear c1
  by_cases c2 : j < 0
  · go_enter Tryd.func8, Tryd.ntmps8
    go_wp2_with fail
    refine (known_any _ HH.out).mono ?_
    rintro e w1 ⟨rfl, hbel⟩
    have HB := hide hbel
    clear hbel
    go_wp2_with fail
    refine (HF.out _ false D0.out).mono ?_
    rintro e w1 ⟨rfl, rfl⟩
    go_wp2
    go_ret
    exact ⟨rfl, HB.out⟩
  have c2' : 0 ≤ j := by omega
  clear c2
  by_cases c3 : 8 * (n : Int) ≤ i
  · go_enter Tryd.func8, Tryd.ntmps8
    go_wp2_with fail
    refine (known_any _ HH.out).mono ?_
    rintro e w1 ⟨rfl, hbel⟩
    have HB := hide hbel
    clear hbel
    go_wp2_with fail
    refine (HF.out _ false D0.out).mono ?_
    rintro e w1 ⟨rfl, rfl⟩
    go_wp2
    go_ret
    exact ⟨rfl, HB.out⟩
  have c3' : i < 8 * (n : Int) := by omega
  clear c3
  by_cases c4 : 8 * (n : Int) ≤ j
  · go_enter Tryd.func8, Tryd.ntmps8
    go_wp2_with fail
    refine (known_any _ HH.out).mono ?_
    rintro e w1 ⟨rfl, hbel⟩
    have HB := hide hbel
    clear hbel
    go_wp2_with fail
    refine (HF.out _ false D0.out).mono ?_
    rintro e w1 ⟨rfl, rfl⟩
    go_wp2
    go_ret
    exact ⟨rfl, HB.out⟩
  have c4' : j < 8 * (n : Int) := by omega
  clear c4
  by_cases c5 : i = j
  · subst c5
    go_enter Tryd.func8, Tryd.ntmps8
    go_wp2_with fail
    refine (known_any _ HH.out).mono ?_
    rintro e w1 ⟨rfl, hbel⟩
    have HB := hide hbel
    clear hbel
    go_wp2_with fail
    refine (HF.out _ false D0.out).mono ?_
    rintro e w1 ⟨rfl, rfl⟩
    go_wp2
    go_ret
    exact ⟨rfl, HB.out⟩
  obtain ⟨p, rfl⟩ := Int.eq_ofNat_of_zero_le c1'
  obtain ⟨q, rfl⟩ := Int.eq_ofNat_of_zero_le c2'
  have hp : p < 8 * n := by omega
  have hq : q < 8 * n := by omega
  have d1 : decide ((p : Int) < 0) = false := by simp only [decide_eq_false_iff_not]; omega
  have d2 : decide ((q : Int) < 0) = false := by simp only [decide_eq_false_iff_not]; omega
  have d3 : decide (8 * (n : Int) ≤ (p : Int)) = false := by simp only [decide_eq_false_iff_not]; omega
  have d4 : decide (8 * (n : Int) ≤ (q : Int)) = false := by simp only [decide_eq_false_iff_not]; omega
  have d5 : ((p : Int) == (q : Int)) = false := by simp only [beq_eq_false_iff_ne, ne_eq]; exact c5
  have LAW : Hid (upd 0#32 l ≠ upd 0#32 (flip (flip l p) q)) := twos l HY.out p q (by rw [HL.out]; exact hp) (by rw [HL.out]; exact hq) (by rw [HL.out]; omega) (by omega)
  go_enter Tryd.func8, Tryd.ntmps8
  go_wp2_with fail
  refine (known_any _ HH.out).mono ?_
  rintro e w1 ⟨rfl, hbel⟩
  have HB := hide hbel
  have HS1 := hide (HS.out.below hbel (Nat.le_refl _))
  have HH1 := hide (HH.out.later hbel)
  clear hbel
  go_wp2_with fail
  refine (HF.out _ false D0.out).mono ?_
  rintro e w1 ⟨rfl, rfl⟩
  go_wp2_with fail
  refine (flipped_in a n cap p l _ HS1.out HY.out (by omega) hp).mono ?_
  rintro e w2 ⟨v2, rfl, hown, hbel2⟩
  obtain ⟨a2, c2, rfl, hseg2⟩ : ∃ a2 c2, v2 = .slice a2 n c2 ∧ Seg w2 a2 n (flip l p) := by
    have e0 : (flip l p).length = n := by rw [flip_len, HL.out]
    rw [← e0] at hown
    obtain ⟨a2, c2, h, _, _, hs⟩ := seg_own hown
    rw [e0] at h hs
    exact ⟨a2, c2, h, hs⟩
  have HS2 := hide hseg2
  have HB2 := hide hbel2
  clear hown hseg2 hbel2
  go_wp2_with fail
  refine (flipped_in a2 n c2 q (flip l p) _ HS2.out (flip_byt HY.out p) (by omega) hq).mono ?_
  rintro e w3 ⟨v3, rfl, hown, hbel3⟩
  obtain ⟨a3, c3, rfl, hseg3⟩ : ∃ a3 c3, v3 = .slice a3 n c3 ∧ Seg w3 a3 n (flip (flip l p) q) := by
    have e0 : (flip (flip l p) q).length = n := by rw [flip_len, flip_len, HL.out]
    rw [← e0] at hown
    obtain ⟨a3, c3, h, _, _, hs⟩ := seg_own hown
    rw [e0] at h hs
    exact ⟨a3, c3, h, hs⟩
  have HS3 := hide hseg3
  have HB13 := hide (HB2.out.trans (hbel3.mono HB2.out.size))
  have HBF := hide (HB.out.trans (HB13.out.mono HB.out.size))
  have HH3 := hide (HH1.out.later HB13.out)
  have HSA := hide (HS1.out.below HB13.out (Nat.le_refl _))
  have HY3 : Hid (Byt (flip (flip l p) q)) := flip_byt (flip_byt HY.out p) q
  clear hown hseg3 hbel3
  obtain ⟨x, hx⟩ : ∃ x, Hid (upd 0#32 l = x) := ⟨_, rfl⟩
  obtain ⟨y, hy⟩ : ∃ y, Hid (upd 0#32 (flip (flip l p) q) = y) := ⟨_, rfl⟩
  have hne : Hid (x ≠ y) := by show _ ≠ _; rw [← hx.out, ← hy.out]; exact LAW.out
  have hd : decide ((x.toNat : Int) = (y.toNat : Int)) = false := by
    simp only [decide_eq_false_iff_not]; intro h; exact hne.out (BitVec.eq_of_toNat_eq (by omega))
  go_wp2_with fail
  refine (sum_any a n cap l _ HSA.out HY.out HH3.out).mono ?_
  rintro e w3 ⟨rfl, rfl⟩
  rw [hx.out]
  go_wp2_with fail
  refine (sum_any a3 n c3 (flip (flip l p) q) _ HS3.out HY3.out HH3.out).mono ?_
  rintro e w3 ⟨rfl, rfl⟩
  rw [hy.out]
  go_wp2
  go_ret
  refine ⟨?_, HBF.out⟩
  have hf := ne_toNat hne.out
  simp
  omega

set_option maxRecDepth 100000 in
/-- For every argument and every world that holds the sentinels. -/
theorem contract (H : Type) (enc : TypeId × Value → H) (W : World) (base : Nat) (args : Array Value) (ds gs : List (DataW H)) (before : List MemPlace)
    (hval : ∀ (j : Nat) t v, Tryd.f8.params[j]? = some t → args[j]? = some v → Value.okWide Tryd.prog W .any base t v)
    (hW : DataW.Whole enc Tryd.prog Tryd.f8.params.toList Rows.crcTwosSpec.vars false W args.toList ds gs before)
    (hsz : (DataW.weightsEach Tryd.prog (Tryd.f8.params.toList ++ (OpenSpec.ofChange Rows.crcTwosSpec).bare.plain.varTypes Tryd.prog) (ds ++ gs)).all (· ≤ reachBytes) = true)
    (hL : laidMetH Tryd.prog Rows.crcTwosRow.laid W) :
    Calls Tryd.prog 8 args W fun e W' => ∃ v, e = .returned v ∧ Rows.crcTwosSpec.post enc Tryd.prog Tryd.f8 false true false false W args v W' := by
  have hW' := hW
  obtain ⟨p, q, hA0, hV, rfl, hfz, hnd⟩ := hW
  have hA : DataW.TrodAll enc Tryd.prog W 0 (fun _ => true) true Tryd.f8.params.toList args.toList ds p := hA0
  rw [Tryd.params8] at hA hval hsz
  obtain ⟨v0, vs0, d0, ds0, p0, q0, hargs, rfl, rfl, h0, r0⟩ := trodAll_cons hA
  obtain ⟨v1, vs1, d1, ds1, p1, q1, rfl, rfl, rfl, h1, r1⟩ := trodAll_cons r0
  obtain ⟨v2, vs2, d2, ds2, p2, q2, rfl, rfl, rfl, h2, r2⟩ := trodAll_cons r1
  obtain ⟨rfl, rfl, rfl⟩ := trodAll_nil r2
  obtain rfl : args = #[v0, v1, v2] := by cases args; simp_all
  obtain ⟨rfl, rfl⟩ := trodVars_none hV
  obtain ⟨a0, n0, cap0, rfl⟩ := okWide_slice Tryd.underlying22 (hval 0 22 v0 rfl rfl)
  have k0 := h0
  have lt0 : ∀ x ∈ p0, x.block < W.heap.size := by obtain ⟨m, hm⟩ := k0; exact DataW.trod_lt m _ _ _ hm
  obtain ⟨fuel0, hf0⟩ := h0
  obtain ⟨l0, hseg0, hbyt0, hcap0, hdat0⟩ := open_bytes hf0
  obtain ⟨y1, rfl, rfl, rfl, w1⟩ := open_int Tryd.underlying3 (hval 1 3 v1 rfl rfl) h1
  obtain ⟨y2, rfl, rfl, rfl, w2⟩ := open_int Tryd.underlying3 (hval 2 3 v2 rfl rfl) h2
  have hreach0 : cap0 ≤ 140737488351232 := by
    rcases hdat0 with ⟨_, _, h⟩ | ⟨elems, spare, hd, he, hc⟩
    · omega
    · have hs := sized_slice hsz (j := 0) (t := 22) (e := 5) (elems := elems) (spare := spare) rfl (by rw [show d0 = _ from hd]; rfl) Tryd.underlying22
      rw [bytes5] at hs
      simp only [reachBytes] at hs
      omega
  have hH := hal_of_laid hL
  clear hA0
  have b1 := bounds_i64 w1
  have b2 := bounds_i64 w2

  refine (walk a0 n0 cap0 l0 y1 y2 W hseg0 hbyt0 (by omega) b1.1 b1.2 b2.1 b2.2 hH).mono fun e W' ⟨he, bel⟩ => ?_
  subst he
  exact ⟨_, rfl, _, _, _, [], _, [], hW', trodAll_mk1 (shut_bool Tryd.underlying4 _), (trodAll_cons_mk (Below.trod laidOut (by kernel_rfl) (of_decide_eq_true (by kernel_rfl)) k0 bel lt0) (trodAll_cons_mk (shut_int Tryd.underlying3 w1) (trodAll_cons_mk (shut_int Tryd.underlying3 w2) trodAll_mk0))), rfl, bel.frame _, fun h => by cases h⟩

theorem reads (os : Os) {H : Type} (enc : TypeId × Value → H) : ∃ places, DataW.whole enc Tryd.prog ((World.doorLaid Tryd.prog 104 os).forCall (fun _ _ => 0) ⟨#[], #[.slice none 0 0, .int .i64 0, .int .i64 0], []⟩).memory Tryd.f8.params.toList Rows.crcTwosSpec.vars false (#[Value.slice none 0 0, .int .i64 0, .int .i64 0] : Array Value).toList 8 = some ([.nil, .lit (.int .i64 0), .lit (.int .i64 0)], [], places) :=
  ⟨[], by kernel_rfl⟩

set_option maxRecDepth 100000 in
theorem lifted (os : Os) (started : os.Started) (H : Type) (enc : TypeId × Value → H) (F : Stop.Interp) :
    ReturnsInHanded {} Tryd.checked os 8 .any ((OpenSpec.ofChange Rows.crcTwosSpec).preRow enc Tryd.prog Tryd.f8 Rows.crcTwosRow.domain false Rows.crcTwosRow.laid) (((OpenSpec.ofChange Rows.crcTwosSpec).at F).post enc Tryd.prog Tryd.f8 false true false false) := by
  obtain ⟨places, hx⟩ := reads os enc
  refine returnsInHanded_of_row (C := Tryd.checked) (s := (OpenSpec.ofChange Rows.crcTwosSpec)) own started (by kernel_rfl) Tryd.func8
    (witness_row_atRef (enc := enc) (C := Tryd.checked) false (World.doorLaid Tryd.prog 104 os) #[.slice none 0 0, .int .i64 0, .int .i64 0] rfl (by kernel_rfl) (by kernel_rfl) (by kernel_rfl)
      (OpenSpec.preRow_of_cond 8 hx (by kernel_rfl) (fun k hk => by cases hk) (by kernel_rfl) (door_met os _))) ?_
  intro W base args ds gs before hval hW _ hcond hsz hL _ _
  exact contract H enc W base args ds gs before hval hW hsz hL

theorem said : Rows.CrcTwosSaid :=
  OpenClaim.holds_of_cond 8 Tryd.f8 rfl rfl rfl rfl rfl rfl rfl ⟨rfl, rfl, rfl, rfl, rfl⟩ rfl rfl rfl rfl rfl (by kernel_rfl) Tryd.func8 (by kernel_rfl)
    (of_decide_eq_true (by kernel_rfl)) (by unfold Func.isWrapper; first | (rw [if_pos (by decide +kernel)]; kernel_rfl) | (rw [if_neg (by decide +kernel)]; exact ⟨rfl, rfl⟩))
    (fun os started H enc _ F => by rw [OpenClaim.pre_eq_preRow]; exact lifted os started H enc F)

theorem plain (f : FuncId) (fn : Func) (hf : Tryd.pinned.checked.prog.funcNamed "moot/mootlaw2.CrcTwos" = some f) (hfn : Tryd.pinned.checked.prog.funcs[f]? = some fn) :
    false = Tryd.pinned.checked.prog.looks [] ∧ ∀ (j : Nat) t, fn.params[j]? = some t → Tryd.pinned.checked.prog.wantsStandIn t = false := by
  obtain rfl : f = 8 := Option.some.inj ((show Tryd.prog.funcNamed "moot/mootlaw2.CrcTwos" = some 8 by kernel_rfl).symm.trans hf) |>.symm
  obtain rfl : fn = Tryd.f8 := (Option.some.inj (Tryd.func8.symm.trans hfn)).symm
  refine ⟨by kernel_rfl, fun j t ht => ?_⟩
  rw [Tryd.params8] at ht
  have hm : t ∈ [22, 3, 3] := by simpa using Array.mem_of_getElem? ht
  have hall : ([22, 3, 3].all fun u => !Tryd.prog.wantsStandIn u) = true := by kernel_rfl
  exact (show Tryd.prog.wantsStandIn t = false by simpa using List.all_eq_true.1 hall t hm)

end crcTwos
theorem crcTwos_proved : Rows.CrcTwosCardSaid :=
  Claim7.holds_tied_plain_at .later [] _ _ _ _ crcTwos.said (fun _ h => by cases h) (by kernel_rfl) (fun _ h => by cases h) crcTwos_row_tie rfl ⟨rfl, rfl⟩ (by kernel_rfl) rfl crcTwos.plain (by kernel_rfl)
#print axioms crcTwos_proved
end Go.Proofs.YtibdgnegdnapoaaDoor
