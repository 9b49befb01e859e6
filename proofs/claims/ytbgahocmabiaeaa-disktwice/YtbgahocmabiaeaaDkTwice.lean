/- Proved: for every script and both numbers DiskTwice answers true: two crashes, one behind the other, are one that keeps the lesser part. No condition. -/
import Derived.Test.YtbgahocmabiaeaaDkShow
import Derived.Test.YtbgahocmabiaeaaDkArgs
import Derived.Test.YtbgahocmabiaeaaDkTwo
namespace Go.Proofs.Ytbgahocmabiaeaa
open Go.ChangeShapes Go.WideShapes Go.ChangeAt Go.RowKit Go.Wire1
namespace diskTwice

set_option maxHeartbeats 4000000 in
set_option maxRecDepth 100000 in
theorem walk_k (a : Option Addr) (n cap : Nat) (ops : List OpD) (k q : Int) (w : World) (hO : OSeg w a n ops) (hk : k < 0) :
    Calls Try.prog 5 #[.slice a n cap, .int .i64 k, .int .i64 q] w fun e w' => e = .returned (.bool true) ∧ Below w.heap.size w w' := by
  have HO := hide hO
  have hn63 : n ≤ 2199023255552 := by have := hO.top; omega
  clear hO
  go_enter Try.func5, Try.ntmps5
  go_wp2_with fail
  refine (abc_any _ w.heap.size (Nat.le_refl _)).mono ?_
  rintro e w1 ⟨b1, p1, rfl, hbl1, d1, hb1, hp1⟩
  have D1 := hide d1
  have B1 := hide hb1
  clear d1 hb1 hbl1 hp1
  go_wp2_with fail
  refine (abc_any _ w.heap.size B1.out.size).mono ?_
  rintro e w2 ⟨b2, p2, rfl, hbl2, d2, hb2, hp2⟩
  have TW := hide (two_new D1.out hb2 d2 hbl2 hp2)
  have B2 := hide (B1.out.trans (hb2.mono B1.out.size))
  clear d2 hb2 hbl2 hp2 D1 B1
  go_wp2
  go_ret
  exact ⟨rfl, B2.out⟩

set_option maxHeartbeats 4000000 in
set_option maxRecDepth 100000 in
theorem walk_q (a : Option Addr) (n cap : Nat) (ops : List OpD) (k q : Int) (w : World) (hO : OSeg w a n ops) (hk : ¬ k < 0) (hq : q < 0) :
    Calls Try.prog 5 #[.slice a n cap, .int .i64 k, .int .i64 q] w fun e w' => e = .returned (.bool true) ∧ Below w.heap.size w w' := by
  have HO := hide hO
  have hn63 : n ≤ 2199023255552 := by have := hO.top; omega
  clear hO
  go_enter Try.func5, Try.ntmps5
  go_wp2_with fail
  refine (abc_any _ w.heap.size (Nat.le_refl _)).mono ?_
  rintro e w1 ⟨b1, p1, rfl, hbl1, d1, hb1, hp1⟩
  have D1 := hide d1
  have B1 := hide hb1
  clear d1 hb1 hbl1 hp1
  go_wp2_with fail
  refine (abc_any _ w.heap.size B1.out.size).mono ?_
  rintro e w2 ⟨b2, p2, rfl, hbl2, d2, hb2, hp2⟩
  have TW := hide (two_new D1.out hb2 d2 hbl2 hp2)
  have B2 := hide (B1.out.trans (hb2.mono B1.out.size))
  clear d2 hb2 hbl2 hp2 D1 B1
  go_wp2
  go_ret
  exact ⟨rfl, B2.out⟩

set_option maxHeartbeats 4000000 in
set_option maxRecDepth 100000 in
theorem walk_l (a : Option Addr) (n cap : Nat) (ops : List OpD) (k q : Nat) (w : World) (hO : OSeg w a n ops) (hk2 : (k : Int) ≤ 9223372036854775807) (hq2 : (q : Int) ≤ 9223372036854775807) (hless : q < k) :
    Calls Try.prog 5 #[.slice a n cap, .int .i64 (k : Int), .int .i64 (q : Int)] w fun e w' => e = .returned (.bool true) ∧ Below w.heap.size w w' := by
  have HO := hide hO
  have hn63 : n ≤ 2199023255552 := by have := hO.top; omega
  clear hO
  have q1 : ¬ ((k : Int) < 0) := by omega
  have q2 : ¬ ((q : Int) < 0) := by omega
  have q3 : (q : Int) < (k : Int) := by omega
  go_enter Try.func5, Try.ntmps5
  go_wp2_with fail
  refine (abc_any _ w.heap.size (Nat.le_refl _)).mono ?_
  rintro e w1 ⟨b1, p1, rfl, hbl1, d1, hb1, hp1⟩
  have D1 := hide d1
  have B1 := hide hb1
  clear d1 hb1 hbl1 hp1
  go_wp2_with fail
  refine (abc_any _ w.heap.size B1.out.size).mono ?_
  rintro e w2 ⟨b2, p2, rfl, hbl2, d2, hb2, hp2⟩
  have TW := hide (two_new D1.out hb2 d2 hbl2 hp2)
  have B2 := hide (B1.out.trans (hb2.mono B1.out.size))
  clear d2 hb2 hbl2 hp2 D1 B1
  go_wp2
  go_loopw [9] (fun iv wr => ∃ (i : Nat) (pa pb : Value) (l : List Int) (m : Nat), iv = .int .i64 (i : Int) ∧ i ≤ n ∧ Hid (Two wr b1 pa l m b2 pb l m w.heap.size) ∧ Hid (Below w.heap.size w wr)) (fun iv _ => n - (intOf iv).toNat)
  case atStart => exact ⟨0, _, _, _, _, rfl, Nat.zero_le _, TW, B2⟩
  case round =>
    clear TW B2
    obtain ⟨i, pa, pb, l, m, rfl, hi, HT, HB⟩ := hrel
    by_cases hlt : i < n
    · obtain ⟨ab, ao, rfl, hat⟩ := HO.out.at_ (by omega)
      have AT := (hat i hlt).below HB.out (Nat.le_refl _)
      have KO := hide ((HO.out.ok i hlt).below HB.out (Nat.le_refl _))
      obtain ⟨o, ho⟩ : ∃ o, o = ops.getD i opdZ := ⟨_, rfl⟩
      rw [← ho] at AT KO
      obtain ⟨k0, k1, k2, k3, k4, k5⟩ := AT
      have HOE := hide ho
      clear ho
      go_wp2_with fail
      refine (does_any _ b1 pa l m _ o HT.out.a KO.out).mono ?_
      rintro e w3 ⟨rfl, pa2, k3'⟩
      have T3 := hide (HT.out.step k3')
      have B3 := hide (HB.out.trans (k3'.below HT.out.a))
      clear k3' k0 k1 k2 k3 k4 k5 KO
      have AT := (hat i hlt).below B3.out (Nat.le_refl _)
      have KO := hide ((HO.out.ok i hlt).below B3.out (Nat.le_refl _))
      rw [← HOE.out] at AT KO
      obtain ⟨k0, k1, k2, k3, k4, k5⟩ := AT
      obtain ⟨er, her⟩ : ∃ er, er = dErr o l m := ⟨_, rfl⟩
      rw [← her]
      have HER := hide her
      clear her
      go_wp2_with fail
      refine (does_any _ b2 pb l m _ o T3.out.b KO.out).mono ?_
      rintro e w4 ⟨rfl, pb2, k4'⟩
      have T4 := hide (T3.out.stepB k4')
      have B4 := hide (B3.out.trans (k4'.below T3.out.b))
      clear k4' k0 k1 k2 k3 k4 k5 KO
      rw [← HER.out]
      clear HER
      go_wp2_with fail
      refine (num9_any er _).mono ?_
      rintro e w5 ⟨rfl, rfl⟩
      go_wp2_with fail
      refine (num9_any er _).mono ?_
      rintro e w5 ⟨rfl, rfl⟩
      go_wp2
      go_roundw
      case rel => exact ⟨i + 1, _, _, _, _, by go_num, by omega, T4, B4⟩
      case measure => simp [intOf]; omega
    · have hml : m ≤ l.length := HT.out.a.le
      have CT := hide (crash_twice l m k q hml)
      go_wp2_with fail
      refine (crash_yes _ b1 pa l m _ k HT.out.a hk2).mono ?_
      rintro e w3 ⟨rfl, pa2, k3'⟩
      have T3 := hide (HT.out.step k3')
      have B3 := hide (HB.out.trans (k3'.below HT.out.a))
      clear k3'
      obtain ⟨L3, hL3⟩ : ∃ L3, L3 = l.take (m + min k (l.length - m)) := ⟨_, rfl⟩
      rw [← hL3] at T3 CT
      clear hL3
      go_wp2_with fail
      refine (crash_yes _ b1 pa2 L3 m _ q T3.out.a hq2).mono ?_
      rintro e w4 ⟨rfl, pa3, k4'⟩
      have T4 := hide (T3.out.step k4')
      have B4 := hide (B3.out.trans (k4'.below T3.out.a))
      clear k4'
      rw [CT.out] at T4
      clear CT T3
      rw [show min k q = q by omega] at T4
      go_wp2_with fail
      refine (crash_yes _ b2 pb l m _ q T4.out.b hq2).mono ?_
      rintro e w5 ⟨rfl, pb3, k5'⟩
      have T5 := hide (T4.out.stepB k5')
      have B5 := hide (B4.out.trans (k5'.below T4.out.b))
      clear k5' T4
      obtain ⟨L5, hL5⟩ : ∃ L5, L5 = l.take (m + min q (l.length - m)) := ⟨_, rfl⟩
      rw [← hL5] at T5
      clear hL5
      go_wp2_with fail
      refine (look_any _ b1 pa3 L5 m _ T5.out.a).mono ?_
      rintro e w6 ⟨v, rfl, hown, hb6⟩
      obtain ⟨va, vc, rfl, _, _, sg⟩ := seg_own hown
      have D6 := hide (T5.out.b.later hb6)
      have B6 := hide (B5.out.trans (hb6.mono B5.out.size))
      have SV := hide sg
      clear hown hb6 sg
      generalize L5.length = ln at *
      go_wp2_with fail
      refine (shows_yes _ b2 pb3 L5 m _ va ln vc D6.out SV.out).mono ?_
      rintro e w7 ⟨rfl, hb7⟩
      have B7 := hide (B6.out.trans (hb7.mono B6.out.size))
      clear hb7
      go_wp2
      go_ret
      exact ⟨rfl, B7.out⟩

set_option maxHeartbeats 4000000 in
set_option maxRecDepth 100000 in
theorem walk_m (a : Option Addr) (n cap : Nat) (ops : List OpD) (k q : Nat) (w : World) (hO : OSeg w a n ops) (hk2 : (k : Int) ≤ 9223372036854775807) (hq2 : (q : Int) ≤ 9223372036854775807) (hless : ¬ q < k) :
    Calls Try.prog 5 #[.slice a n cap, .int .i64 (k : Int), .int .i64 (q : Int)] w fun e w' => e = .returned (.bool true) ∧ Below w.heap.size w w' := by
  have HO := hide hO
  have hn63 : n ≤ 2199023255552 := by have := hO.top; omega
  clear hO
  have q1 : ¬ ((k : Int) < 0) := by omega
  have q2 : ¬ ((q : Int) < 0) := by omega
  have q3 : ¬ ((q : Int) < (k : Int)) := by omega
  go_enter Try.func5, Try.ntmps5
  go_wp2_with fail
  refine (abc_any _ w.heap.size (Nat.le_refl _)).mono ?_
  rintro e w1 ⟨b1, p1, rfl, hbl1, d1, hb1, hp1⟩
  have D1 := hide d1
  have B1 := hide hb1
  clear d1 hb1 hbl1 hp1
  go_wp2_with fail
  refine (abc_any _ w.heap.size B1.out.size).mono ?_
  rintro e w2 ⟨b2, p2, rfl, hbl2, d2, hb2, hp2⟩
  have TW := hide (two_new D1.out hb2 d2 hbl2 hp2)
  have B2 := hide (B1.out.trans (hb2.mono B1.out.size))
  clear d2 hb2 hbl2 hp2 D1 B1
  go_wp2
  go_loopw [9] (fun iv wr => ∃ (i : Nat) (pa pb : Value) (l : List Int) (m : Nat), iv = .int .i64 (i : Int) ∧ i ≤ n ∧ Hid (Two wr b1 pa l m b2 pb l m w.heap.size) ∧ Hid (Below w.heap.size w wr)) (fun iv _ => n - (intOf iv).toNat)
  case atStart => exact ⟨0, _, _, _, _, rfl, Nat.zero_le _, TW, B2⟩
  case round =>
    clear TW B2
    obtain ⟨i, pa, pb, l, m, rfl, hi, HT, HB⟩ := hrel
    by_cases hlt : i < n
    · obtain ⟨ab, ao, rfl, hat⟩ := HO.out.at_ (by omega)
      have AT := (hat i hlt).below HB.out (Nat.le_refl _)
      have KO := hide ((HO.out.ok i hlt).below HB.out (Nat.le_refl _))
      obtain ⟨o, ho⟩ : ∃ o, o = ops.getD i opdZ := ⟨_, rfl⟩
      rw [← ho] at AT KO
      obtain ⟨k0, k1, k2, k3, k4, k5⟩ := AT
      have HOE := hide ho
      clear ho
      go_wp2_with fail
      refine (does_any _ b1 pa l m _ o HT.out.a KO.out).mono ?_
      rintro e w3 ⟨rfl, pa2, k3'⟩
      have T3 := hide (HT.out.step k3')
      have B3 := hide (HB.out.trans (k3'.below HT.out.a))
      clear k3' k0 k1 k2 k3 k4 k5 KO
      have AT := (hat i hlt).below B3.out (Nat.le_refl _)
      have KO := hide ((HO.out.ok i hlt).below B3.out (Nat.le_refl _))
      rw [← HOE.out] at AT KO
      obtain ⟨k0, k1, k2, k3, k4, k5⟩ := AT
      obtain ⟨er, her⟩ : ∃ er, er = dErr o l m := ⟨_, rfl⟩
      rw [← her]
      have HER := hide her
      clear her
      go_wp2_with fail
      refine (does_any _ b2 pb l m _ o T3.out.b KO.out).mono ?_
      rintro e w4 ⟨rfl, pb2, k4'⟩
      have T4 := hide (T3.out.stepB k4')
      have B4 := hide (B3.out.trans (k4'.below T3.out.b))
      clear k4' k0 k1 k2 k3 k4 k5 KO
      rw [← HER.out]
      clear HER
      go_wp2_with fail
      refine (num9_any er _).mono ?_
      rintro e w5 ⟨rfl, rfl⟩
      go_wp2_with fail
      refine (num9_any er _).mono ?_
      rintro e w5 ⟨rfl, rfl⟩
      go_wp2
      go_roundw
      case rel => exact ⟨i + 1, _, _, _, _, by go_num, by omega, T4, B4⟩
      case measure => simp [intOf]; omega
    · have hml : m ≤ l.length := HT.out.a.le
      have CT := hide (crash_twice l m k q hml)
      go_wp2_with fail
      refine (crash_yes _ b1 pa l m _ k HT.out.a hk2).mono ?_
      rintro e w3 ⟨rfl, pa2, k3'⟩
      have T3 := hide (HT.out.step k3')
      have B3 := hide (HB.out.trans (k3'.below HT.out.a))
      clear k3'
      obtain ⟨L3, hL3⟩ : ∃ L3, L3 = l.take (m + min k (l.length - m)) := ⟨_, rfl⟩
      rw [← hL3] at T3 CT
      clear hL3
      go_wp2_with fail
      refine (crash_yes _ b1 pa2 L3 m _ q T3.out.a hq2).mono ?_
      rintro e w4 ⟨rfl, pa3, k4'⟩
      have T4 := hide (T3.out.step k4')
      have B4 := hide (B3.out.trans (k4'.below T3.out.a))
      clear k4'
      rw [CT.out] at T4
      clear CT T3
      rw [show min k q = k by omega] at T4
      go_wp2_with fail
      refine (crash_yes _ b2 pb l m _ k T4.out.b hk2).mono ?_
      rintro e w5 ⟨rfl, pb3, k5'⟩
      have T5 := hide (T4.out.stepB k5')
      have B5 := hide (B4.out.trans (k5'.below T4.out.b))
      clear k5' T4
      obtain ⟨L5, hL5⟩ : ∃ L5, L5 = l.take (m + min k (l.length - m)) := ⟨_, rfl⟩
      rw [← hL5] at T5
      clear hL5
      go_wp2_with fail
      refine (look_any _ b1 pa3 L5 m _ T5.out.a).mono ?_
      rintro e w6 ⟨v, rfl, hown, hb6⟩
      obtain ⟨va, vc, rfl, _, _, sg⟩ := seg_own hown
      have D6 := hide (T5.out.b.later hb6)
      have B6 := hide (B5.out.trans (hb6.mono B5.out.size))
      have SV := hide sg
      clear hown hb6 sg
      generalize L5.length = ln at *
      go_wp2_with fail
      refine (shows_yes _ b2 pb3 L5 m _ va ln vc D6.out SV.out).mono ?_
      rintro e w7 ⟨rfl, hb7⟩
      have B7 := hide (B6.out.trans (hb7.mono B6.out.size))
      clear hb7
      go_wp2
      go_ret
      exact ⟨rfl, B7.out⟩

theorem walk (a : Option Addr) (n cap : Nat) (ops : List OpD) (y1 y2 : Int) (w : World) (hO : OSeg w a n ops) (b1 : -9223372036854775808 ≤ y1 ∧ y1 ≤ 9223372036854775807) (b2 : -9223372036854775808 ≤ y2 ∧ y2 ≤ 9223372036854775807) :
    Calls Try.prog 5 #[.slice a n cap, .int .i64 y1, .int .i64 y2] w fun e w' => e = .returned (.bool true) ∧ Below w.heap.size w w' := by
  by_cases h1 : y1 < 0
  · exact walk_k a n cap ops y1 y2 w hO h1
  by_cases h2 : y2 < 0
  · exact walk_q a n cap ops y1 y2 w hO h1 h2
  obtain ⟨k, rfl⟩ := Int.eq_ofNat_of_zero_le (show 0 ≤ y1 by omega)
  obtain ⟨q, rfl⟩ := Int.eq_ofNat_of_zero_le (show 0 ≤ y2 by omega)
  by_cases h3 : q < k
  · exact walk_l a n cap ops k q w hO b1.2 b2.2 h3
  · exact walk_m a n cap ops k q w hO b1.2 b2.2 h3

set_option maxRecDepth 100000 in
/-- For every argument and every world. -/
theorem contract (H : Type) (enc : TypeId × Value → H) (W : World) (base : Nat) (args : Array Value) (ds gs : List (DataW H)) (before : List MemPlace)
    (hval : ∀ (j : Nat) t v, Try.f5.params[j]? = some t → args[j]? = some v → Value.okWide Try.prog W .any base t v)
    (hW : DataW.Whole enc Try.prog Try.f5.params.toList Rows.diskTwiceSpec.vars false W args.toList ds gs before)
    (hsz : (DataW.weightsEach Try.prog (Try.f5.params.toList ++ Rows.diskTwiceSpec.plain.varTypes Try.prog) (ds ++ gs)).all (· ≤ reachBytes) = true) :
    Calls Try.prog 5 args W fun e W' => ∃ v, e = .returned v ∧ Rows.diskTwiceSpec.post enc Try.prog Try.f5 false true false false W args v W' := by
  have hW' := hW
  obtain ⟨p, q, hA0, hV, rfl, hfz, hnd⟩ := hW
  have hA : DataW.TrodAll enc Try.prog W 0 (fun _ => true) true Try.f5.params.toList args.toList ds p := hA0
  rw [Try.params5] at hA hval hsz
  obtain ⟨v0, vs0, d0, ds0, p0, q0, hargs, rfl, rfl, h0, tr0⟩ := trodAll_cons hA
  obtain ⟨v1, vs1, d1, ds1, p1, q1, rfl, rfl, rfl, h1, tr1⟩ := trodAll_cons tr0
  obtain ⟨v2, vs2, d2, ds2, p2, q2, rfl, rfl, rfl, h2, tr2⟩ := trodAll_cons tr1
  obtain ⟨rfl, rfl, rfl⟩ := trodAll_nil tr2
  obtain rfl : args = #[v0, v1, v2] := by cases args; simp_all
  obtain ⟨rfl, rfl⟩ := trodVars_none hV
  obtain ⟨a0, n0, cap0, rfl⟩ := okWide_slice Try.underlying41 (hval 0 41 v0 rfl rfl)
  have k0 := h0
  have lt0 : ∀ x ∈ p0, x.block < W.heap.size := by obtain ⟨m, hm⟩ := k0; exact DataW.trod_lt m _ _ _ hm
  obtain ⟨fuel0, hf0⟩ := h0
  obtain ⟨l0, hseg0, hcap0⟩ := open_opds hf0 (fun m hm => of_decide_eq_true (List.all_eq_true.1 hsz _ (DataW.weights_mem_each (j := 0) rfl rfl m hm)))
  obtain ⟨y1, rfl, rfl, rfl, w1⟩ := open_int Try.underlying3 (hval 1 3 v1 rfl rfl) h1
  have b1 := bounds_i64 w1
  obtain ⟨y2, rfl, rfl, rfl, w2⟩ := open_int Try.underlying3 (hval 2 3 v2 rfl rfl) h2
  have b2 := bounds_i64 w2
  clear hA0
  refine (walk a0 n0 cap0 l0 y1 y2 W hseg0 b1 b2).mono fun e W' ⟨he, bel⟩ => ?_
  subst he
  exact ⟨_, rfl, _, _, _, [], _, [], hW', trodAll_mk1 (shut_bool Try.underlying4 _), (trodAll_cons_mk (Below.trod laidOut (by kernel_rfl) (of_decide_eq_true (by kernel_rfl)) k0 bel lt0) (trodAll_cons_mk (shut_int Try.underlying3 w1) (trodAll_cons_mk (shut_int Try.underlying3 w2) trodAll_mk0))), rfl, bel.frame _, fun h => by cases h⟩

set_option maxRecDepth 100000 in
theorem lifted (os : Os) (started : os.Started) (H : Type) (enc : TypeId × Value → H) :
    ReturnsInHanded {} Try.checked os 5 .any (Rows.diskTwiceSpec.pre6 enc Try.prog Try.f5 Rows.diskTwiceRow.domain false) (Rows.diskTwiceSpec.post enc Try.prog Try.f5 false true false false) := by
  refine returnsInHanded_of_change_sized (C := Try.checked) own started (by kernel_rfl) Try.func5
    (ChangeSpec.witness6 (enc := enc) (C := Try.checked) false ⟨#[], #[.slice none 0 0, .int .i64 0, .int .i64 0], []⟩ 8 (by kernel_rfl) (by kernel_rfl) (by kernel_rfl) (by kernel_rfl)) ?_
  intro W base args ds gs before hval hW _ hsz _
  exact contract H enc W base args ds gs before hval hW hsz

end diskTwice
theorem diskTwice_proved : Rows.DiskTwiceSaid :=
  OpenClaim.holds_of_wide 5 Try.f5 rfl rfl rfl rfl rfl rfl rfl ⟨rfl, rfl, rfl, rfl, rfl⟩ rfl rfl rfl rfl rfl (by kernel_rfl) Try.func5 (by kernel_rfl)
    (of_decide_eq_true (by kernel_rfl)) (by unfold Func.isWrapper; first | (rw [if_pos (by decide +kernel)]; kernel_rfl) | (rw [if_neg (by decide +kernel)]; exact ⟨rfl, rfl⟩))
    (fun os started H enc _ => diskTwice.lifted os started H enc)
#print axioms diskTwice_proved
end Go.Proofs.Ytbgahocmabiaeaa
