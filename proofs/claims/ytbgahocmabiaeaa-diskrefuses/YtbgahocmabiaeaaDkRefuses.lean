/- Proved: for every script DiskRefuses answers true: a call that answers an error has changed nothing. No condition. -/
import Derived.Test.YtbgahocmabiaeaaDkShow
import Derived.Test.YtbgahocmabiaeaaDkArgs
namespace Go.Proofs.Ytbgahocmabiaeaa
open Go.ChangeShapes Go.WideShapes Go.ChangeAt Go.RowKit Go.Wire1
namespace diskRefuses

set_option maxHeartbeats 4000000 in
set_option maxRecDepth 100000 in
theorem walk (a : Option Addr) (n cap : Nat) (ops : List OpD) (w : World) (hO : OSeg w a n ops) :
    Calls Try.prog 7 #[.slice a n cap] w fun e w' => e = .returned (.bool true) ∧ Below w.heap.size w w' := by
  have HO := hide hO
  have hn63 : n ≤ 2199023255552 := by have := hO.top; omega
  clear hO
  go_enter Try.func7, Try.ntmps7
  go_wp2_with fail
  refine (abc_any _ w.heap.size (Nat.le_refl _)).mono ?_
  rintro e w1 ⟨b, pv, rfl, hbl, d1, hb1, _⟩
  have D1 := hide d1
  have B1 := hide hb1
  clear d1 hb1 hbl
  go_wp2_with fail
  refine (rot_high _ b pv _ 0 _ 3 1 D1.out (by decide) (by decide)).mono ?_
  rintro e w2 ⟨rfl, hb2⟩
  have D2 := hide (D1.out.later hb2)
  have B2 := hide (B1.out.trans (hb2.mono B1.out.size))
  clear hb2 D1 B1
  go_wp2_with fail
  refine (num9_any 93 _).mono ?_
  rintro e w3 ⟨rfl, rfl⟩
  go_wp2
  go_loopw [5] (fun iv wr => ∃ (i : Nat) (pv : Value) (l : List Int) (m : Nat), iv = .int .i64 (i : Int) ∧ i ≤ n ∧ Hid (Dsk 0 wr b pv l m w.heap.size) ∧ Hid (Below w.heap.size w wr)) (fun iv _ => n - (intOf iv).toNat)
  case atStart => exact ⟨0, _, _, _, rfl, Nat.zero_le _, D2, B2⟩
  case round =>
    clear D2 B2
    obtain ⟨i, pv, l, m, rfl, hi, HD, HB⟩ := hrel
    by_cases hlt : i < n
    · obtain ⟨ab, ao, rfl, hat⟩ := HO.out.at_ (by omega)
      go_wp2_with fail
      refine (look_any _ b pv l m _ HD.out).mono ?_
      rintro e w1 ⟨v, rfl, hown, hb1⟩
      have hvl := hide (fun k hk => (hown.lt k hk).1)
      obtain ⟨va, vc, rfl, _, _, sg⟩ := seg_own hown
      have DL := hide (HD.out.later hb1)
      have BL := hide (HB.out.trans (hb1.mono HB.out.size))
      have SV := hide sg
      clear hown hb1 sg
      have AT := (hat i hlt).below BL.out (Nat.le_refl _)
      have KO := hide ((HO.out.ok i hlt).below BL.out (Nat.le_refl _))
      obtain ⟨o, ho⟩ : ∃ o, o = ops.getD i opdZ := ⟨_, rfl⟩
      rw [← ho] at AT KO
      obtain ⟨k0, k1, k2, k3, k4, k5⟩ := AT
      clear ho
      generalize l.length = ln at *
      go_wp2_with fail
      refine (does_any _ b pv l m _ o DL.out KO.out).mono ?_
      rintro e w2 ⟨rfl, pv2, k⟩
      have SV2 := hide (k.tch.seg SV.out (fun x hx _ => ⟨by have := hvl.out x.block (by rw [hx]; rfl); have := HD.out.box.lt; omega, fun e2 => by have := hvl.out x.block (by rw [hx]; rfl); have := (HD.out.own.lt _ e2.symm).2; omega⟩))
      have B2 := hide (BL.out.trans (k.below DL.out))
      have D2 := hide k.dsk
      clear k k0 k1 k2 k3 k4 k5
      obtain ⟨er, her⟩ : ∃ er, er = dErr o l m := ⟨_, rfl⟩
      rw [← her]
      have HE := hide her
      clear her
      go_wp2_with fail
      refine (num9_any er _).mono ?_
      rintro e w3 ⟨rfl, rfl⟩
      by_cases h0 : er = 0
      · subst h0
        go_wp2
        go_roundw
        case rel => exact ⟨i + 1, _, _, _, by go_num, by omega, D2, B2⟩
        case measure => simp [intOf]; omega
      · have h00 : dErr o l m ≠ 0 := by rw [← HE.out]; exact h0
        have e1 := dNew_err h00
        have e2 := dMark_err h00
        rw [e1, e2] at D2
        clear e1 e2 h00
        go_wp2_with fail
        refine (shows_yes _ b pv2 l m _ va ln vc D2.out SV2.out).mono ?_
        rintro e w4 ⟨rfl, hb4⟩
        have D4 := hide (D2.out.later hb4)
        have B4 := hide (B2.out.trans (hb4.mono B2.out.size))
        clear hb4
        go_wp2
        go_roundw
        case rel => exact ⟨i + 1, _, _, _, by go_num, by omega, D4, B4⟩
        case measure => simp [intOf]; omega
    · go_wp2
      go_ret
      exact ⟨rfl, HB.out⟩

set_option maxRecDepth 100000 in
/-- For every argument and every world. -/
theorem contract (H : Type) (enc : TypeId × Value → H) (W : World) (base : Nat) (args : Array Value) (ds gs : List (DataW H)) (before : List MemPlace)
    (hval : ∀ (j : Nat) t v, Try.f7.params[j]? = some t → args[j]? = some v → Value.okWide Try.prog W .any base t v)
    (hW : DataW.Whole enc Try.prog Try.f7.params.toList Rows.diskRefusesSpec.vars false W args.toList ds gs before)
    (hsz : (DataW.weightsEach Try.prog (Try.f7.params.toList ++ Rows.diskRefusesSpec.plain.varTypes Try.prog) (ds ++ gs)).all (· ≤ reachBytes) = true) :
    Calls Try.prog 7 args W fun e W' => ∃ v, e = .returned v ∧ Rows.diskRefusesSpec.post enc Try.prog Try.f7 false true false false W args v W' := by
  have hW' := hW
  obtain ⟨p, q, hA0, hV, rfl, hfz, hnd⟩ := hW
  have hA : DataW.TrodAll enc Try.prog W 0 (fun _ => true) true Try.f7.params.toList args.toList ds p := hA0
  rw [Try.params7] at hA hval hsz
  obtain ⟨v0, vs0, d0, ds0, p0, q0, hargs, rfl, rfl, h0, tr0⟩ := trodAll_cons hA
  obtain ⟨rfl, rfl, rfl⟩ := trodAll_nil tr0
  obtain rfl : args = #[v0] := by cases args; simp_all
  obtain ⟨rfl, rfl⟩ := trodVars_none hV
  obtain ⟨a0, n0, cap0, rfl⟩ := okWide_slice Try.underlying41 (hval 0 41 v0 rfl rfl)
  have k0 := h0
  have lt0 : ∀ x ∈ p0, x.block < W.heap.size := by obtain ⟨m, hm⟩ := k0; exact DataW.trod_lt m _ _ _ hm
  obtain ⟨fuel0, hf0⟩ := h0
  obtain ⟨l0, hseg0, hcap0⟩ := open_opds hf0 (fun m hm => of_decide_eq_true (List.all_eq_true.1 hsz _ (DataW.weights_mem_each (j := 0) rfl rfl m hm)))
  clear hA0
  refine (walk a0 n0 cap0 l0 W hseg0).mono fun e W' ⟨he, bel⟩ => ?_
  subst he
  exact ⟨_, rfl, _, _, _, [], _, [], hW', trodAll_mk1 (shut_bool Try.underlying4 _), (trodAll_cons_mk (Below.trod laidOut (by kernel_rfl) (of_decide_eq_true (by kernel_rfl)) k0 bel lt0) trodAll_mk0), rfl, bel.frame _, fun h => by cases h⟩

set_option maxRecDepth 100000 in
theorem lifted (os : Os) (started : os.Started) (H : Type) (enc : TypeId × Value → H) :
    ReturnsInHanded {} Try.checked os 7 .any (Rows.diskRefusesSpec.pre6 enc Try.prog Try.f7 Rows.diskRefusesRow.domain false) (Rows.diskRefusesSpec.post enc Try.prog Try.f7 false true false false) := by
  refine returnsInHanded_of_change_sized (C := Try.checked) own started (by kernel_rfl) Try.func7
    (ChangeSpec.witness6 (enc := enc) (C := Try.checked) false ⟨#[], #[.slice none 0 0], []⟩ 8 (by kernel_rfl) (by kernel_rfl) (by kernel_rfl) (by kernel_rfl)) ?_
  intro W base args ds gs before hval hW _ hsz _
  exact contract H enc W base args ds gs before hval hW hsz

end diskRefuses
theorem diskRefuses_proved : Rows.DiskRefusesSaid :=
  OpenClaim.holds_of_wide 7 Try.f7 rfl rfl rfl rfl rfl rfl rfl ⟨rfl, rfl, rfl, rfl, rfl⟩ rfl rfl rfl rfl rfl (by kernel_rfl) Try.func7 (by kernel_rfl)
    (of_decide_eq_true (by kernel_rfl)) (by unfold Func.isWrapper; first | (rw [if_pos (by decide +kernel)]; kernel_rfl) | (rw [if_neg (by decide +kernel)]; exact ⟨rfl, rfl⟩))
    (fun os started H enc _ => diskRefuses.lifted os started H enc)
#print axioms diskRefuses_proved
end Go.Proofs.Ytbgahocmabiaeaa
