/- Proved: for every script and both numbers DiskRots answers true: rot turns one byte into another one and nothing else; the same rot twice is none. No condition. -/
import Derived.Test.YtbgahocmabiaeabDkShow
import Derived.Test.YtbgahocmabiaeabDkArgs
import Derived.Test.YtbgahocmabiaeabDkRts
namespace Go.Proofs.Ytbgahocmabiaeab
open Go.ChangeShapes Go.WideShapes Go.ChangeAt Go.RowKit Go.Wire1
namespace diskRots

set_option maxHeartbeats 4000000 in
set_option maxRecDepth 100000 in
theorem walk (a : Option Addr) (n cap : Nat) (ops : List OpD) (z x : Int) (w : World) (hO : OSeg w a n ops) :
    Calls Try.prog 3 #[.slice a n cap, .int .i64 z, .int .i64 x] w fun e w' => e = .returned (.bool true) ∧ Below w.heap.size w w' := by
  have HO := hide hO
  have hn63 : n ≤ 2199023255552 := by have := hO.top; omega
  clear hO
  go_enter Try.func3, Try.ntmps3
  go_wp2_with fail
  refine (abc_any _ w.heap.size (Nat.le_refl _)).mono ?_
  rintro e w1 ⟨b, pv, rfl, hbl, d1, hb1, _⟩
  have D1 := hide d1
  have B1 := hide hb1
  clear d1 hb1 hbl
  go_wp2_with fail
  refine (rots_any _ b pv _ 0 _ 1 32 D1.out).mono ?_
  rintro e w2 ⟨rfl, pv2, k⟩
  have D2 := hide k.dsk
  have B2 := hide (B1.out.trans (k.below D1.out))
  clear k D1 B1
  go_wp2
  go_loopw [9] (fun iv wr => ∃ (i : Nat) (pv : Value) (l : List Int) (m : Nat), iv = .int .i64 (i : Int) ∧ i ≤ n ∧ Hid (Dsk 0 wr b pv l m w.heap.size) ∧ Hid (Below w.heap.size w wr)) (fun iv _ => n - (intOf iv).toNat)
  case atStart => exact ⟨0, _, _, _, rfl, Nat.zero_le _, D2, B2⟩
  case round =>
    clear D2 B2
    obtain ⟨i, pv, l, m, rfl, hi, HD, HB⟩ := hrel
    by_cases hlt : i < n
    · obtain ⟨ab, ao, rfl, hat⟩ := HO.out.at_ (by omega)
      have AT := (hat i hlt).below HB.out (Nat.le_refl _)
      have KO := hide ((HO.out.ok i hlt).below HB.out (Nat.le_refl _))
      obtain ⟨o, ho⟩ : ∃ o, o = ops.getD i opdZ := ⟨_, rfl⟩
      rw [← ho] at AT KO
      obtain ⟨k0, k1, k2, k3, k4, k5⟩ := AT
      clear ho
      go_wp2_with fail
      refine (does_any _ b pv l m _ o HD.out KO.out).mono ?_
      rintro e w2 ⟨rfl, pv2, k⟩
      have B2 := hide (HB.out.trans (k.below HD.out))
      have D2 := hide k.dsk
      clear k k0 k1 k2 k3 k4 k5
      go_wp2
      go_roundw
      case rel => exact ⟨i + 1, _, _, _, by go_num, by omega, D2, B2⟩
      case measure => simp [intOf]; omega
    · go_wp2_with fail
      refine (rots_any _ b pv l m _ z x HD.out).mono ?_
      rintro e w2 ⟨rfl, pv2, k⟩
      have B2 := hide (HB.out.trans (k.below HD.out))
      clear k
      go_wp2
      go_ret
      exact ⟨rfl, B2.out⟩

set_option maxRecDepth 100000 in
/-- For every argument and every world. -/
theorem contract (H : Type) (enc : TypeId × Value → H) (W : World) (base : Nat) (args : Array Value) (ds gs : List (DataW H)) (before : List MemPlace)
    (hval : ∀ (j : Nat) t v, Try.f3.params[j]? = some t → args[j]? = some v → Value.okWide Try.prog W .any base t v)
    (hW : DataW.Whole enc Try.prog Try.f3.params.toList Rows.diskRotsSpec.vars false W args.toList ds gs before)
    (hsz : (DataW.weightsEach Try.prog (Try.f3.params.toList ++ Rows.diskRotsSpec.plain.varTypes Try.prog) (ds ++ gs)).all (· ≤ reachBytes) = true) :
    Calls Try.prog 3 args W fun e W' => ∃ v, e = .returned v ∧ Rows.diskRotsSpec.post enc Try.prog Try.f3 false true false false W args v W' := by
  have hW' := hW
  obtain ⟨p, q, hA0, hV, rfl, hfz, hnd⟩ := hW
  have hA : DataW.TrodAll enc Try.prog W 0 (fun _ => true) true Try.f3.params.toList args.toList ds p := hA0
  rw [Try.params3] at hA hval hsz
  obtain ⟨v0, vs0, d0, ds0, p0, q0, hargs, rfl, rfl, h0, tr0⟩ := trodAll_cons hA
  obtain ⟨v1, vs1, d1, ds1, p1, q1, rfl, rfl, rfl, h1, tr1⟩ := trodAll_cons tr0
  obtain ⟨v2, vs2, d2, ds2, p2, q2, rfl, rfl, rfl, h2, tr2⟩ := trodAll_cons tr1
  obtain ⟨rfl, rfl, rfl⟩ := trodAll_nil tr2
  obtain rfl : args = #[v0, v1, v2] := by cases args; simp_all
  obtain ⟨rfl, rfl⟩ := trodVars_none hV
  obtain ⟨a0, n0, cap0, rfl⟩ := okWide_slice Try.underlying22 (hval 0 22 v0 rfl rfl)
  have k0 := h0
  have lt0 : ∀ x ∈ p0, x.block < W.heap.size := by obtain ⟨m, hm⟩ := k0; exact DataW.trod_lt m _ _ _ hm
  obtain ⟨fuel0, hf0⟩ := h0
  obtain ⟨l0, hseg0, hcap0⟩ := open_opds hf0 (fun m hm => of_decide_eq_true (List.all_eq_true.1 hsz _ (DataW.weights_mem_each (j := 0) rfl rfl m hm)))
  obtain ⟨y1, rfl, rfl, rfl, w1⟩ := open_int Try.underlying3 (hval 1 3 v1 rfl rfl) h1
  have b1 := bounds_i64 w1
  obtain ⟨y2, rfl, rfl, rfl, w2⟩ := open_int Try.underlying3 (hval 2 3 v2 rfl rfl) h2
  have b2 := bounds_i64 w2
  clear hA0
  refine (walk a0 n0 cap0 l0 y1 y2 W hseg0).mono fun e W' ⟨he, bel⟩ => ?_
  subst he
  exact ⟨_, rfl, _, _, _, [], _, [], hW', trodAll_mk1 (shut_bool Try.underlying4 _), (trodAll_cons_mk (Below.trod laidOut (by kernel_rfl) (of_decide_eq_true (by kernel_rfl)) k0 bel lt0) (trodAll_cons_mk (shut_int Try.underlying3 w1) (trodAll_cons_mk (shut_int Try.underlying3 w2) trodAll_mk0))), rfl, bel.frame _, fun h => by cases h⟩

set_option maxRecDepth 100000 in
theorem lifted (os : Os) (started : os.Started) (H : Type) (enc : TypeId × Value → H) :
    ReturnsInHanded {} Try.checked os 3 .any (Rows.diskRotsSpec.pre6 enc Try.prog Try.f3 Rows.diskRotsRow.domain false) (Rows.diskRotsSpec.post enc Try.prog Try.f3 false true false false) := by
  refine returnsInHanded_of_change_sized (C := Try.checked) own started (by kernel_rfl) Try.func3
    (ChangeSpec.witness6 (enc := enc) (C := Try.checked) false ⟨#[], #[.slice none 0 0, .int .i64 0, .int .i64 0], []⟩ 8 (by kernel_rfl) (by kernel_rfl) (by kernel_rfl) (by kernel_rfl)) ?_
  intro W base args ds gs before hval hW _ hsz _
  exact contract H enc W base args ds gs before hval hW hsz

end diskRots
theorem diskRots_proved : Rows.DiskRotsSaid :=
  OpenClaim.holds_of_wide 3 Try.f3 rfl rfl rfl rfl rfl rfl rfl ⟨rfl, rfl, rfl, rfl, rfl⟩ rfl rfl rfl rfl rfl (by kernel_rfl) Try.func3 (by kernel_rfl)
    (of_decide_eq_true (by kernel_rfl)) (by unfold Func.isWrapper; first | (rw [if_pos (by decide +kernel)]; kernel_rfl) | (rw [if_neg (by decide +kernel)]; exact ⟨rfl, rfl⟩))
    (fun os started H enc _ => diskRots.lifted os started H enc)
#print axioms diskRots_proved
end Go.Proofs.Ytbgahocmabiaeab
