/- Proved: for every unsigned 64-bit x and signed 64-bit y, WireLengths answers true: PutUint and PutInt write just as many bytes as the number has digits to the base 128. No condition. -/
import Derived.Test.YtifhbbljjalpfaaPut
import Derived.ProofKit
import Derived.OpenShut
import Derived.ShutString
import Derived.ChangeOld
namespace Go.Proofs.Ytifhbbljjalpfaa
namespace wireLengths
open Go.ChangeShapes Go.WideShapes Go.ChangeAt Go.RowKit Go.Wire1

theorem own : ownKnob Try.prog.godebug = none := by kernel_rfl

theorem zig_pos64 (y : Int) (h : 0 ≤ y) : zig y / 128 = (y / 64).toNat := by simp only [zig, if_pos h]; omega
theorem zig_neg64 (y : Int) (h : y < 0) : zig y / 128 = (-(y + 1) / 64).toNat := by
  have hn : ¬ 0 ≤ y := by omega
  simp only [zig, if_neg hn]; omega

theorem neg_form (y : Int) (h : y < 0) (h1 : -9223372036854775808 ≤ y) : wrap64 (-(y + 1).tdiv 64) = (((-(y + 1) / 64).toNat : Nat) : Int) := by
  rw [← Int.neg_tdiv, Int.tdiv_eq_ediv_of_nonneg (by omega)]
  unfold wrap64; omega

set_option maxHeartbeats 1000000 in
set_option maxRecDepth 100000 in
theorem walk (x : Nat) (y : Int) (w : World) (hx : x < 18446744073709551616) (h1 : -9223372036854775808 ≤ y) (h2 : y ≤ 9223372036854775807) :
    Calls Try.prog 3 #[.int .u64 (x : Int), .int .i64 y] w fun e w' => e = .returned (.bool true) ∧ Below w.heap.size w w' := by
  have hz := zig_lt y h1 h2
  have LX : Hid ((enc x).length = 1 + cnt 9 (x / 128)) := enc_len x hx
  have LY : Hid ((enc (zig y)).length = 1 + cnt 9 (zig y / 128)) := enc_len _ hz
  have lx := enc_le x hx
  have ly := enc_le (zig y) hz
  go_enter Try.func3, Try.ntmps3
  go_wp2_with fail
  refine (putUint_any x _ hx).mono ?_
  rintro e w1 ⟨v, rfl, hown, hbel⟩
  go_wp2_with fail
  refine (putInt_any y _ h1 h2).mono ?_
  rintro e w2 ⟨v2, rfl, hown2, hbel2⟩
  obtain ⟨a, cap, rfl⟩ := own_shape hown
  obtain ⟨a2, cap2, rfl⟩ := own_shape hown2
  have B2 : Hid (Below w.heap.size w w2) := hbel.trans (hbel2.mono hbel.size)
  clear hown hown2 hbel hbel2
  generalize (enc x).length = n at *
  generalize (enc (zig y)).length = m at *
  go_wp2_with fail
  go_loop [7, 8] (fun k z => ∃ (j d f : Nat), k = .int .i64 (j : Int) ∧ z = .int .u64 (d : Int) ∧ d < 18446744073709551616 ∧ j ≤ 10 ∧ Hid (d < 128 ^ f) ∧ Hid (j + f = 10) ∧ Hid (n = j + cnt f d)) (fun _ z => (intOf z).toNat)
  case atStart => exact ⟨1, x / 128, 9, rfl, by go_num, by omega, by omega, pow9 x hx, rfl, LX.out⟩
  case round =>
    obtain ⟨j, d, f, rfl, rfl, hd, hj, HP, HJ, HN⟩ := hrel
    by_cases hc : 0 < d
    · obtain ⟨g, rfl, hg⟩ := pow128' f d HP.out hc
      have HG : Hid (d / 128 < 128 ^ g) := hg
      have HN' : Hid (n = j + 1 + cnt g (d / 128)) := by have := HN.out; rw [cnt_pos _ _ hc] at this; show n = _; omega
      clear hg
      go_wp2
      go_round
      case rel => exact ⟨j + 1, d / 128, g, by go_num, by go_num, by omega, by have := HJ.out; omega, HG, by have := HJ.out; show _ = _; omega, HN'⟩
      case measure => simp [intOf]; omega
    · obtain rfl : d = 0 := by omega
      obtain rfl : n = j := by have := HN.out; rw [cnt_zero] at this; exact this
      clear HN HP HJ LX
      obtain ⟨d0, hd0, hd1, hstart⟩ : ∃ d0 : Nat, d0 < 9223372036854775808 ∧ Hid (zig y / 128 = d0) ∧ Hid ((0 ≤ y → y / 64 = (d0 : Int)) ∧ (y < 0 → wrap64 (-(y + 1).tdiv 64) = (d0 : Int))) := by
        by_cases hy : 0 ≤ y
        · exact ⟨(y / 64).toNat, by omega, zig_pos64 y hy, fun _ => by omega, fun h => by omega⟩
        · exact ⟨(-(y + 1) / 64).toNat, by omega, zig_neg64 y (by omega), fun h => by omega, fun h => neg_form y h h1⟩
      have LY' : Hid (m = 1 + cnt 9 d0) := by have := LY.out; rw [hd1.out] at this; exact this
      have HP0 : Hid (d0 < 128 ^ 9) := by have := pow9 _ hz; rw [hd1.out] at this; exact this
      clear LY hd1 hc
      by_cases hy : 0 ≤ y
      all_goals
        go_wp2
        go_loop [9, 10] (fun k z => ∃ (j d f : Nat), k = .int .i64 (j : Int) ∧ z = .int .i64 (d : Int) ∧ d < 9223372036854775808 ∧ j ≤ 10 ∧ Hid (d < 128 ^ f) ∧ Hid (j + f = 10) ∧ Hid (m = j + cnt f d)) (fun _ z => (intOf z).toNat)
        case atStart => exact ⟨1, d0, 9, rfl, by first | rw [hstart.out.1 (by omega)] | rw [hstart.out.2 (by omega)], by omega, by omega, HP0, rfl, LY'.out⟩
        case round =>
          obtain ⟨j, d, f, rfl, rfl, hd, hj, HP, HJ, HN⟩ := hrel
          by_cases hc : 0 < d
          · obtain ⟨g, rfl, hg⟩ := pow128' f d HP.out hc
            have HG : Hid (d / 128 < 128 ^ g) := hg
            have HN' : Hid (m = j + 1 + cnt g (d / 128)) := by have := HN.out; rw [cnt_pos _ _ hc] at this; show m = _; omega
            clear hg
            go_wp2
            go_round
            case rel => exact ⟨j + 1, d / 128, g, by go_num, by go_num, by omega, by have := HJ.out; omega, HG, by have := HJ.out; show _ = _; omega, HN'⟩
            case measure => simp [intOf]; omega
          · obtain rfl : d = 0 := by omega
            obtain rfl : m = j := by have := HN.out; rw [cnt_zero] at this; exact this
            go_wp2
            go_ret
            exact ⟨rfl, B2.out⟩

theorem wf_u64 {a : Int} (h : (Lit.int .u64 a).wf = true) : 0 ≤ a ∧ a < 18446744073709551616 := by have := bounds_u64 h; omega
theorem wf_i64 {a : Int} (h : (Lit.int .i64 a).wf = true) : -9223372036854775808 ≤ a ∧ a ≤ 9223372036854775807 := by have := bounds_i64 h; omega

set_option maxRecDepth 100000 in
theorem lifted (os : Os) (started : os.Started) (H : Type) (enc : TypeId × Value → H) :
    ReturnsInHanded {} Try.checked os 3 .any (Rows.wireLengthsSpec.pre6 enc Try.prog Try.f3 Rows.wireLengthsRow.domain false) (Rows.wireLengthsSpec.post enc Try.prog Try.f3 false true false false) := by
  refine returnsInHanded_of_change (C := Try.checked) own started (by kernel_rfl) Try.func3
    (ChangeSpec.witness6 (enc := enc) (C := Try.checked) false ⟨#[], #[.int .u64 0, .int .i64 0], []⟩ 8 (by kernel_rfl) (by kernel_rfl) (by kernel_rfl) (by kernel_rfl)) ?_
  intro W base args ds gs before hval0 hW hcnd _
  have hval : ∀ (j : Nat) t v, Try.f3.params[j]? = some t → args[j]? = some v → Value.okWide Try.prog W .any base t v := hval0
  have hW' := hW
  obtain ⟨p, q, hA0, hV, rfl, hfz, hnd⟩ := hW
  have hA : DataW.TrodAll enc Try.prog W 0 (fun _ => true) true Try.f3.params.toList args.toList ds p := hA0
  rw [Try.params3] at hA hval
  obtain ⟨v0, vs0, d0, ds0, p0, q0, hargs, rfl, rfl, h0, r0⟩ := trodAll_cons hA
  obtain ⟨v1, vs1, d1, ds1, p1, q1, rfl, rfl, rfl, h1, r1⟩ := trodAll_cons r0
  obtain ⟨rfl, rfl, rfl⟩ := trodAll_nil r1
  obtain rfl : args = #[v0, v1] := by cases args; simp_all
  obtain ⟨rfl, rfl⟩ := trodVars_none hV
  obtain ⟨a0, rfl, rfl, rfl, w0⟩ := open_int Try.underlying22 (hval 0 22 v0 rfl rfl) h0
  obtain ⟨a1, rfl, rfl, rfl, w1⟩ := open_int Try.underlying2 (hval 1 2 v1 rfl rfl) h1
  clear hA0 hval0
  simp only [List.append_nil] at hW'
  have b0 := wf_u64 w0
  have b1 := wf_i64 w1
  obtain ⟨x, rfl⟩ := Int.eq_ofNat_of_zero_le b0.1
  refine (walk x a1 W (by omega) b1.1 b1.2).mono fun e W' ⟨he, bel⟩ => ?_
  subst he
  exact ⟨_, rfl, _, _, _, [], [], [], hW', trodAll_mk1 (shut_bool Try.underlying4 _), (trodAll_cons_mk (shut_int Try.underlying22 w0) (trodAll_cons_mk (shut_int Try.underlying2 w1) trodAll_mk0)), rfl, bel.frame _, fun h => by cases h⟩

end wireLengths
theorem wireLengths_proved : Rows.WireLengthsSaid :=
  OpenClaim.holds_of_wide 3 Try.f3 rfl rfl rfl rfl rfl rfl rfl ⟨rfl, rfl, rfl, rfl, rfl⟩ rfl rfl rfl rfl rfl (by kernel_rfl) Try.func3 (by kernel_rfl)
    (of_decide_eq_true (by kernel_rfl)) (by unfold Func.isWrapper; first | (rw [if_pos (by decide +kernel)]; kernel_rfl) | (rw [if_neg (by decide +kernel)]; exact ⟨rfl, rfl⟩))
    (fun os started H enc _ => wireLengths.lifted os started H enc)
#print axioms wireLengths_proved
end Go.Proofs.Ytifhbbljjalpfaa
