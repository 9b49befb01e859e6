/- Proved: for every two unsigned 64-bit numbers, WirePrefix answers true: their forms are alike as far as the shorter one goes just if the numbers are the same. No condition. -/
import Derived.Test.YtifhbbljjalpfaaSame
import Derived.ProofKit
import Derived.OpenShut
import Derived.ShutString
import Derived.ChangeOld
import Derived.WalkSmall
namespace Go.Proofs.Ytifhbbljjalpfaa
namespace wirePrefix
open Go.ChangeShapes Go.WideShapes Go.ChangeAt Go.RowKit Go.Wire1

theorem own : ownKnob Try.prog.godebug = none := by kernel_rfl

theorem same_take {x y k : Nat} (hx : x < 18446744073709551616) (hy : y < 18446744073709551616) (hk : k = (enc x).length ∨ k = (enc y).length) (hl : k ≤ (enc x).length) (hm : k ≤ (enc y).length) : sameB ((enc x).take k) ((enc y).take k) = decide (x = y) := by
  rw [sameB, decide_eq_decide]
  exact ⟨enc_take hx hy hk hl hm, fun h => by rw [h]⟩
theorem hd_of {r : Bool} {x y : Nat} (h : r = decide (x = y)) : (r = true ∧ ((x : Int) == (y : Int)) = true) ∨ (r = false ∧ ((x : Int) == (y : Int)) = false) := by
  by_cases e : x = y
  · left; simp [h, e]
  · right; exact ⟨by simp [h, e], beq_eq_false_iff_ne.2 (by omega)⟩

set_option maxHeartbeats 1000000 in
set_option maxRecDepth 100000 in
theorem walk (x y : Nat) (w : World) (hx : x < 18446744073709551616) (hy : y < 18446744073709551616) :
    Calls Try.prog 4 #[.int .u64 (x : Int), .int .u64 (y : Int)] w fun e w' => e = .returned (.bool true) ∧ Below w.heap.size w w' := by
  have lx := enc_le x hx
  have ly := enc_le y hy
  go_enter Try.func4, Try.ntmps4
  go_wp2_with fail
  refine (putUint_any x _ hx).mono ?_
  rintro e w1 ⟨v, rfl, hown, hbel⟩
  go_wp2_with fail
  refine (putUint_any y _ hy).mono ?_
  rintro e w2 ⟨v2, rfl, hown2, hbel2⟩
  obtain ⟨a, cap, rfl, hc1, hm1, s1⟩ := seg_own hown
  obtain ⟨a2, cap2, rfl, hc2, hm2, s2⟩ := seg_own hown2
  have s1' := s1.below hbel2 (Nat.le_refl _)
  have B2 : Hid (Below w.heap.size w w2) := hbel.trans (hbel2.mono hbel.size)
  clear hown hown2 hbel hbel2 s1
  have hfree : Hid (∀ k, k = (enc x).length ∨ k = (enc y).length → k ≤ (enc x).length → k ≤ (enc y).length → sameB ((enc x).take k) ((enc y).take k) = decide (x = y)) := fun k hk h1 h2 => same_take hx hy hk h1 h2
  generalize enc x = X at *
  generalize enc y = Y at *
  unfold maxLen at hm1 hm2
  by_cases hlt : Y.length < X.length
  · have HF : Hid (sameB (X.take Y.length) (Y.take Y.length) = decide (x = y)) := hfree.out _ (.inr rfl) (by omega) (by omega)
    go_wp2
    go_quiet ((go_at_call 8; exact Calls.quiet_of (same_any a a2 Y.length Y.length cap cap2 (X.take Y.length) (Y.take Y.length) _ ((s1'.take (by omega)).drewN _) ((s2.take (by omega)).drewN _))))
    generalize sameB (X.take Y.length) (Y.take Y.length) = r at *
    have hd := hd_of HF.out
    clear HF hfree
    rcases hd with ⟨rfl, hd⟩ | ⟨rfl, hd⟩
    all_goals
      go_wp2
      go_ret
      exact ⟨rfl, below_drewN B2.out _⟩
  · have HF : Hid (sameB (X.take X.length) (Y.take X.length) = decide (x = y)) := hfree.out _ (.inl rfl) (by omega) (by omega)
    go_wp2
    go_quiet ((go_at_call 8; exact Calls.quiet_of (same_any a a2 X.length X.length cap cap2 (X.take X.length) (Y.take X.length) _ ((s1'.take (by omega)).drewN _) ((s2.take (by omega)).drewN _))))
    generalize sameB (X.take X.length) (Y.take X.length) = r at *
    have hd := hd_of HF.out
    clear HF hfree
    rcases hd with ⟨rfl, hd⟩ | ⟨rfl, hd⟩
    all_goals
      go_wp2
      go_ret
      exact ⟨rfl, below_drewN B2.out _⟩

set_option maxRecDepth 100000 in
theorem lifted (os : Os) (started : os.Started) (H : Type) (enc : TypeId × Value → H) :
    ReturnsInHanded {} Try.checked os 4 .any (Rows.wirePrefixSpec.pre6 enc Try.prog Try.f4 Rows.wirePrefixRow.domain false) (Rows.wirePrefixSpec.post enc Try.prog Try.f4 false true false false) := by
  refine returnsInHanded_of_change (C := Try.checked) own started (by kernel_rfl) Try.func4
    (ChangeSpec.witness6 (enc := enc) (C := Try.checked) false ⟨#[], #[.int .u64 0, .int .u64 0], []⟩ 8 (by kernel_rfl) (by kernel_rfl) (by kernel_rfl) (by kernel_rfl)) ?_
  intro W base args ds gs before hval0 hW hcnd _
  have hval : ∀ (j : Nat) t v, Try.f4.params[j]? = some t → args[j]? = some v → Value.okWide Try.prog W .any base t v := hval0
  have hW' := hW
  obtain ⟨p, q, hA0, hV, rfl, hfz, hnd⟩ := hW
  have hA : DataW.TrodAll enc Try.prog W 0 (fun _ => true) true Try.f4.params.toList args.toList ds p := hA0
  rw [Try.params4] at hA hval
  obtain ⟨v0, vs0, d0, ds0, p0, q0, hargs, rfl, rfl, h0, r0⟩ := trodAll_cons hA
  obtain ⟨v1, vs1, d1, ds1, p1, q1, rfl, rfl, rfl, h1, r1⟩ := trodAll_cons r0
  obtain ⟨rfl, rfl, rfl⟩ := trodAll_nil r1
  obtain rfl : args = #[v0, v1] := by cases args; simp_all
  obtain ⟨rfl, rfl⟩ := trodVars_none hV
  obtain ⟨a0, rfl, rfl, rfl, w0⟩ := open_int Try.underlying22 (hval 0 22 v0 rfl rfl) h0
  obtain ⟨a1, rfl, rfl, rfl, w1⟩ := open_int Try.underlying22 (hval 1 22 v1 rfl rfl) h1
  clear hA0 hval0
  simp only [List.append_nil] at hW'
  have b0 := bounds_u64 w0
  have b1 := bounds_u64 w1
  obtain ⟨x, rfl⟩ := Int.eq_ofNat_of_zero_le b0.1
  obtain ⟨y, rfl⟩ := Int.eq_ofNat_of_zero_le b1.1
  refine (walk x y W (by omega) (by omega)).mono fun e W' ⟨he, bel⟩ => ?_
  subst he
  exact ⟨_, rfl, _, _, _, [], [], [], hW', trodAll_mk1 (shut_bool Try.underlying4 _), (trodAll_cons_mk (shut_int Try.underlying22 w0) (trodAll_cons_mk (shut_int Try.underlying22 w1) trodAll_mk0)), rfl, bel.frame _, fun h => by cases h⟩

end wirePrefix
theorem wirePrefix_proved : Rows.WirePrefixSaid :=
  OpenClaim.holds_of_wide 4 Try.f4 rfl rfl rfl rfl rfl rfl rfl ⟨rfl, rfl, rfl, rfl, rfl⟩ rfl rfl rfl rfl rfl (by kernel_rfl) Try.func4 (by kernel_rfl)
    (of_decide_eq_true (by kernel_rfl)) (by unfold Func.isWrapper; first | (rw [if_pos (by decide +kernel)]; kernel_rfl) | (rw [if_neg (by decide +kernel)]; exact ⟨rfl, rfl⟩))
    (fun os started H enc _ => wirePrefix.lifted os started H enc)
#print axioms wirePrefix_proved
end Go.Proofs.Ytifhbbljjalpfaa
