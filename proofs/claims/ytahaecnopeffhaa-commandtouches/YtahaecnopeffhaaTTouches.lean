/- Proved: for every command CommandTouches answers true: what Touches hands out is what the document says. No condition. -/
import Derived.Test.YtahaecnopeffhaaTRef
import Derived.Test.YtahaecnopeffhaaTLaw
import Derived.Test.YtahaecnopeffhaaCArgs
namespace Go.Proofs.Ytahaecnopeffhaa
namespace commandTouches
open Go.ChangeShapes Go.WideShapes Go.ChangeAt Go.RowKit Go.Wire1

set_option maxHeartbeats 2000000 in
set_option maxRecDepth 100000 in
theorem walk (kind client req : Int) (key key2 val old : ByteArray) (n : Int) (w : World) (hk : key.size ≤ 140737488351232) (hk2 : key2.size ≤ 140737488351232) :
    Calls Try.prog 5 #[.agg #[.int .i64 kind, .int .i64 client, .int .i64 req, .string key, .string key2, .string val, .string old, .int .i64 n]] w fun e w' => e = .returned (.bool true) ∧ Below w.heap.size w w' := by
  obtain ⟨V, hV⟩ : ∃ V, V = w.alloc (.cells #[.int .i64 kind, .int .i64 client, .int .i64 req, .string key, .string key2, .string val, .string old, .int .i64 n] 23) := ⟨_, rfl⟩
  have X : Hid (CBox V w.heap.size kind client req key key2 val old n) := by rw [hV]; exact cbox_new w 23 _ _ _ _ _ _ _ _
  have hVs : w.heap.size ≤ V.heap.size := by rw [hV]; simp
  have BV : Hid (Below w.heap.size w V) := by rw [hV]; exact (Below.refl _ _).alloc (Nat.le_refl _) _
  have small : Hid ((⟨#[107]⟩ : ByteArray).size ≤ 140737488351232) := by show (1 : Nat) ≤ _; omega
  have none' : Hid ((⟨#[]⟩ : ByteArray).size ≤ 140737488351232) := by show (0 : Nat) ≤ _; omega
  have ml : ∀ kd k k', (touchL kd k k').length ≤ maxLen := fun kd k k' => by have := touchL_len kd k k'; unfold maxLen; omega
  go_enter Try.func5, Try.ntmps5
  go_wp2_with fail
  rw [← hV]
  clear hV
  refine (put_any _ _).mono ?_
  rintro e w1 ⟨rfl, hb1⟩
  have B1 : Hid (Below V.heap.size V w1) := hb1
  have s1 : V.heap.size ≤ w1.heap.size := hb1.size
  clear hb1
  go_wp2_with fail
  refine (touches_any _ _ _ _ _ _ _ _ _ small.out none'.out).mono ?_
  rintro e w2 ⟨v2, rfl, T2, hb2⟩
  obtain ⟨a2, c2, rfl⟩ := T2.shape
  have HT2 := hide T2
  have B2 : Hid (Below V.heap.size V w2) := B1.out.trans (hb2.mono s1)
  have s2 : V.heap.size ≤ w2.heap.size := B2.out.size
  clear hb2 B1 T2
  go_wp2_with fail
  refine (put_any _ _).mono ?_
  rintro e w3 ⟨rfl, hb3⟩
  have HT3 := hide (HT2.out.below hb3 (Nat.le_refl _))
  have B3 : Hid (Below V.heap.size V w3) := B2.out.trans (hb3.mono s2)
  have s3 : V.heap.size ≤ w3.heap.size := B3.out.size
  clear hb3 B2 HT2
  go_wp2_with fail
  refine (rtouches_any _ _ _ _ _ _ _ _ _ small.out none'.out).mono ?_
  rintro e w4 ⟨v4, rfl, T4, hb4⟩
  obtain ⟨a4, c4, rfl⟩ := T4.shape
  have HT4 := hide T4
  have HT5 := hide (HT3.out.below hb4 (Nat.le_refl _))
  have B4 : Hid (Below V.heap.size V w4) := B3.out.trans (hb4.mono s3)
  have s4 : V.heap.size ≤ w4.heap.size := B4.out.size
  clear hb4 B3 T4 HT3
  go_wp2_with fail
  refine (rsameT_any _ _ _ _ _ _ _ _ _ _ HT5.out HT4.out rfl rfl (ml _ _ _)).mono ?_
  rintro e w5 ⟨rfl, q5, hq5⟩
  have B5 : Hid (Below V.heap.size V w5) := by rw [hq5]; exact ⟨B4.out.os, B4.out.tape, B4.out.output, B4.out.size, B4.out.block⟩
  have s5 : V.heap.size ≤ w5.heap.size := B5.out.size
  clear hq5 B4 HT4 HT5
  obtain ⟨x0, x1, x2, x3, x4, x5, x6, x7⟩ := X.out.below B5.out (Nat.le_refl _)
  go_wp2_with fail
  refine (touches_any kind client req key key2 val old n _ hk hk2).mono ?_
  rintro e w6 ⟨v6, rfl, T6, hb6⟩
  obtain ⟨a6, c6, rfl⟩ := T6.shape
  have HT6 := hide T6
  have B6 : Hid (Below V.heap.size V w6) := B5.out.trans (hb6.mono s5)
  have s6 : V.heap.size ≤ w6.heap.size := B6.out.size
  clear hb6 B5 T6 x0 x1 x2 x3 x4 x5 x6 x7
  obtain ⟨x0, x1, x2, x3, x4, x5, x6, x7⟩ := X.out.below B6.out (Nat.le_refl _)
  go_wp2_with fail
  refine (rtouches_any kind client req key key2 val old n _ hk hk2).mono ?_
  rintro e w7 ⟨v7, rfl, T7, hb7⟩
  obtain ⟨a7, c7, rfl⟩ := T7.shape
  have HT7 := hide T7
  have HT8 := hide (HT6.out.below hb7 (Nat.le_refl _))
  have B7 : Hid (Below V.heap.size V w7) := B6.out.trans (hb7.mono s6)
  clear hb7 B6 T7 HT6 x0 x1 x2 x3 x4 x5 x6 x7
  go_wp2_with fail
  refine (rsameT_any _ _ _ _ _ _ _ _ _ _ HT8.out HT7.out rfl rfl (ml _ _ _)).mono ?_
  rintro e w8 ⟨rfl, q8, hq8⟩
  have B8 : Hid (Below V.heap.size V w8) := by rw [hq8]; exact ⟨B7.out.os, B7.out.tape, B7.out.output, B7.out.size, B7.out.block⟩
  clear hq8
  go_wp2
  go_ret
  exact ⟨rfl, BV.out.trans (B8.out.mono hVs)⟩

set_option maxRecDepth 100000 in
/-- For every argument and every world. -/
theorem contract (H : Type) (enc : TypeId × Value → H) (W : World) (base : Nat) (args : Array Value) (ds gs : List (DataW H)) (before : List MemPlace)
    (hval : ∀ (j : Nat) t v, Try.f5.params[j]? = some t → args[j]? = some v → Value.okWide Try.prog W .any base t v)
    (hW : DataW.Whole enc Try.prog Try.f5.params.toList Rows.commandTouchesSpec.vars false W args.toList ds gs before)
    (hsz : (DataW.weightsEach Try.prog (Try.f5.params.toList ++ Rows.commandTouchesSpec.plain.varTypes Try.prog) (ds ++ gs)).all (· ≤ reachBytes) = true) :
    Calls Try.prog 5 args W fun e W' => ∃ v, e = .returned v ∧ Rows.commandTouchesSpec.post enc Try.prog Try.f5 false true false false W args v W' := by
  have hW' := hW
  obtain ⟨p, q, hA0, hV, rfl, hfz, hnd⟩ := hW
  have hA : DataW.TrodAll enc Try.prog W 0 (fun _ => true) true Try.f5.params.toList args.toList ds p := hA0
  rw [Try.params5] at hA hval hsz
  obtain ⟨v0, vs0, d0, ds0, p0, q0, hargs, rfl, rfl, h0, r0⟩ := trodAll_cons hA
  obtain ⟨rfl, rfl, rfl⟩ := trodAll_nil r0
  obtain rfl : args = #[v0] := by cases args; simp_all
  obtain ⟨rfl, rfl⟩ := trodVars_none hV
  have k0 := h0
  have lt0 : ∀ x ∈ p0, x.block < W.heap.size := by obtain ⟨m, hm⟩ := k0; exact DataW.trod_lt m _ _ _ hm
  obtain ⟨kd0, cl0, rq0, ka0, kb0, va0, ol0, nn0, rfl, hd0, b0⟩ := copen_cmd (hval 0 23 v0 rfl rfl) h0
  have sz0 := csized hsz (j := 0) (kind := kd0) (client := cl0) (req := rq0) (key := ka0) (key2 := kb0) (val := va0) (old := ol0) (n := nn0) rfl (by rw [show d0 = _ from hd0]; rfl)
  clear hA0
  refine (walk kd0 cl0 rq0 ka0 kb0 va0 ol0 nn0 W sz0.1 sz0.2.1).mono fun e W' ⟨he, bel⟩ => ?_
  subst he
  exact ⟨_, rfl, _, _, _, [], _, [], hW', trodAll_mk1 (shut_bool Try.underlying4 _), (trodAll_cons_mk (Below.trod claid (by kernel_rfl) (of_decide_eq_true (by kernel_rfl)) k0 bel lt0) trodAll_mk0), rfl, bel.frame _, fun h => by cases h⟩

set_option maxRecDepth 100000 in
theorem lifted (os : Os) (started : os.Started) (H : Type) (enc : TypeId × Value → H) :
    ReturnsInHanded {} Try.checked os 5 .any (Rows.commandTouchesSpec.pre6 enc Try.prog Try.f5 Rows.commandTouchesRow.domain false) (Rows.commandTouchesSpec.post enc Try.prog Try.f5 false true false false) := by
  refine returnsInHanded_of_change_sized (C := Try.checked) cown started (by kernel_rfl) Try.func5
    (ChangeSpec.witness6 (enc := enc) (C := Try.checked) false ⟨#[], #[.agg #[.int .i64 0, .int .i64 0, .int .i64 0, .string ⟨#[]⟩, .string ⟨#[]⟩, .string ⟨#[]⟩, .string ⟨#[]⟩, .int .i64 0]], []⟩ 8 (by kernel_rfl) (by kernel_rfl) (by kernel_rfl) (by kernel_rfl)) ?_
  intro W base args ds gs before hval hW _ hsz _
  exact contract H enc W base args ds gs before hval hW hsz

end commandTouches
theorem commandTouches_proved : Rows.CommandTouchesSaid :=
  OpenClaim.holds_of_wide 5 Try.f5 rfl rfl rfl rfl rfl rfl rfl ⟨rfl, rfl, rfl, rfl, rfl⟩ rfl rfl rfl rfl rfl (by kernel_rfl) Try.func5 (by kernel_rfl)
    (of_decide_eq_true (by kernel_rfl)) (by unfold Func.isWrapper; first | (rw [if_pos (by decide +kernel)]; kernel_rfl) | (rw [if_neg (by decide +kernel)]; exact ⟨rfl, rfl⟩))
    (fun os started H enc _ => commandTouches.lifted os started H enc)
#print axioms commandTouches_proved
end Go.Proofs.Ytahaecnopeffhaa
