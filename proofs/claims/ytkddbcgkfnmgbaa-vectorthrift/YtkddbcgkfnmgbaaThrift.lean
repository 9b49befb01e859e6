/- Proved: for every list of ints VectorThrift answers true: at version 2 a vector has one byte, and at most four more for each place that differs from the one before it. No condition. -/
import Derived.Test.YtkddbcgkfnmgbaaVPackF
import Derived.Test.YtkddbcgkfnmgbaaVSound
import Derived.Test.YtkddbcgkfnmgbaaVNum
import Derived.Test.YtkddbcgkfnmgbaaVArgs
namespace Go.Proofs.Ytkddbcgkfnmgbaa
namespace vectorThrift
open Go.ChangeShapes Go.WideShapes Go.ChangeAt Go.RowKit Go.Wire1

theorem lit_pack : packR 2 [9, 9, 9, 9, 9, 9, 9] = [1, 18] ∧ packE 2 [9, 9, 9, 9, 9, 9, 9] = 0 := by decide +kernel

set_option maxHeartbeats 1000000 in
set_option maxRecDepth 100000 in
theorem walk (a : Option Addr) (n cap : Nat) (l : List Int) (w : World) (h : SegI w a n l) :
    Calls Try.prog 4 #[.slice a n cap] w fun e w' => e = .returned (.bool true) ∧ Below w.heap.size w w' := by
  have HS : Hid (SegI w a n l) := h
  have HL : Hid (l.length = n) := h.1
  have hm := h.2.1
  unfold maxLen at hm
  clear h
  have ml : (7 : Nat) ≤ maxLen := by unfold maxLen; omega
  have f1 : Hid (Fit [9, 9, 9, 9, 9, 9, 9]) := fit_ok rfl
  go_enter Try.func4, Try.ntmps4
  go_wp2_with fail
  refine (pack_seg (v := 2) (l := [9, 9, 9, 9, 9, 9, 9]) (w0 := w) ((Below.refl w.heap.size _).more (Nat.le_refl _) _) (Nat.le_refl _) (segI_lit _ f1.out ml rfl rfl rfl) lit_pack.1 lit_pack.2 rfl).mono ?_
  rintro e w1 ⟨a1, c1, rfl, hc1, -, s1, hb1, -⟩
  have B1 : Hid (Below w.heap.size w w1) := hb1
  clear s1 hb1
  go_wp2_with fail
  refine (num_any _ _).mono ?_
  rintro e w' ⟨rfl, rfl⟩
  go_wp2_with fail
  refine (sound_any _ _ _ l _ (HS.out.below B1.out (Nat.le_refl _))).mono ?_
  rintro e w' ⟨rfl, rfl⟩
  cases h1 : isVec l with
  | false =>
    clear h1
    go_wp2
    go_ret
    exact ⟨rfl, B1.out⟩
  | true =>
    have hvk : okL l = true ∧ okW l.length = true := by
      unfold isVec at h1
      simp only [Bool.and_eq_true] at h1
      exact ⟨h1.2, h1.1⟩
    have h7 := of_decide_eq_true hvk.2
    have HE : Hid (packE 2 l = 0) := by show _ = _; unfold packE fault; rw [if_pos (.inr rfl), hvk.2, hvk.1]; rfl
    have HR : Hid ((packR 2 l).length = 1 + (diffK l n).length) := by
      show _ = _
      unfold packR packL
      rw [if_pos HE.out, if_neg (by decide), tight_len h1, HL.out]
    have HD := diffK_len hvk.1 n
    have HT1 : Hid (1 + turnsK l n ≤ (packR 2 l).length) := by show _ ≤ _; rw [HR.out]; omega
    have HT2 : Hid ((packR 2 l).length ≤ 1 + 4 * turnsK l n) := by show _ ≤ _; rw [HR.out]; omega
    have htk := turnsK_le l n
    have hn7 : n ≤ 7 := by rw [HL.out] at h7; omega
    clear h1 hvk h7 HD
    go_wp2_with fail
    refine (pack_seg (v := 2) (l := l) B1.out (Nat.le_refl _) (HS.out.below B1.out (Nat.le_refl _)) rfl HE.out rfl).mono ?_
    rintro e w2 ⟨a2, c2, rfl, hc2, -, s2, hb2, -⟩
    have B2 : Hid (Below w.heap.size w w2) := hb2
    clear s2 hb2
    generalize (packR 2 l).length = m at *
    go_wp2
    go_loop [6, 7, 8] (fun t p i => ∃ k tt : Nat, i = .int .i64 (k : Int) ∧ k ≤ n ∧ t = .int .i64 (tt : Int) ∧ Hid (tt = turnsK l k) ∧ ∃ q : Int, p = .int .i64 q ∧ Hid (q = prev l k)) (fun _ _ i => n - (intOf i).toNat)
    case atStart => exact ⟨0, 0, rfl, Nat.zero_le _, rfl, rfl, 0, rfl, rfl⟩
    case round =>
      obtain ⟨k, tt, rfl, hk, rfl, HTT, q, rfl, HQ⟩ := hrel
      have htt : tt ≤ k := by rw [HTT.out]; exact turnsK_le l k
      by_cases hlt : k < n
      · obtain ⟨ba, oa, rfl, hca⟩ := (HS.out.below B2.out (Nat.le_refl _)).2.2.1 (by omega)
        have ca := hca k hlt
        have HQ' : Hid (l.getD k 0 = prev l (k + 1)) := by show _ = _; rw [prev_succ]
        clear hca
        by_cases he : l.getD k 0 = q
        · have HT' : Hid (tt = turnsK l (k + 1)) := by show _ = _; simp only [turnsK]; rw [if_pos (by rw [← HQ.out]; exact he), ← HTT.out]; omega
          rw [he] at ca
          have HQ2 : Hid (q = prev l (k + 1)) := by show _ = _; rw [← he]; exact HQ'.out
          clear he HQ'
          go_wp2
          go_round
          case rel => exact ⟨k + 1, tt, by go_num, by omega, rfl, HT', q, rfl, HQ2⟩
          case measure => simp [intOf]; omega
        · have HT' : Hid (tt + 1 = turnsK l (k + 1)) := by show _ = _; simp only [turnsK]; rw [if_neg (by rw [← HQ.out]; exact he), ← HTT.out]
          have hne : (l.getD k 0 != q) = true := by simpa using he
          clear he
          generalize l.getD k 0 = x at *
          go_wp2
          go_round
          case rel => exact ⟨k + 1, tt + 1, by go_num, by omega, by go_num, HT', x, rfl, HQ'⟩
          case measure => simp [intOf]; omega
      · obtain rfl : n = k := by omega
        rw [← HTT.out] at HT1 HT2
        have i1 : (1 : Int) + (tt : Int) ≤ (m : Int) := by have := HT1.out; omega
        have i2 : (m : Int) ≤ (1 : Int) + 4 * (tt : Int) := by have := HT2.out; omega
        go_wp2_with fail
        refine (num_any _ _).mono ?_
        rintro e w' ⟨rfl, rfl⟩
        go_wp2
        go_ret
        exact ⟨rfl, B2.out⟩

set_option maxRecDepth 100000 in
/-- For every argument and every world. -/
theorem contract (H : Type) (enc : TypeId × Value → H) (W : World) (base : Nat) (args : Array Value) (ds gs : List (DataW H)) (before : List MemPlace)
    (hval : ∀ (j : Nat) t v, Try.f4.params[j]? = some t → args[j]? = some v → Value.okWide Try.prog W .any base t v)
    (hW : DataW.Whole enc Try.prog Try.f4.params.toList Rows.vectorThriftSpec.vars false W args.toList ds gs before)
    (hsz : (DataW.weightsEach Try.prog (Try.f4.params.toList ++ Rows.vectorThriftSpec.plain.varTypes Try.prog) (ds ++ gs)).all (· ≤ reachBytes) = true) :
    Calls Try.prog 4 args W fun e W' => ∃ v, e = .returned v ∧ Rows.vectorThriftSpec.post enc Try.prog Try.f4 false true false false W args v W' := by
  have hW' := hW
  obtain ⟨p, q, hA0, hV, rfl, hfz, hnd⟩ := hW
  have hA : DataW.TrodAll enc Try.prog W 0 (fun _ => true) true Try.f4.params.toList args.toList ds p := hA0
  rw [Try.params4] at hA hval hsz
  obtain ⟨v0, vs0, d0, ds0, p0, q0, hargs, rfl, rfl, h0, r0⟩ := trodAll_cons hA
  obtain ⟨rfl, rfl, rfl⟩ := trodAll_nil r0
  obtain rfl : args = #[v0] := by cases args; simp_all
  obtain ⟨rfl, rfl⟩ := trodVars_none hV
  obtain ⟨a0, n0, cap0, rfl⟩ := okWide_slice Try.underlying23 (hval 0 23 v0 rfl rfl)
  have k0 := h0
  have lt0 : ∀ x ∈ p0, x.block < W.heap.size := by obtain ⟨m, hm⟩ := k0; exact DataW.trod_lt m _ _ _ hm
  obtain ⟨fuel0, hf0⟩ := h0
  obtain ⟨l0, hseg0, hcap0, hdat0⟩ := vopen_ints hf0
  clear hA0
  refine (walk a0 n0 cap0 l0 W hseg0).mono fun e W' ⟨he, bel⟩ => ?_
  subst he
  exact ⟨_, rfl, _, _, _, [], _, [], hW', trodAll_mk1 (shut_bool Try.underlying4 _), (trodAll_cons_mk (Below.trod vlaid (by kernel_rfl) (of_decide_eq_true (by kernel_rfl)) k0 bel lt0) trodAll_mk0), rfl, bel.frame _, fun h => by cases h⟩

set_option maxRecDepth 100000 in
theorem lifted (os : Os) (started : os.Started) (H : Type) (enc : TypeId × Value → H) :
    ReturnsInHanded {} Try.checked os 4 .any (Rows.vectorThriftSpec.pre6 enc Try.prog Try.f4 Rows.vectorThriftRow.domain false) (Rows.vectorThriftSpec.post enc Try.prog Try.f4 false true false false) := by
  refine returnsInHanded_of_change_sized (C := Try.checked) vown started (by kernel_rfl) Try.func4
    (ChangeSpec.witness6 (enc := enc) (C := Try.checked) false ⟨#[], #[.slice none 0 0], []⟩ 8 (by kernel_rfl) (by kernel_rfl) (by kernel_rfl) (by kernel_rfl)) ?_
  intro W base args ds gs before hval hW _ hsz _
  exact contract H enc W base args ds gs before hval hW hsz

end vectorThrift
theorem vectorThrift_proved : Rows.VectorThriftSaid :=
  OpenClaim.holds_of_wide 4 Try.f4 rfl rfl rfl rfl rfl rfl rfl ⟨rfl, rfl, rfl, rfl, rfl⟩ rfl rfl rfl rfl rfl (by kernel_rfl) Try.func4 (by kernel_rfl)
    (of_decide_eq_true (by kernel_rfl)) (by unfold Func.isWrapper; first | (rw [if_pos (by decide +kernel)]; kernel_rfl) | (rw [if_neg (by decide +kernel)]; exact ⟨rfl, rfl⟩))
    (fun os started H enc _ => vectorThrift.lifted os started H enc)
#print axioms vectorThrift_proved
end Go.Proofs.Ytkddbcgkfnmgbaa
