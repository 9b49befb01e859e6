/- Proved: for every list of lists of ints and every list of ints VectorLeast answers true: the union of vectors is the least one that covers them all. No condition. -/
import Derived.Test.YtkddbcgkfnmgbaaVLeast
import Derived.Test.YtkddbcgkfnmgbaaVArgs
namespace Go.Proofs.Ytkddbcgkfnmgbaa
namespace vectorLeast
open Go.ChangeShapes Go.WideShapes Go.ChangeAt Go.RowKit Go.Wire1

theorem lit_alike : alikeB [[1, 5, 0], [3, 2, 0]] = true ∧ [[1, 5, 0], [3, 2, 0]].all okL = true ∧ isVec [3, 5, 0] = true := ⟨rfl, rfl, rfl⟩

set_option maxHeartbeats 1000000 in
set_option maxRecDepth 100000 in
theorem walk (a a' : Option Addr) (n cap n' cap' : Nat) (ls : List LI) (x : List Int) (w : World) (h : SegL w a n ls) (hcap : n ≤ cap) (hx : SegI w a' n' x) :
    Calls Try.prog 5 #[.slice a n cap, .slice a' n' cap'] w fun e w' => e = .returned (.bool true) ∧ Below w.heap.size w w' := by
  have HS : Hid (SegL w a n ls) := h
  have HX : Hid (SegI w a' n' x) := hx
  have hm := h.2.1
  have hm' := hx.2.1
  unfold maxLen at hm hm'
  clear h hx
  have ml : (3 : Nat) ≤ maxLen := by unfold maxLen; omega
  have f1 : Hid (Fit [1, 5, 0]) := fit_ok rfl
  have f2 : Hid (Fit [3, 2, 0]) := fit_ok rfl
  have f3 : Hid (Fit [3, 5, 0]) := fit_ok rfl
  go_enter Try.func5, Try.ntmps5
  go_wp2_with fail
  refine (least_any _ _ 2 2 3 3 [⟨some ⟨w.heap.size, 0, none⟩, 3, 3, [1, 5, 0]⟩, ⟨some ⟨w.heap.size + 1, 0, none⟩, 3, 3, [3, 2, 0]⟩] [3, 5, 0] _ ?hs (by decide) ?hx lit_alike.1 lit_alike.2.1 lit_alike.2.2 rfl).mono ?_
  case hs =>
    refine (segL_lit _ (by unfold maxLen; simp) ?_ rfl (by simp) rfl).below ((Below.refl _ _).alloc (Nat.le_refl _) _) (Nat.le_refl _)
    intro s hs
    simp only [List.mem_cons, List.not_mem_nil, or_false] at hs
    rcases hs with rfl | rfl
    · exact (segI_lit _ f1.out ml rfl rfl rfl).on _
    · exact segI_lit _ f2.out ml rfl (by simp) rfl
  case hx => exact segI_lit _ f3.out ml rfl (by simp) rfl
  rintro e w1 ⟨rfl, hb1⟩
  have B1 : Hid (Below w.heap.size w w1) := ((((((Below.refl _ _).more (Nat.le_refl _) _).more (Nat.le_refl _) _).more (Nat.le_refl _) _).more (Nat.le_refl _) _).on hb1 (Nat.le_refl _))
  clear hb1
  go_wp2_with fail
  refine (lalike_any _ _ _ ls _ (HS.out.below B1.out (Nat.le_refl _))).mono ?_
  rintro e w2 ⟨rfl, q, hq⟩
  have B2 : Hid (Below w.heap.size w w2) := by rw [hq]; exact B1.out.drewN' q
  clear hq B1
  go_wp2_with fail
  refine (sound_any _ _ _ x _ (HX.out.below B2.out (Nat.le_refl _))).mono ?_
  rintro e w3 ⟨rfl, rfl⟩
  cases h1 : alikeS (lsOf ls) with
  | false =>
    clear h1
    go_wp2
    go_ret
    exact ⟨rfl, B2.out⟩
  | true =>
    have hl := alikeB_len (alikeS_both h1).1
    have hn : n = (lsOf ls).length := by rw [lsOf_len]; exact HS.out.1.symm
    obtain ⟨b, off, rfl⟩ := HS.out.addr (by omega)
    obtain ⟨a0, n0, cap0, c0', s0⟩ := HS.out.at (i := 0) (by omega)
    rw [Nat.add_zero] at c0'
    have c0 : w2.cell? ⟨b, off, none⟩ = some (.slice a0 n0 cap0) := by rw [B2.out.cell (p := ⟨b, off, none⟩) (cell_lt c0')]; exact c0'
    have HN0 : Hid (((lsOf ls).getD 0 []).length = n0) := s0.1
    have hpos : 0 < n := by omega
    have hn0 := s0.2.1
    unfold maxLen at hn0
    have H1 : Hid (alikeS (lsOf ls) = true) := h1
    clear h1 hl hn c0' s0
    cases h2 : isVec x with
    | false =>
      clear h2
      go_wp2
      go_ret
      exact ⟨rfl, B2.out⟩
    | true =>
      have H2 : Hid (isVec x = true) := h2
      clear h2
      by_cases he : n' = n0
      · subst he
        by_cases hk : (1000 : Int) < (n : Int)
        · go_wp2
          go_ret
          exact ⟨rfl, B2.out⟩
        · go_wp2_with fail
          refine (least_any _ _ n cap n' cap' ls x _ (HS.out.below B2.out (Nat.le_refl _)) hcap (HX.out.below B2.out (Nat.le_refl _)) (alikeS_both H1.out).1 (alikeS_both H1.out).2 H2.out (by rw [HN0.out]; exact HX.out.1)).mono ?_
          rintro e w5 ⟨rfl, hb5⟩
          have B5 : Hid (Below w.heap.size w w5) := B2.out.on hb5 (Nat.le_refl _)
          go_wp2
          go_ret
          exact ⟨rfl, B5.out⟩
      · have hne : ((n' : Int) != (n0 : Int)) = true := by rw [bne_iff_ne]; omega
        go_wp2
        go_ret
        exact ⟨rfl, B2.out⟩

set_option maxRecDepth 100000 in
/-- For every argument and every world. -/
theorem contract (H : Type) (enc : TypeId × Value → H) (W : World) (base : Nat) (args : Array Value) (ds gs : List (DataW H)) (before : List MemPlace)
    (hval : ∀ (j : Nat) t v, Try.f5.params[j]? = some t → args[j]? = some v → Value.okWide Try.prog W .any base t v)
    (hW : DataW.Whole enc Try.prog Try.f5.params.toList Rows.vectorLeastSpec.vars false W args.toList ds gs before)
    (hsz : (DataW.weightsEach Try.prog (Try.f5.params.toList ++ Rows.vectorLeastSpec.plain.varTypes Try.prog) (ds ++ gs)).all (· ≤ reachBytes) = true) :
    Calls Try.prog 5 args W fun e W' => ∃ v, e = .returned v ∧ Rows.vectorLeastSpec.post enc Try.prog Try.f5 false true false false W args v W' := by
  have hW' := hW
  obtain ⟨p, q, hA0, hV, rfl, hfz, hnd⟩ := hW
  have hA : DataW.TrodAll enc Try.prog W 0 (fun _ => true) true Try.f5.params.toList args.toList ds p := hA0
  rw [Try.params5] at hA hval hsz
  obtain ⟨v0, vs0, d0, ds0, p0, q0, hargs, rfl, rfl, h0, r0⟩ := trodAll_cons hA
  obtain ⟨v1, vs1, d1, ds1, p1, q1, rfl, rfl, rfl, h1, r1⟩ := trodAll_cons r0
  obtain ⟨rfl, rfl, rfl⟩ := trodAll_nil r1
  obtain rfl : args = #[v0, v1] := by cases args; simp_all
  obtain ⟨rfl, rfl⟩ := trodVars_none hV
  obtain ⟨a0, n0, cap0, rfl⟩ := okWide_slice Try.underlying22 (hval 0 22 v0 rfl rfl)
  have k0 := h0
  have lt0 : ∀ x ∈ p0, x.block < W.heap.size := by obtain ⟨m, hm⟩ := k0; exact DataW.trod_lt m _ _ _ hm
  obtain ⟨fuel0, hf0⟩ := h0
  obtain ⟨l0, hseg0, hcap0⟩ := vopen_rows hf0
  obtain ⟨a1, n1, cap1, rfl⟩ := okWide_slice Try.underlying23 (hval 1 23 v1 rfl rfl)
  have k1 := h1
  have lt1 : ∀ x ∈ p1, x.block < W.heap.size := by obtain ⟨m, hm⟩ := k1; exact DataW.trod_lt m _ _ _ hm
  obtain ⟨fuel1, hf1⟩ := h1
  obtain ⟨l1, hseg1, hcap1, hdat1⟩ := vopen_ints hf1
  clear hA0
  refine (walk a0 a1 n0 cap0 n1 cap1 l0 l1 W hseg0 hcap0 hseg1).mono fun e W' ⟨he, bel⟩ => ?_
  subst he
  exact ⟨_, rfl, _, _, _, [], _, [], hW', trodAll_mk1 (shut_bool Try.underlying4 _), (trodAll_cons_mk (Below.trod vlaid (by kernel_rfl) (of_decide_eq_true (by kernel_rfl)) k0 bel lt0) (trodAll_cons_mk (Below.trod vlaid (by kernel_rfl) (of_decide_eq_true (by kernel_rfl)) k1 bel lt1) trodAll_mk0)), rfl, bel.frame _, fun h => by cases h⟩

set_option maxRecDepth 100000 in
theorem lifted (os : Os) (started : os.Started) (H : Type) (enc : TypeId × Value → H) :
    ReturnsInHanded {} Try.checked os 5 .any (Rows.vectorLeastSpec.pre6 enc Try.prog Try.f5 Rows.vectorLeastRow.domain false) (Rows.vectorLeastSpec.post enc Try.prog Try.f5 false true false false) := by
  refine returnsInHanded_of_change_sized (C := Try.checked) vown started (by kernel_rfl) Try.func5
    (ChangeSpec.witness6 (enc := enc) (C := Try.checked) false ⟨#[], #[.slice none 0 0, .slice none 0 0], []⟩ 8 (by kernel_rfl) (by kernel_rfl) (by kernel_rfl) (by kernel_rfl)) ?_
  intro W base args ds gs before hval hW _ hsz _
  exact contract H enc W base args ds gs before hval hW hsz

end vectorLeast
theorem vectorLeast_proved : Rows.VectorLeastSaid :=
  OpenClaim.holds_of_wide 5 Try.f5 rfl rfl rfl rfl rfl rfl rfl ⟨rfl, rfl, rfl, rfl, rfl⟩ rfl rfl rfl rfl rfl (by kernel_rfl) Try.func5 (by kernel_rfl)
    (of_decide_eq_true (by kernel_rfl)) (by unfold Func.isWrapper; first | (rw [if_pos (by decide +kernel)]; kernel_rfl) | (rw [if_neg (by decide +kernel)]; exact ⟨rfl, rfl⟩))
    (fun os started H enc _ => vectorLeast.lifted os started H enc)
#print axioms vectorLeast_proved
end Go.Proofs.Ytkddbcgkfnmgbaa
