/- Proved: for every list of lists of ints VectorUnions answers true: Union answers what the document says, and the same error. No condition. -/
import Derived.Test.YtkddbcgkfnmgbaaVRefs
import Derived.Test.YtkddbcgkfnmgbaaVLit
import Derived.Test.YtkddbcgkfnmgbaaVArgs
import Derived.Test.YtkddbcgkfnmgbaaSameI
namespace Go.Proofs.Ytkddbcgkfnmgbaa
namespace vectorUnions
open Go.ChangeShapes Go.WideShapes Go.ChangeAt Go.RowKit Go.Wire1

set_option maxHeartbeats 1000000 in
set_option maxRecDepth 100000 in
theorem walk (a : Option Addr) (n cap : Nat) (ls : List LI) (w : World) (h : SegL w a n ls) (hcap : n ≤ cap) :
    Calls Try.prog 6 #[.slice a n cap] w fun e w' => e = .returned (.bool true) ∧ Below w.heap.size w w' := by
  have HS : Hid (SegL w a n ls) := h
  have hm := h.2.1
  unfold maxLen at hm
  clear h
  have ml : (3 : Nat) ≤ maxLen := by unfold maxLen; omega
  have f1 : Hid (Fit [1, 5, 0]) := fit_ok rfl
  have f2 : Hid (Fit [3, 2, 0]) := fit_ok rfl
  have f3 : Hid (Fit [3, 5, 0]) := fit_ok rfl
  go_enter Try.func6, Try.ntmps6
  go_wp2_with fail
  refine (union_seg (ls := [⟨some ⟨w.heap.size, 0, none⟩, 3, 3, [1, 5, 0]⟩, ⟨some ⟨w.heap.size + 1, 0, none⟩, 3, 3, [3, 2, 0]⟩]) (B := w.heap.size) (w0 := w) ((((Below.refl _ _).more (Nat.le_refl _) _).more (Nat.le_refl _) _).more (Nat.le_refl _) _) (Nat.le_refl _) ?hs (by decide) (r := [3, 5, 0]) (e0 := 0) rfl rfl rfl).mono ?_
  case hs =>
    refine segL_lit _ (by unfold maxLen; simp) ?_ rfl (by simp) rfl
    intro s hs
    simp only [List.mem_cons, List.not_mem_nil, or_false] at hs
    rcases hs with rfl | rfl
    · exact (segI_lit _ f1.out ml rfl rfl rfl).on _
    · exact segI_lit _ f2.out ml rfl (by simp) rfl
  rintro e w1 ⟨a1, c1, rfl, hc1, s1, hb1, -⟩
  have S1 : Hid (SegI w1 a1 3 [3, 5, 0]) := s1
  have B1 : Hid (Below w.heap.size w w1) := hb1
  clear s1 hb1
  go_wp2_with fail
  refine (sameI_any _ _ 3 3 _ _ [3, 5, 0] [3, 5, 0] _ (S1.out.on _) (segI_lit _ f3.out ml rfl rfl rfl)).mono ?_
  rintro e w3 ⟨rfl, q, hq⟩
  have B2 : Hid (Below w.heap.size w w3) := by rw [hq]; exact (B1.out.more (Nat.le_refl _) _).drewN' q
  rw [show sameB [3, 5, 0] [3, 5, 0] = true from rfl]
  clear S1 B1 hq
  go_wp2_with fail
  refine (num_any _ _).mono ?_
  rintro e w4 ⟨rfl, rfl⟩
  by_cases hlt : (1000 : Int) < (n : Int)
  · go_wp2
    go_ret
    exact ⟨rfl, B2.out⟩
  · go_wp2_with fail
    refine (union_seg (ls := ls) B2.out (Nat.le_refl _) (HS.out.below B2.out (Nat.le_refl _)) hcap rfl rfl rfl).mono ?_
    rintro e w5 ⟨a5, c5, rfl, hc5, s5, hb5, -⟩
    have S5 : Hid (SegI w5 a5 (unionL (lsOf ls)).length (unionL (lsOf ls))) := s5
    have B5 : Hid (Below w.heap.size w w5) := hb5
    clear s5 hb5
    generalize hU : unionL (lsOf ls) = U at *
    generalize hE : unionE (lsOf ls) = E at *
    generalize hn5 : U.length = m at *
    go_wp2_with fail
    refine (refUnion_seg (ls := ls) B5.out (Nat.le_refl _) (HS.out.below B5.out (Nat.le_refl _)) hU hE hn5).mono ?_
    rintro e w6 ⟨a6, c6, rfl, hc6, s6, hb6, hb6'⟩
    have S6 : Hid (SegI w6 a6 m U) := s6
    have S5' : Hid (SegI w6 a5 m U) := S5.out.below hb6' (Nat.le_refl _)
    have B6 : Hid (Below w.heap.size w w6) := hb6
    clear s6 hb6 hb6' S5
    go_wp2_with fail
    refine (sameI_any _ _ m m _ _ U U _ S5'.out S6.out).mono ?_
    rintro e w7 ⟨rfl, q, hq⟩
    rw [show sameB U U = true from same_yes rfl]
    have B7 : Hid (Below w.heap.size w w7) := by rw [hq]; exact B6.out.drewN' q
    clear hq
    go_wp2_with fail
    refine (num_any _ _).mono ?_
    rintro e w8 ⟨rfl, rfl⟩
    go_wp2
    go_ret
    exact ⟨rfl, B7.out⟩

set_option maxRecDepth 100000 in
/-- For every argument and every world. -/
theorem contract (H : Type) (enc : TypeId × Value → H) (W : World) (base : Nat) (args : Array Value) (ds gs : List (DataW H)) (before : List MemPlace)
    (hval : ∀ (j : Nat) t v, Try.f6.params[j]? = some t → args[j]? = some v → Value.okWide Try.prog W .any base t v)
    (hW : DataW.Whole enc Try.prog Try.f6.params.toList Rows.vectorUnionsSpec.vars false W args.toList ds gs before)
    (hsz : (DataW.weightsEach Try.prog (Try.f6.params.toList ++ Rows.vectorUnionsSpec.plain.varTypes Try.prog) (ds ++ gs)).all (· ≤ reachBytes) = true) :
    Calls Try.prog 6 args W fun e W' => ∃ v, e = .returned v ∧ Rows.vectorUnionsSpec.post enc Try.prog Try.f6 false true false false W args v W' := by
  have hW' := hW
  obtain ⟨p, q, hA0, hV, rfl, hfz, hnd⟩ := hW
  have hA : DataW.TrodAll enc Try.prog W 0 (fun _ => true) true Try.f6.params.toList args.toList ds p := hA0
  rw [Try.params6] at hA hval hsz
  obtain ⟨v0, vs0, d0, ds0, p0, q0, hargs, rfl, rfl, h0, r0⟩ := trodAll_cons hA
  obtain ⟨rfl, rfl, rfl⟩ := trodAll_nil r0
  obtain rfl : args = #[v0] := by cases args; simp_all
  obtain ⟨rfl, rfl⟩ := trodVars_none hV
  obtain ⟨a0, n0, cap0, rfl⟩ := okWide_slice Try.underlying22 (hval 0 22 v0 rfl rfl)
  have k0 := h0
  have lt0 : ∀ x ∈ p0, x.block < W.heap.size := by obtain ⟨m, hm⟩ := k0; exact DataW.trod_lt m _ _ _ hm
  obtain ⟨fuel0, hf0⟩ := h0
  obtain ⟨l0, hseg0, hcap0⟩ := vopen_rows hf0
  clear hA0
  refine (walk a0 n0 cap0 l0 W hseg0 hcap0).mono fun e W' ⟨he, bel⟩ => ?_
  subst he
  exact ⟨_, rfl, _, _, _, [], _, [], hW', trodAll_mk1 (shut_bool Try.underlying4 _), (trodAll_cons_mk (Below.trod vlaid (by kernel_rfl) (of_decide_eq_true (by kernel_rfl)) k0 bel lt0) trodAll_mk0), rfl, bel.frame _, fun h => by cases h⟩

set_option maxRecDepth 100000 in
theorem lifted (os : Os) (started : os.Started) (H : Type) (enc : TypeId × Value → H) :
    ReturnsInHanded {} Try.checked os 6 .any (Rows.vectorUnionsSpec.pre6 enc Try.prog Try.f6 Rows.vectorUnionsRow.domain false) (Rows.vectorUnionsSpec.post enc Try.prog Try.f6 false true false false) := by
  refine returnsInHanded_of_change_sized (C := Try.checked) vown started (by kernel_rfl) Try.func6
    (ChangeSpec.witness6 (enc := enc) (C := Try.checked) false ⟨#[], #[.slice none 0 0], []⟩ 8 (by kernel_rfl) (by kernel_rfl) (by kernel_rfl) (by kernel_rfl)) ?_
  intro W base args ds gs before hval hW _ hsz _
  exact contract H enc W base args ds gs before hval hW hsz

end vectorUnions
theorem vectorUnions_proved : Rows.VectorUnionsSaid :=
  OpenClaim.holds_of_wide 6 Try.f6 rfl rfl rfl rfl rfl rfl rfl ⟨rfl, rfl, rfl, rfl, rfl⟩ rfl rfl rfl rfl rfl (by kernel_rfl) Try.func6 (by kernel_rfl)
    (of_decide_eq_true (by kernel_rfl)) (by unfold Func.isWrapper; first | (rw [if_pos (by decide +kernel)]; kernel_rfl) | (rw [if_neg (by decide +kernel)]; exact ⟨rfl, rfl⟩))
    (fun os started H enc _ => vectorUnions.lifted os started H enc)
#print axioms vectorUnions_proved
end Go.Proofs.Ytkddbcgkfnmgbaa
