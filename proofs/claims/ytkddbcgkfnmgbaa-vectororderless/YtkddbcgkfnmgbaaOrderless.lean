/- Proved: for every list of lists of ints and every int VectorOrderless answers true: a union's answer and error hang neither on the order nor on repetition. No condition but the row's own. -/
import Derived.Test.YtkddbcgkfnmgbaaVTurned
import Derived.Test.YtkddbcgkfnmgbaaVArgs
import Derived.Test.YtkddbcgkfnmgbaaSameI
namespace Go.Proofs.Ytkddbcgkfnmgbaa
namespace vectorOrderless
open Go.ChangeShapes Go.WideShapes Go.ChangeAt Go.RowKit Go.Wire1

set_option maxHeartbeats 1000000 in
set_option maxRecDepth 100000 in
theorem walk (a : Option Addr) (n cap : Nat) (ls : List LI) (i : Int) (w : World) (h : SegL w a n ls) (hcap : n ≤ cap) :
    Calls Try.prog 3 #[.slice a n cap, .int .i64 i] w fun e w' => e = .returned (.bool true) ∧ Below w.heap.size w w' := by
  have HS : Hid (SegL w a n ls) := h
  have hm := h.2.1
  unfold maxLen at hm
  clear h
  have ml : (2 : Nat) ≤ maxLen := by unfold maxLen; omega
  have f1 : Hid (Fit [0, 1]) := fit_ok rfl
  have f2 : Hid (Fit [1, 0]) := fit_ok rfl
  have f3 : Hid (Fit [1, 1]) := fit_ok rfl
  go_enter Try.func3, Try.ntmps3
  go_wp2_with fail
  refine (union_seg (ls := [⟨some ⟨w.heap.size, 0, none⟩, 2, 2, [0, 1]⟩, ⟨some ⟨w.heap.size + 1, 0, none⟩, 2, 2, [1, 0]⟩, ⟨some ⟨w.heap.size + 1 + 1, 0, none⟩, 2, 2, [0, 1]⟩]) (B := w.heap.size) (w0 := w) (((((Below.refl _ _).more (Nat.le_refl _) _).more (Nat.le_refl _) _).more (Nat.le_refl _) _).more (Nat.le_refl _) _) (Nat.le_refl _) ?hs (by decide) (r := [1, 1]) (e0 := 0) rfl rfl rfl).mono ?_
  case hs =>
    refine segL_lit _ (by unfold maxLen; simp) ?_ rfl (by simp) rfl
    intro s hs
    simp only [List.mem_cons, List.not_mem_nil, or_false] at hs
    rcases hs with rfl | rfl | rfl
    · exact ((segI_lit _ f1.out ml rfl rfl rfl).on _).on _
    · exact (segI_lit _ f2.out ml rfl (by simp) rfl).on _
    · exact segI_lit _ f1.out ml rfl (by simp) rfl
  rintro e w1 ⟨a1, c1, rfl, hc1, s1, hb1, -⟩
  have S1 : Hid (SegI w1 a1 2 [1, 1]) := s1
  have B1 : Hid (Below w.heap.size w w1) := hb1
  clear s1 hb1
  go_wp2_with fail
  refine (sameI_any _ _ 2 2 _ _ [1, 1] [1, 1] _ (S1.out.on _) (segI_lit _ f3.out ml rfl rfl rfl)).mono ?_
  rintro e w3 ⟨rfl, q, hq⟩
  have B2 : Hid (Below w.heap.size w w3) := by rw [hq]; exact (B1.out.more (Nat.le_refl _) _).drewN' q
  rw [show sameB [1, 1] [1, 1] = true from rfl]
  clear S1 B1 hq
  go_wp2_with fail
  refine (num_any _ _).mono ?_
  rintro e w4 ⟨rfl, rfl⟩
  by_cases h0 : n = 0
  · subst h0
    go_wp2
    go_ret
    exact ⟨rfl, B2.out⟩
  · have hz' : ((n : Int) == 0) = false := by rw [beq_eq_false_iff_ne]; omega
    by_cases hlt : (1000 : Int) < (n : Int)
    · go_wp2
      go_ret
      exact ⟨rfl, B2.out⟩
    · by_cases h1 : i < 0
      · go_wp2
        go_ret
        exact ⟨rfl, B2.out⟩
      · by_cases h2 : (n : Int) ≤ i
        · go_wp2
          go_ret
          exact ⟨rfl, B2.out⟩
        · obtain ⟨j, rfl⟩ := Int.eq_ofNat_of_zero_le (show 0 ≤ i by omega)
          go_wp2_with fail
          refine (turned_any a n cap j ls _ (HS.out.below B2.out (Nat.le_refl _)) (by omega) (by omega)).mono ?_
          rintro e w5 ⟨a5, c5, rfl, hc5, s5, hb5⟩
          have S5 : Hid (SegL w5 a5 (n + 1) (rotL ls j)) := s5
          have B5 : Hid (Below w.heap.size w w5) := B2.out.on hb5 (Nat.le_refl _)
          have HR := union_rot (ls := ls) (i := j) (by have := HS.out.1; omega) (by have := HS.out.1; omega)
          have HR1 : Hid (unionL (lsOf (rotL ls j)) = unionL (lsOf ls)) := HR.1
          have HR2 : Hid (unionE (lsOf (rotL ls j)) = unionE (lsOf ls)) := HR.2
          clear s5 hb5 HR
          go_wp2_with fail
          refine (union_seg (ls := ls) B5.out (Nat.le_refl _) (HS.out.below B5.out (Nat.le_refl _)) hcap rfl rfl rfl).mono ?_
          rintro e w6 ⟨a6, c6, rfl, hc6, s6, hb6, hb6'⟩
          have S6 : Hid (SegI w6 a6 (unionL (lsOf ls)).length (unionL (lsOf ls))) := s6
          have B6 : Hid (Below w.heap.size w w6) := hb6
          have S5' : Hid (SegL w6 a5 (n + 1) (rotL ls j)) := S5.out.below hb6' (Nat.le_refl _)
          clear s6 hb6 hb6' S5
          generalize hU : unionL (lsOf ls) = U at *
          generalize hE : unionE (lsOf ls) = E at *
          generalize hn5 : U.length = m at *
          generalize hnn : n + 1 = nn at *
          go_wp2_with fail
          refine (union_seg (ls := rotL ls j) B6.out (Nat.le_refl _) S5'.out hc5 HR1.out HR2.out hn5).mono ?_
          rintro e w7 ⟨a7, c7, rfl, hc7, s7, hb7, hb7'⟩
          have S7 : Hid (SegI w7 a7 m U) := s7
          have S6' : Hid (SegI w7 a6 m U) := S6.out.below hb7' (Nat.le_refl _)
          have B7 : Hid (Below w.heap.size w w7) := hb7
          clear s7 hb7 hb7' S6 S5'
          go_wp2_with fail
          refine (sameI_any _ _ m m _ _ U U _ S6'.out S7.out).mono ?_
          rintro e w8 ⟨rfl, q, hq⟩
          rw [show sameB U U = true from same_yes rfl]
          have B8 : Hid (Below w.heap.size w w8) := by rw [hq]; exact B7.out.drewN' q
          clear hq
          go_wp2_with fail
          refine (num_any _ _).mono ?_
          rintro e w9 ⟨rfl, rfl⟩
          go_wp2_with fail
          refine (num_any _ _).mono ?_
          rintro e w9 ⟨rfl, rfl⟩
          go_wp2
          go_ret
          exact ⟨rfl, B8.out⟩

set_option maxRecDepth 100000 in
/-- For every argument and every world. -/
theorem contract (H : Type) (enc : TypeId × Value → H) (W : World) (base : Nat) (args : Array Value) (ds gs : List (DataW H)) (before : List MemPlace)
    (hval : ∀ (j : Nat) t v, Try.f3.params[j]? = some t → args[j]? = some v → Value.okWide Try.prog W .any base t v)
    (hW : DataW.Whole enc Try.prog Try.f3.params.toList Rows.vectorOrderlessSpec.vars false W args.toList ds gs before)
    (hsz : (DataW.weightsEach Try.prog (Try.f3.params.toList ++ Rows.vectorOrderlessSpec.plain.varTypes Try.prog) (ds ++ gs)).all (· ≤ reachBytes) = true) :
    Calls Try.prog 3 args W fun e W' => ∃ v, e = .returned v ∧ Rows.vectorOrderlessSpec.post enc Try.prog Try.f3 false true false false W args v W' := by
  have hW' := hW
  obtain ⟨p, q, hA0, hV, rfl, hfz, hnd⟩ := hW
  have hA : DataW.TrodAll enc Try.prog W 0 (fun _ => true) true Try.f3.params.toList args.toList ds p := hA0
  rw [Try.params3] at hA hval hsz
  obtain ⟨v0, vs0, d0, ds0, p0, q0, hargs, rfl, rfl, h0, r0⟩ := trodAll_cons hA
  obtain ⟨v1, vs1, d1, ds1, p1, q1, rfl, rfl, rfl, h1, r1⟩ := trodAll_cons r0
  obtain ⟨rfl, rfl, rfl⟩ := trodAll_nil r1
  obtain rfl : args = #[v0, v1] := by cases args; simp_all
  obtain ⟨rfl, rfl⟩ := trodVars_none hV
  obtain ⟨a0, n0, cap0, rfl⟩ := okWide_slice Try.underlying22 (hval 0 22 v0 rfl rfl)
  have k0 := h0
  have lt0 : ∀ x ∈ p0, x.block < W.heap.size := by obtain ⟨m, hm⟩ := k0; exact DataW.trod_lt m _ _ _ hm
  obtain ⟨fuel0, hf0⟩ := h0
  obtain ⟨l0, hseg0, hcap0⟩ := vopen_rows hf0
  obtain ⟨y1, rfl, rfl, rfl, w1⟩ := open_int Try.underlying3 (hval 1 3 v1 rfl rfl) h1
  have b1 := bounds_i64 w1
  clear hA0
  refine (walk a0 n0 cap0 l0 y1 W hseg0 hcap0).mono fun e W' ⟨he, bel⟩ => ?_
  subst he
  exact ⟨_, rfl, _, _, _, [], _, [], hW', trodAll_mk1 (shut_bool Try.underlying4 _), (trodAll_cons_mk (Below.trod vlaid (by kernel_rfl) (of_decide_eq_true (by kernel_rfl)) k0 bel lt0) (trodAll_cons_mk (shut_int Try.underlying3 w1) trodAll_mk0)), rfl, bel.frame _, fun h => by cases h⟩

set_option maxRecDepth 100000 in
theorem lifted (os : Os) (started : os.Started) (H : Type) (enc : TypeId × Value → H) :
    ReturnsInHanded {} Try.checked os 3 .any (Rows.vectorOrderlessSpec.pre6 enc Try.prog Try.f3 Rows.vectorOrderlessRow.domain false) (Rows.vectorOrderlessSpec.post enc Try.prog Try.f3 false true false false) := by
  refine returnsInHanded_of_change_sized (C := Try.checked) vown started (by kernel_rfl) Try.func3
    (ChangeSpec.witness6 (enc := enc) (C := Try.checked) false ⟨#[], #[.slice none 0 0, .int .i64 0], []⟩ 8 (by kernel_rfl) (by kernel_rfl) (by kernel_rfl) (by kernel_rfl)) ?_
  intro W base args ds gs before hval hW _ hsz _
  exact contract H enc W base args ds gs before hval hW hsz

end vectorOrderless
theorem vectorOrderless_proved : Rows.VectorOrderlessSaid :=
  OpenClaim.holds_of_wide 3 Try.f3 rfl rfl rfl rfl rfl rfl rfl ⟨rfl, rfl, rfl, rfl, rfl⟩ rfl rfl rfl rfl rfl (by kernel_rfl) Try.func3 (by kernel_rfl)
    (of_decide_eq_true (by kernel_rfl)) (by unfold Func.isWrapper; first | (rw [if_pos (by decide +kernel)]; kernel_rfl) | (rw [if_neg (by decide +kernel)]; exact ⟨rfl, rfl⟩))
    (fun os started H enc _ => vectorOrderless.lifted os started H enc)
#print axioms vectorOrderless_proved
end Go.Proofs.Ytkddbcgkfnmgbaa
