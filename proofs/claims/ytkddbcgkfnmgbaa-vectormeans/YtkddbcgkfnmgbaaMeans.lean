/- Proved: for every two lists of ints and every two instances VectorMeans answers true: a vector is the set of what it holds. No condition. -/
import Derived.Test.YtkddbcgkfnmgbaaVMeansW
import Derived.Test.YtkddbcgkfnmgbaaVInst
namespace Go.Proofs.Ytkddbcgkfnmgbaa
namespace vectorMeans
open Go.ChangeShapes Go.WideShapes Go.ChangeAt Go.RowKit Go.Wire1

set_option maxHeartbeats 2000000 in
set_option maxRecDepth 100000 in
theorem walk (a b : Option Addr) (n m cap cap' : Nat) (xs ys : List Int) (xr xn yr yn : Int) (w : World) (ha : SegI w a n xs) (hb : SegI w b m ys) :
    Calls Try.prog 7 #[.slice a n cap, .slice b m cap', .agg #[.int .i64 xr, .int .i64 xn], .agg #[.int .i64 yr, .int .i64 yn]] w fun e w' => e = .returned (.bool true) ∧ Below w.heap.size w w' := by
  have HA : Hid (SegI w a n xs) := ha
  have HB : Hid (SegI w b m ys) := hb
  have hn := ha.2.1
  have hm := hb.2.1
  unfold maxLen at hn hm
  clear ha hb
  have ml : (3 : Nat) ≤ maxLen := by unfold maxLen; omega
  have f1 : Hid (Fit [1, 5, 0]) := fit_ok rfl
  have f2 : Hid (Fit [3, 2, 0]) := fit_ok rfl
  obtain ⟨W2, hW2⟩ : ∃ W2, W2 = (w.alloc (.cells #[.int .i64 xr, .int .i64 xn] 40)).alloc (.cells #[.int .i64 yr, .int .i64 yn] 40) := ⟨_, rfl⟩
  have B2 : Hid (Below w.heap.size w W2) := by rw [hW2]; exact (((Below.refl _ _).more (Nat.le_refl _) _).more (Nat.le_refl _) _)
  have X2 : Hid (Box W2 w.heap.size xr xn) := by rw [hW2]; exact (box_new w xr xn _).below ((Below.refl _ _).more (Nat.le_refl _) _) (Nat.le_refl _)
  have Y2 : Hid (Box W2 (w.heap.size + 1) yr yn) := by
    have := box_new (w.alloc (.cells #[.int .i64 xr, .int .i64 xn] 40)) yr yn 40
    rw [World.size_alloc] at this
    rw [hW2]; exact this
  have hs2 : W2.heap.size = w.heap.size + 1 + 1 := by rw [hW2]; simp
  go_enter Try.func7, Try.ntmps7
  go_wp2_with fail
  rw [← hW2]
  refine (means_any _ _ 3 3 3 2 [1, 5, 0] [3, 2, 0] 1 5 4 _ ?h1 ?h2 rfl rfl (by omega) (by omega) (by omega)).mono ?_
  case h1 => exact (segI_lit _ f1.out ml rfl (by rw [hs2]) rfl).on _
  case h2 => exact segI_lit _ f2.out ml rfl (by rw [World.size_alloc, hs2]) rfl
  rintro e w4 ⟨rfl, hb4⟩
  have C4 : Hid (Below W2.heap.size W2 w4) := (((Below.refl W2.heap.size W2).more (Nat.le_refl _) _).more (Nat.le_refl _) _).on hb4 (Nat.le_refl _)
  have B4 : Hid (Below w.heap.size w w4) := B2.out.on C4.out (Nat.le_refl _)
  have X4 : Hid (Box w4 w.heap.size xr xn) := X2.out.below C4.out (Nat.le_refl _)
  have Y4 : Hid (Box w4 (w.heap.size + 1) yr yn) := Y2.out.below C4.out (Nat.le_refl _)
  clear hb4 C4 X2 Y2 B2
  go_wp2_with fail
  refine (sound_any _ _ _ xs _ (HA.out.below B4.out (Nat.le_refl _))).mono ?_
  rintro e w' ⟨rfl, rfl⟩
  go_wp2_with fail
  refine (sound_any _ _ _ ys _ (HB.out.below B4.out (Nat.le_refl _))).mono ?_
  rintro e w' ⟨rfl, rfl⟩
  have x0 := X4.out.1
  have x1 := X4.out.2
  have y0 := Y4.out.1
  have y1 := Y4.out.2
  cases h1 : isVec xs with
  | false =>
    clear h1
    go_wp2
    go_ret
    exact ⟨rfl, B4.out⟩
  | true =>
    cases h2 : isVec ys with
    | false =>
      clear h1 h2
      go_wp2
      go_ret
      exact ⟨rfl, B4.out⟩
    | true =>
      by_cases hnm : n = m
      · subst hnm
        by_cases h3 : yr < 0
        · clear h1 h2
          go_wp2
          go_ret
          exact ⟨rfl, B4.out⟩
        · by_cases h4 : (n : Int) ≤ yr
          · clear h1 h2
            go_wp2
            go_ret
            exact ⟨rfl, B4.out⟩
          · by_cases h5 : yn < 1
            · clear h1 h2
              go_wp2
              go_ret
              exact ⟨rfl, B4.out⟩
            · by_cases h6 : 1048576 < yn
              · clear h1 h2
                go_wp2
                go_ret
                exact ⟨rfl, B4.out⟩
              · obtain ⟨k, rfl⟩ := Int.eq_ofNat_of_zero_le (show 0 ≤ yr by omega)
                have H1 : Hid (isVec xs = true) := h1
                have H2 : Hid (isVec ys = true) := h2
                clear h1 h2
                go_wp2_with fail
                refine (means_any _ _ n _ _ k xs ys xr xn yn _ (HA.out.below B4.out (Nat.le_refl _)) (HB.out.below B4.out (Nat.le_refl _)) H1.out H2.out (by omega) (by omega) (by omega)).mono ?_
                rintro e w9 ⟨rfl, hb9⟩
                have B9 : Hid (Below w.heap.size w w9) := B4.out.on hb9 (Nat.le_refl _)
                clear hb9
                go_wp2
                go_ret
                exact ⟨rfl, B9.out⟩
      · have hne : ((n : Int) != (m : Int)) = true := by rw [bne_iff_ne]; omega
        clear h1 h2
        go_wp2
        go_ret
        exact ⟨rfl, B4.out⟩

set_option maxRecDepth 100000 in
/-- For every argument and every world. -/
theorem contract (H : Type) (enc : TypeId × Value → H) (W : World) (base : Nat) (args : Array Value) (ds gs : List (DataW H)) (before : List MemPlace)
    (hval : ∀ (j : Nat) t v, Try.f7.params[j]? = some t → args[j]? = some v → Value.okWide Try.prog W .any base t v)
    (hW : DataW.Whole enc Try.prog Try.f7.params.toList Rows.vectorMeansSpec.vars false W args.toList ds gs before)
    (hsz : (DataW.weightsEach Try.prog (Try.f7.params.toList ++ Rows.vectorMeansSpec.plain.varTypes Try.prog) (ds ++ gs)).all (· ≤ reachBytes) = true) :
    Calls Try.prog 7 args W fun e W' => ∃ v, e = .returned v ∧ Rows.vectorMeansSpec.post enc Try.prog Try.f7 false true false false W args v W' := by
  have hW' := hW
  obtain ⟨p, q, hA0, hV, rfl, hfz, hnd⟩ := hW
  have hA : DataW.TrodAll enc Try.prog W 0 (fun _ => true) true Try.f7.params.toList args.toList ds p := hA0
  rw [Try.params7] at hA hval hsz
  obtain ⟨v0, vs0, d0, ds0, p0, q0, hargs, rfl, rfl, h0, r0⟩ := trodAll_cons hA
  obtain ⟨v1, vs1, d1, ds1, p1, q1, rfl, rfl, rfl, h1, r1⟩ := trodAll_cons r0
  obtain ⟨v2, vs2, d2, ds2, p2, q2, rfl, rfl, rfl, h2, r2⟩ := trodAll_cons r1
  obtain ⟨v3, vs3, d3, ds3, p3, q3, rfl, rfl, rfl, h3, r3⟩ := trodAll_cons r2
  obtain ⟨rfl, rfl, rfl⟩ := trodAll_nil r3
  obtain rfl : args = #[v0, v1, v2, v3] := by cases args; simp_all
  obtain ⟨rfl, rfl⟩ := trodVars_none hV
  obtain ⟨a0, n0, cap0, rfl⟩ := okWide_slice Try.underlying23 (hval 0 23 v0 rfl rfl)
  have k0 := h0
  have lt0 : ∀ x ∈ p0, x.block < W.heap.size := by obtain ⟨m, hm⟩ := k0; exact DataW.trod_lt m _ _ _ hm
  obtain ⟨fuel0, hf0⟩ := h0
  obtain ⟨l0, hseg0, hcap0, hdat0⟩ := vopen_ints hf0
  obtain ⟨a1, n1, cap1, rfl⟩ := okWide_slice Try.underlying23 (hval 1 23 v1 rfl rfl)
  have k1 := h1
  have lt1 : ∀ x ∈ p1, x.block < W.heap.size := by obtain ⟨m, hm⟩ := k1; exact DataW.trod_lt m _ _ _ hm
  obtain ⟨fuel1, hf1⟩ := h1
  obtain ⟨l1, hseg1, hcap1, hdat1⟩ := vopen_ints hf1
  have k2 := h2
  have lt2 : ∀ x ∈ p2, x.block < W.heap.size := by obtain ⟨m, hm⟩ := k2; exact DataW.trod_lt m _ _ _ hm
  obtain ⟨x2, y2, rfl, b2⟩ := vopen_inst (hval 2 40 v2 rfl rfl) h2
  have k3 := h3
  have lt3 : ∀ x ∈ p3, x.block < W.heap.size := by obtain ⟨m, hm⟩ := k3; exact DataW.trod_lt m _ _ _ hm
  obtain ⟨x3, y3, rfl, b3⟩ := vopen_inst (hval 3 40 v3 rfl rfl) h3
  clear hA0
  refine (walk a0 a1 n0 n1 cap0 cap1 l0 l1 x2 y2 x3 y3 W hseg0 hseg1).mono fun e W' ⟨he, bel⟩ => ?_
  subst he
  exact ⟨_, rfl, _, _, _, [], _, [], hW', trodAll_mk1 (shut_bool Try.underlying4 _), (trodAll_cons_mk (Below.trod vlaid (by kernel_rfl) (of_decide_eq_true (by kernel_rfl)) k0 bel lt0) (trodAll_cons_mk (Below.trod vlaid (by kernel_rfl) (of_decide_eq_true (by kernel_rfl)) k1 bel lt1) (trodAll_cons_mk (Below.trod vlaid (by kernel_rfl) (of_decide_eq_true (by kernel_rfl)) k2 bel lt2) (trodAll_cons_mk (Below.trod vlaid (by kernel_rfl) (of_decide_eq_true (by kernel_rfl)) k3 bel lt3) trodAll_mk0)))), rfl, bel.frame _, fun h => by cases h⟩

set_option maxRecDepth 100000 in
theorem lifted (os : Os) (started : os.Started) (H : Type) (enc : TypeId × Value → H) :
    ReturnsInHanded {} Try.checked os 7 .any (Rows.vectorMeansSpec.pre6 enc Try.prog Try.f7 Rows.vectorMeansRow.domain false) (Rows.vectorMeansSpec.post enc Try.prog Try.f7 false true false false) := by
  refine returnsInHanded_of_change_sized (C := Try.checked) vown started (by kernel_rfl) Try.func7
    (ChangeSpec.witness6 (enc := enc) (C := Try.checked) false ⟨#[], #[.slice none 0 0, .slice none 0 0, .agg #[.int .i64 0, .int .i64 0], .agg #[.int .i64 0, .int .i64 0]], []⟩ 8 (by kernel_rfl) (by kernel_rfl) (by kernel_rfl) (by kernel_rfl)) ?_
  intro W base args ds gs before hval hW _ hsz _
  exact contract H enc W base args ds gs before hval hW hsz

end vectorMeans
theorem vectorMeans_proved : Rows.VectorMeansSaid :=
  OpenClaim.holds_of_wide 7 Try.f7 rfl rfl rfl rfl rfl rfl rfl ⟨rfl, rfl, rfl, rfl, rfl⟩ rfl rfl rfl rfl rfl (by kernel_rfl) Try.func7 (by kernel_rfl)
    (of_decide_eq_true (by kernel_rfl)) (by unfold Func.isWrapper; first | (rw [if_pos (by decide +kernel)]; kernel_rfl) | (rw [if_neg (by decide +kernel)]; exact ⟨rfl, rfl⟩))
    (fun os started H enc _ => vectorMeans.lifted os started H enc)
#print axioms vectorMeans_proved
end Go.Proofs.Ytkddbcgkfnmgbaa
