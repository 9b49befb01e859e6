/- Proved: for every int and every list of ints VectorPacks answers true: Pack answers what the document says, and the same error. No condition. -/
import Derived.Test.YtkddbcgkfnmgbaaVPackF
import Derived.Test.YtkddbcgkfnmgbaaVRPack
import Derived.Test.YtkddbcgkfnmgbaaVNum
import Derived.Test.YtkddbcgkfnmgbaaVArgs
import Derived.Test.YtkddbcgkfnmgbaaSame
namespace Go.Proofs.Ytkddbcgkfnmgbaa
namespace vectorPacks
open Go.ChangeShapes Go.WideShapes Go.ChangeAt Go.RowKit Go.Wire1

theorem lit_pack : packR 2 [3, 5, 0] = [7, 6, 4, 9] ∧ packE 2 [3, 5, 0] = 0 := by decide +kernel

set_option maxHeartbeats 1000000 in
set_option maxRecDepth 100000 in
theorem walk (v : Int) (a : Option Addr) (n cap : Nat) (l : List Int) (w : World) (h : SegI w a n l) :
    Calls Try.prog 8 #[.int .i64 v, .slice a n cap] w fun e w' => e = .returned (.bool true) ∧ Below w.heap.size w w' := by
  have HS : Hid (SegI w a n l) := h
  clear h
  have ml : (3 : Nat) ≤ maxLen := by unfold maxLen; omega
  have ml4 : (4 : Nat) ≤ maxLen := by unfold maxLen; omega
  have f1 : Hid (Fit [3, 5, 0]) := fit_ok rfl
  go_enter Try.func8, Try.ntmps8
  go_wp2_with fail
  refine (pack_seg (v := 2) (l := [3, 5, 0]) (w0 := w) ((Below.refl w.heap.size _).more (Nat.le_refl _) _) (Nat.le_refl _) (segI_lit _ f1.out ml rfl rfl rfl) lit_pack.1 lit_pack.2 rfl).mono ?_
  rintro e w1 ⟨a1, c1, rfl, hc1, -, s1, hb1, -⟩
  have B1 : Hid (Below w.heap.size w w1) := hb1
  have S1 : Hid (Seg w1 a1 4 [7, 6, 4, 9]) := s1
  clear s1 hb1
  go_wp2_with fail
  refine (same_any _ _ 4 4 _ _ [7, 6, 4, 9] [7, 6, 4, 9] _ (S1.out.below ((Below.refl w1.heap.size w1).more (Nat.le_refl _) _) (Nat.le_refl _)) (seg_lit [7, 6, 4, 9] ml4 rfl rfl rfl)).mono ?_
  rintro e w2 ⟨rfl, q, hq⟩
  have B2 : Hid (Below w.heap.size w w2) := by rw [hq]; exact (B1.out.more (Nat.le_refl _) _).drewN' q
  rw [show sameB [7, 6, 4, 9] [7, 6, 4, 9] = true from rfl]
  clear hq B1 S1
  go_wp2_with fail
  refine (num_any _ _).mono ?_
  rintro e w' ⟨rfl, rfl⟩
  go_wp2_with fail
  refine (pack_seg (v := v) (l := l) B2.out (Nat.le_refl _) (HS.out.below B2.out (Nat.le_refl _)) rfl rfl rfl).mono ?_
  rintro e w3 ⟨a3, c3, rfl, hc3, -, s3, hb3, -⟩
  have B3 : Hid (Below w.heap.size w w3) := hb3
  have S3 : Hid (Seg w3 a3 (packR v l).length (packR v l)) := s3
  clear s3 hb3 B2
  generalize hR : packR v l = R at *
  generalize hE : packE v l = E at *
  generalize hm : R.length = m at *
  go_wp2_with fail
  refine (rpack_seg (v := v) (l := l) B3.out (Nat.le_refl _) (HS.out.below B3.out (Nat.le_refl _)) hR hE hm).mono ?_
  rintro e w4 ⟨a4, c4, rfl, hc4, -, s4, hb4, hb4'⟩
  have B4 : Hid (Below w.heap.size w w4) := hb4
  have S4 : Hid (Seg w4 a4 m R) := s4
  have S3' : Hid (Seg w4 a3 m R) := S3.out.below hb4' (Nat.le_refl _)
  clear s4 hb4 hb4' B3 S3
  go_wp2_with fail
  refine (same_any _ _ m m _ _ R R _ S3'.out S4.out).mono ?_
  rintro e w5 ⟨rfl, q, hq⟩
  have B5 : Hid (Below w.heap.size w w5) := by rw [hq]; exact B4.out.drewN' q
  rw [show sameB R R = true from same_yes rfl]
  clear hq B4 S4 S3'
  go_wp2_with fail
  refine (num_any _ _).mono ?_
  rintro e w' ⟨rfl, rfl⟩
  go_wp2
  go_ret
  exact ⟨rfl, B5.out⟩

set_option maxRecDepth 100000 in
/-- For every argument and every world. -/
theorem contract (H : Type) (enc : TypeId × Value → H) (W : World) (base : Nat) (args : Array Value) (ds gs : List (DataW H)) (before : List MemPlace)
    (hval : ∀ (j : Nat) t v, Try.f8.params[j]? = some t → args[j]? = some v → Value.okWide Try.prog W .any base t v)
    (hW : DataW.Whole enc Try.prog Try.f8.params.toList Rows.vectorPacksSpec.vars false W args.toList ds gs before)
    (hsz : (DataW.weightsEach Try.prog (Try.f8.params.toList ++ Rows.vectorPacksSpec.plain.varTypes Try.prog) (ds ++ gs)).all (· ≤ reachBytes) = true) :
    Calls Try.prog 8 args W fun e W' => ∃ v, e = .returned v ∧ Rows.vectorPacksSpec.post enc Try.prog Try.f8 false true false false W args v W' := by
  have hW' := hW
  obtain ⟨p, q, hA0, hV, rfl, hfz, hnd⟩ := hW
  have hA : DataW.TrodAll enc Try.prog W 0 (fun _ => true) true Try.f8.params.toList args.toList ds p := hA0
  rw [Try.params8] at hA hval hsz
  obtain ⟨v0, vs0, d0, ds0, p0, q0, hargs, rfl, rfl, h0, r0⟩ := trodAll_cons hA
  obtain ⟨v1, vs1, d1, ds1, p1, q1, rfl, rfl, rfl, h1, r1⟩ := trodAll_cons r0
  obtain ⟨rfl, rfl, rfl⟩ := trodAll_nil r1
  obtain rfl : args = #[v0, v1] := by cases args; simp_all
  obtain ⟨rfl, rfl⟩ := trodVars_none hV
  obtain ⟨y0, rfl, rfl, rfl, w0⟩ := open_int Try.underlying3 (hval 0 3 v0 rfl rfl) h0
  have b0 := bounds_i64 w0
  obtain ⟨a1, n1, cap1, rfl⟩ := okWide_slice Try.underlying23 (hval 1 23 v1 rfl rfl)
  have k1 := h1
  have lt1 : ∀ x ∈ p1, x.block < W.heap.size := by obtain ⟨m, hm⟩ := k1; exact DataW.trod_lt m _ _ _ hm
  obtain ⟨fuel1, hf1⟩ := h1
  obtain ⟨l1, hseg1, hcap1, hdat1⟩ := vopen_ints hf1
  clear hA0
  refine (walk y0 a1 n1 cap1 l1 W hseg1).mono fun e W' ⟨he, bel⟩ => ?_
  subst he
  exact ⟨_, rfl, _, _, _, [], _, [], hW', trodAll_mk1 (shut_bool Try.underlying4 _), (trodAll_cons_mk (shut_int Try.underlying3 w0) (trodAll_cons_mk (Below.trod vlaid (by kernel_rfl) (of_decide_eq_true (by kernel_rfl)) k1 bel lt1) trodAll_mk0)), rfl, bel.frame _, fun h => by cases h⟩

set_option maxRecDepth 100000 in
theorem lifted (os : Os) (started : os.Started) (H : Type) (enc : TypeId × Value → H) :
    ReturnsInHanded {} Try.checked os 8 .any (Rows.vectorPacksSpec.pre6 enc Try.prog Try.f8 Rows.vectorPacksRow.domain false) (Rows.vectorPacksSpec.post enc Try.prog Try.f8 false true false false) := by
  refine returnsInHanded_of_change_sized (C := Try.checked) vown started (by kernel_rfl) Try.func8
    (ChangeSpec.witness6 (enc := enc) (C := Try.checked) false ⟨#[], #[.int .i64 0, .slice none 0 0], []⟩ 8 (by kernel_rfl) (by kernel_rfl) (by kernel_rfl) (by kernel_rfl)) ?_
  intro W base args ds gs before hval hW _ hsz _
  exact contract H enc W base args ds gs before hval hW hsz

end vectorPacks
theorem vectorPacks_proved : Rows.VectorPacksSaid :=
  OpenClaim.holds_of_wide 8 Try.f8 rfl rfl rfl rfl rfl rfl rfl ⟨rfl, rfl, rfl, rfl, rfl⟩ rfl rfl rfl rfl rfl (by kernel_rfl) Try.func8 (by kernel_rfl)
    (of_decide_eq_true (by kernel_rfl)) (by unfold Func.isWrapper; first | (rw [if_pos (by decide +kernel)]; kernel_rfl) | (rw [if_neg (by decide +kernel)]; exact ⟨rfl, rfl⟩))
    (fun os started H enc _ => vectorPacks.lifted os started H enc)
#print axioms vectorPacks_proved
end Go.Proofs.Ytkddbcgkfnmgbaa
