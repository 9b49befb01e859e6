/- Proved: for every two lists of ints and every instance VectorAsks answers true: Covers, Holds and Raise answer what the document says, and the lists stay, their spare room too. No condition. -/
import Derived.Test.YtkddbcgkfnmgbabVAsk
import Derived.Test.YtkddbcgkfnmgbabVBox
import Derived.Test.YtkddbcgkfnmgbabVInst
import Derived.Test.YtkddbcgkfnmgbabSameI
import Derived.Deep.RegionHeld3
namespace Go.Proofs.Ytkddbcgkfnmgbab
open Go.ChangeShapes Go.WideShapes Go.ChangeAt Go.RowKit Go.Wire1

theorem mine_pre {w : World} {B g n N c : Nat} {xs ys : List Int} (h : MineI w B g N c (xs ++ ys)) (hn : xs.length = n) (hf : Fit xs) : SegI w (some ⟨g, 0, none⟩) n xs := by
  have h1 := h.2.1
  rw [List.length_append] at h1
  refine ⟨hn, by have := h.2.2; omega, fun _ => ⟨g, 0, rfl, fun j hj => ?_⟩, hf⟩
  rw [Nat.zero_add, h.cell (j := j) (by omega), List.getD, List.getElem?_append_left (by omega)]; rfl

set_option maxHeartbeats 4000000 in
set_option maxRecDepth 100000 in
theorem asks_any (a b : Option Addr) (n m cap cap' : Nat) (xs ys : List Int) (r x : Int) (w : World) (ha : SegI w a n xs) (hb : SegI w b m ys) (hn : (n + 3) * 8 ≤ 140737488355328) (hm : (m + 3) * 8 ≤ 140737488355328) :
    Calls Try.prog 4 #[.slice a n cap, .slice b m cap', .agg #[.int .i64 r, .int .i64 x]] w fun e w' => e = .returned (.bool true) ∧ Below w.heap.size w w' := by
  have HA : Hid (SegI w a n xs) := ha
  have HB : Hid (SegI w b m ys) := hb
  have HN : Hid (xs.length = n) := ha.1
  have HM : Hid (ys.length = m) := hb.1
  have FA : Hid (Fit xs) := ha.2.2.2
  have FB : Hid (Fit ys) := hb.2.2.2
  have FA3 : Hid (Fit (xs ++ spare3)) := fit_append FA.out fit_spare
  have FB3 : Hid (Fit (ys ++ spare3)) := fit_append FB.out fit_spare
  clear ha hb
  obtain ⟨W1, hW1⟩ : ∃ W1, W1 = w.alloc (.cells #[.int .i64 r, .int .i64 x] 24) := ⟨_, rfl⟩
  have B1 : Hid (Below w.heap.size w W1) := by rw [hW1]; exact (Below.refl _ _).more (Nat.le_refl _) _
  have X1 : Hid (Box W1 w.heap.size r x) := by rw [hW1]; exact box_new w r x _
  go_enter Try.func4, Try.ntmps4
  go_wp2_with fail
  rw [← hW1]
  refine (roomy_any _ _ _ xs _ (HA.out.below B1.out (Nat.le_refl _)) hn).mono ?_
  rintro e w2 ⟨g1, c1, rfl, hm1, hb2⟩
  have M1 : Hid (MineI w2 W1.heap.size g1 (n + 3) c1 (xs ++ spare3)) := hm1
  have B2 : Hid (Below w.heap.size w w2) := B1.out.on hb2 (Nat.le_refl _)
  have X2 : Hid (Box w2 w.heap.size r x) := X1.out.below hb2 (Nat.le_refl _)
  have hc1 := hm1.2.2
  clear hm1 hb2 B1 X1
  go_wp2_with fail
  refine (roomy_any _ _ _ ys _ (HB.out.below B2.out (Nat.le_refl _)) hm).mono ?_
  rintro e w3 ⟨g2, c2, rfl, hm2, hb3⟩
  have M2 : Hid (MineI w3 w2.heap.size g2 (m + 3) c2 (ys ++ spare3)) := hm2
  have P1 : Hid (MineI w3 W1.heap.size g1 (n + 3) c1 (xs ++ spare3)) := M1.out.below hb3 (Nat.le_refl _)
  have B3 : Hid (Below w.heap.size w w3) := B2.out.on hb3 (Nat.le_refl _)
  have X3 : Hid (Box w3 w.heap.size r x) := X2.out.below hb3 (Nat.le_refl _)
  have SP : Hid (SegI w3 (some ⟨g1, 0, none⟩) n xs) := mine_pre P1.out HN.out FA.out
  have SQ : Hid (SegI w3 (some ⟨g2, 0, none⟩) m ys) := mine_pre M2.out HM.out FB.out
  have hc2 := hm2.2.2
  unfold maxLen at hc1 hc2
  clear hm2 hb3 B2 X2 M1
  have i1 : (n : Int) ≤ (c1 : Int) := by omega
  have i2 : (m : Int) ≤ (c2 : Int) := by omega
  go_wp2
  go_quiet (first | (go_at_call 6; refine Calls.quiet_of (covers_any _ _ n m _ _ xs ys _ (SP.out.drewN _) (SQ.out.drewN _))))
  obtain ⟨w4, hw4⟩ : ∃ w4, w4 = w3.drewN nq := ⟨_, rfl⟩
  rw [← hw4]
  have B4 : Hid (Below w.heap.size w w4) := by rw [hw4]; exact B3.out.drewN' _
  have P4 : Hid (MineI w4 W1.heap.size g1 (n + 3) c1 (xs ++ spare3)) := by rw [hw4]; exact P1.out.drewN _
  have Q4 : Hid (MineI w4 w2.heap.size g2 (m + 3) c2 (ys ++ spare3)) := by rw [hw4]; exact M2.out.drewN _
  have X4 : Hid (Box w4 w.heap.size r x) := by rw [hw4]; exact X3.out
  clear hw4 B3 P1 M2 X3 SP SQ
  go_wp2_with fail
  refine (rcovers_any _ _ n m _ _ xs ys _ (HA.out.below B4.out (Nat.le_refl _)) (HB.out.below B4.out (Nat.le_refl _))).mono ?_
  rintro e w5 ⟨rfl, q5, hq5⟩
  have B5 : Hid (Below w.heap.size w w5) := by rw [hq5]; exact B4.out.drewN' _
  have P5 : Hid (MineI w5 W1.heap.size g1 (n + 3) c1 (xs ++ spare3)) := by rw [hq5]; exact P4.out.drewN _
  have Q5 : Hid (MineI w5 w2.heap.size g2 (m + 3) c2 (ys ++ spare3)) := by rw [hq5]; exact Q4.out.drewN _
  have X5 : Hid (Box w5 w.heap.size r x) := by rw [hq5]; exact X4.out
  have SP5 : Hid (SegI w5 (some ⟨g1, 0, none⟩) n xs) := mine_pre P5.out HN.out FA.out
  clear hq5 B4 P4 Q4 X4
  generalize coversB xs ys = v1 at *
  have x0 := X5.out.1
  have x1 := X5.out.2
  go_wp2
  go_region_held3 (fun w' => w'.cell? ⟨w.heap.size, 0, none⟩ = some (.int .i64 r) ∧ w'.cell? ⟨w.heap.size, 1, none⟩ = some (.int .i64 x)) (first | go_keep | (refine ⟨?_, ?_⟩ <;> (rw [hb6.cell (by first | exact cell_lt x0 | exact cell_lt x1)]; assumption))) ((go_at_call 8; refine (holds_any _ n _ xs r x _ (by exact SP5.out)).mono ?_; rintro e w6 ⟨rfl, hb6⟩))
  have B6 : Hid (Below w.heap.size w w6) := (B5.out.drew).on hb6 (Nat.le_refl _)
  have P6 : Hid (MineI w6 W1.heap.size g1 (n + 3) c1 (xs ++ spare3)) := MineI.below (w := w5.drew) P5.out hb6 (Nat.le_refl _)
  have Q6 : Hid (MineI w6 w2.heap.size g2 (m + 3) c2 (ys ++ spare3)) := MineI.below (w := w5.drew) Q5.out hb6 (Nat.le_refl _)
  have X6 : Hid (Box w6 w.heap.size r x) := Box.below (w := w5.drew) X5.out hb6 (Nat.le_refl _)
  clear hb6 B5 P5 Q5 X5 SP5 x0 x1
  obtain ⟨v2, hv2⟩ : ∃ v2, Hid (holdsB xs r x = v2) := ⟨_, rfl⟩
  rw [hv2.out]
  have x0 := X6.out.1
  have x1 := X6.out.2
  go_wp2_with fail
  refine (rholds_any _ _ _ xs r x _ (HA.out.below B6.out (Nat.le_refl _))).mono ?_
  rintro e w7 ⟨rfl, hb7⟩
  have B7 : Hid (Below w.heap.size w w7) := B6.out.on hb7 (Nat.le_refl _)
  have P7 : Hid (MineI w7 W1.heap.size g1 (n + 3) c1 (xs ++ spare3)) := P6.out.below hb7 (Nat.le_refl _)
  have Q7 : Hid (MineI w7 w2.heap.size g2 (m + 3) c2 (ys ++ spare3)) := Q6.out.below hb7 (Nat.le_refl _)
  have X7 : Hid (Box w7 w.heap.size r x) := X6.out.below hb7 (Nat.le_refl _)
  clear hb7 B6 P6 Q6 X6 x0 x1
  rw [hv2.out]
  go_wp2_with fail
  refine (roomy_any _ _ _ xs _ (HA.out.below B7.out (Nat.le_refl _)) hn).mono ?_
  rintro e w8 ⟨g8, c8, rfl, hm8, hb8⟩
  have M8 : Hid (MineI w8 w7.heap.size g8 (n + 3) c8 (xs ++ spare3)) := hm8
  have B8 : Hid (Below w.heap.size w w8) := B7.out.on hb8 (Nat.le_refl _)
  have P8 : Hid (MineI w8 W1.heap.size g1 (n + 3) c1 (xs ++ spare3)) := P7.out.below hb8 (Nat.le_refl _)
  have Q8 : Hid (MineI w8 w2.heap.size g2 (m + 3) c2 (ys ++ spare3)) := Q7.out.below hb8 (Nat.le_refl _)
  have X8 : Hid (Box w8 w.heap.size r x) := X7.out.below hb8 (Nat.le_refl _)
  clear hb8 hm8 B7 P7 Q7 X7
  go_wp2_with fail
  refine (sameI_any _ _ (n + 3) (n + 3) _ _ (xs ++ spare3) (xs ++ spare3) _ (P8.out.seg FA3.out) (M8.out.seg FA3.out)).mono ?_
  rintro e w9 ⟨rfl, q9, hq9⟩
  have B9 : Hid (Below w.heap.size w w9) := by rw [hq9]; exact B8.out.drewN' _
  have Q9 : Hid (MineI w9 w2.heap.size g2 (m + 3) c2 (ys ++ spare3)) := by rw [hq9]; exact Q8.out.drewN _
  have X9 : Hid (Box w9 w.heap.size r x) := by rw [hq9]; exact X8.out
  rw [same_yes rfl]
  clear hq9 B8 P8 Q8 X8 M8
  go_wp2_with fail
  refine (roomy_any _ _ _ ys _ (HB.out.below B9.out (Nat.le_refl _)) hm).mono ?_
  rintro e wA ⟨gA, cA, rfl, hmA, hbA⟩
  have MA : Hid (MineI wA w9.heap.size gA (m + 3) cA (ys ++ spare3)) := hmA
  have BA : Hid (Below w.heap.size w wA) := B9.out.on hbA (Nat.le_refl _)
  have QA : Hid (MineI wA w2.heap.size g2 (m + 3) c2 (ys ++ spare3)) := Q9.out.below hbA (Nat.le_refl _)
  have XA : Hid (Box wA w.heap.size r x) := X9.out.below hbA (Nat.le_refl _)
  clear hbA hmA B9 Q9 X9
  go_wp2_with fail
  refine (sameI_any _ _ (m + 3) (m + 3) _ _ (ys ++ spare3) (ys ++ spare3) _ (QA.out.seg FB3.out) (MA.out.seg FB3.out)).mono ?_
  rintro e wB ⟨rfl, qB, hqB⟩
  have BB : Hid (Below w.heap.size w wB) := by rw [hqB]; exact BA.out.drewN' _
  have XB : Hid (Box wB w.heap.size r x) := by rw [hqB]; exact XA.out
  rw [same_yes rfl]
  clear hqB BA QA XA MA
  have x0 := XB.out.1
  have x1 := XB.out.2
  go_wp2_with fail
  refine (raise_seg (l := xs) BB.out (Nat.le_refl _) (HA.out.below BB.out (Nat.le_refl _)) rfl rfl).mono ?_
  rintro e wC ⟨aC, cC, rfl, hcC, sC, hbC, hbC'⟩
  have SC : Hid (SegI wC aC (raiseL xs r x).length (raiseL xs r x)) := sC
  have BC : Hid (Below w.heap.size w wC) := hbC
  have XC : Hid (Box wC w.heap.size r x) := XB.out.below hbC' (Nat.le_refl _)
  clear sC hbC hbC' BB XB x0 x1
  obtain ⟨R, hR⟩ : ∃ R, Hid (raiseL xs r x = R) := ⟨_, rfl⟩
  rw [hR.out] at SC ⊢
  generalize hl : R.length = k at *
  have x0 := XC.out.1
  have x1 := XC.out.2
  go_wp2_with fail
  refine (rraise_seg (l := xs) BC.out (Nat.le_refl _) (HA.out.below BC.out (Nat.le_refl _)) hR.out hl).mono ?_
  rintro e wD ⟨aD, cD, rfl, hcD, sD, hbD, hbD'⟩
  have SD : Hid (SegI wD aD k R) := sD
  have SC' : Hid (SegI wD aC k R) := SC.out.below hbD' (Nat.le_refl _)
  have BD : Hid (Below w.heap.size w wD) := hbD
  clear sD hbD hbD' BC XC x0 x1 SC
  go_wp2_with fail
  refine (sameI_any _ _ k k _ _ R R _ SC'.out SD.out).mono ?_
  rintro e wE ⟨rfl, qE, hqE⟩
  have BE : Hid (Below w.heap.size w wE) := by rw [hqE]; exact BD.out.drewN' _
  rw [same_yes rfl]
  clear hqE BD
  cases v1 <;> cases v2 <;>
  · go_wp2
    go_ret
    exact ⟨rfl, BE.out⟩

namespace vectorAsks
set_option maxHeartbeats 2000000 in
set_option maxRecDepth 100000 in
theorem walk (a b : Option Addr) (n m cap cap' : Nat) (xs ys : List Int) (r x : Int) (w : World) (ha : SegI w a n xs) (hb : SegI w b m ys) (hn : (n + 3) * 8 ≤ 140737488355328) (hm : (m + 3) * 8 ≤ 140737488355328) :
    Calls Try.prog 3 #[.slice a n cap, .slice b m cap', .agg #[.int .i64 r, .int .i64 x]] w fun e w' => e = .returned (.bool true) ∧ Below w.heap.size w w' := by
  have HA : Hid (SegI w a n xs) := ha
  have HB : Hid (SegI w b m ys) := hb
  clear ha hb
  have ml : (3 : Nat) ≤ maxLen := by unfold maxLen; omega
  have f1 : Hid (Fit [3, 5, 0]) := fit_ok rfl
  have f2 : Hid (Fit [3, 2, 0]) := fit_ok rfl
  obtain ⟨W1, hW1⟩ : ∃ W1, W1 = w.alloc (.cells #[.int .i64 r, .int .i64 x] 24) := ⟨_, rfl⟩
  have B1 : Hid (Below w.heap.size w W1) := by rw [hW1]; exact (Below.refl _ _).more (Nat.le_refl _) _
  have X1 : Hid (Box W1 w.heap.size r x) := by rw [hW1]; exact box_new w r x _
  have hs1 : W1.heap.size = w.heap.size + 1 := by rw [hW1]; simp
  go_enter Try.func3, Try.ntmps3
  go_wp2_with fail
  rw [← hW1]
  refine (asks_any _ _ 3 3 _ _ [3, 5, 0] [3, 2, 0] 1 5 _ ?h1 ?h2 (by omega) (by omega)).mono ?_
  case h1 => exact (segI_lit _ f1.out ml rfl (by rw [hs1]) rfl).on _
  case h2 => exact segI_lit _ f2.out ml rfl (by rw [World.size_alloc, hs1]) rfl
  rintro e w2 ⟨rfl, hb2⟩
  have C2 : Hid (Below W1.heap.size W1 w2) := (((Below.refl W1.heap.size W1).more (Nat.le_refl _) _).more (Nat.le_refl _) _).on hb2 (Nat.le_refl _)
  have B2 : Hid (Below w.heap.size w w2) := B1.out.on C2.out (Nat.le_refl _)
  have X2 : Hid (Box w2 w.heap.size r x) := X1.out.below C2.out (Nat.le_refl _)
  clear hb2 C2 X1 B1
  have x0 := X2.out.1
  have x1 := X2.out.2
  go_wp2_with fail
  refine (asks_any _ _ n m _ _ xs ys r x _ (HA.out.below B2.out (Nat.le_refl _)) (HB.out.below B2.out (Nat.le_refl _)) hn hm).mono ?_
  rintro e w3 ⟨rfl, hb3⟩
  have B3 : Hid (Below w.heap.size w w3) := B2.out.on hb3 (Nat.le_refl _)
  have X3 : Hid (Box w3 w.heap.size r x) := X2.out.below hb3 (Nat.le_refl _)
  clear hb3 B2 X2 x0 x1
  have x0 := X3.out.1
  have x1 := X3.out.2
  go_wp2_with fail
  refine (asks_any _ _ m n _ _ ys xs r x _ (HB.out.below B3.out (Nat.le_refl _)) (HA.out.below B3.out (Nat.le_refl _)) hm hn).mono ?_
  rintro e w4 ⟨rfl, hb4⟩
  have B4 : Hid (Below w.heap.size w w4) := B3.out.on hb4 (Nat.le_refl _)
  have X4 : Hid (Box w4 w.heap.size r x) := X3.out.below hb4 (Nat.le_refl _)
  clear hb4 B3 X3 x0 x1
  have x0 := X4.out.1
  have x1 := X4.out.2
  go_wp2_with fail
  refine (asks_any _ _ n n _ _ xs xs r x _ (HA.out.below B4.out (Nat.le_refl _)) (HA.out.below B4.out (Nat.le_refl _)) hn hn).mono ?_
  rintro e w5 ⟨rfl, hb5⟩
  have B5 : Hid (Below w.heap.size w w5) := B4.out.on hb5 (Nat.le_refl _)
  clear hb5 B4 X4 x0 x1
  go_wp2
  go_ret
  exact ⟨rfl, B5.out⟩

set_option maxRecDepth 100000 in
/-- For every argument and every world. -/
theorem contract (H : Type) (enc : TypeId × Value → H) (W : World) (base : Nat) (args : Array Value) (ds gs : List (DataW H)) (before : List MemPlace)
    (hval : ∀ (j : Nat) t v, Try.f3.params[j]? = some t → args[j]? = some v → Value.okWide Try.prog W .any base t v)
    (hW : DataW.Whole enc Try.prog Try.f3.params.toList Rows.vectorAsksSpec.vars false W args.toList ds gs before)
    (hsz : (DataW.weightsEach Try.prog (Try.f3.params.toList ++ Rows.vectorAsksSpec.plain.varTypes Try.prog) (ds ++ gs)).all (· ≤ reachBytes) = true) :
    Calls Try.prog 3 args W fun e W' => ∃ v, e = .returned v ∧ Rows.vectorAsksSpec.post enc Try.prog Try.f3 false true false false W args v W' := by
  have hW' := hW
  obtain ⟨p, q, hA0, hV, rfl, hfz, hnd⟩ := hW
  have hA : DataW.TrodAll enc Try.prog W 0 (fun _ => true) true Try.f3.params.toList args.toList ds p := hA0
  rw [Try.params3] at hA hval hsz
  obtain ⟨v0, vs0, d0, ds0, p0, q0, hargs, rfl, rfl, h0, r0⟩ := trodAll_cons hA
  obtain ⟨v1, vs1, d1, ds1, p1, q1, rfl, rfl, rfl, h1, r1⟩ := trodAll_cons r0
  obtain ⟨v2, vs2, d2, ds2, p2, q2, rfl, rfl, rfl, h2, r2⟩ := trodAll_cons r1
  obtain ⟨rfl, rfl, rfl⟩ := trodAll_nil r2
  obtain rfl : args = #[v0, v1, v2] := by cases args; simp_all
  obtain ⟨rfl, rfl⟩ := trodVars_none hV
  obtain ⟨a0, n0, cap0, rfl⟩ := okWide_slice Try.underlying22 (hval 0 22 v0 rfl rfl)
  have k0 := h0
  have lt0 : ∀ x ∈ p0, x.block < W.heap.size := by obtain ⟨m, hm⟩ := k0; exact DataW.trod_lt m _ _ _ hm
  obtain ⟨fuel0, hf0⟩ := h0
  obtain ⟨l0, hseg0, hcap0, hdat0⟩ := vopen_ints hf0
  obtain ⟨a1, n1, cap1, rfl⟩ := okWide_slice Try.underlying22 (hval 1 22 v1 rfl rfl)
  have k1 := h1
  have lt1 : ∀ x ∈ p1, x.block < W.heap.size := by obtain ⟨m, hm⟩ := k1; exact DataW.trod_lt m _ _ _ hm
  obtain ⟨fuel1, hf1⟩ := h1
  obtain ⟨l1, hseg1, hcap1, hdat1⟩ := vopen_ints hf1
  have k2 := h2
  have lt2 : ∀ x ∈ p2, x.block < W.heap.size := by obtain ⟨m, hm⟩ := k2; exact DataW.trod_lt m _ _ _ hm
  obtain ⟨x2, y2, rfl, b2⟩ := vopen_inst (hval 2 24 v2 rfl rfl) h2
  have hreach0 : cap0 * 8 ≤ 140737488351232 := by
    rcases hdat0 with ⟨_, _, h⟩ | ⟨elems, spare, hd, he, hc⟩
    · omega
    · have hs := sized_slice hsz (j := 0) (t := 22) (e := 3) (elems := elems) (spare := spare) rfl (by rw [show d0 = _ from hd]; rfl) Try.underlying22
      rw [vbytes3] at hs
      simp only [reachBytes] at hs
      omega
  have hreach1 : cap1 * 8 ≤ 140737488351232 := by
    rcases hdat1 with ⟨_, _, h⟩ | ⟨elems, spare, hd, he, hc⟩
    · omega
    · have hs := sized_slice hsz (j := 1) (t := 22) (e := 3) (elems := elems) (spare := spare) rfl (by rw [show d1 = _ from hd]; rfl) Try.underlying22
      rw [vbytes3] at hs
      simp only [reachBytes] at hs
      omega
  clear hA0
  refine (walk a0 a1 n0 n1 cap0 cap1 l0 l1 x2 y2 W hseg0 hseg1 (by have := hreach0; omega) (by have := hreach1; omega)).mono fun e W' ⟨he, bel⟩ => ?_
  subst he
  exact ⟨_, rfl, _, _, _, [], _, [], hW', trodAll_mk1 (shut_bool Try.underlying4 _), (trodAll_cons_mk (Below.trod vlaid (by kernel_rfl) (of_decide_eq_true (by kernel_rfl)) k0 bel lt0) (trodAll_cons_mk (Below.trod vlaid (by kernel_rfl) (of_decide_eq_true (by kernel_rfl)) k1 bel lt1) (trodAll_cons_mk (Below.trod vlaid (by kernel_rfl) (of_decide_eq_true (by kernel_rfl)) k2 bel lt2) trodAll_mk0))), rfl, bel.frame _, fun h => by cases h⟩

set_option maxRecDepth 100000 in
theorem lifted (os : Os) (started : os.Started) (H : Type) (enc : TypeId × Value → H) :
    ReturnsInHanded {} Try.checked os 3 .any (Rows.vectorAsksSpec.pre6 enc Try.prog Try.f3 Rows.vectorAsksRow.domain false) (Rows.vectorAsksSpec.post enc Try.prog Try.f3 false true false false) := by
  refine returnsInHanded_of_change_sized (C := Try.checked) vown started (by kernel_rfl) Try.func3
    (ChangeSpec.witness6 (enc := enc) (C := Try.checked) false ⟨#[], #[.slice none 0 0, .slice none 0 0, .agg #[.int .i64 0, .int .i64 0]], []⟩ 8 (by kernel_rfl) (by kernel_rfl) (by kernel_rfl) (by kernel_rfl)) ?_
  intro W base args ds gs before hval hW _ hsz _
  exact contract H enc W base args ds gs before hval hW hsz

end vectorAsks
theorem vectorAsks_proved : Rows.VectorAsksSaid :=
  OpenClaim.holds_of_wide 3 Try.f3 rfl rfl rfl rfl rfl rfl rfl ⟨rfl, rfl, rfl, rfl, rfl⟩ rfl rfl rfl rfl rfl (by kernel_rfl) Try.func3 (by kernel_rfl)
    (of_decide_eq_true (by kernel_rfl)) (by unfold Func.isWrapper; first | (rw [if_pos (by decide +kernel)]; kernel_rfl) | (rw [if_neg (by decide +kernel)]; exact ⟨rfl, rfl⟩))
    (fun os started H enc _ => vectorAsks.lifted os started H enc)
#print axioms vectorAsks_proved
end Go.Proofs.Ytkddbcgkfnmgbab
