/- The contract of the statements' own means, walked. -/
import Derived.Test.YtkddbcgkfnmgbaaVMeans
namespace Go.Proofs.Ytkddbcgkfnmgbaa
open Go.RowKit Go.Wire1

set_option maxHeartbeats 4000000 in
set_option maxRecDepth 100000 in
theorem means_any (a b : Option Addr) (n cap cap' k : Nat) (xs ys : List Int) (xr xn yn : Int) (w : World) (ha : SegI w a n xs) (hb : SegI w b n ys) (hx : isVec xs = true) (hy : isVec ys = true) (hk : k < n) (h1 : 1 ≤ yn) (h2 : yn ≤ 1048576) :
    Calls Try.prog 18 #[.slice a n cap, .slice b n cap', .agg #[.int .i64 xr, .int .i64 xn], .agg #[.int .i64 (k : Int), .int .i64 yn]] w fun e w' => e = .returned (.bool true) ∧ Below w.heap.size w w' := by
  have hl : xs.length = ys.length := by rw [ha.1, hb.1]
  have hkx : k < xs.length := by rw [ha.1]; exact hk
  have HA : Hid (SegI w a n xs) := ha
  have HB : Hid (SegI w b n ys) := hb
  have hn := ha.2.1
  unfold maxLen at hn
  have EU : Hid (unionE [xs, ys] = 0) := (two_union hx hy hl).1
  have LU : Hid ((unionL [xs, ys]).length = n) := by show _ = _; rw [(two_vec hx hy hl).2]; exact ha.1
  have LR : Hid ((raiseL xs (k : Int) yn).length = n) := by show _ = _; rw [(raise_vec hx hkx h1 h2).2]; exact ha.1
  have QU : Hid (holdsB (unionL [xs, ys]) xr xn = (holdsB xs xr xn || holdsB ys xr xn)) := holds_union hx hy hl xr xn
  have QR : Hid (holdsB (raiseL xs (k : Int) yn) xr xn = (holdsB xs xr xn || (decide (xr = (k : Int)) && (decide (1 ≤ xn) && decide (xn ≤ yn))))) := holds_raise hx hkx h1 h2 xr xn
  have QC : Hid (coversB xs ys = true → holdsB ys xr xn = true → holdsB xs xr xn = true) := covers_holds hx hy hl xr xn
  have QS : Hid (coversB xs ys = sameB (unionL [xs, ys]) xs) := covers_same hx hy hl
  have QT : Hid (holdsB xs (k : Int) yn = sameB (raiseL xs (k : Int) yn) xs) := holds_still hx hkx h1 h2
  clear ha hb hx hy hl hkx hk h1 h2
  obtain ⟨W2, hW2⟩ : ∃ W2, W2 = (w.alloc (.cells #[.int .i64 xr, .int .i64 xn] 40)).alloc (.cells #[.int .i64 (k : Int), .int .i64 yn] 40) := ⟨_, rfl⟩
  have B2 : Hid (Below w.heap.size w W2) := by rw [hW2]; exact (((Below.refl _ _).more (Nat.le_refl _) _).more (Nat.le_refl _) _)
  have X2 : Hid (Box W2 w.heap.size xr xn) := by rw [hW2]; exact (box_new w xr xn _).below ((Below.refl _ _).more (Nat.le_refl _) _) (Nat.le_refl _)
  have Y2 : Hid (Box W2 (w.heap.size + 1) (k : Int) yn) := by
    have := box_new (w.alloc (.cells #[.int .i64 xr, .int .i64 xn] 40)) (k : Int) yn 40
    rw [World.size_alloc] at this
    rw [hW2]; exact this
  have hs2 : W2.heap.size = w.heap.size + 1 + 1 := by rw [hW2]; simp
  go_enter Try.func18, Try.ntmps18
  go_wp2_with fail
  rw [← hW2]
  have SL : SegL (W2.alloc (.cells #[.slice a n cap, .slice b n cap'] 23)) (some ⟨w.heap.size + 1 + 1, 0, none⟩) 2 [⟨a, n, cap, xs⟩, ⟨b, n, cap', ys⟩] := by
    refine segL_lit _ (by unfold maxLen; simp) ?_ rfl (by rw [hs2]) rfl
    intro s hs
    simp only [List.mem_cons, List.not_mem_nil, or_false] at hs
    rcases hs with rfl | rfl
    · exact HA.out.below B2.out (Nat.le_refl _)
    · exact HB.out.below B2.out (Nat.le_refl _)
  refine (union_seg (ls := [⟨a, n, cap, xs⟩, ⟨b, n, cap', ys⟩]) (B2.out.more (Nat.le_refl _) _) (Nat.le_refl _) SL (by decide) rfl EU.out LU.out).mono ?_
  rintro e w4 ⟨au, cu, rfl, hcu, su, hb4, hb4'⟩
  have U4 : Hid (SegI w4 au n (unionL [xs, ys])) := su
  have B4 : Hid (Below w.heap.size w w4) := hb4
  have C4 : Hid (Below W2.heap.size W2 w4) := ((Below.refl W2.heap.size W2).more (Nat.le_refl _) _).on hb4' (Nat.le_refl _)
  have X4 : Hid (Box w4 w.heap.size xr xn) := X2.out.below C4.out (Nat.le_refl _)
  have Y4 : Hid (Box w4 (w.heap.size + 1) (k : Int) yn) := Y2.out.below C4.out (Nat.le_refl _)
  clear su hb4 hb4' SL X2 Y2 B2 C4
  generalize unionL [xs, ys] = U at *
  have y0 := Y4.out.1
  have y1 := Y4.out.2
  go_wp2_with fail
  refine (raise_seg (l := xs) B4.out (Nat.le_refl _) (HA.out.below B4.out (Nat.le_refl _)) rfl LR.out).mono ?_
  rintro e w5 ⟨ar, cr, rfl, hcr, sr, hb5, hb5'⟩
  have R5 : Hid (SegI w5 ar n (raiseL xs (k : Int) yn)) := sr
  have U5 : Hid (SegI w5 au n U) := U4.out.below hb5' (Nat.le_refl _)
  have B5 : Hid (Below w.heap.size w w5) := hb5
  have X5 : Hid (Box w5 w.heap.size xr xn) := X4.out.below hb5' (Nat.le_refl _)
  have Y5 : Hid (Box w5 (w.heap.size + 1) (k : Int) yn) := Y4.out.below hb5' (Nat.le_refl _)
  clear sr hb5 hb5' X4 Y4 U4 B4 y0 y1
  generalize raiseL xs (k : Int) yn = R at *
  go_wp2_with fail
  refine (num_any _ _).mono ?_
  rintro e w' ⟨rfl, rfl⟩
  have x0 := X5.out.1
  have x1 := X5.out.2
  go_wp2_with fail
  refine (holds_any _ _ _ xs xr xn _ (HA.out.below B5.out (Nat.le_refl _))).mono ?_
  rintro e w6 ⟨rfl, hb6⟩
  have R6 : Hid (SegI w6 ar n R) := R5.out.below hb6 (Nat.le_refl _)
  have U6 : Hid (SegI w6 au n U) := U5.out.below hb6 (Nat.le_refl _)
  have B6 : Hid (Below w.heap.size w w6) := B5.out.on hb6 (Nat.le_refl _)
  have X6 : Hid (Box w6 w.heap.size xr xn) := X5.out.below hb6 (Nat.le_refl _)
  have Y6 : Hid (Box w6 (w.heap.size + 1) (k : Int) yn) := Y5.out.below hb6 (Nat.le_refl _)
  clear hb6 R5 U5 B5 X5 Y5 x0 x1
  have x0 := X6.out.1
  have x1 := X6.out.2
  go_wp2_with fail
  refine (holds_any _ _ _ ys xr xn _ (HB.out.below B6.out (Nat.le_refl _))).mono ?_
  rintro e w7 ⟨rfl, hb7⟩
  have R7 : Hid (SegI w7 ar n R) := R6.out.below hb7 (Nat.le_refl _)
  have U7 : Hid (SegI w7 au n U) := U6.out.below hb7 (Nat.le_refl _)
  have B7 : Hid (Below w.heap.size w w7) := B6.out.on hb7 (Nat.le_refl _)
  have X7 : Hid (Box w7 w.heap.size xr xn) := X6.out.below hb7 (Nat.le_refl _)
  have Y7 : Hid (Box w7 (w.heap.size + 1) (k : Int) yn) := Y6.out.below hb7 (Nat.le_refl _)
  clear hb7 R6 U6 B6 X6 Y6 x0 x1
  have x0 := X7.out.1
  have x1 := X7.out.2
  go_wp2_with fail
  refine (holds_any _ _ _ U xr xn _ U7.out).mono ?_
  rintro e w8 ⟨rfl, hb8⟩
  have R8 : Hid (SegI w8 ar n R) := R7.out.below hb8 (Nat.le_refl _)
  have U8 : Hid (SegI w8 au n U) := U7.out.below hb8 (Nat.le_refl _)
  have B8 : Hid (Below w.heap.size w w8) := B7.out.on hb8 (Nat.le_refl _)
  have X8 : Hid (Box w8 w.heap.size xr xn) := X7.out.below hb8 (Nat.le_refl _)
  have Y8 : Hid (Box w8 (w.heap.size + 1) (k : Int) yn) := Y7.out.below hb8 (Nat.le_refl _)
  clear hb8 R7 U7 B7 X7 Y7 x0 x1
  have x0 := X8.out.1
  have x1 := X8.out.2
  go_wp2_with fail
  refine (holds_any _ _ _ R xr xn _ R8.out).mono ?_
  rintro e w9 ⟨rfl, hb9⟩
  have R9 : Hid (SegI w9 ar n R) := R8.out.below hb9 (Nat.le_refl _)
  have U9 : Hid (SegI w9 au n U) := U8.out.below hb9 (Nat.le_refl _)
  have B9 : Hid (Below w.heap.size w w9) := B8.out.on hb9 (Nat.le_refl _)
  have X9 : Hid (Box w9 w.heap.size xr xn) := X8.out.below hb9 (Nat.le_refl _)
  have Y9 : Hid (Box w9 (w.heap.size + 1) (k : Int) yn) := Y8.out.below hb9 (Nat.le_refl _)
  clear hb9 R8 U8 B8 X8 Y8 x0 x1
  have x0 := X9.out.1
  have x1 := X9.out.2
  have y0 := Y9.out.1
  have y1 := Y9.out.2
  rw [QU.out, QR.out]
  generalize holdsB xs xr xn = iA at *
  generalize holdsB ys xr xn = iB at *
  obtain ⟨t, ht⟩ : ∃ t, Hid (t = (decide (xr = (k : Int)) && (decide (1 ≤ xn) && decide (xn ≤ yn)))) := ⟨_, rfl⟩
  rw [← ht.out]
  have key : (xr = (k : Int) ∧ 1 ≤ xn ∧ xn ≤ yn) ∨ ¬ xr = (k : Int) ∨ (xr = (k : Int) ∧ ¬ 1 ≤ xn) ∨ (xr = (k : Int) ∧ 1 ≤ xn ∧ ¬ xn ≤ yn) := by omega
  have cut : ∃ f : Bool, Hid (f = t) ∧ (((xr == (k : Int)) = true ∧ 1 ≤ xn ∧ xn ≤ yn ∧ f = true) ∨ ((xr == (k : Int)) = false ∧ f = false) ∨ ((xr == (k : Int)) = true ∧ xn < 1 ∧ f = false) ∨ ((xr == (k : Int)) = true ∧ 1 ≤ xn ∧ yn < xn ∧ f = false)) := by
    refine ⟨t, rfl, ?_⟩
    rw [ht.out]
    rcases key with ⟨e1, e2, e3⟩ | e1 | ⟨e1, e2⟩ | ⟨e1, e2, e3⟩
    · exact .inl ⟨beq_iff_eq.2 e1, e2, e3, by simp [e1, e2, e3]⟩
    · exact .inr (.inl ⟨beq_eq_false_iff_ne.2 e1, by simp [e1]⟩)
    · exact .inr (.inr (.inl ⟨beq_iff_eq.2 e1, by omega, by simp [e2]⟩))
    · exact .inr (.inr (.inr ⟨beq_iff_eq.2 e1, e2, by omega, by simp [e3]⟩))
  clear key QU QR
  obtain ⟨f, hf, hcut⟩ := cut
  rw [← hf.out]
  clear hf ht t
  rcases hcut with ⟨e1, e2, e3, rfl⟩ | ⟨e1, rfl⟩ | ⟨e1, e2, rfl⟩ | ⟨e1, e2, e3, rfl⟩
  all_goals
    cases iA <;> cases iB
  all_goals
    go_wp2_with fail
    refine (covers_any _ _ n n _ _ xs ys _ (HA.out.below B9.out (Nat.le_refl _)) (HB.out.below B9.out (Nat.le_refl _))).mono ?_
    rintro e w10 ⟨rfl, q, hq⟩
    have B10 : Hid (Below w.heap.size w w10) := by rw [hq]; exact B9.out.drewN' q
    have U10 : Hid (SegI w10 au n U) := by rw [hq]; exact U9.out.drewN q
    have R10 : Hid (SegI w10 ar n R) := by rw [hq]; exact R9.out.drewN q
    have z0 : w10.cell? ⟨w.heap.size + 1, 0, none⟩ = some (.int .i64 (k : Int)) := by rw [hq]; exact Y9.out.1
    have z1 : w10.cell? ⟨w.heap.size + 1, 1, none⟩ = some (.int .i64 yn) := by rw [hq]; exact Y9.out.2
    clear hq x0 x1 y0 y1 U9 R9 B9 X9 Y9
    rw [QS.out]
    have QS' := QS.out
    have QC' := QC.out
    generalize hs : sameB U xs = s at *
    rw [QS'] at QC'
    have HSS : Hid (sameB U xs = s) := hs
    clear QS QS' hs QC
    cases s <;> first
    | exact absurd (QC' rfl rfl) (by decide)
    | exact absurd QC' (by decide)
    | (clear QC'
       go_wp2_with fail
       refine (sameI_any _ _ n n _ _ U xs _ U10.out (HA.out.below B10.out (Nat.le_refl _))).mono ?_
       rintro e w11 ⟨rfl, q, hq⟩
       have B11 : Hid (Below w.heap.size w w11) := by rw [hq]; exact B10.out.drewN' q
       have R11 : Hid (SegI w11 ar n R) := by rw [hq]; exact R10.out.drewN q
       have v0 : w11.cell? ⟨w.heap.size + 1, 0, none⟩ = some (.int .i64 (k : Int)) := by rw [hq]; exact z0
       have v1 : w11.cell? ⟨w.heap.size + 1, 1, none⟩ = some (.int .i64 yn) := by rw [hq]; exact z1
       rw [HSS.out]
       clear hq z0 z1 U10 R10 B10 HSS
       go_wp2_with fail
       refine (holds_any _ _ _ xs (k : Int) yn _ (HA.out.below B11.out (Nat.le_refl _))).mono ?_
       rintro e w12 ⟨rfl, hb12⟩
       have B12 : Hid (Below w.heap.size w w12) := B11.out.on hb12 (Nat.le_refl _)
       have R12 : Hid (SegI w12 ar n R) := R11.out.below hb12 (Nat.le_refl _)
       rw [QT.out]
       clear hb12 v0 v1 R11 B11
       go_wp2_with fail
       refine (sameI_any _ _ n n _ _ R xs _ R12.out (HA.out.below B12.out (Nat.le_refl _))).mono ?_
       rintro e w13 ⟨rfl, q, hq⟩
       have B13 : Hid (Below w.heap.size w w13) := by rw [hq]; exact B12.out.drewN' q
       clear hq R12 B12 QT
       generalize sameB R xs = s2 at *
       cases s2 <;>
       (go_wp2
        go_ret
        exact ⟨rfl, B13.out⟩))
end Go.Proofs.Ytkddbcgkfnmgbaa
