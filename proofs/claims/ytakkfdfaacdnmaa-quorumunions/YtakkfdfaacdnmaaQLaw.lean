/- The statements' own helpers: sameAttr, replyOf, decides, unlike, sound. -/
import Derived.Test.YtakkfdfaacdnmaaQFast
import Derived.Test.YtakkfdfaacdnmaaQArgs
import Derived.Test.YtakkfdfaacdnmaaSameI
namespace Go.Proofs.Ytakkfdfaacdnmaa
open Go.RowKit Go.Wire1

set_option maxHeartbeats 1000000 in
set_option maxRecDepth 100000 in
theorem sameAttr_any (s1 s2 : Int) (a1 a2 : Option Addr) (k1 c1 k2 c2 : Nat) (l1 l2 : List Int) (w : World) (h1 : SegI w a1 k1 l1) (h2 : SegI w a2 k2 l2) {b : Bool} (hb : (sameB l1 l2 && (s1 == s2)) = b) :
    Calls Try.prog 13 #[.agg #[.int .i64 s1, .slice a1 k1 c1], .agg #[.int .i64 s2, .slice a2 k2 c2]] w fun e w' => e = .returned (.bool b) ∧ Below w.heap.size w w' := by
  have B2 : Hid (Below w.heap.size w ((w.alloc (.cells #[.int .i64 s1, .slice a1 k1 c1] 38)).alloc (.cells #[.int .i64 s2, .slice a2 k2 c2] 38))) := ((Below.refl _ w).alloc (Nat.le_refl _) _).alloc (by simp) _
  have HS1 := hide (h1.below B2.out (Nat.le_refl _))
  have HS2 := hide (h2.below B2.out (Nat.le_refl _))
  clear h1 h2
  cases hs : sameB l1 l2 with
  | false =>
    have HB : Hid (b = false) := by show _ = _; rw [← hb, hs]; rfl
    clear hb
    go_enter Try.func13, Try.ntmps13
    go_wp2_with fail
    refine (sameI_any _ _ _ _ _ _ l1 l2 _ HS1.out HS2.out).mono ?_
    rintro e w' ⟨rfl, q, rfl⟩
    rw [hs]
    go_wp2
    go_ret
    exact ⟨by rw [HB.out]; rfl, below_drewN B2.out _⟩
  | true =>
    have HB : Hid ((s1 == s2) = b) := by show _ = _; rw [← hb, hs]; rfl
    clear hb
    go_enter Try.func13, Try.ntmps13
    go_wp2_with fail
    refine (sameI_any _ _ _ _ _ _ l1 l2 _ HS1.out HS2.out).mono ?_
    rintro e w' ⟨rfl, q, rfl⟩
    rw [hs]
    go_wp2
    go_ret
    exact ⟨by rw [← HB.out]; rfl, below_drewN B2.out _⟩
def rv (fr seq : Int) (a : Option Addr) (k c : Nat) (l : List Int) : Vt := ⟨fr, 0, false, 0, 0, ⟨0, 0, 0, ⟨#[]⟩, ⟨#[]⟩, ⟨#[]⟩, ⟨#[]⟩, 0⟩, seq, a, k, c, l⟩
set_option maxHeartbeats 1000000 in
set_option maxRecDepth 100000 in
theorem replyOf_any (fr seq : Int) (a : Option Addr) (k c : Nat) (w : World) :
    Calls Try.prog 30 #[.int .i64 fr, .int .i64 seq, .slice a k c] w fun e w' => e = .returned (.agg #[.int .i64 fr, .int .i64 0, .bool false, .int .i64 0, .int .i64 0, .int .i64 0, .int .i64 0, .int .i64 0, .string ⟨#[]⟩, .string ⟨#[]⟩, .string ⟨#[]⟩, .string ⟨#[]⟩, .int .i64 0, .int .i64 seq, .slice a k c]) ∧ Below w.heap.size w w' := by
  obtain ⟨U, hU⟩ : ∃ U, U = w.alloc (.cells zv.toArray 32) := ⟨_, rfl⟩
  have ZU : Hid (Blk U w.heap.size zv) := by rw [hU]; exact blk_new w 32 zv
  have BU : Hid (Below w.heap.size w U) := by rw [hU]; exact (Below.refl _ _).alloc (Nat.le_refl _) _
  have HUU : Hid (w.alloc (.cells #[.int .i64 0, .int .i64 0, .bool false, .int .i64 0, .int .i64 0, .int .i64 0, .int .i64 0, .int .i64 0, .string ⟨#[]⟩, .string ⟨#[]⟩, .string ⟨#[]⟩, .string ⟨#[]⟩, .int .i64 0, .int .i64 0, .slice none 0 0] 32) = U) := hU.symm
  have TU := hide ZU.out.there
  obtain ⟨Y, hY⟩ : ∃ Y, Y = U.setCells w.heap.size 0 (vcs (rv fr seq a k c [])) := ⟨_, rfl⟩
  have HYB : Hid (Blk Y w.heap.size (vcs (rv fr seq a k c []))) := by rw [hY]; exact blk_cells ZU.out rfl
  have BY : Hid (Below w.heap.size w Y) := by rw [hY]; exact below_cells (Nat.le_refl _) _ _ _ BU.out
  have HY := hide hY
  clear hU hY
  go_enter Try.func30, Try.ntmps30
  go_upto_region 1 with fail
  rw [HUU.out]
  go_wp2_with (first | (refine wpList_store_mid rfl 32 _ _ rfl w.heap.size 0 (vcs (rv fr seq a k c [])).toArray rfl rfl TU.out (by kernel_rfl) (by kernel_rfl) ?_; first | rw [← HY.out] | (simp only [List.toList_toArray]; rw [← HY.out])))
  refine bodyPost_ret (results_cell_mid Try.results30 _ _ w.heap.size (vcs (rv fr seq a k c [])) _ rfl HYB.out.range Try.underlying32 rfl (by kernel_rfl)) rfl ⟨rfl, BY.out⟩
/-- The lists of two votes. -/
theorem row2_new (w : World) (v1 v2 : Vt) : RowS (w.alloc (.cells (vcs v1 ++ vcs v2).toArray 32)) 15 (some ⟨w.heap.size, 0, none⟩) 2 [vcs v1, vcs v2] := by
  have hb := blk_new w 32 (vcs v1 ++ vcs v2)
  refine ⟨rfl, by unfold maxLen; omega, fun _ => ⟨w.heap.size, 0, rfl, fun i cs hi j u hj => ?_⟩, fun cs hc => ?_⟩
  · match i, hi with
    | 0, hi =>
      simp only [List.getElem?_cons_zero, Option.some.injEq] at hi
      subst hi
      simp only [Nat.zero_mul, Nat.add_zero, Nat.zero_add]
      refine hb.cell j u ?_
      rw [List.getElem?_append_left (List.getElem?_eq_some_iff.1 hj).1]; exact hj
    | 1, hi =>
      simp only [List.getElem?_cons_succ, List.getElem?_cons_zero, Option.some.injEq] at hi
      subst hi
      rw [Nat.one_mul, Nat.zero_add]
      refine hb.cell (15 + j) u ?_
      rw [List.getElem?_append_right (by rw [vcs_len]; omega), vcs_len, show 15 + j - 15 = j by omega]; exact hj
    | i + 2, hi => simp at hi
  · simp only [List.mem_cons, List.not_mem_nil, or_false] at hc
    rcases hc with rfl | rfl
    · exact ⟨rfl, vcs_one _⟩
    · exact ⟨rfl, vcs_one _⟩
set_option maxHeartbeats 4000000 in
set_option maxRecDepth 100000 in
theorem goes_any (w : World) : Calls Try.prog 11 #[] w fun e w' => e = .returned (.bool true) ∧ Below w.heap.size w w' := by
  have hf3 : ∀ l : List Int, (∀ x ∈ l, x = 0 ∨ x = 2 ∨ x = 4) → Fit l := fun l h => fit_of (fun x hx => by rcases h x hx with h | h | h <;> omega)
  obtain ⟨W1, hW1⟩ : ∃ W1, W1 = (w.alloc (.cells #[.int .i64 0, .int .i64 0, .int .i64 0] 3)).alloc (.cells #[.int .i64 0, .int .i64 2, .int .i64 0] 3) := ⟨_, rfl⟩
  have B1 : Hid (Below w.heap.size w W1) := by rw [hW1]; exact ((Below.refl _ w).alloc (Nat.le_refl _) _).alloc (by simp) _
  have S0 : Hid (SegI W1 (some ⟨w.heap.size, 0, none⟩) 3 [0, 0, 0]) := by
    rw [hW1]
    exact (segI_lit [0, 0, 0] (hf3 _ (by simp)) (by unfold maxLen; decide) rfl rfl rfl).on _
  have S1 : Hid (SegI W1 (some ⟨w.heap.size + 1, 0, none⟩) 3 [0, 2, 0]) := by
    rw [hW1]
    exact segI_lit [0, 2, 0] (hf3 _ (by simp)) (by unfold maxLen; decide) rfl (by simp) rfl
  go_enter Try.func11, Try.ntmps11
  go_wp2_with fail
  rw [← hW1]
  clear hW1
  refine (replyOf_any _ _ _ _ _ _).mono ?_
  rintro e w2 ⟨rfl, hb2⟩
  obtain ⟨W3, hW3⟩ : ∃ W3, W3 = w2.alloc (.cells #[.int .i64 0, .int .i64 0, .int .i64 4] 3) := ⟨_, rfl⟩
  have B3 : Hid (Below W1.heap.size W1 W3) := by rw [hW3]; exact hb2.alloc hb2.size _
  have S2 : Hid (SegI W3 (some ⟨w2.heap.size, 0, none⟩) 3 [0, 0, 4]) := by
    rw [hW3]
    exact segI_lit [0, 0, 4] (hf3 _ (by simp)) (by unfold maxLen; decide) rfl rfl rfl
  clear hb2
  go_wp2_with fail
  rw [← hW3]
  clear hW3
  refine (replyOf_any _ _ _ _ _ _).mono ?_
  rintro e w4 ⟨rfl, hb4⟩
  obtain ⟨v1, hv1⟩ : ∃ v1, v1 = rv 1 3 (some ⟨w.heap.size + 1, 0, none⟩) 3 3 [0, 2, 0] := ⟨_, rfl⟩
  obtain ⟨v2, hv2⟩ : ∃ v2, v2 = rv 2 2 (some ⟨w2.heap.size, 0, none⟩) 3 3 [0, 0, 4] := ⟨_, rfl⟩
  obtain ⟨W5, hW5⟩ : ∃ W5, W5 = w4.alloc (.cells (vcs v1 ++ vcs v2).toArray 32) := ⟨_, rfl⟩
  have B5 : Hid (Below W3.heap.size W3 W5) := by rw [hW5]; exact hb4.alloc hb4.size _
  have R5 : Hid (RowS W5 15 (some ⟨w4.heap.size, 0, none⟩) 2 [vcs v1, vcs v2]) := by rw [hW5]; exact row2_new w4 v1 v2
  have hW5' : Hid (w4.alloc (.cells (vcs v1 ++ vcs v2).toArray 32) = W5) := hW5.symm
  have BW : Hid (Below w.heap.size w W5) := (B1.out.trans (B3.out.mono B1.out.size)).trans (B5.out.mono (Nat.le_trans B1.out.size B3.out.size))
  have S05 : Hid (SegI W5 (some ⟨w.heap.size, 0, none⟩) 3 [0, 0, 0]) := (S0.out.below B3.out (Nat.le_refl _)).below B5.out (Nat.le_refl _)
  have OK1 : Hid (Vok W5 v1) := by subst hv1; exact ⟨(S1.out.below B3.out (Nat.le_refl _)).below B5.out (Nat.le_refl _), Nat.le_refl _, by show (-9223372036854775808 : Int) ≤ 1 ∧ (1 : Int) ≤ 9223372036854775807; omega⟩
  have OK2 : Hid (Vok W5 v2) := by subst hv2; exact ⟨S2.out.below B5.out (Nat.le_refl _), Nat.le_refl _, by show (-9223372036854775808 : Int) ≤ 2 ∧ (2 : Int) ≤ 9223372036854775807; omega⟩
  have HF : Hid (fastQ 3 0 1 [0, 0, 0] [v1, v2] = (2, 3, [0, 2, 4])) := by subst hv1 hv2; show _ = _; kernel_rfl
  have hc := fast_any 3 0 1 (some ⟨w.heap.size, 0, none⟩) 3 3 [0, 0, 0] (some ⟨w4.heap.size, 0, none⟩) 2 [v1, v2] W5 S05.out (Nat.le_refl _) R5.out (fun v hv => by
    simp only [List.mem_cons, List.not_mem_nil, or_false] at hv
    rcases hv with rfl | rfl
    · exact OK1.out
    · exact OK2.out)
  rw [HF.out] at hc
  have HC := hide hc
  subst hv1 hv2
  have HW5 : Hid (W5 = w4.alloc (.cells #[.int .i64 1, .int .i64 0, .bool false, .int .i64 0, .int .i64 0, .int .i64 0, .int .i64 0, .int .i64 0, .string ⟨#[]⟩, .string ⟨#[]⟩, .string ⟨#[]⟩, .string ⟨#[]⟩, .int .i64 0, .int .i64 3, .slice (some ⟨w.heap.size + 1, 0, none⟩) 3 3, .int .i64 2, .int .i64 0, .bool false, .int .i64 0, .int .i64 0, .int .i64 0, .int .i64 0, .int .i64 0, .string ⟨#[]⟩, .string ⟨#[]⟩, .string ⟨#[]⟩, .string ⟨#[]⟩, .int .i64 0, .int .i64 2, .slice (some ⟨w2.heap.size, 0, none⟩) 3 3] 32)) := hW5
  clear hb4 hW5 hc hW5' OK1 OK2 R5 S05 HF
  go_wp2_with fail
  rw [← HW5.out]
  refine HC.out.mono ?_
  rintro e w6 ⟨ua, uc, rfl, ho6, hb6⟩
  have B6 : Hid (Below w.heap.size w w6) := BW.out.trans (hb6.mono BW.out.size)
  obtain ⟨ua', uc', he, -, hseg⟩ := own_segI ho6 (hf3 _ (by simp))
  injection he with e1 e2 e3
  subst e1 e3
  have S6 : Hid (SegI w6 ua 3 [0, 2, 4]) := hseg
  clear ho6 hb6 hseg HC HW5 e2
  go_wp2_with fail
  obtain ⟨W8, hW8⟩ : ∃ W8, W8 = (w6.alloc (.cells #[.int .i64 3, .slice ua 3 uc] 38)).alloc (.cells #[.int .i64 0, .int .i64 2, .int .i64 4] 3) := ⟨_, rfl⟩
  have B8 : Hid (Below w6.heap.size w6 W8) := by rw [hW8]; exact ((Below.refl _ _).alloc (Nat.le_refl _) _).alloc (by simp) _
  have S8 : Hid (SegI W8 (some ⟨w6.heap.size + 1, 0, none⟩) 3 [0, 2, 4]) := by
    rw [hW8]
    exact segI_lit [0, 2, 4] (hf3 _ (by simp)) (by unfold maxLen; decide) rfl (by simp) rfl
  rw [← hW8]
  clear hW8
  refine (sameAttr_any 3 3 _ _ _ _ _ _ [0, 2, 4] [0, 2, 4] _ (S6.out.below B8.out (Nat.le_refl _)) S8.out (b := true) rfl).mono ?_
  rintro e w9 ⟨rfl, hb9⟩
  have B9 : Hid (Below w.heap.size w w9) := (B6.out.trans (B8.out.mono B6.out.size)).trans (hb9.mono (Nat.le_trans B6.out.size B8.out.size))
  clear hb9
  go_wp2
  go_ret
  exact ⟨rfl, B9.out⟩
end Go.Proofs.Ytakkfdfaacdnmaa
