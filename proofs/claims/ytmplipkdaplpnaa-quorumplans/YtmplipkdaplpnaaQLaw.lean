/- The statements' own helpers: sameAttr, replyOf, decides, unlike, sound. -/
import Derived.Test.YtmplipkdaplpnaaQFast
import Derived.Test.YtmplipkdaplpnaaQArgs
import Derived.Test.YtmplipkdaplpnaaSameI
namespace Go.Proofs.Ytmplipkdaplpnaa
open Go.RowKit Go.Wire1

set_option maxHeartbeats 1000000 in
set_option maxRecDepth 100000 in
theorem sameAttr_any (s1 s2 : Int) (a1 a2 : Option Addr) (k1 c1 k2 c2 : Nat) (l1 l2 : List Int) (w : World) (h1 : SegI w a1 k1 l1) (h2 : SegI w a2 k2 l2) {b : Bool} (hb : (sameB l1 l2 && (s1 == s2)) = b) :
    Calls Try.prog 8 #[.agg #[.int .i64 s1, .slice a1 k1 c1], .agg #[.int .i64 s2, .slice a2 k2 c2]] w fun e w' => e = .returned (.bool b) ∧ Below w.heap.size w w' := by
  have B2 : Hid (Below w.heap.size w ((w.alloc (.cells #[.int .i64 s1, .slice a1 k1 c1] 24)).alloc (.cells #[.int .i64 s2, .slice a2 k2 c2] 24))) := ((Below.refl _ w).alloc (Nat.le_refl _) _).alloc (by simp) _
  have HS1 := hide (h1.below B2.out (Nat.le_refl _))
  have HS2 := hide (h2.below B2.out (Nat.le_refl _))
  clear h1 h2
  cases hs : sameB l1 l2 with
  | false =>
    have HB : Hid (b = false) := by show _ = _; rw [← hb, hs]; rfl
    clear hb
    go_enter Try.func8, Try.ntmps8
    go_wp2_with fail
    refine (sameI_any _ _ _ _ _ _ l1 l2 _ HS1.out HS2.out).mono ?_
    rintro e w' ⟨rfl, q, rfl⟩
    rw [hs]
    go_wp2
    go_ret
    exact ⟨by rw [HB.out]; rfl, below_drewN B2.out _⟩
  | true =>
    have HB : Hid ((s1 == s2) = b) := by show _ = _; rw [← hb, hs]; rfl
    clear hb
    go_enter Try.func8, Try.ntmps8
    go_wp2_with fail
    refine (sameI_any _ _ _ _ _ _ l1 l2 _ HS1.out HS2.out).mono ?_
    rintro e w' ⟨rfl, q, rfl⟩
    rw [hs]
    go_wp2
    go_ret
    exact ⟨by rw [← HB.out]; rfl, below_drewN B2.out _⟩
def rv (fr seq : Int) (a : Option Addr) (k c : Nat) (l : List Int) : Vt := ⟨fr, 0, false, 0, 0, ⟨0, 0, 0, ⟨#[]⟩, ⟨#[]⟩, ⟨#[]⟩, ⟨#[]⟩, 0⟩, seq, a, k, c, l⟩
set_option maxHeartbeats 1000000 in
set_option maxRecDepth 100000 in
theorem replyOf_any (fr seq : Int) (a : Option Addr) (k c : Nat) (w : World) :
    Calls Try.prog 7 #[.int .i64 fr, .int .i64 seq, .slice a k c] w fun e w' => e = .returned (.agg #[.int .i64 fr, .int .i64 0, .bool false, .int .i64 0, .int .i64 0, .int .i64 0, .int .i64 0, .int .i64 0, .string ⟨#[]⟩, .string ⟨#[]⟩, .string ⟨#[]⟩, .string ⟨#[]⟩, .int .i64 0, .int .i64 seq, .slice a k c]) ∧ Below w.heap.size w w' := by
  obtain ⟨U, hU⟩ : ∃ U, U = w.alloc (.cells zv.toArray 33) := ⟨_, rfl⟩
  have ZU : Hid (Blk U w.heap.size zv) := by rw [hU]; exact blk_new w 33 zv
  have BU : Hid (Below w.heap.size w U) := by rw [hU]; exact (Below.refl _ _).alloc (Nat.le_refl _) _
  have HUU : Hid (w.alloc (.cells #[.int .i64 0, .int .i64 0, .bool false, .int .i64 0, .int .i64 0, .int .i64 0, .int .i64 0, .int .i64 0, .string ⟨#[]⟩, .string ⟨#[]⟩, .string ⟨#[]⟩, .string ⟨#[]⟩, .int .i64 0, .int .i64 0, .slice none 0 0] 33) = U) := hU.symm
  have TU := hide ZU.out.there
  obtain ⟨Y, hY⟩ : ∃ Y, Y = U.setCells w.heap.size 0 (vcs (rv fr seq a k c [])) := ⟨_, rfl⟩
  have HYB : Hid (Blk Y w.heap.size (vcs (rv fr seq a k c []))) := by rw [hY]; exact blk_cells ZU.out rfl
  have BY : Hid (Below w.heap.size w Y) := by rw [hY]; exact below_cells (Nat.le_refl _) _ _ _ BU.out
  have HY := hide hY
  clear hU hY
  go_enter Try.func7, Try.ntmps7
  go_upto_region 1 with fail
  rw [HUU.out]
  go_wp2_with (first | (refine wpList_store_mid rfl 33 _ _ rfl w.heap.size 0 (vcs (rv fr seq a k c [])).toArray rfl rfl TU.out (by kernel_rfl) (by kernel_rfl) ?_; first | rw [← HY.out] | (simp only [List.toList_toArray]; rw [← HY.out])))
  refine bodyPost_ret (results_cell_mid Try.results7 _ _ w.heap.size (vcs (rv fr seq a k c [])) _ rfl HYB.out.range Try.underlying33 rfl (by kernel_rfl)) rfl ⟨rfl, BY.out⟩
/-- The lists of two votes. -/
theorem row2_new (w : World) (v1 v2 : Vt) : RowS (w.alloc (.cells (vcs v1 ++ vcs v2).toArray 33)) 15 (some ⟨w.heap.size, 0, none⟩) 2 [vcs v1, vcs v2] := by
  have hb := blk_new w 33 (vcs v1 ++ vcs v2)
  refine ⟨rfl, by unfold maxLen; omega, fun _ => ⟨w.heap.size, 0, rfl, fun i cs hi j u hj => ?_⟩, fun cs hc => ?_⟩
  · match i, hi with
    | 0, hi =>
      simp only [List.getElem?_cons_zero, Option.some.injEq] at hi
      subst hi
      simp only [Nat.zero_mul, Nat.add_zero, Nat.zero_add]
      refine hb.cell j u ?_
      rw [List.getElem?_append_left (List.getElem?_eq_some_iff.1 hj).1]; exact hj
    | 1, hi =>
      simp only [List.getElem?_cons_succ, List.getElem?_cons_zero, Option.some.injEq] at hi
      subst hi
      rw [Nat.one_mul, Nat.zero_add]
      refine hb.cell (15 + j) u ?_
      rw [List.getElem?_append_right (by rw [vcs_len]; omega), vcs_len, show 15 + j - 15 = j by omega]; exact hj
    | i + 2, hi => simp at hi
  · simp only [List.mem_cons, List.not_mem_nil, or_false] at hc
    rcases hc with rfl | rfl
    · exact ⟨rfl, vcs_one _⟩
    · exact ⟨rfl, vcs_one _⟩
end Go.Proofs.Ytmplipkdaplpnaa
