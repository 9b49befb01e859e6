/- samePlan at plans that are the same. -/
import Derived.Test.YtmplipkdaplpnaaQSameC
import Derived.Test.YtmplipkdaplpnaaQAcc
import Derived.Test.YtmplipkdaplpnaaSameI
namespace Go.Proofs.Ytmplipkdaplpnaa
open Go.RowKit Go.Wire1

theorem sameC_id (c : Cm) : sameC c c = true := by simp [sameC, teq]
theorem pcs_cmd {w : World} {b : Nat} {k : Int} {c : Cm} {seq : Int} {a : Option Addr} {n cap : Nat} (h : Blk w b (pcs k c seq a n cap)) : w.rangeAt b 1 (ccs c) := fun j x hj => by
  refine h.cell (1 + j) x ?_
  show (Value.int .i64 k :: (ccs c ++ [.int .i64 seq, .slice a n cap]))[1 + j]? = some x
  rw [Nat.add_comm, List.getElem?_cons_succ, List.getElem?_append_left (List.getElem?_eq_some_iff.1 hj).1]; exact hj
set_option maxHeartbeats 2000000 in
set_option maxRecDepth 100000 in
theorem samePlan_same (k : Int) (c : Cm) (seq : Int) (a1 a2 : Option Addr) (n1 c1 n2 c2 : Nat) (l : List Int) (w : World) (h1 : SegI w a1 n1 l) (h2 : SegI w a2 n2 l) :
    Calls Try.prog 11 #[.agg (pcs k c seq a1 n1 c1).toArray, .agg (pcs k c seq a2 n2 c2).toArray] w fun e w' => e = .returned (.bool true) ∧ Below w.heap.size w w' := by
  obtain ⟨U, hU⟩ : ∃ U, U = (w.alloc (.cells (pcs k c seq a1 n1 c1).toArray 38)).alloc (.cells (pcs k c seq a2 n2 c2).toArray 38) := ⟨_, rfl⟩
  have BU : Hid (Below w.heap.size w U) := by rw [hU]; exact ((Below.refl _ w).alloc (Nat.le_refl _) _).alloc (by simp) _
  have QA : Hid (Blk U w.heap.size (pcs k c seq a1 n1 c1)) := by rw [hU]; exact (blk_new w 38 (pcs k c seq a1 n1 c1)).on ((Below.refl _ _).alloc (Nat.le_refl _) _)
  have QB : Hid (Blk U (w.heap.size + 1) (pcs k c seq a2 n2 c2)) := by
    have := blk_new (w.alloc (.cells (pcs k c seq a1 n1 c1).toArray 38)) 38 (pcs k c seq a2 n2 c2)
    rw [World.size_alloc] at this
    rw [hU]; exact this
  have HS1 := hide (h1.below BU.out (Nat.le_refl _))
  have HS2 := hide (h2.below BU.out (Nat.le_refl _))
  have RA : Hid (U.rangeAt w.heap.size 1 (ccs c)) := pcs_cmd QA.out
  have RB : Hid (U.rangeAt (w.heap.size + 1) 1 (ccs c)) := pcs_cmd QB.out
  clear h1 h2
  go_enter Try.func11, Try.ntmps11
  go_upto_region 1 with fail
  rw [← hU]
  clear hU
  go_wp2_with (first | (refine wpList_load_mid rfl 31 _ rfl w.heap.size 1 rfl (ccs c) _ RA.out Try.underlying31 rfl (by kernel_rfl) ?_) | (refine wpList_load_mid rfl 31 _ rfl (w.heap.size + 1) 1 rfl (ccs c) _ RB.out Try.underlying31 rfl (by kernel_rfl) ?_))
  refine (sameCmd_any c c _).mono ?_
  rintro e w2 ⟨rfl, hb2⟩
  rw [sameC_id]
  have QA2 : Hid (Blk w2 w.heap.size (pcs k c seq a1 n1 c1)) := QA.out.on hb2
  have QB2 : Hid (Blk w2 (w.heap.size + 1) (pcs k c seq a2 n2 c2)) := QB.out.on hb2
  have g0 : w2.cell? ⟨w.heap.size, 0, none⟩ = some (.int .i64 k) := QA2.out.cell 0 _ rfl
  have g9 : w2.cell? ⟨w.heap.size, 9, none⟩ = some (.int .i64 seq) := QA2.out.cell 9 _ rfl
  have g10 : w2.cell? ⟨w.heap.size, 10, none⟩ = some (.slice a1 n1 c1) := QA2.out.cell 10 _ rfl
  have k0 : w2.cell? ⟨w.heap.size + 1, 0, none⟩ = some (.int .i64 k) := QB2.out.cell 0 _ rfl
  have k9 : w2.cell? ⟨w.heap.size + 1, 9, none⟩ = some (.int .i64 seq) := QB2.out.cell 9 _ rfl
  have k10 : w2.cell? ⟨w.heap.size + 1, 10, none⟩ = some (.slice a2 n2 c2) := QB2.out.cell 10 _ rfl
  have HS3 := hide (HS1.out.below hb2 (Nat.le_refl _))
  have HS4 := hide (HS2.out.below hb2 (Nat.le_refl _))
  have B2 : Hid (Below w.heap.size w w2) := BU.out.trans (hb2.mono BU.out.size)
  clear hb2 HS1 HS2 RA RB QA QB
  go_wp2_with fail
  refine (sameI_any _ _ _ _ _ _ l l _ HS3.out HS4.out).mono ?_
  rintro e w3 ⟨rfl, q, rfl⟩
  rw [show sameB l l = true by unfold sameB; simp]
  go_wp2
  go_ret
  exact ⟨rfl, below_drewN B2.out _⟩
end Go.Proofs.Ytmplipkdaplpnaa
