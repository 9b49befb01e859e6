/- The contracts of the statements' own plain and num; one record stored into a box. -/
import Derived.Test.YtjpggmenbnkbbaaGreatDoorRCheck
import Derived.Deep.Cut
namespace Go.Proofs.YtjpggmenbnkbbaaGreatDoor
open Go.RowKit Go.Wire1

def zeroL : List Value := [.int .i64 0, .int .i64 0, .int .i64 0, .int .i64 0, .int .i64 0, .bool false, .int .i64 0, .int .i64 0, .int .i64 0, .string ⟨#[]⟩, .string ⟨#[]⟩, .string ⟨#[]⟩, .string ⟨#[]⟩, .int .i64 0, .int .i64 0, .slice none 0 0, .int .i64 0, .int .i64 0]
/-- A Committed Get among three; its Deps lie in block b. -/
def plainR (b : Nat) : Rc := ⟨5, 0, 1, 0, 0, false, ⟨1, 0, 0, ⟨#[107]⟩, ⟨#[]⟩, ⟨#[]⟩, ⟨#[]⟩, 0⟩, 3, some ⟨b, 0, none⟩, 3, 3, [0, 5, 5], 0, 0⟩
theorem plain_chk (b : Nat) : chkR 3 (plainR b) = 0 := by kernel_rfl
theorem plain_extra (b : Nat) : chkR 3 { plainR b with id := 1 } = 67 := by kernel_rfl
theorem plain_ok {w : World} {b : Nat} (h : SegI w (some ⟨b, 0, none⟩) 3 [0, 5, 5]) : Rok w (plainR b) := ⟨h, by show (1 : Nat) ≤ _; omega, by show (0 : Nat) ≤ _; omega⟩
theorem plain_ok1 {w : World} {b : Nat} (h : SegI w (some ⟨b, 0, none⟩) 3 [0, 5, 5]) : Rok w { plainR b with id := 1 } := ⟨h, by show (1 : Nat) ≤ _; omega, by show (0 : Nat) ≤ _; omega⟩
set_option maxHeartbeats 1000000 in
set_option maxRecDepth 100000 in
theorem num6_any (e : Int) (w : World) :
    Calls Tryz.prog 11 #[.int .i64 e] w fun e' w' => e' = .returned (.int .i64 e) ∧ w = w' := by
  go_enter Tryz.func11, Tryz.ntmps11
  go_wp2
  go_ret
  exact ⟨rfl, rfl⟩
/-- A box of a record, laid with zeros and then stored. -/
theorem box_stored {w U W : World} {q : Nat} {cs vs : List Value} (h : Blk U q cs) (hl : vs.length = cs.length) (hb : Below w.heap.size w U) (hq : w.heap.size ≤ q) (e : W = U.setCells q 0 vs) : Blk W q vs ∧ Below w.heap.size w W := by
  subst e
  exact ⟨blk_cells h hl, below_cells hq _ _ _ hb⟩

set_option maxHeartbeats 4000000 in
set_option maxRecDepth 100000 in
theorem plain6_any (w : World) :
    Calls Tryz.prog 27 #[] w fun e w' => e = .returned (.agg (rcs (plainR (w.heap.size + 1))).toArray) ∧ SegI w' (some ⟨w.heap.size + 1, 0, none⟩) 3 [0, 5, 5] ∧ Below w.heap.size w w' := by
  obtain ⟨U, hU⟩ : ∃ U, U = w.alloc (.cells zeroL.toArray 30) := ⟨_, rfl⟩
  obtain ⟨W, hW⟩ : ∃ W, W = U.alloc (.cells #[.int .i64 0, .int .i64 5, .int .i64 5] 3) := ⟨_, rfl⟩
  have hs : U.heap.size = w.heap.size + 1 := by rw [hU]; simp
  have BW : Hid (Below w.heap.size w W) := by rw [hW, hU]; exact ((Below.refl _ w).alloc (Nat.le_refl _) _).alloc (by simp) _
  have QM : Hid (Blk W w.heap.size zeroL) := by rw [hW, hU]; exact (blk_new w 30 zeroL).on ((Below.refl _ _).alloc (Nat.le_refl _) _)
  have SG : Hid (SegI W (some ⟨w.heap.size + 1, 0, none⟩) 3 [0, 5, 5]) := by
    rw [hW]
    exact segI_lit [0, 5, 5] (fit_of (by intro x hx; simp only [List.mem_cons, List.not_mem_nil, or_false] at hx; omega)) (by unfold maxLen; decide) rfl hs.symm rfl
  have TH : Hid (W.there w.heap.size 0 18) := QM.out.there
  obtain ⟨X, hX⟩ : ∃ X, X = W.setCells w.heap.size 0 (rcs (plainR (w.heap.size + 1))) := ⟨_, rfl⟩
  have R := hide (box_stored QM.out (by rfl) BW.out (Nat.le_refl _) hX)
  have SX : Hid (SegI X (some ⟨w.heap.size + 1, 0, none⟩) 3 [0, 5, 5]) := by
    have h := SG.out
    refine ⟨h.1, h.2.1, fun hn => ?_, h.2.2.2⟩
    obtain ⟨b, off, e, hc⟩ := h.2.2.1 hn
    refine ⟨b, off, e, fun j hj => ?_⟩
    injection e with e
    injection e with e1 e2 e3
    rw [hX, World.cell?_setCells_out _ _ _ _ _ (fun hb _ => by exfalso; simp only at hb; omega)]
    exact hc j hj
  go_enter Tryz.func27, Tryz.ntmps27
  go_upto_region 1 with fail
  have eU : w.alloc (.cells #[.int .i64 0, .int .i64 0, .int .i64 0, .int .i64 0, .int .i64 0, .bool false, .int .i64 0, .int .i64 0, .int .i64 0, .string ⟨#[]⟩, .string ⟨#[]⟩, .string ⟨#[]⟩, .string ⟨#[]⟩, .int .i64 0, .int .i64 0, .slice none 0 0, .int .i64 0, .int .i64 0] 30) = U := hU.symm
  rw [eU]
  have HW := hide hW
  have HX := hide hX
  clear hU eU hW hX
  go_wp2_with (first | (refine wpList_store_mid rfl 30 _ _ rfl w.heap.size 0 (rcs (plainR (w.heap.size + 1))).toArray rfl rfl (by rw [← HW.out]; exact TH.out) (by kernel_rfl) (by kernel_rfl) ?_))
  rw [← HW.out, ← HX.out]
  refine bodyPost_ret (results_cell_mid Tryz.results27 _ _ w.heap.size (rcs (plainR (w.heap.size + 1))) _ rfl R.out.1.range Tryz.underlying30 rfl (by kernel_rfl)) rfl ⟨rfl, SX.out, R.out.2⟩
end Go.Proofs.YtjpggmenbnkbbaaGreatDoor
