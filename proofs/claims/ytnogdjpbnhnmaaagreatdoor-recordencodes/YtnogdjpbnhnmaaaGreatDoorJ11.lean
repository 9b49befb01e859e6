/- Texts of the proof, joined. -/
import Derived.Test.YtnogdjpbnhnmaaaGreatDoorJ10
import Derived.Lib.OthersKept
/- The contracts of package record's hasExtra and Check. -/
namespace Go.Proofs.YtnogdjpbnhnmaaaGreatDoor
open Go.RowKit Go.Wire1

/-- The table's texts. -/
def rowS : List ByteArray := [⟨#[]⟩, ⟨#[119, 110]⟩, ⟨#[105, 98]⟩, ⟨#[105, 98, 115, 99, 113, 100]⟩, ⟨#[105, 98, 99, 113, 100]⟩, ⟨#[105, 99, 113, 100]⟩]
def allS : ByteArray := ⟨#[119, 110, 105, 98, 115, 99, 113, 100]⟩
/-- A text of letters, one byte each. -/
def Lts (s : ByteArray) (xs : List Nat) : Prop := s.size = xs.length ∧ ∀ p (h : p < s.size), (s[p]'h).toNat = xs.getD p 0 ∧ (s[p]'h).toNat < 128 ∧ Ltr (xs.getD p 0)
instance (x : Nat) : Decidable (Ltr x) := by unfold Ltr; infer_instance
theorem lts_of {s : ByteArray} {xs : List Nat} (h1 : s.size = xs.length) (h2 : ∀ p : Fin s.size, (s[p.val]'p.isLt).toNat = xs.getD p.val 0 ∧ (s[p.val]'p.isLt).toNat < 128 ∧ Ltr (xs.getD p.val 0)) : Lts s xs := ⟨h1, fun p h => h2 ⟨p, h⟩⟩
theorem lts_all : Lts allS allR := lts_of rfl (by decide)
theorem lts_row {k : Nat} (hk : k < 6) : Lts (rowS.getD k ⟨#[]⟩) (rowL.getD k []) := by
  rcases (by omega : k = 0 ∨ k = 1 ∨ k = 2 ∨ k = 3 ∨ k = 4 ∨ k = 5) with rfl | rfl | rfl | rfl | rfl | rfl
  · exact lts_of (s := ⟨#[]⟩) (xs := []) rfl (by decide)
  · exact lts_of (s := ⟨#[119, 110]⟩) (xs := [119, 110]) rfl (by decide)
  · exact lts_of (s := ⟨#[105, 98]⟩) (xs := [105, 98]) rfl (by decide)
  · exact lts_of (s := ⟨#[105, 98, 115, 99, 113, 100]⟩) (xs := [105, 98, 115, 99, 113, 100]) rfl (by decide)
  · exact lts_of (s := ⟨#[105, 98, 99, 113, 100]⟩) (xs := [105, 98, 99, 113, 100]) rfl (by decide)
  · exact lts_of (s := ⟨#[105, 99, 113, 100]⟩) (xs := [105, 99, 113, 100]) rfl (by decide)
theorem lts_next {P : Program} {w : World} {it p : Nat} {s : ByteArray} {xs : List Nat} (hs : Lts s xs) (hk : w.heap[it]? = some (.stringIter s p)) (hp : p < xs.length) (ty : TypeId) :
    (Instr.next (.pointer (some ⟨it, 0, none⟩)) true ty).run P w = .ok (.tuple #[.bool true, .int .i64 (p : Int), .int .i32 (xs.getD p 0 : Nat)]) (w.iterAt it s (p + 1)) := by
  have h : p < s.size := by rw [hs.1]; exact hp
  rw [Lib.run_next_ascii_at w it s p ty hk h (hs.2 p h).2.1, (hs.2 p h).1]
theorem lts_end {P : Program} {w : World} {it p : Nat} {s : ByteArray} {xs : List Nat} (hs : Lts s xs) (hk : w.heap[it]? = some (.stringIter s p)) (hp : ¬ p < xs.length) (ty : TypeId) :
    (Instr.next (.pointer (some ⟨it, 0, none⟩)) true ty).run P w = .ok (.tuple #[.bool false]) w :=
  Lib.run_next_end_at w it s p ty hk (by rw [hs.1]; exact hp)
theorem Lts.ltr {s : ByteArray} {xs : List Nat} (hs : Lts s xs) {p : Nat} (hp : p < xs.length) : Ltr (xs.getD p 0) := (hs.2 p (by rw [hs.1]; exact hp)).2.2
theorem Ltr.lt {x : Nat} (h : Ltr x) : x < 128 := by unfold Ltr at h; omega
theorem has_row {k x : Nat} (hk : k < 6) (hx : Ltr x) : decide (0 ≤ Lib.indexByte (rowS.getD k ⟨#[]⟩).data.toList x.toUInt8) = (rowL.getD k []).contains x := by
  have h : ∀ k : Fin 6, ∀ x : Fin 8, decide (0 ≤ Lib.indexByte (rowS.getD k.val ⟨#[]⟩).data.toList (allR.getD x.val 0).toUInt8) = (rowL.getD k.val []).contains (allR.getD x.val 0) := by decide
  rcases hx with rfl | rfl | rfl | rfl | rfl | rfl | rfl | rfl
  · exact h ⟨k, hk⟩ 0
  · exact h ⟨k, hk⟩ 1
  · exact h ⟨k, hk⟩ 2
  · exact h ⟨k, hk⟩ 3
  · exact h ⟨k, hk⟩ 4
  · exact h ⟨k, hk⟩ 5
  · exact h ⟨k, hk⟩ 6
  · exact h ⟨k, hk⟩ 7

/-- The table of rows lies in memory. -/
def Rws (w : World) : Prop := ∀ k, k < 6 → w.cell? ⟨0, k, none⟩ = some (.string (rowS.getD k ⟨#[]⟩))
theorem Rws.lt {w : World} (h : Rws w) : 0 < w.heap.size := cell_lt (h 0 (by omega))
theorem Rws.below {w w' : World} {B : Nat} (h : Rws w) (hb : Below B w w') (hB : w.heap.size ≤ B) : Rws w' := by
  have hl := h.lt
  intro i hi
  rw [hb.cell (p := ⟨0, i, none⟩) (Nat.lt_of_lt_of_le hl hB)]; exact h i hi
theorem Blk.iterAt {w : World} {q it p : Nat} {s : ByteArray} {cs : List Value} (h : Blk w q cs) (hq : q ≠ it) : Blk (w.iterAt it s p) q cs := h.of_block (Lib.iterAt_other _ _ _ _ _ hq)

def exF (r : Rc) (x : Nat) : Bool := !((rowR r.kind).contains x) && !(zeroR r x)
theorem extraR_eq (r : Rc) : extraR r = allR.any (exF r) := rfl
theorem any_step {f : Nat → Bool} {xs : List Nat} {p : Nat} (h : p < xs.length) (h1 : (xs.take p).any f = false) (h2 : f (xs.getD p 0) = false) : (xs.take (p + 1)).any f = false := by
  rw [List.take_succ_eq_append_getElem h, List.any_append, h1]
  rw [List.getD, List.getElem?_eq_getElem h] at h2
  simpa using h2
theorem any_hit {f : Nat → Bool} {xs : List Nat} {p : Nat} (h : p < xs.length) (h2 : f (xs.getD p 0) = true) : xs.any f = true := by
  rw [List.any_eq_true]
  rw [List.getD, List.getElem?_eq_getElem h] at h2
  exact ⟨_, List.getElem_mem h, h2⟩

/-- In the midst of a loop over letters: the record's box, the iterator at its place; nothing that came in has turned. -/
structure Lp (w wr : World) (b it : Nat) (s : ByteArray) (p : Nat) (r : Rc) : Prop where
  box : Blk wr b (rcs r)
  iter : wr.heap[it]? = some (.stringIter s p)
  low : Below w.heap.size w wr
theorem Lp.lt {w wr : World} {b it : Nat} {s : ByteArray} {p : Nat} {r : Rc} (h : Lp w wr b it s p r) : it < wr.heap.size := (Array.getElem?_eq_some_iff.1 h.iter).1
theorem Lp.on {w wr w' : World} {b it : Nat} {s : ByteArray} {p : Nat} {r : Rc} (h : Lp w wr b it s p r) (hb : Below wr.heap.size wr w') : Lp w w' b it s p r :=
  ⟨h.box.on hb, (hb.block it h.lt).trans h.iter, h.low.trans (hb.mono h.low.size)⟩
theorem Lp.next {w wr : World} {b it : Nat} {s : ByteArray} {p : Nat} {r : Rc} (h : Lp w wr b it s p r) (h1 : w.heap.size ≤ it) (h2 : b ≠ it) (p' : Nat) : Lp w (wr.iterAt it s p') b it s p' r :=
  ⟨h.box.iterAt h2, Lib.iterAt_heap _ _ _ _ _ h.iter, Lib.below_iterAt h.low h1 _ _⟩
theorem Lp.pos {w wr : World} {b it : Nat} {s : ByteArray} {p : Nat} {r : Rc} (h : Lp w wr b it s p r) : wr.iterPos it = p := by unfold World.iterPos; rw [h.iter]
theorem lp_start (w : World) (T : TypeId) (s : ByteArray) (r : Rc) : Lp w ((w.alloc (.cells (rcs r).toArray T)).iter s 0) w.heap.size (w.heap.size + 1) s 0 r := by
  have e : (w.alloc (.cells (rcs r).toArray T)).heap.size = w.heap.size + 1 := by simp
  refine ⟨(blk_new w T (rcs r)).on ((Below.refl _ _).alloc (Nat.le_refl _) _), ?_, ((Below.refl _ _).alloc (Nat.le_refl _) _).alloc (by simp) _⟩
  rw [← e]; exact World.iter_heap _ _ _
set_option maxHeartbeats 4000000 in
set_option maxRecDepth 100000 in
theorem rhasExtra_any (r : Rc) (w : World) (hk : isKindR r.kind = true) (hr : Rok w r) (hR : Rws w) :
    Calls Tryz.prog 43 #[.agg (rcs r).toArray] w fun e w' => e = .returned (.bool (extraR r)) ∧ Below w.heap.size w w' := by
  obtain ⟨k, hkk⟩ : ∃ k : Nat, r.kind = (k : Int) := by
    simp only [isKindR, Bool.and_eq_true, decide_eq_true_eq] at hk
    exact ⟨r.kind.toNat, by omega⟩
  have hk6 : k < 6 := by simp only [isKindR, Bool.and_eq_true, decide_eq_true_eq] at hk; omega
  have HRow : Hid (rowR r.kind = rowL.getD k []) := by show _ = _; unfold rowR; rw [hkk]; rfl
  have HS := hide lts_all
  have HR := hide hr
  have HW := hide hR
  have L0 := hide (lp_start w 31 allS r)
  have HKk : Hid (r.kind = (k : Int)) := hkk
  clear hk hr hR hkk
  go_enter Tryz.func43, Tryz.ntmps43
  go_wp2
  go_loopw [4] (fun _ wr => ∃ p : Nat, p ≤ 8 ∧ Hid (Lp w wr w.heap.size (w.heap.size + 1) allS p r) ∧ Hid ((allR.take p).any (exF r) = false)) (fun _ wr => 8 - wr.iterPos (w.heap.size + 1))
  case atStart => exact ⟨0, by omega, L0, rfl⟩
  case round =>
    obtain ⟨p, hp, HL, HA⟩ := hrel
    by_cases hlt : p < 8
    · have hnx := fun ty => lts_next (P := Tryz.prog) HS.out HL.out.iter hlt ty
      have HL1 : Hid (Lp w (wr.iterAt (w.heap.size + 1) allS (p + 1)) w.heap.size (w.heap.size + 1) allS (p + 1) r) := HL.out.next (by omega) (by omega) (p + 1)
      have hx : Hid (Ltr (allR.getD p 0)) := HS.out.ltr hlt
      have hpos := hide HL.out.pos
      obtain ⟨x, hxx⟩ : ∃ x, Hid (allR.getD p 0 = x) := ⟨_, rfl⟩
      rw [hxx.out] at hnx hx
      generalize wr.iterAt (w.heap.size + 1) allS (p + 1) = w1 at *
      have q0 : w1.cell? ⟨w.heap.size, 0, none⟩ = some (.int .i64 (k : Int)) := by rw [← HKk.out]; exact HL1.out.box.cell 0 _ (rcs0 r)
      have qr : w1.cell? ⟨0, k, none⟩ = some (.string (rowS.getD k ⟨#[]⟩)) := HW.out.below HL1.out.low (Nat.le_refl _) k hk6
      have hc := hide (has_row hk6 hx.out)
      obtain ⟨S, hS⟩ : ∃ S, Hid (rowS.getD k ⟨#[]⟩ = S) := ⟨_, rfl⟩
      rw [hS.out] at qr hc
      cases h0 : (rowL.getD k []).contains x with
      | true =>
        have HN : Hid ((allR.take (p + 1)).any (exF r) = false) := any_step hlt HA.out (by rw [hxx.out]; unfold exF; rw [HRow.out, h0]; rfl)
        rw [h0] at hc
        clear h0
        go_wp2_with (first | (go_at_call 86; refine (containsRune_any S x _ hx.out.lt).mono ?_; rintro e w' ⟨rfl, rfl⟩; rw [hc.out]))
        go_roundw
        case rel => exact ⟨p + 1, by omega, HL1, HN⟩
        case measure => have h1 := hpos.out; have h2 := HL1.out.pos; rw [h1, h2]; omega
      | false =>
        rw [h0] at hc
        cases hz : zeroR r x with
        | true =>
          have HN : Hid ((allR.take (p + 1)).any (exF r) = false) := any_step hlt HA.out (by rw [hxx.out]; unfold exF; rw [HRow.out, h0, hz]; rfl)
          have HZ := hide hz
          clear h0 hz
          go_wp2_with fail
          refine (containsRune_any S x _ hx.out.lt).mono ?_
          rintro e w' ⟨rfl, rfl⟩
          rw [hc.out]
          go_wp2_with (first | (refine wpList_load_want (by rfl) 31 _ rfl w.heap.size 0 rfl (rcs r) _ (HL1.out.box.range) Tryz.underlying31 rfl (by kernel_rfl) ?_))
          refine (risZero_any r x _ hx.out HR.out.seg.1).mono ?_
          rintro e w2 ⟨rfl, hb2⟩
          rw [HZ.out]
          have HL2 : Hid (Lp w w2 w.heap.size (w.heap.size + 1) allS (p + 1) r) := HL1.out.on hb2
          clear hb2
          go_wp2
          go_roundw
          case rel => exact ⟨p + 1, by omega, HL2, HN⟩
          case measure => have h1 := hpos.out; have h2 := HL2.out.pos; rw [h1, h2]; omega
        | false =>
          have HN : Hid (extraR r = true) := by show _ = _; rw [extraR_eq]; exact any_hit (p := p) hlt (by rw [hxx.out]; unfold exF; rw [HRow.out, h0, hz]; rfl)
          have HZ := hide hz
          clear h0 hz
          go_wp2_with fail
          refine (containsRune_any S x _ hx.out.lt).mono ?_
          rintro e w' ⟨rfl, rfl⟩
          rw [hc.out]
          go_wp2_with (first | (refine wpList_load_want (by rfl) 31 _ rfl w.heap.size 0 rfl (rcs r) _ (HL1.out.box.range) Tryz.underlying31 rfl (by kernel_rfl) ?_))
          refine (risZero_any r x _ hx.out HR.out.seg.1).mono ?_
          rintro e w2 ⟨rfl, hb2⟩
          rw [HZ.out]
          have HL2 : Hid (Lp w w2 w.heap.size (w.heap.size + 1) allS (p + 1) r) := HL1.out.on hb2
          clear hb2
          go_wp2
          go_ret
          exact ⟨by rw [HN.out]; rfl, HL2.out.low⟩
    · have hnx := fun ty => lts_end (P := Tryz.prog) HS.out HL.out.iter hlt ty
      have HN : Hid (extraR r = false) := by
        show _ = _
        obtain rfl : p = 8 := by omega
        rw [extraR_eq]; exact HA.out
      go_wp2
      go_ret
      exact ⟨by rw [HN.out]; rfl, HL.out.low⟩
end Go.Proofs.YtnogdjpbnhnmaaaGreatDoor
