/- The contracts of the document's own four and of the tables that its Mend reckons with. -/
import Derived.Test.YtibdgnegdnapoacDoorCUpdS
import Derived.Test.YtibdgnegdnapoacDoorCMath3
import Derived.Test.YtibdgnegdnapoacDoorMend
import Derived.Test.YtibdgnegdnapoacDoorMine
namespace Go.Proofs.YtibdgnegdnapoacDoor
open Go.RowKit Go.Wire1 Go.Crc2

theorem and255 (n : Nat) (h : n < 4294967296) : bits .and .u32 (n : Int) 255 = ((n % 256 : Nat) : Int) := by
  have := u32_and_nat n 255 h (by decide)
  rw [show (255 : Nat) = 2 ^ 8 - 1 by decide, Nat.and_two_pow_sub_one_eq_mod] at this
  exact this
theorem four_vals (m : R) : bits .and .u32 (m.toNat : Int) 255 = bt m 0 ∧ bits .and .u32 ((m.toNat : Int) / 256) 255 = bt m 1 ∧ bits .and .u32 ((m.toNat : Int) / 65536) 255 = bt m 2 ∧ bits .and .u32 ((m.toNat : Int) / 16777216) 255 = bt m 3 := by
  have h := m.isLt
  refine ⟨?_, ?_, ?_, ?_⟩
  · rw [and255 _ h]; unfold bt; simp
  · rw [show (m.toNat : Int) / 256 = ((m.toNat / 256 : Nat) : Int) by omega, and255 _ (by omega)]; unfold bt; simp
  · rw [show (m.toNat : Int) / 65536 = ((m.toNat / 65536 : Nat) : Int) by omega, and255 _ (by omega)]; unfold bt; simp
  · rw [show (m.toNat : Int) / 16777216 = ((m.toNat / 16777216 : Nat) : Int) by omega, and255 _ (by omega)]; unfold bt; simp

abbrev fourCells (m : R) : Array Value := #[.int .u8 (bt m 0), .int .u8 (bt m 1), .int .u8 (bt m 2), .int .u8 (bt m 3)]
theorem four_cells (m : R) : fourCells m = ((fb m).map (Value.int .u8)).toArray := rfl

set_option maxHeartbeats 400000 in
set_option maxRecDepth 100000 in
theorem rfour_any (m : R) (w : World) :
    Calls Tryd.prog 23 #[nr m] w fun e w' => e = .returned (.slice (some ⟨w.heap.size, 0, none⟩) 4 4) ∧ w' = w.alloc (.cells (fourCells m) 5) := by
  obtain ⟨q0, q1, q2, q3⟩ := four_vals m
  have c0 := bt_byt m 0
  have c1 := bt_byt m 1
  have c2 := bt_byt m 2
  have c3 := bt_byt m 3
  have b := r_lt m
  simp only [nr, fourCells]
  generalize bt m 0 = z0 at *
  generalize bt m 1 = z1 at *
  generalize bt m 2 = z2 at *
  generalize bt m 3 = z3 at *
  generalize m.toNat = k at *
  go_enter Tryd.func23, Tryd.ntmps23
  go_wp2
  go_ret
  exact ⟨rfl, rfl⟩

/-- A table of 32 registers in a block of its own. -/
def Arr (w : World) (g : Nat) (f : Nat → R) : Prop := (∀ j, j < 32 → w.cell? ⟨g, j, none⟩ = some (nr (f j))) ∧ ∀ j, w.frozen? ⟨g, j, none⟩ = false
theorem Arr.lt {w : World} {g : Nat} {f : Nat → R} (h : Arr w g f) : g < w.heap.size := cell_lt (h.1 0 (by decide))
theorem Arr.later {w w' : World} {g : Nat} {f : Nat → R} (h : Arr w g f) (hb : Below w.heap.size w w') : Arr w' g f :=
  ⟨fun j hj => by rw [hb.cell (p := ⟨g, j, none⟩) h.lt]; exact h.1 j hj, fun j => by rw [hb.frozen (p := ⟨g, j, none⟩) h.lt]; exact h.2 j⟩
theorem Arr.alloc {w : World} {g : Nat} {f : Nat → R} (h : Arr w g f) (o : Obj) : Arr (w.alloc o) g f := h.later ((Below.refl _ _).alloc (Nat.le_refl _) _)
theorem Arr.drewN {w : World} {g : Nat} {f : Nat → R} (h : Arr w g f) (q : Nat) : Arr (w.drewN q) g f := h
theorem Arr.set {w : World} {g : Nat} {f f' : Nat → R} (h : Arr w g f) (i : Nat) (v : R) (hi : i < 32) (hf : ∀ j, j < 32 → f' j = if j = i then v else f j) : Arr (w.setCell ⟨g, i, none⟩ (nr v)) g f' := by
  refine ⟨fun j hj => ?_, fun j => by rw [World.frozen?_setCell]; exact h.2 j⟩
  rw [hf j hj]
  by_cases e : j = i
  · subst e; rw [if_pos rfl]; exact World.cell?_setCell_same _ _ _ (h.1 j hj)
  · rw [if_neg e, World.cell?_setCell_other _ _ _ _ (by intro e'; injection e' with _ e2; exact e e2.symm)]; exact h.1 j hj
theorem Arr.other {w : World} {g g' : Nat} {f : Nat → R} (h : Arr w g f) (i : Nat) (v : Value) (hg : g' ≠ g) : Arr (w.setCell ⟨g', i, none⟩ v) g f :=
  ⟨fun j hj => by rw [World.cell?_setCell_other _ _ _ _ (by intro e'; injection e' with e2; exact hg e2)]; exact h.1 j hj, fun j => by rw [World.frozen?_setCell]; exact h.2 j⟩
theorem Arr.congr {w : World} {g : Nat} {f f' : Nat → R} (h : Arr w g f) (hf : ∀ j, j < 32 → f' j = f j) : Arr w g f' := ⟨fun j hj => by rw [hf j hj]; exact h.1 j hj, h.2⟩

theorem seg_four (w : World) (m : R) : Seg (w.alloc (.cells (fourCells m) 5)) (some ⟨w.heap.size, 0, none⟩) 4 (fb m) := seg_cells w (fb m) _ _ (four_cells m) (by unfold maxLen; simp [fb])
theorem mine_four (w : World) (B : Nat) (m : R) (hB : B ≤ w.heap.size) : Mine (w.alloc (.cells (fourCells m) 5)) B w.heap.size 4 4 (fb m) :=
  ⟨⟨rfl, .inr ⟨w.heap.size, 4, fourCells m, rfl, hB, heap_alloc_new w _, Nat.le_refl _, by unfold maxLen; omega, rfl, rfl⟩⟩, rfl, Nat.le_refl _, by unfold maxLen; omega, hB⟩
theorem x_unit (i : Nat) (h : i < 32) : (2 : Int) ^ i % 4294967296 = ((unit i).toNat : Int) := by
  have h1 : (unit i).toNat = 2 ^ i := by
    unfold unit
    rw [BitVec.toNat_twoPow, Nat.mod_eq_of_lt]
    exact Nat.pow_lt_pow_right (by decide) h
  have h2 : 2 ^ i < 4294967296 := Nat.pow_lt_pow_right (a := 2) (n := 32) (by decide) h
  rw [h1]
  have : ((2 : Int) ^ i) = ((2 ^ i : Nat) : Int) := by simp
  rw [this]; omega

abbrev zeros : Array Value := #[.int .u32 0, .int .u32 0, .int .u32 0, .int .u32 0, .int .u32 0, .int .u32 0, .int .u32 0, .int .u32 0, .int .u32 0, .int .u32 0, .int .u32 0, .int .u32 0, .int .u32 0, .int .u32 0, .int .u32 0, .int .u32 0, .int .u32 0, .int .u32 0, .int .u32 0, .int .u32 0, .int .u32 0, .int .u32 0, .int .u32 0, .int .u32 0, .int .u32 0, .int .u32 0, .int .u32 0, .int .u32 0, .int .u32 0, .int .u32 0, .int .u32 0, .int .u32 0]
theorem zeros_at : ∀ j : Fin 32, zeros[j.val]? = some (nr 0#32) := by
  have h : zeros = Array.replicate 32 (Value.int .u32 0) := rfl
  intro j
  rw [h, Array.getElem?_replicate, if_pos j.isLt]
  rfl
theorem top_two : ∀ k : Fin 32, one >>> k.val = BitVec.twoPow 32 (31 - k.val) ∧ 0 < (one >>> k.val).toNat := by decide +kernel
theorem x_hit (d : R) (k : Nat) (hk : k < 32) : bits .and .u32 (d.toNat : Int) ((one >>> k).toNat : Int) = if hit k d then ((one >>> k).toNat : Int) else 0 := by
  have e := (top_two ⟨k, hk⟩).1
  simp only at e
  rw [u32_and_nat _ _ d.isLt (one >>> k).isLt, ← BitVec.toNat_and, e, BitVec.and_twoPow]
  unfold hit
  cases d.getLsbD (31 - k) <;> rfl
theorem top_val (k : Nat) : (2147483648 : Int) / 2 ^ k = ((one >>> k).toNat : Int) := by
  rw [BitVec.toNat_ushiftRight, Nat.shiftRight_eq_div_pow]
  have : one.toNat = 2147483648 := by decide
  rw [this]
  simp
/-- Two cells exchanged, one of them at the other's place. -/
theorem swap_eq (f : Nat → R) (k p : Nat) (f' : Nat → R) (h : ∀ i, f' i = if i = k then f p else if i = p then f k else f i) (j : Nat) : f' j = if j = k then f p else if j = p then f k else f j := h j
theorem arr_new (w : World) : Arr (w.alloc (.cells zeros 46)) w.heap.size (fun _ => 0#32) :=
  ⟨fun j hj => by rw [World.cell?_alloc_new]; exact zeros_at ⟨j, hj⟩, fun j => World.frozen?_alloc_new ..⟩

set_option maxHeartbeats 1000000 in
set_option maxRecDepth 100000 in
theorem rmend_any (c want : R) (w : World) :
    Calls Tryd.prog 10 #[nr c, nr want] w fun e w' => ∃ g, e = .returned (.slice (some ⟨g, 0, none⟩) 4 4) ∧ Mine w' w.heap.size g 4 4 (fb (mend c want)) ∧ Below w.heap.size w w' := by
  obtain ⟨base, hbase⟩ : ∃ b, Hid (upd c (fb 0#32) = b) := ⟨_, hide rfl⟩
  have HG : Hid (got (want ^^^ base) 32 = mend c want) := by show _ = _; rw [← hbase.out]; exact got_mend c want
  obtain ⟨fin, hfin⟩ : ∃ f, Hid (mend c want = f) := ⟨_, hide rfl⟩
  rw [hfin.out] at HG ⊢
  clear hfin
  go_enter Tryd.func10, Tryd.ntmps10
  go_wp2_with fail
  refine (rfour_any 0#32 _).mono ?_
  rintro e w1 ⟨rfl, rfl⟩
  go_wp2_with fail
  refine (rupdate_any c _ 4 4 (fb 0#32) _ (seg_four _ _) (fb_byt _)).mono ?_
  rintro e w1 ⟨rfl, rfl⟩
  rw [hbase.out]
  go_wp2_with fail
  have hz1 := arr_new (w.alloc (Obj.cells (fourCells 0#32) 5))
  have hz2 := arr_new ((w.alloc (Obj.cells (fourCells 0#32) 5)).alloc (Obj.cells zeros 46))
  have HA1 : Hid (Arr (((w.alloc (Obj.cells (fourCells 0#32) 5)).alloc (Obj.cells zeros 46)).alloc (Obj.cells zeros 46)) (w.heap.size + 1) (fun _ => 0#32)) := by
    have := hz1.alloc (Obj.cells zeros 46); rw [World.size_alloc] at this; exact this
  have HA2 : Hid (Arr (((w.alloc (Obj.cells (fourCells 0#32) 5)).alloc (Obj.cells zeros 46)).alloc (Obj.cells zeros 46)) (w.heap.size + 2) (fun _ => 0#32)) := by
    rw [World.size_alloc, World.size_alloc] at hz2; exact hz2
  have HBW : Hid (Below w.heap.size w (((w.alloc (Obj.cells (fourCells 0#32) 5)).alloc (Obj.cells zeros 46)).alloc (Obj.cells zeros 46))) :=
    (((Below.refl _ _).alloc (Nat.le_refl _) _).alloc (by rw [World.size_alloc]; omega) _).alloc (by rw [World.size_alloc, World.size_alloc]; omega) _
  clear hz1 hz2
  generalize ((w.alloc (Obj.cells (fourCells 0#32) 5)).alloc (Obj.cells zeros 46)).alloc (Obj.cells zeros 46) = w0 at *
  obtain ⟨g1, hg1⟩ : ∃ g, Hid (g = w.heap.size + 1) := ⟨_, hide rfl⟩
  obtain ⟨g2, hg2⟩ : ∃ g, Hid (g = w.heap.size + 1 + 1) := ⟨_, hide rfl⟩
  have hne : g1 ≠ g2 := by have := hg1.out; have := hg2.out; omega
  have hB1 : w.heap.size ≤ g1 := by have := hg1.out; omega
  have hB2 : w.heap.size ≤ g2 := by have := hg2.out; omega
  rw [← hg2.out, ← hg1.out]
  rw [← hg1.out] at HA1
  rw [show w.heap.size + 2 = w.heap.size + 1 + 1 from rfl, ← hg2.out] at HA2
  have HNE := hide hne
  have HX0 : Hid (lft (want ^^^ base) 0 = want ^^^ base) := rfl
  have exb := x_xor want base
  generalize want ^^^ base = X at *
  clear hne hg1 hg2
  go_loopw [8] (fun x wr => ∃ i : Nat, x = .int .i64 (i : Int) ∧ i ≤ 32 ∧ Hid (Below w.heap.size w wr) ∧ Hid (Arr wr g1 (fun j => if j < i then gD 0 j else 0#32)) ∧ Hid (Arr wr g2 (fun j => if j < i then gB 0 j else 0#32))) (fun x _ => 32 - (intOf x).toNat)
  case atStart => exact ⟨0, rfl, by omega, HBW, HA1.out.congr (fun j hj => by simp), HA2.out.congr (fun j hj => by simp)⟩
  case round =>
    obtain ⟨i, rfl, hi, HB, HD, HE⟩ := hrel
    by_cases hlt : i < 32
    · have c1 := HD.out.1 i hlt
      have c2 := HE.out.1 i hlt
      have f1 := HD.out.2 i
      have f2 := HE.out.2 i
      have eu := x_unit i hlt
      have hg := g_zero ⟨i, hlt⟩
      simp only at hg
      have ex := x_xor (upd c (fb (unit i))) base
      have hd : upd c (fb (unit i)) ^^^ base = gD 0 i := by rw [← hbase.out, does_eq, hg.1]
      rw [hd] at ex
      have HU := hide hg.2
      clear hg hd
      simp only [Nat.lt_irrefl, if_false] at c1 c2
      have HE1 : Hid (Arr (wr.setCell ⟨g2, i, none⟩ (nr (unit i))) g2 (fun j => if j < i + 1 then gB 0 j else 0#32)) := HE.out.set i _ hlt (fun j hj => by
        rw [← HU.out]
        by_cases e : j = i
        · subst e; simp
        · rw [if_neg e]; by_cases h : j < i
          · rw [if_pos h, if_pos (by omega)]
          · rw [if_neg h, if_neg (by omega)])
      have HD1 : Hid (Arr (wr.setCell ⟨g2, i, none⟩ (nr (unit i))) g1 (fun j => if j < i then gD 0 j else 0#32)) := HD.out.other i _ HNE.out.symm
      have HB1 : Hid (Below w.heap.size w (wr.setCell ⟨g2, i, none⟩ (nr (unit i)))) := HB.out.setCell (p := ⟨g2, i, none⟩) hB2 _
      go_wp2_with fail
      refine (rfour_any (unit i) _).mono ?_
      rintro e w1 ⟨rfl, rfl⟩
      go_wp2_with fail
      have HSG : Hid (Seg ((wr.setCell ⟨g2, i, none⟩ (nr (unit i))).alloc (.cells (fourCells (unit i)) 5)) (some ⟨wr.heap.size, 0, none⟩) 4 (fb (unit i))) := by
        have := seg_four (wr.setCell ⟨g2, i, none⟩ (nr (unit i))) (unit i)
        rw [World.size_setCell] at this
        exact this
      refine (rupdate_any c _ 4 4 (fb (unit i)) _ HSG.out (fb_byt _)).mono ?_
      rintro e w1 ⟨rfl, rfl⟩
      generalize hW : (wr.setCell ⟨g2, i, none⟩ (nr (unit i))) = wa at *
      have HE2 : Hid (Arr (wa.alloc (.cells (fourCells (unit i)) 5)) g2 (fun j => if j < i + 1 then gB 0 j else 0#32)) := HE1.out.alloc _
      have HD2 : Hid (Arr (wa.alloc (.cells (fourCells (unit i)) 5)) g1 (fun j => if j < i then gD 0 j else 0#32)) := HD1.out.alloc _
      have HB2 : Hid (Below w.heap.size w (wa.alloc (.cells (fourCells (unit i)) 5))) := HB1.out.alloc (HB1.out.size) _
      clear HSG hW HE1 HD1 HB1 HB HD HE c1 c2 f1 f2 HU
      generalize wa.alloc (.cells (fourCells (unit i)) 5) = wb at *
      have c1 := HD2.out.1 i hlt
      have f1 := HD2.out.2 i
      simp only [Nat.lt_irrefl, if_false] at c1
      have HD3 : Hid (Arr (wb.setCell ⟨g1, i, none⟩ (nr (gD 0 i))) g1 (fun j => if j < i + 1 then gD 0 j else 0#32)) := HD2.out.set i _ hlt (fun j hj => by
        by_cases e : j = i
        · subst e; simp
        · rw [if_neg e]; by_cases h : j < i
          · rw [if_pos h, if_pos (by omega)]
          · rw [if_neg h, if_neg (by omega)])
      have HE3 : Hid (Arr (wb.setCell ⟨g1, i, none⟩ (nr (gD 0 i))) g2 (fun j => if j < i + 1 then gB 0 j else 0#32)) := HE2.out.other i _ HNE.out
      have HB3 : Hid (Below w.heap.size w (wb.setCell ⟨g1, i, none⟩ (nr (gD 0 i)))) := HB2.out.setCell (p := ⟨g1, i, none⟩) hB1 _
      clear HD2 HE2 HB2
      generalize upd c (fb (unit i)) = u at *
      generalize gD 0 i = dd at *
      go_wp2
      go_roundw
      case rel => exact ⟨i + 1, by go_num, by omega, HB3, HD3, HE3⟩
      case measure => simp [intOf]; omega
    · have HD1 : Hid (Arr wr g1 (gD 0)) := HD.out.congr (fun j hj => by rw [if_pos (by omega)])
      have HE1 : Hid (Arr wr g2 (gB 0)) := HE.out.congr (fun j hj => by rw [if_pos (by omega)])
      clear HD HE HA1 HA2 HBW hbase
      go_wp2_with fail
      clear exb
      go_loopw [9, 10, 11] (fun l m x wr => ∃ k : Nat, x = .int .i64 (k : Int) ∧ k ≤ 32 ∧ l = nr (lft X k) ∧ m = nr (got X k) ∧ Hid (Below w.heap.size w wr) ∧ Hid (Arr wr g1 (gD k)) ∧ Hid (Arr wr g2 (gB k))) (fun _ _ x _ => 32 - (intOf x).toNat)
      case atStart => exact ⟨0, rfl, by omega, by rw [HX0.out], rfl, HB, HD1, HE1⟩
      case round =>
        clear HB HD1 HE1
        obtain ⟨k, rfl, hk, rfl, rfl, HB, HD, HE⟩ := hrel
        by_cases hlt : k < 32
        · have et := top_val k
          have HH := hide (fun d => x_hit d k hlt)
          have ht := (top_two ⟨k, hlt⟩).2
          simp only at ht
          have ht2 := (one >>> k).isLt
          generalize (one >>> k).toNat = tk at *
          have hp := g_piv ⟨k, hlt⟩
          simp only at hp
          have HL : Hid (∀ i, k ≤ i → i < gP k → hit k (gD k i) = false) := fun i h1 h2 => g_less ⟨k, hlt⟩ ⟨i, by omega⟩ h1 h2
          have HN : Hid (∀ i, i < 32 → (gD (k + 1) i = if (i ≠ k ∧ hit k (sD k i) = true) then sD k i ^^^ gD k (gP k) else sD k i) ∧ (gB (k + 1) i = if (i ≠ k ∧ hit k (sD k i) = true) then sB k i ^^^ gB k (gP k) else sB k i)) := fun i h => g_next ⟨k, hlt⟩ ⟨i, h⟩
          have HSD : Hid (∀ i, sD k i = if i = k then gD k (gP k) else if i = gP k then gD k k else gD k i) := fun i => rfl
          have HSB : Hid (∀ i, sB k i = if i = k then gB k (gP k) else if i = gP k then gB k k else gB k i) := fun i => rfl
          obtain ⟨hp1, hp2, hp3, hp4⟩ := hp
          have HP3 := hide hp3
          clear hp3 hp4
          generalize hP : gP k = P at *
          have HP := hide hP
          clear hP
          go_wp2_with fail
          go_loop [13] (fun x => ∃ j : Nat, x = .int .i64 (j : Int) ∧ k ≤ j ∧ j ≤ P) (fun x => 32 - (intOf x).toNat)
          case atStart => exact ⟨k, rfl, Nat.le_refl _, hp1⟩
          case round =>
            obtain ⟨j, rfl, hj1, hj2⟩ := hrel
            have hj3 : j < 32 := by omega
            have cj := HD.out.1 j hj3
            have ej := HH.out (gD k j)
            by_cases hj : j < P
            · have h0 := HL.out j hj1 hj
              rw [h0] at ej
              simp only [Bool.false_eq_true, if_false] at ej
              clear h0
              generalize gD k j = dj at *
              go_wp2
              go_round
              case rel => exact ⟨j + 1, by go_num, by omega, by omega⟩
              case measure => simp [intOf]; omega
            · obtain rfl : j = P := by omega
              rw [HP3.out] at ej
              simp only [if_true] at ej
              have HPj := HP
              have HD1 : Hid (Arr (wr.setCell ⟨g1, j, none⟩ (nr (gD k k))) g1 (fun i => if i = j then gD k k else gD k i)) := HD.out.set j _ hj3 (fun i hi => rfl)
              have HE1 : Hid (Arr (wr.setCell ⟨g1, j, none⟩ (nr (gD k k))) g2 (gB k)) := HE.out.other j _ HNE.out
              have HE2 : Hid (Arr ((wr.setCell ⟨g1, j, none⟩ (nr (gD k k))).setCell ⟨g2, j, none⟩ (nr (gB k k))) g2 (fun i => if i = j then gB k k else gB k i)) := HE1.out.set j _ hj3 (fun i hi => rfl)
              have HD2 : Hid (Arr ((wr.setCell ⟨g1, j, none⟩ (nr (gD k k))).setCell ⟨g2, j, none⟩ (nr (gB k k))) g1 (fun i => if i = j then gD k k else gD k i)) := HD1.out.other j _ HNE.out.symm
              have HD3 : Hid (Arr (((wr.setCell ⟨g1, j, none⟩ (nr (gD k k))).setCell ⟨g2, j, none⟩ (nr (gB k k))).setCell ⟨g1, k, none⟩ (nr (gD k j))) g1 (sD k)) := HD2.out.set k _ hlt (fun i hi => HSD.out i)
              have HE3 : Hid (Arr (((wr.setCell ⟨g1, j, none⟩ (nr (gD k k))).setCell ⟨g2, j, none⟩ (nr (gB k k))).setCell ⟨g1, k, none⟩ (nr (gD k j))) g2 (fun i => if i = j then gB k k else gB k i)) := HE2.out.other k _ HNE.out
              have HE4 : Hid (Arr ((((wr.setCell ⟨g1, j, none⟩ (nr (gD k k))).setCell ⟨g2, j, none⟩ (nr (gB k k))).setCell ⟨g1, k, none⟩ (nr (gD k j))).setCell ⟨g2, k, none⟩ (nr (gB k j))) g2 (sB k)) := HE3.out.set k _ hlt (fun i hi => HSB.out i)
              have HD4 : Hid (Arr ((((wr.setCell ⟨g1, j, none⟩ (nr (gD k k))).setCell ⟨g2, j, none⟩ (nr (gB k k))).setCell ⟨g1, k, none⟩ (nr (gD k j))).setCell ⟨g2, k, none⟩ (nr (gB k j))) g1 (sD k)) := HD3.out.other k _ HNE.out.symm
              have HB4 : Hid (Below w.heap.size w ((((wr.setCell ⟨g1, j, none⟩ (nr (gD k k))).setCell ⟨g2, j, none⟩ (nr (gB k k))).setCell ⟨g1, k, none⟩ (nr (gD k j))).setCell ⟨g2, k, none⟩ (nr (gB k j)))) :=
                (((HB.out.setCell (p := ⟨g1, j, none⟩) hB1 _).setCell (p := ⟨g2, j, none⟩) hB2 _).setCell (p := ⟨g1, k, none⟩) hB1 _).setCell (p := ⟨g2, k, none⟩) hB2 _
              have c0 := HD.out.1 k hlt
              have c1 := HE.out.1 j hj3
              have c2 := HE1.out.1 k hlt
              have c3 := HE1.out.1 j hj3
              have c4 := HD2.out.1 k hlt
              have c5 := HE3.out.1 k hlt
              have f0 := HD.out.2 j
              have f1 := HD.out.2 k
              have f2 := HE.out.2 j
              have f3 := HE.out.2 k
              clear HD1 HE1 HE2 HD2 HD3 HE3 HD HE HB
              generalize (if k = j then gD k k else gD k k) = q1 at *
              generalize (if k = j then gB k k else gB k k) = q2 at *
              go_wp2_with fail
              clear c0 c1 c2 c3 c4 c5 f0 f1 f2 f3 cj ej HL HSD HSB HP HP3
              generalize (((wr.setCell ⟨g1, j, none⟩ (nr (gD k k))).setCell ⟨g2, j, none⟩ (nr (gB k k))).setCell ⟨g1, k, none⟩ (nr (gD k j))).setCell ⟨g2, k, none⟩ (nr (gB k j)) = ws at *
              go_loopw [16] (fun x wt => ∃ i : Nat, x = .int .i64 (i : Int) ∧ i ≤ 32 ∧ Hid (Below w.heap.size w wt) ∧ Hid (Arr wt g1 (fun t => if t < i then gD (k + 1) t else sD k t)) ∧ Hid (Arr wt g2 (fun t => if t < i then gB (k + 1) t else sB k t))) (fun x _ => 32 - (intOf x).toNat)
              case atStart => exact ⟨0, rfl, by omega, HB4, HD4.out.congr (fun t ht => by simp), HE4.out.congr (fun t ht => by simp)⟩
              case round =>
                clear HB4 HD4 HE4
                obtain ⟨i, rfl, hi, HB, HD, HE⟩ := hrel
                by_cases hil : i < 32
                · have hn := HN.out i hil
                  have c1 := HD.out.1 i hil
                  have c2 := HE.out.1 i hil
                  have f1 := HD.out.2 i
                  have f2 := HE.out.2 i
                  have ei := HH.out (sD k i)
                  simp only [Nat.lt_irrefl, if_false] at c1 c2
                  by_cases hik : i = k
                  · have b1 : ((i : Int) != (k : Int)) = false := by simp [hik]
                    have HD1 : Hid (Arr wr g1 (fun t => if t < i + 1 then gD (k + 1) t else sD k t)) := HD.out.congr (fun t ht => by
                      by_cases e : t = i
                      · subst e; rw [if_pos (by omega), if_neg (by omega), hn.1, if_neg (by simp [hik])]
                      · by_cases h : t < i
                        · rw [if_pos h, if_pos (by omega)]
                        · rw [if_neg h, if_neg (by omega)])
                    have HE1 : Hid (Arr wr g2 (fun t => if t < i + 1 then gB (k + 1) t else sB k t)) := HE.out.congr (fun t ht => by
                      by_cases e : t = i
                      · subst e; rw [if_pos (by omega), if_neg (by omega), hn.2, if_neg (by simp [hik])]
                      · by_cases h : t < i
                        · rw [if_pos h, if_pos (by omega)]
                        · rw [if_neg h, if_neg (by omega)])
                    clear hn c1 c2 ei HD HE hik
                    go_wp2
                    go_roundw
                    case rel => exact ⟨i + 1, by go_num, by omega, HB, HD1, HE1⟩
                    case measure => simp [intOf]; omega
                  · have b1 : ((i : Int) != (k : Int)) = true := by rw [bne_iff_ne]; omega
                    cases hh : hit k (sD k i)
                    · rw [hh] at ei
                      simp only [Bool.false_eq_true, if_false] at ei
                      have HD1 : Hid (Arr wr g1 (fun t => if t < i + 1 then gD (k + 1) t else sD k t)) := HD.out.congr (fun t ht => by
                        by_cases e : t = i
                        · subst e; rw [if_pos (by omega), if_neg (by omega), hn.1, if_neg (by simp [hh])]
                        · by_cases h : t < i
                          · rw [if_pos h, if_pos (by omega)]
                          · rw [if_neg h, if_neg (by omega)])
                      have HE1 : Hid (Arr wr g2 (fun t => if t < i + 1 then gB (k + 1) t else sB k t)) := HE.out.congr (fun t ht => by
                        by_cases e : t = i
                        · subst e; rw [if_pos (by omega), if_neg (by omega), hn.2, if_neg (by simp [hh])]
                        · by_cases h : t < i
                          · rw [if_pos h, if_pos (by omega)]
                          · rw [if_neg h, if_neg (by omega)])
                      clear hn HD HE hik hh
                      generalize sD k i = di at *
                      go_wp2
                      go_roundw
                      case rel => exact ⟨i + 1, by go_num, by omega, HB, HD1, HE1⟩
                      case measure => simp [intOf]; omega
                    · rw [hh] at ei hn
                      simp only [if_true] at ei
                      have hd : gD (k + 1) i = sD k i ^^^ gD k j := by rw [hn.1, if_pos ⟨hik, rfl⟩]
                      have hb : gB (k + 1) i = sB k i ^^^ gB k j := by rw [hn.2, if_pos ⟨hik, rfl⟩]
                      have x1 := x_xor (sD k i) (gD k j)
                      have x2 := x_xor (sB k i) (gB k j)
                      rw [← hd] at x1
                      rw [← hb] at x2
                      have HD1 : Hid (Arr (wr.setCell ⟨g1, i, none⟩ (nr (gD (k + 1) i))) g1 (fun t => if t < i + 1 then gD (k + 1) t else sD k t)) := HD.out.set i _ hil (fun t ht => by
                        by_cases e : t = i
                        · subst e; simp
                        · rw [if_neg e]; by_cases h : t < i
                          · rw [if_pos h, if_pos (by omega)]
                          · rw [if_neg h, if_neg (by omega)])
                      have HE1 : Hid (Arr (wr.setCell ⟨g1, i, none⟩ (nr (gD (k + 1) i))) g2 (fun t => if t < i then gB (k + 1) t else sB k t)) := HE.out.other i _ HNE.out
                      have HE2 : Hid (Arr ((wr.setCell ⟨g1, i, none⟩ (nr (gD (k + 1) i))).setCell ⟨g2, i, none⟩ (nr (gB (k + 1) i))) g2 (fun t => if t < i + 1 then gB (k + 1) t else sB k t)) := HE1.out.set i _ hil (fun t ht => by
                        by_cases e : t = i
                        · subst e; simp
                        · rw [if_neg e]; by_cases h : t < i
                          · rw [if_pos h, if_pos (by omega)]
                          · rw [if_neg h, if_neg (by omega)])
                      have HD2 : Hid (Arr ((wr.setCell ⟨g1, i, none⟩ (nr (gD (k + 1) i))).setCell ⟨g2, i, none⟩ (nr (gB (k + 1) i))) g1 (fun t => if t < i + 1 then gD (k + 1) t else sD k t)) := HD1.out.other i _ HNE.out.symm
                      have HB2 : Hid (Below w.heap.size w ((wr.setCell ⟨g1, i, none⟩ (nr (gD (k + 1) i))).setCell ⟨g2, i, none⟩ (nr (gB (k + 1) i)))) := (HB.out.setCell (p := ⟨g1, i, none⟩) hB1 _).setCell (p := ⟨g2, i, none⟩) hB2 _
                      have c3 := HE1.out.1 i hil
                      simp only [Nat.lt_irrefl, if_false] at c3
                      clear hn HD HE hik hh hd hb HD1 HE1 HB
                      generalize gD (k + 1) i = d1 at *
                      generalize gB (k + 1) i = b1 at *
                      generalize sD k i = di at *
                      generalize sB k i = bi at *
                      go_wp2
                      go_roundw
                      case rel => exact ⟨i + 1, by go_num, by omega, HB2, HD2, HE2⟩
                      case measure => simp [intOf]; omega
                · obtain rfl : i = 32 := by omega
                  have HD1 : Hid (Arr wr g1 (gD (k + 1))) := HD.out.congr (fun t ht => by rw [if_pos ht])
                  have HE1 : Hid (Arr wr g2 (gB (k + 1))) := HE.out.congr (fun t ht => by rw [if_pos ht])
                  have ei := HH.out (lft X k)
                  clear HD HE
                  cases hh : hit k (lft X k)
                  · rw [hh] at ei
                    simp only [Bool.false_eq_true, if_false] at ei
                    have HL1 : Hid (lft X (k + 1) = lft X k) := by show _ = _; rw [lft, hh]; rfl
                    have HG1 : Hid (got X (k + 1) = got X k) := by show _ = _; rw [got, hh]; rfl
                    clear hh
                    generalize lft X k = lk at *
                    generalize got X k = mk at *
                    go_wp2
                    go_roundw
                    case rel => exact ⟨k + 1, by go_num, by omega, by rw [HL1.out], by rw [HG1.out], HB, HD1, HE1⟩
                    case measure => simp [intOf]; omega
                  · rw [hh] at ei
                    simp only [if_true] at ei
                    have HL1 : Hid (lft X (k + 1) = lft X k ^^^ gD k j) := by show _ = _; rw [lft, hh, HPj.out]; rfl
                    have HG1 : Hid (got X (k + 1) = got X k ^^^ gB k j) := by show _ = _; rw [got, hh, HPj.out]; rfl
                    have x1 := x_xor (lft X k) (gD k j)
                    have x2 := x_xor (got X k) (gB k j)
                    rw [← HL1.out] at x1
                    rw [← HG1.out] at x2
                    clear hh HL1 HG1
                    obtain ⟨ln, hln⟩ : ∃ l, Hid (lft X (k + 1) = l) := ⟨_, hide rfl⟩
                    obtain ⟨mn, hmn⟩ : ∃ l, Hid (got X (k + 1) = l) := ⟨_, hide rfl⟩
                    rw [hln.out] at x1
                    rw [hmn.out] at x2
                    generalize lft X k = lk at *
                    generalize got X k = mk at *
                    go_wp2
                    go_roundw
                    case rel => exact ⟨k + 1, by go_num, by omega, by rw [hln.out], by rw [hmn.out], HB, HD1, HE1⟩
                    case measure => simp [intOf]; omega
        · obtain rfl : k = 32 := by omega
          rw [HG.out]
          go_wp2_with fail
          refine (rfour_any fin _).mono ?_
          rintro e w1 ⟨rfl, rfl⟩
          go_wp2
          go_ret
          exact ⟨_, rfl, mine_four _ _ _ HB.out.size, HB.out.alloc HB.out.size _⟩
end Go.Proofs.YtibdgnegdnapoacDoor
