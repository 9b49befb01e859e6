import Derived.Laws.BytesArg
import Derived.Test.YtibfdoggolkljaaGreatDoorJ04
set_option maxHeartbeats 2000000
set_option maxRecDepth 100000
namespace Go.Proofs.YtibfdoggolkljaaGreatDoor
open Go.RowKit Go.Wire1
theorem getU_ok {n cap : Nat} {sa : Option Addr} {l : List Int} {a : Nat → Addr} {w w0 : World} {B : Nat} (hb : Below B w0 w) (hB : B ≤ w0.heap.size) (hs : Seg w sa n l) (hy : Byt l) (he : Errs w a) {x m : Nat} (hd : dec l = .ok (x, m)) :
  Calls Tryz.prog 67 #[.slice sa n cap] w fun e w' => e = .returned (.tuple #[.int .u64 (x : Int), .int .i64 m, .int .i64 0]) ∧ Below B w0 w' ∧ Below w.heap.size w w' :=
 (getUint_any n cap sa l a w hs hy he).mono fun e w' ⟨h1, h2⟩ => by rw [hd] at h2; exact ⟨h2, hb.on h1 hB, h1⟩
theorem getU_bad {n cap : Nat} {sa : Option Addr} {l : List Int} {a : Nat → Addr} {w w0 : World} {B : Nat} (hb : Below B w0 w) (hB : B ≤ w0.heap.size) (hs : Seg w sa n l) (hy : Byt l) (he : Errs w a) {i : Nat} (hd : dec l = .error i) :
  Calls Tryz.prog 67 #[.slice sa n cap] w fun e w' => e = .returned (.tuple #[.int .u64 0, .int .i64 0, .int .i64 (11 + (i : Int))]) ∧ Below B w0 w' ∧ Below w.heap.size w w' :=
 (getUint_any n cap sa l a w hs hy he).mono fun e w' ⟨h1, h2⟩ => by rw [hd] at h2; exact ⟨h2, hb.on h1 hB, h1⟩
theorem getI_ok {n cap : Nat} {sa : Option Addr} {l : List Int} {a : Nat → Addr} {w w0 : World} {B : Nat} (hb : Below B w0 w) (hB : B ≤ w0.heap.size) (hs : Seg w sa n l) (hy : Byt l) (he : Errs w a) {x m : Nat} (hd : dec l = .ok (x, m)) :
  Calls Tryz.prog 114 #[.slice sa n cap] w fun e w' => e = .returned (.tuple #[.int .i64 (unzig x), .int .i64 m, .int .i64 0]) ∧ Below B w0 w' ∧ Below w.heap.size w w' :=
 (getInt_any n cap sa l a w hs hy he).mono fun e w' ⟨h1, h2⟩ => by rw [hd] at h2; exact ⟨h2, hb.on h1 hB, h1⟩
theorem getI_bad {n cap : Nat} {sa : Option Addr} {l : List Int} {a : Nat → Addr} {w w0 : World} {B : Nat} (hb : Below B w0 w) (hB : B ≤ w0.heap.size) (hs : Seg w sa n l) (hy : Byt l) (he : Errs w a) {i : Nat} (hd : dec l = .error i) :
  Calls Tryz.prog 114 #[.slice sa n cap] w fun e w' => e = .returned (.tuple #[.int .i64 0, .int .i64 0, .int .i64 (11 + (i : Int))]) ∧ Below B w0 w' ∧ Below w.heap.size w w' :=
 (getInt_any n cap sa l a w hs hy he).mono fun e w' ⟨h1, h2⟩ => by rw [hd] at h2; exact ⟨h2, hb.on h1 hB, h1⟩
def Arr (w : World) (B g : Nat) (xs : List Int) : Prop := w.ownsRow B 140 1 (.slice (some ⟨g, 0, none⟩) 7 7) 7 (arrL xs)
theorem Arr.below {w w' : World} {B C g : Nat} {xs : List Int} (h : Arr w B g xs) (hb : Below C w w') (hC : w.heap.size ≤ C) : Arr w' B g xs := by
 refine ⟨h.1, ?_⟩
 rcases h.2 with ⟨h1, _⟩ | ⟨g', cap, cur, e, hB, hh, r⟩
 ·cases h1
 ·injection e with e1 e2 e3
  injection e1 with e1
  injection e1 with e1
  subst e1
  exact .inr ⟨g, cap, cur, by rw [e3], hB, by rw [hb.block g (by have := (Array.getElem?_eq_some_iff.1 hh).1; omega)]; exact hh, r⟩
theorem Arr.cell {w : World} {B g : Nat} {xs : List Int} (h : Arr w B g xs) (j : Nat) (hj : j < 7) : w.cell? ⟨g, j, none⟩ = (arrL xs)[j]? := by
 have := World.ownsRow.cellAt h j (by show j < 7 * 1; omega)
 exact this
theorem Arr.frozen {w : World} {B g : Nat} {xs : List Int} (h : Arr w B g xs) (j : Nat) : w.frozen? ⟨g, j, none⟩ = false := World.ownsRow.frozenAt h j
theorem arr_set {xs : List Int} {k : Nat} {y : Int} (hl : xs.length = k) (hk : k < 7) : (arrL xs).set k (.int .i64 y) = arrL (xs ++ [y]) := by
 subst hl
 match xs, hk with
 | [], _ => rfl
 | [_], _ => rfl
 | [_, _], _ => rfl
 | [_, _, _], _ => rfl
 | [_, _, _, _], _ => rfl
 | [_, _, _, _, _], _ => rfl
 | [_, _, _, _, _, _], _ => rfl
 | _ :: _ :: _ :: _ :: _ :: _ :: _ :: r, h => simp only [List.length_cons] at h; omega
theorem arr_int {xs : List Int} {k : Nat} {vv : Value} (h : some vv = (arrL xs)[k]?) : ∃ z, vv = .int .i64 z := by
 have hm : vv ∈ arrL xs := List.mem_of_getElem? h.symm
 unfold arrL at hm
 simp only [List.mem_cons, List.not_mem_nil, or_false] at hm
 rcases hm with rfl | rfl | rfl | rfl | rfl | rfl | rfl <;> exact ⟨_, rfl⟩
theorem Arr.store {w : World} {B g : Nat} {xs : List Int} (h : Arr w B g xs) {k : Nat} (hl : xs.length = k) (hk : k < 7) (y : Int) : Arr (w.setCell ⟨g, k, none⟩ (.int .i64 y)) B g (xs ++ [y]) := by
 unfold Arr
 rw [← arr_set hl hk]
 exact (World.ownsRow.stored h k _).1
theorem Arr.beside {w : World} {B g g' k : Nat} {xs : List Int} (h : Arr w B g xs) (hne : g ≠ g') (v : Value) : Arr (w.setCell ⟨g', k, none⟩ v) B g xs := by
 refine ⟨h.1, ?_⟩
 rcases h.2 with ⟨h1, _⟩ | ⟨g2, cap, cur, e, hB, hh, r⟩
 ·cases h1
 ·injection e with e1 e2 e3
  injection e1 with e1
  injection e1 with e1
  subst e1
  exact .inr ⟨g, cap, cur, by rw [e3], hB, by rw [Below.heap_setCell _ _ _ _ hne]; exact hh, r⟩
theorem arr_zero (w : World) {B : Nat} (hB : B ≤ w.heap.size) : Arr (w.alloc (.cells zer7.toArray 140)) B w.heap.size [] :=
 ⟨rfl, .inr ⟨w.heap.size, 7, zer7.toArray, rfl, hB, heap_alloc_new w _, Nat.le_refl _, by unfold maxLen; omega, rfl, rfl⟩⟩
theorem Arr.lt {w : World} {B g : Nat} {xs : List Int} (h : Arr w B g xs) : g < w.heap.size := (World.ownsRow.lt h g rfl).2
theorem Arr.on {w : World} {B g : Nat} {xs : List Int} (h : Arr w B g xs) (o : Obj) : Arr (w.alloc o) B g xs := h.below ((Below.refl w.heap.size w).alloc zN o) zN
def cutA (sa : Option Addr) (cap p : Nat) : Option Addr := if p = cap then sa else sa.map fun x => ⟨x.block, x.off + p, none⟩
theorem seg_cut {w : World} {b off n cap p : Nat} {l : List Int} (h : Seg w (some ⟨b, off, none⟩) n l) (hp : p ≤ n) (hc : n ≤ cap) : Seg w (if p = cap then some ⟨b, off, none⟩ else some ⟨b, off + p, none⟩) (n - p) (l.drop p) := by
 by_cases e : p = cap
 ·rw [if_pos e]
  have h0 : n - p = 0 := by omega
  have h1 : l.drop p = [] := List.drop_eq_nil_of_le (by rw [h.1]; omega)
  rw [h0, h1]; exact seg_empty _ _
 ·rw [if_neg e]; exact h.from hp
def Src (sa : Option Addr) (n cap : Nat) : Prop := (n = 0 ∧ cap = 0) ∨ ((∃ b off, sa = some ⟨b, off, none⟩) ∧ n ≤ cap ∧ cap ≤ maxLen)
theorem seven {P : List Int → Prop} (xs : List Int) (h : ∀ x0 x1 x2 x3 x4 x5 x6 : Int, arrL xs = [.int .i64 x0, .int .i64 x1, .int .i64 x2, .int .i64 x3, .int .i64 x4, .int .i64 x5, .int .i64 x6] → P xs) : P xs := h _ _ _ _ _ _ _ rfl
theorem unpackPlain_any (n m cap : Nat) (sa : Option Addr) (l : List Int) (a : Nat → Addr) (w : World) (hn : n ≤ 7) (hs : Seg w sa m l) (hsrc : Src sa m cap) (hy : Byt l) (he : Errs w a) :
  Calls Tryz.prog 90 #[.int .i64 n, .slice sa m cap] w fun e w' => e = .returned (.tuple #[.agg (arrL (upL (rd1 l n))).toArray, .int .i64 (upN (rd1 l n) : Int), .int .i64 (upE (rd1 l n) : Int)]) ∧ Below w.heap.size w w' := by
 obtain ⟨R, hR⟩ : ∃ R, Hid (rd1 l n = R) := ⟨_, rfl⟩
 rw [hR.out]
 have HS : Hid (Seg w sa m l) := hs
 have HL : Hid (l.length = m) := hs.1
 have HE : Hid (Errs w a) := he
 have HY : Hid (Byt l) := hy
 obtain ⟨W2, hW2⟩ : ∃ W2, W2 = (w.alloc (.cells zer7.toArray 140)).alloc (.cells zer7.toArray 140) := ⟨_, rfl⟩
 have B2 : Hid (Below w.heap.size w W2) := by rw [hW2]; exact (((Below.refl _ _).more zN _).more zN _)
 have R2 : Hid (Arr W2 w.heap.size w.heap.size []) := by rw [hW2]; exact (arr_zero w zN).on _
 have A2 : Hid (Arr W2 w.heap.size (w.heap.size + 1) []) := by
  have := arr_zero (w.alloc (.cells zer7.toArray 140)) (B := w.heap.size) (by rw [World.size_alloc]; omega)
  rw [World.size_alloc] at this
  rw [hW2]; exact this
 clear hs he hy
 unfold zer7 at hW2
 go_enter Tryz.func90, Tryz.ntmps90
 go_wp2
 rw [← hW2]
 clear hW2
 go_loopw [8, 14] (fun q i wr => ∃ k p : Nat, i = .int .i64 k ∧ k ≤ n ∧ q = .int .i64 p ∧ p ≤ m ∧ (∃ xs, Hid (rd1 l k = .ok (xs, p)) ∧ Hid (Arr wr w.heap.size (w.heap.size + 1) xs)) ∧ Hid (Arr wr w.heap.size w.heap.size []) ∧ Hid (Below w.heap.size w wr)) (fun _ i _ => n - (intOf i).toNat)
 case atStart => exact ⟨0, 0, rfl, Nat.zero_le _, rfl, Nat.zero_le _, ⟨[], rfl, A2⟩, R2, B2⟩
 case round =>
  obtain ⟨k, p, rfl, hk, rfl, hp, ⟨xs, HR, HA⟩, HZ, HB⟩ := hrel
  have hxs := rd1_len HY.out HR.out
  by_cases hlt : k < n
  ·rcases hsrc with ⟨rfl, rfl⟩ | ⟨⟨b, off, rfl⟩, hmc, hcm⟩
   ·obtain rfl : p = 0 := by omega
    have hnil : Hid (l.drop 0 = []) := by show _ = _; rw [List.drop_zero, List.eq_nil_of_length_eq_zero HL.out]
    rcases sa with _ | ad
    all_goals
     have HQ : Hid (R = .error 11) := by show _ = _; rw [← hR.out]; exact rd1_err' (rd1_bad HR.out (i := 0) (by rw [hnil.out]; rfl)) (by omega)
     clear hR
     go_wp2_with fail
     refine (getU_bad (l := []) HB.out zN (seg_empty _ _) (fun z hz => by cases hz) (HE.out.below HB.out zN) (i := 0) rfl).mono ?_
     rintro e w2 ⟨rfl, hb2, hb2'⟩
     have HB2 : Hid (Below w.heap.size w w2) := hb2
     have HZ2 : Hid (Arr w2 w.heap.size w.heap.size []) := HZ.out.below hb2' zN
     clear hb2 hb2' HZ HA HR
     have d0 := Arr.cell HZ2.out 0 (by decide)
     have d1 := Arr.cell HZ2.out 1 (by decide)
     have d2 := Arr.cell HZ2.out 2 (by decide)
     have d3 := Arr.cell HZ2.out 3 (by decide)
     have d4 := Arr.cell HZ2.out 4 (by decide)
     have d5 := Arr.cell HZ2.out 5 (by decide)
     have d6 := Arr.cell HZ2.out 6 (by decide)
     simp only [arrL, List.getElem?_cons_zero, List.getElem?_cons_succ, List.getD_nil] at d0 d1 d2 d3 d4 d5 d6
     have e0 := Arr.frozen HZ2.out 0
     have e1 := Arr.frozen HZ2.out 1
     have e2 := Arr.frozen HZ2.out 2
     have e3 := Arr.frozen HZ2.out 3
     have e4 := Arr.frozen HZ2.out 4
     have e5 := Arr.frozen HZ2.out 5
     have e6 := Arr.frozen HZ2.out 6
     go_wp2
     refine bodyPost_ret (v := .tuple #[.agg #[.int .i64 0, .int .i64 0, .int .i64 0, .int .i64 0, .int .i64 0, .int .i64 0, .int .i64 0], .int .i64 0, .int .i64 11]) (by simp [results, Tryz.results90, go_sem, d0, d1, d2, d3, d4, d5, d6]) rfl ⟨?_, ?_⟩
     ·rw [HQ.out]; rfl
     ·exact below_store (below_store (below_store (below_store (below_store (below_store (below_store HB2.out zN _) zN _) zN _) zN _) zN _) zN _) zN _
   ·unfold maxLen at hcm
    by_cases hpc : p = cap
    ·obtain rfl : p = m := by omega
     subst hpc
     have hnil : Hid (l.drop p = []) := List.drop_eq_nil_of_le (by rw [HL.out]; omega)
     have HQ : Hid (R = .error 11) := by show _ = _; rw [← hR.out]; exact rd1_err' (rd1_bad HR.out (i := 0) (by rw [hnil.out]; rfl)) (by omega)
     clear hR
     go_wp2_with fail
     refine (getU_bad (l := []) HB.out zN (seg_empty _ _) (fun z hz => by cases hz) (HE.out.below HB.out zN) (i := 0) rfl).mono ?_
     rintro e w2 ⟨rfl, hb2, hb2'⟩
     have HB2 : Hid (Below w.heap.size w w2) := hb2
     have HZ2 : Hid (Arr w2 w.heap.size w.heap.size []) := HZ.out.below hb2' zN
     clear hb2 hb2' HZ HA HR
     have d0 := Arr.cell HZ2.out 0 (by decide)
     have d1 := Arr.cell HZ2.out 1 (by decide)
     have d2 := Arr.cell HZ2.out 2 (by decide)
     have d3 := Arr.cell HZ2.out 3 (by decide)
     have d4 := Arr.cell HZ2.out 4 (by decide)
     have d5 := Arr.cell HZ2.out 5 (by decide)
     have d6 := Arr.cell HZ2.out 6 (by decide)
     simp only [arrL, List.getElem?_cons_zero, List.getElem?_cons_succ, List.getD_nil] at d0 d1 d2 d3 d4 d5 d6
     have e0 := Arr.frozen HZ2.out 0
     have e1 := Arr.frozen HZ2.out 1
     have e2 := Arr.frozen HZ2.out 2
     have e3 := Arr.frozen HZ2.out 3
     have e4 := Arr.frozen HZ2.out 4
     have e5 := Arr.frozen HZ2.out 5
     have e6 := Arr.frozen HZ2.out 6
     go_wp2
     refine bodyPost_ret (v := .tuple #[.agg #[.int .i64 0, .int .i64 0, .int .i64 0, .int .i64 0, .int .i64 0, .int .i64 0, .int .i64 0], .int .i64 0, .int .i64 11]) (by simp [results, Tryz.results90, go_sem, d0, d1, d2, d3, d4, d5, d6]) rfl ⟨?_, ?_⟩
     ·rw [HQ.out]; rfl
     ·exact below_store (below_store (below_store (below_store (below_store (below_store (below_store HB2.out zN _) zN _) zN _) zN _) zN _) zN _) zN _
    ·have SD : Hid (Seg wr (some ⟨b, off + p, none⟩) (m - p) (l.drop p)) := by
      have := seg_cut (HS.out.below HB.out zN) hp hmc
      rwa [if_neg hpc] at this
     have BD : Hid (Byt (l.drop p)) := byt_drop HY.out p
     cases hd : dec (l.drop p) with
     | error i =>
      have hi3 := dec_err hd
      have HQ : Hid (R = .error (11 + i)) := by show _ = _; rw [← hR.out]; exact rd1_err' (rd1_bad HR.out hd) (by omega)
      have HD : Hid (dec (l.drop p) = .error i) := hd
      have hne : ((11 + (i : Int)) != 0) = true := by rw [bne_iff_ne]; omega
      clear hd hR
      go_wp2_with fail
      refine (getU_bad HB.out zN SD.out BD.out (HE.out.below HB.out zN) HD.out).mono ?_
      rintro e w2 ⟨rfl, hb2, hb2'⟩
      have HB2 : Hid (Below w.heap.size w w2) := hb2
      have HZ2 : Hid (Arr w2 w.heap.size w.heap.size []) := HZ.out.below hb2' zN
      clear hb2 hb2' HZ HA SD HR
      have d0 := Arr.cell HZ2.out 0 (by decide)
      have d1 := Arr.cell HZ2.out 1 (by decide)
      have d2 := Arr.cell HZ2.out 2 (by decide)
      have d3 := Arr.cell HZ2.out 3 (by decide)
      have d4 := Arr.cell HZ2.out 4 (by decide)
      have d5 := Arr.cell HZ2.out 5 (by decide)
      have d6 := Arr.cell HZ2.out 6 (by decide)
      simp only [arrL, List.getElem?_cons_zero, List.getElem?_cons_succ, List.getD_nil] at d0 d1 d2 d3 d4 d5 d6
      have e0 := Arr.frozen HZ2.out 0
      have e1 := Arr.frozen HZ2.out 1
      have e2 := Arr.frozen HZ2.out 2
      have e3 := Arr.frozen HZ2.out 3
      have e4 := Arr.frozen HZ2.out 4
      have e5 := Arr.frozen HZ2.out 5
      have e6 := Arr.frozen HZ2.out 6
      go_wp2
      refine bodyPost_ret (v := .tuple #[.agg #[.int .i64 0, .int .i64 0, .int .i64 0, .int .i64 0, .int .i64 0, .int .i64 0, .int .i64 0], .int .i64 0, .int .i64 (11 + (i : Int))]) (by simp [results, Tryz.results90, go_sem, d0, d1, d2, d3, d4, d5, d6]) rfl ⟨?_, ?_⟩
      ·rw [HQ.out]; rfl
      ·exact below_store (below_store (below_store (below_store (below_store (below_store (below_store HB2.out zN _) zN _) zN _) zN _) zN _) zN _) zN _
     | ok q =>
      obtain ⟨x, mm⟩ := q
      have hml := dec_len BD.out hd
      rw [List.length_drop, HL.out] at hml
      have hxl := dec_lt BD.out hd
      have HD : Hid (dec (l.drop p) = .ok (x, mm)) := hd
      clear hd
      go_wp2_with fail
      refine (getU_ok HB.out zN SD.out BD.out (HE.out.below HB.out zN) HD.out).mono ?_
      rintro e w2 ⟨rfl, hb2, hb2'⟩
      have HB2 : Hid (Below w.heap.size w w2) := hb2
      have HZ2 : Hid (Arr w2 w.heap.size w.heap.size []) := HZ.out.below hb2' zN
      have HA2 : Hid (Arr w2 w.heap.size (w.heap.size + 1) xs) := HA.out.below hb2' zN
      clear hb2 hb2' HZ HA SD
      by_cases hx : (1048576 : Int) < (x : Int)
      ·have HQ : Hid (R = .error 32) := by show _ = _; rw [← hR.out]; exact rd1_err' (rd1_big HR.out HD.out (by omega)) (by omega)
       clear hR HR
       have d0 := Arr.cell HZ2.out 0 (by decide)
       have d1 := Arr.cell HZ2.out 1 (by decide)
       have d2 := Arr.cell HZ2.out 2 (by decide)
       have d3 := Arr.cell HZ2.out 3 (by decide)
       have d4 := Arr.cell HZ2.out 4 (by decide)
       have d5 := Arr.cell HZ2.out 5 (by decide)
       have d6 := Arr.cell HZ2.out 6 (by decide)
       simp only [arrL, List.getElem?_cons_zero, List.getElem?_cons_succ, List.getD_nil] at d0 d1 d2 d3 d4 d5 d6
       have e0 := Arr.frozen HZ2.out 0
       have e1 := Arr.frozen HZ2.out 1
       have e2 := Arr.frozen HZ2.out 2
       have e3 := Arr.frozen HZ2.out 3
       have e4 := Arr.frozen HZ2.out 4
       have e5 := Arr.frozen HZ2.out 5
       have e6 := Arr.frozen HZ2.out 6
       go_wp2
       refine bodyPost_ret (v := .tuple #[.agg #[.int .i64 0, .int .i64 0, .int .i64 0, .int .i64 0, .int .i64 0, .int .i64 0, .int .i64 0], .int .i64 0, .int .i64 32]) (by simp [results, Tryz.results90, go_sem, d0, d1, d2, d3, d4, d5, d6]) rfl ⟨?_, ?_⟩
       ·rw [HQ.out]; rfl
       ·exact below_store (below_store (below_store (below_store (below_store (below_store (below_store HB2.out zN _) zN _) zN _) zN _) zN _) zN _) zN _
      ·have HR' : Hid (rd1 l (k + 1) = .ok (xs ++ [(x : Int)], p + mm)) := rd1_step HR.out HD.out (by omega)
       have HA3 : Hid (Arr (w2.setCell ⟨w.heap.size + 1, k, none⟩ (.int .i64 x)) w.heap.size (w.heap.size + 1) (xs ++ [(x : Int)])) := HA2.out.store hxs.1 (by omega) _
       have HZ3 : Hid (Arr (w2.setCell ⟨w.heap.size + 1, k, none⟩ (.int .i64 x)) w.heap.size w.heap.size []) := HZ2.out.beside (by omega) _
       have HB3 : Hid (Below w.heap.size w (w2.setCell ⟨w.heap.size + 1, k, none⟩ (.int .i64 x))) := below_store HB2.out (by omega) _
       have fz := HA2.out.frozen k
       obtain ⟨vv, cx⟩ : ∃ vv, w2.cell? ⟨w.heap.size + 1, k, none⟩ = some vv := by
        rw [HA2.out.cell k (by omega)]
        exact ⟨_, List.getElem?_eq_getElem (by show k < 7; omega)⟩
       obtain ⟨z, rfl⟩ : ∃ z, vv = .int .i64 z := arr_int (by rw [← cx, HA2.out.cell k (by omega)])
       clear HR hR HA2 HZ2 HB2
       go_wp2
       go_roundw
       case rel => exact ⟨k + 1, p + mm, by go_num, by omega, by go_num, by omega, ⟨_, HR', HA3⟩, HZ3, HB3⟩
       case measure => simp [intOf]; omega
  ·obtain rfl : n = k := by omega
   have HQ : Hid (R = .ok (xs, p)) := by show _ = _; rw [← hR.out]; exact HR.out
   clear hR HR
   clear hsrc
   obtain ⟨x0, x1, x2, x3, x4, x5, x6, HX⟩ : ∃ x0 x1 x2 x3 x4 x5 x6 : Int, Hid (arrL xs = [.int .i64 x0, .int .i64 x1, .int .i64 x2, .int .i64 x3, .int .i64 x4, .int .i64 x5, .int .i64 x6]) := ⟨_, _, _, _, _, _, _, rfl⟩
   have c0 := Arr.cell HA.out 0 (by decide)
   have c1 := Arr.cell HA.out 1 (by decide)
   have c2 := Arr.cell HA.out 2 (by decide)
   have c3 := Arr.cell HA.out 3 (by decide)
   have c4 := Arr.cell HA.out 4 (by decide)
   have c5 := Arr.cell HA.out 5 (by decide)
   have c6 := Arr.cell HA.out 6 (by decide)
   rw [HX.out] at c0 c1 c2 c3 c4 c5 c6
   simp only [List.getElem?_cons_zero, List.getElem?_cons_succ] at c0 c1 c2 c3 c4 c5 c6
   have d0 := Arr.cell HZ.out 0 (by decide)
   have d1 := Arr.cell HZ.out 1 (by decide)
   have d2 := Arr.cell HZ.out 2 (by decide)
   have d3 := Arr.cell HZ.out 3 (by decide)
   have d4 := Arr.cell HZ.out 4 (by decide)
   have d5 := Arr.cell HZ.out 5 (by decide)
   have d6 := Arr.cell HZ.out 6 (by decide)
   simp only [arrL, List.getElem?_cons_zero, List.getElem?_cons_succ, List.getD_nil] at d0 d1 d2 d3 d4 d5 d6
   have e0 := Arr.frozen HZ.out 0
   have e1 := Arr.frozen HZ.out 1
   have e2 := Arr.frozen HZ.out 2
   have e3 := Arr.frozen HZ.out 3
   have e4 := Arr.frozen HZ.out 4
   have e5 := Arr.frozen HZ.out 5
   have e6 := Arr.frozen HZ.out 6
   go_wp2
   refine bodyPost_ret (v := .tuple #[.agg #[.int .i64 x0, .int .i64 x1, .int .i64 x2, .int .i64 x3, .int .i64 x4, .int .i64 x5, .int .i64 x6], .int .i64 p, .int .i64 0]) (by simp [results, Tryz.results90, go_sem, d0, d1, d2, d3, d4, d5, d6]) rfl ⟨?_, ?_⟩
   ·rw [HQ.out]
    show _ = Ending.returned (.tuple #[.agg (arrL xs).toArray, .int .i64 p, .int .i64 0])
    rw [HX.out]
   ·exact below_store (below_store (below_store (below_store (below_store (below_store (below_store HB.out zN _) zN _) zN _) zN _) zN _) zN _) zN _
open Go.RowKit Go.Wire1
def OutV (a : Nat → Addr) (r : Except Nat (Value × Nat)) (e : Ending) (k k' : Nat) : Prop :=
 match r with
 | .ok (v, m) => e = .returned v ∧ k' = k + m
 | .error i => e = .panicked [{ v := errV (a i), recovered := false }]
def rU (most : Nat) (l : List Int) (k : Nat) : Except Nat (Value × Nat) :=
 match dec (l.drop k) with
 | .ok (x, m) => if most < x then .error 3 else .ok (.int .u64 (x : Int), m)
 | .error i => .error i
def rI (l : List Int) (k : Nat) : Except Nat (Value × Nat) :=
 match dec (l.drop k) with
 | .ok (x, m) => .ok (.int .i64 (unzig x), m)
 | .error i => .error i
def rB (most : Int) (l : List Int) (k : Nat) : Except Nat (Value × Nat) :=
 if l.length ≤ k then .error 0 else if most < l.getD k 0 then .error 3 else .ok (.int .i64 (l.getD k 0), 1)
def rT (least most : Int) (l : List Int) (k : Nat) : Except Nat (Value × Nat) :=
 match dec (l.drop k) with
 | .ok (x, m) => if least ≤ (x : Int) ∧ (x : Int) ≤ most then (if k + m + x ≤ l.length then .ok (.string (strOfNums ((l.drop (k + m)).take x)), m + x) else .error 0) else .error 4
 | .error i => .error i
structure Ready (w : World) (b o : Nat) (sa : Option Addr) (n cap k : Nat) (l : List Int) (a : Nat → Addr) : Prop where
 cur : Cur w b o sa n cap k
 seg : Seg w sa n l
 sep : ∀ x, sa = some x → 0 < n → x.block ≠ b
 byt : Byt l
 le : k ≤ n
 errs : Errs w a
 five : 7 ≤ b
 apart : ∀ i, i < 5 → (a i).block ≠ b
theorem Ready.only {w w' : World} {b o : Nat} {sa : Option Addr} {n cap k k' : Nat} {l : List Int} {a : Nat → Addr} (h : Ready w b o sa n cap k l a) (ho : Only b (o + 1) w w') (hc : Cur w' b o sa n cap k') (hk : k' ≤ n) : Ready w' b o sa n cap k' l a :=
 ⟨hc, ho.seg h.seg h.sep, h.sep, h.byt, hk, h.errs.only ho h.five h.apart, h.five, h.apart⟩
theorem numberTo_any (most : Nat) (b o n cap : Nat) (sa : Option Addr) (l : List Int) (k : Nat) (a : Nat → Addr) (w : World) (h : Ready w b o sa n cap k l a) :
  Calls Tryz.prog 109 #[.pointer (some ⟨b, o, none⟩), .int .u64 (most : Int)] w fun e w' => Only b (o + 1) w w' ∧ ∃ k', Cur w' b o sa n cap k' ∧ k' ≤ n ∧ OutV a (rU most l k) e k k' := by
 go_enter Tryz.func109, Tryz.ntmps109
 go_wp2_with fail
 refine (number_any b o n cap sa l k a _ h.cur h.seg h.sep h.byt h.le h.errs h.five h.apart).mono ?_
 rintro e w1 ⟨ho, k', hc1, hk', hout⟩
 have e3 := (h.errs.only ho h.five h.apart).s3
 cases hd : dec (l.drop k) with
 | error i =>
  have HQ : Hid (rU most l k = .error i) := by show _ = _; unfold rU; rw [hd]
  rw [hd] at hout
  obtain rfl : e = _ := hout
  clear hd
  go_wp2
  refine ⟨rfl, ho, k', hc1, hk', ?_⟩
  rw [HQ.out]; rfl
 | ok p =>
  obtain ⟨x, m⟩ := p
  rw [hd] at hout
  obtain ⟨rfl, HK0⟩ := hout
  have HK : Hid (k' = k + m) := HK0
  clear HK0
  by_cases hx : most < x
  ·have HQ : Hid (rU most l k = .error 3) := by show _ = _; unfold rU; rw [hd]; exact if_pos hx
   clear hd
   go_wp2
   refine ⟨rfl, ho, k', hc1, hk', ?_⟩
   rw [HQ.out]; rfl
  ·have HQ : Hid (rU most l k = .ok (.int .u64 (x : Int), m)) := by show _ = _; unfold rU; rw [hd]; exact if_neg hx
   clear hd
   go_wp2
   go_ret
   refine ⟨ho, k', hc1, hk', ?_⟩
   rw [HQ.out]; exact ⟨rfl, HK.out⟩
theorem byteTo_any (most : Int) (b o n cap : Nat) (sa : Option Addr) (l : List Int) (k : Nat) (a : Nat → Addr) (w : World) (h : Ready w b o sa n cap k l a) :
  Calls Tryz.prog 107 #[.pointer (some ⟨b, o, none⟩), .int .i64 most] w fun e w' => Only b (o + 1) w w' ∧ ∃ k', Cur w' b o sa n cap k' ∧ k' ≤ n ∧ OutV a (rB most l k) e k k' := by
 have hn := h.seg.2.1
 have hl := h.seg.1
 by_cases hkn : k = n
 ·subst hkn
  have HQ : Hid (rB most l k = .error 0) := by show _ = _; unfold rB; exact if_pos (by omega)
  clear hl
  go_enter Tryz.func107, Tryz.ntmps107
  go_wp2_with fail
  refine (next_end b o k cap _ a _ h.cur hn h.errs).mono ?_
  rintro e w1 ⟨rfl, ho, hc1⟩
  refine ⟨rfl, ho, k, hc1, Nat.le_refl _, ?_⟩
  rw [HQ.out]; rfl
 ·have hlt : k < n := by have := h.le; omega
  have hz := byt_at h.byt k
  by_cases hx : most < l.getD k 0
  ·have HQ : Hid (rB most l k = .error 3) := by show _ = _; unfold rB; rw [if_neg (by omega), if_pos hx]
   clear hl
   go_enter Tryz.func107, Tryz.ntmps107
   go_wp2_with fail
   refine (next_ok b o n cap _ l k _ h.cur h.seg hlt).mono ?_
   rintro e w1 ⟨rfl, ho, hc1⟩
   have e3 := (h.errs.only ho h.five h.apart).s3
   generalize l.getD k 0 = z at *
   go_wp2
   refine ⟨rfl, ho, k + 1, hc1, by omega, ?_⟩
   rw [HQ.out]; rfl
  ·have HQ : Hid (rB most l k = .ok (.int .i64 (l.getD k 0), 1)) := by show _ = _; unfold rB; rw [if_neg (by omega), if_neg hx]
   clear hl
   go_enter Tryz.func107, Tryz.ntmps107
   go_wp2_with fail
   refine (next_ok b o n cap _ l k _ h.cur h.seg hlt).mono ?_
   rintro e w1 ⟨rfl, ho, hc1⟩
   generalize l.getD k 0 = z at *
   go_wp2
   go_ret
   refine ⟨ho, k + 1, hc1, by omega, ?_⟩
   rw [HQ.out]; exact ⟨rfl, rfl⟩
def allowB (x : Nat) (least most : Int) : Bool := decide (least ≤ (x : Int) ∧ (x : Int) ≤ most)
theorem allowed_any (x : Nat) (least most : Int) (w : World) (hx : x < 18446744073709551616) (h1 : -9223372036854775808 ≤ least) (h2 : least ≤ 9223372036854775807) (h3 : -9223372036854775808 ≤ most) (h4 : most ≤ 9223372036854775807) :
  Calls Tryz.prog 115 #[.int .u64 (x : Int), .int .i64 least, .int .i64 most] w fun e w' => e = .returned (.bool (allowB x least most)) ∧ w' = w := by
 by_cases hm : most < 0
 ·have HQ : Hid (allowB x least most = false) := by show _ = _; simp only [allowB, decide_eq_false_iff_not]; omega
  go_enter Tryz.func115, Tryz.ntmps115
  go_wp2
  go_ret
  exact ⟨by rw [HQ.out]; rfl, rfl⟩
 ·by_cases hxm : most < (x : Int)
  ·have HQ : Hid (allowB x least most = false) := by show _ = _; simp only [allowB, decide_eq_false_iff_not]; omega
   have hd : decide (most < 0) = false := by simpa using hm
   go_enter Tryz.func115, Tryz.ntmps115
   go_wp2
   go_ret
   exact ⟨by rw [HQ.out]; rfl, rfl⟩
  ·have hd : decide (most < 0) = false := by simpa using hm
   by_cases hl : least ≤ 0
   ·have HQ : Hid (allowB x least most = true) := by show _ = _; simp only [allowB, decide_eq_true_iff]; omega
    go_enter Tryz.func115, Tryz.ntmps115
    go_wp2
    go_ret
    exact ⟨by rw [HQ.out]; first | rfl | simp [hl], rfl⟩
   ·have hd2 : decide (least ≤ 0) = false := by simpa using hl
    have HQ : Hid (allowB x least most = decide (least ≤ (x : Int))) := by show _ = _; simp only [allowB, decide_eq_decide]; omega
    go_enter Tryz.func115, Tryz.ntmps115
    go_wp2
    go_ret
    exact ⟨by rw [HQ.out]; rfl, rfl⟩
theorem conv_zero (ad : Option Addr) (c : Nat) (w : World) : (convert 32 9 (.slice ad 0 c)).run Tryz.prog w = .ok (.string (strOfNums [])) w := by
 rw [run_convert_bytes_string w 32 9 5 ad 0 c Tryz.underlying32 Tryz.underlying5 Tryz.underlying9]
 cases ad with
 | none => rfl
 | some x =>
  exact run_bytesToString (P := Tryz.prog) w x 0 c [] rfl
theorem cur_put {w : World} {b o : Nat} {sa : Option Addr} {n cap k : Nat} (h : Cur w b o sa n cap k) (q x : Nat) (z : Int) (hz : z = (k : Int) + (x : Int)) : Cur ((w.drewN q).setCell ⟨b, o + 1, none⟩ (.int .i64 z)) b o sa n cap (k + x) := by
 subst hz
 obtain ⟨c0, c1, f1⟩ := h
 refine ⟨?_, ?_, ?_⟩
 ·rw [zO _ _ _ _ (by simp)]; exact c0
 ·rw [World.cell?_setCell_same (w.drewN q) ⟨b, o + 1, none⟩ _ c1]; simp
 ·rw [World.frozen?_setCell]; exact f1
theorem text_any (least most : Int) (b o n cap : Nat) (sa : Option Addr) (l : List Int) (k : Nat) (a : Nat → Addr) (w : World) (h : Ready w b o sa n cap k l a) (hcap : n ≤ cap) (hcm : cap ≤ maxLen)
  (h1 : -9223372036854775808 ≤ least) (h2 : least ≤ 9223372036854775807) (h3 : -9223372036854775808 ≤ most) (h4 : most ≤ 9223372036854775807) :
  Calls Tryz.prog 111 #[.pointer (some ⟨b, o, none⟩), .int .i64 least, .int .i64 most] w fun e w' => Only b (o + 1) w w' ∧ ∃ k', Cur w' b o sa n cap k' ∧ k' ≤ n ∧ OutV a (rT least most l k) e k k' := by
 have hn := h.seg.2.1
 have hl := hide h.seg.1
 unfold maxLen at hcm
 go_enter Tryz.func111, Tryz.ntmps111
 go_wp2_with fail
 refine (number_any b o n cap sa l k a _ h.cur h.seg h.sep h.byt h.le h.errs h.five h.apart).mono ?_
 rintro e w1 ⟨ho, k', hc1, hk', hout⟩
 have hR := h.only ho hc1 hk'
 cases hd : dec (l.drop k) with
 | error i =>
  have HQ : Hid (rT least most l k = .error i) := by show _ = _; unfold rT; rw [hd]
  rw [hd] at hout
  obtain rfl : e = _ := hout
  clear hd
  go_wp2
  refine ⟨rfl, ho, k', hc1, hk', ?_⟩
  rw [HQ.out]; rfl
 | ok p =>
  obtain ⟨x, m⟩ := p
  have hx := dec_lt (byt_drop h.byt k) hd
  have hm := dec_len (byt_drop h.byt k) hd
  rw [hd] at hout
  obtain ⟨rfl, HK0⟩ := hout
  have HK : Hid (k' = k + m) := HK0
  have hpos : 0 < n := by have := hm.2.2; rw [List.length_drop, hl.out] at this; omega
  by_cases hal : least ≤ (x : Int) ∧ (x : Int) ≤ most
  ·have HA : Hid (allowB x least most = true) := by show _ = _; simp only [allowB, decide_eq_true_iff]; exact hal
   have hleft : ((n : Int) - (k' : Int)) ≤ 9223372036854775807 := by unfold maxLen at hn; omega
   by_cases hfit : k' + x ≤ n
   ·have HQ : Hid (rT least most l k = .ok (.string (strOfNums ((l.drop k').take x)), m + x)) := by
     show _ = _; unfold rT; rw [hd, HK0]; show (if _ then _ else _) = _; rw [if_pos hal, if_pos (by have := hl.out; omega)]
    clear hd HK0 hal
    go_wp2_with fail
    refine (allowed_any x least most _ hx h1 h2 h3 h4).mono ?_
    rintro e w2 ⟨rfl, rfl⟩
    rw [HA.out]
    go_wp2_with fail
    refine (left_any b o n cap _ k' _ hc1 hk' hn).mono ?_
    rintro e w3 ⟨rfl, q, rfl⟩
    have c0 := hc1.1
    have c1 := hc1.2.1
    have f1 := hc1.2.2
    obtain ⟨sb, so, rfl, hcell⟩ := hR.seg.2.2 hpos
    have hcW := cur_put hc1 q x ((k' : Int) + (x : Int)) rfl
    have HO : Hid (Only b (o + 1) w ((w2.drewN q).setCell ⟨b, o + 1, none⟩ (.int .i64 ((k' : Int) + (x : Int))))) := (ho.drewN q).setCell _
    have hsW := (((Only.refl b (o + 1) w2).drewN q).setCell (.int .i64 ((k' : Int) + (x : Int)))).seg hR.seg hR.sep
    go_wp2_with fail
    generalize (w2.drewN q).setCell ⟨b, o + 1, none⟩ (.int .i64 ((k' : Int) + (x : Int))) = W at *
    have d0 := hcW.1
    have d1 : W.cell? ⟨b, o + 1, none⟩ = some (.int .i64 ((k' : Int) + (x : Int))) := by rw [hcW.2.1]; simp
    by_cases hx0 : x = 0
    ·subst hx0
     have hcz : ∀ (ad : Option Addr) (c : Nat) (w : World), (convert 32 9 (.slice ad 0 c)).run Tryz.prog w = .ok (.string (strOfNums [])) w := conv_zero
     have hd1 : W.cell? ⟨b, o + 1, none⟩ = some (.int .i64 (k' : Int)) := by rw [d1]; simp
     clear d1 c0 c1 f1 hcell
     have hcc : (cap : Int) - (k' : Int) = 0 ∨ 0 < (cap : Int) - (k' : Int) := by omega
     rcases hcc with hcc | hcc
     ·obtain rfl : cap = k' := by omega
      go_quiet (fail)
      go_wp2
      go_ret
      refine ⟨HO.out.drewN _, cap + 0, hcW.drewN _, hfit, ?_⟩
      rw [HQ.out]
      exact ⟨rfl, by have := HK.out; omega⟩
     ·have hne : ¬ cap = k' := by omega
      go_quiet (fail)
      go_wp2
      go_ret
      refine ⟨HO.out.drewN _, k' + 0, hcW.drewN _, hfit, ?_⟩
      rw [HQ.out]
      exact ⟨rfl, by have := HK.out; omega⟩
    ·have hcv : ∀ nq, (convert 32 9 (.slice (some ⟨sb, so + k', none⟩) x (cap - k'))).run Tryz.prog (W.drewN nq) = .ok (.string (strOfNums ((l.drop k').take x))) (W.drewN nq) := fun nq => by
      have sm := (hsW.drewN nq).mid (k := k') (m := x) hfit
      obtain ⟨b', o', e', hc'⟩ := sm.2.2 (by omega)
      cases e'
      exact run_convert_bytes_arg (P := Tryz.prog) (W.drewN nq) 32 5 Tryz.underlying32 Tryz.underlying5 sb (so + k') x (cap - k') _ sm.1 hc' 9 Tryz.underlying9
     generalize strOfNums ((l.drop k').take x) = S at *
     clear c0 c1 f1 hcell
     have hne : ¬ cap = k' := by omega
     have hcc : 0 < (cap : Int) - (k' : Int) := by omega
     go_quiet (fail)
     go_wp2
     go_ret
     refine ⟨HO.out.drewN _, k' + x, hcW.drewN _, hfit, ?_⟩
     rw [HQ.out]
     exact ⟨rfl, by have := HK.out; omega⟩
   ·have HQ : Hid (rT least most l k = .error 0) := by
     show _ = _; unfold rT; rw [hd]; show (if _ then _ else _) = _; rw [if_pos hal, if_neg (by have := hl.out; have := HK.out; omega)]
    clear hd HK0 hal
    go_wp2_with fail
    refine (allowed_any x least most _ hx h1 h2 h3 h4).mono ?_
    rintro e w2 ⟨rfl, rfl⟩
    rw [HA.out]
    go_wp2_with fail
    refine (left_any b o n cap _ k' _ hc1 hk' hn).mono ?_
    rintro e w3 ⟨rfl, q, rfl⟩
    have e0 := hR.errs.s0
    go_wp2
    refine ⟨rfl, ho.drewN _, k', hc1.drewN _, hk', ?_⟩
    rw [HQ.out]; rfl
  ·have HA : Hid (allowB x least most = false) := by show _ = _; simp only [allowB, decide_eq_false_iff_not]; exact hal
   have HQ : Hid (rT least most l k = .error 4) := by show _ = _; unfold rT; rw [hd]; exact if_neg hal
   have e4 := hR.errs.s4
   clear hd HK0 hal
   go_wp2_with fail
   refine (allowed_any x least most _ hx h1 h2 h3 h4).mono ?_
   rintro e w2 ⟨rfl, rfl⟩
   rw [HA.out]
   go_wp2
   refine ⟨rfl, ho, k', hc1, hk', ?_⟩
   rw [HQ.out]; rfl
end Go.Proofs.YtibfdoggolkljaaGreatDoor
