/- Texts of the proof, joined. -/
import Derived.Test.YtlhididcanedhaaGreatDoorJ18
/- The contracts of unpackPlain and entryFrom. -/
namespace Go.Proofs.YtlhididcanedhaaGreatDoor
open Go.RowKit Go.Wire1

theorem getU_ok {n cap : Nat} {sa : Option Addr} {l : List Int} {a : Nat → Addr} {w w0 : World} {B : Nat} (hb : Below B w0 w) (hB : B ≤ w0.heap.size) (hs : Seg w sa n l) (hy : Byt l) (he : Errs w a) {x m : Nat} (hd : dec l = .ok (x, m)) :
    Calls Tryz.prog 147 #[.slice sa n cap] w fun e w' => e = .returned (.tuple #[.int .u64 (x : Int), .int .i64 (m : Int), .int .i64 0]) ∧ Below B w0 w' ∧ Below w.heap.size w w' :=
  (getUint_any n cap sa l a w hs hy he).mono fun e w' ⟨h1, h2⟩ => by rw [hd] at h2; exact ⟨h2, hb.on h1 hB, h1⟩
theorem getU_bad {n cap : Nat} {sa : Option Addr} {l : List Int} {a : Nat → Addr} {w w0 : World} {B : Nat} (hb : Below B w0 w) (hB : B ≤ w0.heap.size) (hs : Seg w sa n l) (hy : Byt l) (he : Errs w a) {i : Nat} (hd : dec l = .error i) :
    Calls Tryz.prog 147 #[.slice sa n cap] w fun e w' => e = .returned (.tuple #[.int .u64 0, .int .i64 0, .int .i64 (11 + (i : Int))]) ∧ Below B w0 w' ∧ Below w.heap.size w w' :=
  (getUint_any n cap sa l a w hs hy he).mono fun e w' ⟨h1, h2⟩ => by rw [hd] at h2; exact ⟨h2, hb.on h1 hB, h1⟩
theorem getI_ok {n cap : Nat} {sa : Option Addr} {l : List Int} {a : Nat → Addr} {w w0 : World} {B : Nat} (hb : Below B w0 w) (hB : B ≤ w0.heap.size) (hs : Seg w sa n l) (hy : Byt l) (he : Errs w a) {x m : Nat} (hd : dec l = .ok (x, m)) :
    Calls Tryz.prog 187 #[.slice sa n cap] w fun e w' => e = .returned (.tuple #[.int .i64 (unzig x), .int .i64 (m : Int), .int .i64 0]) ∧ Below B w0 w' ∧ Below w.heap.size w w' :=
  (getInt_any n cap sa l a w hs hy he).mono fun e w' ⟨h1, h2⟩ => by rw [hd] at h2; exact ⟨h2, hb.on h1 hB, h1⟩
theorem getI_bad {n cap : Nat} {sa : Option Addr} {l : List Int} {a : Nat → Addr} {w w0 : World} {B : Nat} (hb : Below B w0 w) (hB : B ≤ w0.heap.size) (hs : Seg w sa n l) (hy : Byt l) (he : Errs w a) {i : Nat} (hd : dec l = .error i) :
    Calls Tryz.prog 187 #[.slice sa n cap] w fun e w' => e = .returned (.tuple #[.int .i64 0, .int .i64 0, .int .i64 (11 + (i : Int))]) ∧ Below B w0 w' ∧ Below w.heap.size w w' :=
  (getInt_any n cap sa l a w hs hy he).mono fun e w' ⟨h1, h2⟩ => by rw [hd] at h2; exact ⟨h2, hb.on h1 hB, h1⟩

/-- Seven entries in a block of our own. -/
def Arr (w : World) (B g : Nat) (xs : List Int) : Prop := w.ownsRow B 151 1 (.slice (some ⟨g, 0, none⟩) 7 7) 7 (arrL xs)
theorem Arr.below {w w' : World} {B C g : Nat} {xs : List Int} (h : Arr w B g xs) (hb : Below C w w') (hC : w.heap.size ≤ C) : Arr w' B g xs := by
  refine ⟨h.1, ?_⟩
  rcases h.2 with ⟨h1, _⟩ | ⟨g', cap, cur, e, hB, hh, r⟩
  · cases h1
  · injection e with e1 e2 e3
    injection e1 with e1
    injection e1 with e1
    subst e1
    exact .inr ⟨g, cap, cur, by rw [e3], hB, by rw [hb.block g (by have := (Array.getElem?_eq_some_iff.1 hh).1; omega)]; exact hh, r⟩
theorem Arr.cell {w : World} {B g : Nat} {xs : List Int} (h : Arr w B g xs) (j : Nat) (hj : j < 7) : w.cell? ⟨g, j, none⟩ = (arrL xs)[j]? := by
  have := World.ownsRow.cellAt h j (by show j < 7 * 1; omega)
  exact this
theorem Arr.frozen {w : World} {B g : Nat} {xs : List Int} (h : Arr w B g xs) (j : Nat) : w.frozen? ⟨g, j, none⟩ = false := World.ownsRow.frozenAt h j
theorem arr_set {xs : List Int} {k : Nat} {y : Int} (hl : xs.length = k) (hk : k < 7) : (arrL xs).set k (.int .i64 y) = arrL (xs ++ [y]) := by
  subst hl
  match xs, hk with
  | [], _ => rfl
  | [_], _ => rfl
  | [_, _], _ => rfl
  | [_, _, _], _ => rfl
  | [_, _, _, _], _ => rfl
  | [_, _, _, _, _], _ => rfl
  | [_, _, _, _, _, _], _ => rfl
  | _ :: _ :: _ :: _ :: _ :: _ :: _ :: r, h => simp only [List.length_cons] at h; omega
theorem arr_int {xs : List Int} {k : Nat} {vv : Value} (h : some vv = (arrL xs)[k]?) : ∃ z, vv = .int .i64 z := by
  have hm : vv ∈ arrL xs := List.mem_of_getElem? h.symm
  unfold arrL at hm
  simp only [List.mem_cons, List.not_mem_nil, or_false] at hm
  rcases hm with rfl | rfl | rfl | rfl | rfl | rfl | rfl <;> exact ⟨_, rfl⟩
theorem Arr.store {w : World} {B g : Nat} {xs : List Int} (h : Arr w B g xs) {k : Nat} (hl : xs.length = k) (hk : k < 7) (y : Int) : Arr (w.setCell ⟨g, k, none⟩ (.int .i64 y)) B g (xs ++ [y]) := by
  unfold Arr
  rw [← arr_set hl hk]
  exact (World.ownsRow.stored h k _).1
/-- A store into another block. -/
theorem Arr.beside {w : World} {B g g' k : Nat} {xs : List Int} (h : Arr w B g xs) (hne : g ≠ g') (v : Value) : Arr (w.setCell ⟨g', k, none⟩ v) B g xs := by
  refine ⟨h.1, ?_⟩
  rcases h.2 with ⟨h1, _⟩ | ⟨g2, cap, cur, e, hB, hh, r⟩
  · cases h1
  · injection e with e1 e2 e3
    injection e1 with e1
    injection e1 with e1
    subst e1
    exact .inr ⟨g, cap, cur, by rw [e3], hB, by rw [Below.heap_setCell _ _ _ _ hne]; exact hh, r⟩
theorem arr_zero (w : World) {B : Nat} (hB : B ≤ w.heap.size) : Arr (w.alloc (.cells zer7.toArray 151)) B w.heap.size [] :=
  ⟨rfl, .inr ⟨w.heap.size, 7, zer7.toArray, rfl, hB, heap_alloc_new w _, Nat.le_refl _, by unfold maxLen; omega, rfl, rfl⟩⟩
theorem Arr.lt {w : World} {B g : Nat} {xs : List Int} (h : Arr w B g xs) : g < w.heap.size := (World.ownsRow.lt h g rfl).2
theorem Arr.on {w : World} {B g : Nat} {xs : List Int} (h : Arr w B g xs) (o : Obj) : Arr (w.alloc o) B g xs := h.below ((Below.refl w.heap.size w).alloc (Nat.le_refl _) o) (Nat.le_refl _)

/-- The bytes from a place on, as a slice has them. -/
def cutA (sa : Option Addr) (cap p : Nat) : Option Addr := if p = cap then sa else sa.map fun x => ⟨x.block, x.off + p, none⟩
theorem seg_cut {w : World} {b off n cap p : Nat} {l : List Int} (h : Seg w (some ⟨b, off, none⟩) n l) (hp : p ≤ n) (hc : n ≤ cap) : Seg w (if p = cap then some ⟨b, off, none⟩ else some ⟨b, off + p, none⟩) (n - p) (l.drop p) := by
  by_cases e : p = cap
  · rw [if_pos e]
    have h0 : n - p = 0 := by omega
    have h1 : l.drop p = [] := List.drop_eq_nil_of_le (by rw [h.1]; omega)
    rw [h0, h1]; exact seg_empty _ _
  · rw [if_neg e]; exact h.from hp

/-- What is known of the bytes that came in. -/
def Src (sa : Option Addr) (n cap : Nat) : Prop := (n = 0 ∧ cap = 0) ∨ ((∃ b off, sa = some ⟨b, off, none⟩) ∧ n ≤ cap ∧ cap ≤ maxLen)

theorem seven {P : List Int → Prop} (xs : List Int) (h : ∀ x0 x1 x2 x3 x4 x5 x6 : Int, arrL xs = [.int .i64 x0, .int .i64 x1, .int .i64 x2, .int .i64 x3, .int .i64 x4, .int .i64 x5, .int .i64 x6] → P xs) : P xs := h _ _ _ _ _ _ _ rfl

set_option maxHeartbeats 1000000 in
set_option maxRecDepth 100000 in
theorem unpackPlain_any (n m cap : Nat) (sa : Option Addr) (l : List Int) (a : Nat → Addr) (w : World) (hn : n ≤ 7) (hs : Seg w sa m l) (hsrc : Src sa m cap) (hy : Byt l) (he : Errs w a) :
    Calls Tryz.prog 155 #[.int .i64 (n : Int), .slice sa m cap] w fun e w' => e = .returned (.tuple #[.agg (arrL (upL (rd1 l n))).toArray, .int .i64 (upN (rd1 l n) : Int), .int .i64 (upE (rd1 l n) : Int)]) ∧ Below w.heap.size w w' := by
  obtain ⟨R, hR⟩ : ∃ R, Hid (rd1 l n = R) := ⟨_, rfl⟩
  rw [hR.out]
  have HS : Hid (Seg w sa m l) := hs
  have HL : Hid (l.length = m) := hs.1
  have HE : Hid (Errs w a) := he
  have HY : Hid (Byt l) := hy
  obtain ⟨W2, hW2⟩ : ∃ W2, W2 = (w.alloc (.cells zer7.toArray 151)).alloc (.cells zer7.toArray 151) := ⟨_, rfl⟩
  have B2 : Hid (Below w.heap.size w W2) := by rw [hW2]; exact (((Below.refl _ _).more (Nat.le_refl _) _).more (Nat.le_refl _) _)
  have R2 : Hid (Arr W2 w.heap.size w.heap.size []) := by rw [hW2]; exact (arr_zero w (Nat.le_refl _)).on _
  have A2 : Hid (Arr W2 w.heap.size (w.heap.size + 1) []) := by
    have := arr_zero (w.alloc (.cells zer7.toArray 151)) (B := w.heap.size) (by rw [World.size_alloc]; omega)
    rw [World.size_alloc] at this
    rw [hW2]; exact this
  clear hs he hy
  unfold zer7 at hW2
  go_enter Tryz.func155, Tryz.ntmps155
  go_wp2
  rw [← hW2]
  clear hW2
  go_loopw [8, 14] (fun q i wr => ∃ k p : Nat, i = .int .i64 (k : Int) ∧ k ≤ n ∧ q = .int .i64 (p : Int) ∧ p ≤ m ∧ (∃ xs, Hid (rd1 l k = .ok (xs, p)) ∧ Hid (Arr wr w.heap.size (w.heap.size + 1) xs)) ∧ Hid (Arr wr w.heap.size w.heap.size []) ∧ Hid (Below w.heap.size w wr)) (fun _ i _ => n - (intOf i).toNat)
  case atStart => exact ⟨0, 0, rfl, Nat.zero_le _, rfl, Nat.zero_le _, ⟨[], rfl, A2⟩, R2, B2⟩
  case round =>
    obtain ⟨k, p, rfl, hk, rfl, hp, ⟨xs, HR, HA⟩, HZ, HB⟩ := hrel
    have hxs := rd1_len HY.out HR.out
    by_cases hlt : k < n
    · rcases hsrc with ⟨rfl, rfl⟩ | ⟨⟨b, off, rfl⟩, hmc, hcm⟩
      · obtain rfl : p = 0 := by omega
        have hnil : Hid (l.drop 0 = []) := by show _ = _; rw [List.drop_zero, List.eq_nil_of_length_eq_zero HL.out]
        rcases sa with _ | ad
        all_goals
          have HQ : Hid (R = .error 11) := by show _ = _; rw [← hR.out]; exact rd1_err' (rd1_bad HR.out (i := 0) (by rw [hnil.out]; rfl)) (by omega)
          clear hR
          go_wp2_with fail
          refine (getU_bad (l := []) HB.out (Nat.le_refl _) (seg_empty _ _) (fun z hz => by cases hz) (HE.out.below HB.out (Nat.le_refl _)) (i := 0) rfl).mono ?_
          rintro e w2 ⟨rfl, hb2, hb2'⟩
          have HB2 : Hid (Below w.heap.size w w2) := hb2
          have HZ2 : Hid (Arr w2 w.heap.size w.heap.size []) := HZ.out.below hb2' (Nat.le_refl _)
          clear hb2 hb2' HZ HA HR
          have d0 := Arr.cell HZ2.out 0 (by decide)
          have d1 := Arr.cell HZ2.out 1 (by decide)
          have d2 := Arr.cell HZ2.out 2 (by decide)
          have d3 := Arr.cell HZ2.out 3 (by decide)
          have d4 := Arr.cell HZ2.out 4 (by decide)
          have d5 := Arr.cell HZ2.out 5 (by decide)
          have d6 := Arr.cell HZ2.out 6 (by decide)
          simp only [arrL, List.getElem?_cons_zero, List.getElem?_cons_succ, List.getD_nil] at d0 d1 d2 d3 d4 d5 d6
          have e0 := Arr.frozen HZ2.out 0
          have e1 := Arr.frozen HZ2.out 1
          have e2 := Arr.frozen HZ2.out 2
          have e3 := Arr.frozen HZ2.out 3
          have e4 := Arr.frozen HZ2.out 4
          have e5 := Arr.frozen HZ2.out 5
          have e6 := Arr.frozen HZ2.out 6
          go_wp2
          refine bodyPost_ret (v := .tuple #[.agg #[.int .i64 0, .int .i64 0, .int .i64 0, .int .i64 0, .int .i64 0, .int .i64 0, .int .i64 0], .int .i64 0, .int .i64 11]) (by simp [results, Tryz.results155, go_sem, d0, d1, d2, d3, d4, d5, d6]) rfl ⟨?_, ?_⟩
          · rw [HQ.out]; rfl
          · exact below_store (below_store (below_store (below_store (below_store (below_store (below_store HB2.out (Nat.le_refl _) _) (Nat.le_refl _) _) (Nat.le_refl _) _) (Nat.le_refl _) _) (Nat.le_refl _) _) (Nat.le_refl _) _) (Nat.le_refl _) _
      · unfold maxLen at hcm
        by_cases hpc : p = cap
        · obtain rfl : p = m := by omega
          subst hpc
          have hnil : Hid (l.drop p = []) := List.drop_eq_nil_of_le (by rw [HL.out]; omega)
          have HQ : Hid (R = .error 11) := by show _ = _; rw [← hR.out]; exact rd1_err' (rd1_bad HR.out (i := 0) (by rw [hnil.out]; rfl)) (by omega)
          clear hR
          go_wp2_with fail
          refine (getU_bad (l := []) HB.out (Nat.le_refl _) (seg_empty _ _) (fun z hz => by cases hz) (HE.out.below HB.out (Nat.le_refl _)) (i := 0) rfl).mono ?_
          rintro e w2 ⟨rfl, hb2, hb2'⟩
          have HB2 : Hid (Below w.heap.size w w2) := hb2
          have HZ2 : Hid (Arr w2 w.heap.size w.heap.size []) := HZ.out.below hb2' (Nat.le_refl _)
          clear hb2 hb2' HZ HA HR
          have d0 := Arr.cell HZ2.out 0 (by decide)
          have d1 := Arr.cell HZ2.out 1 (by decide)
          have d2 := Arr.cell HZ2.out 2 (by decide)
          have d3 := Arr.cell HZ2.out 3 (by decide)
          have d4 := Arr.cell HZ2.out 4 (by decide)
          have d5 := Arr.cell HZ2.out 5 (by decide)
          have d6 := Arr.cell HZ2.out 6 (by decide)
          simp only [arrL, List.getElem?_cons_zero, List.getElem?_cons_succ, List.getD_nil] at d0 d1 d2 d3 d4 d5 d6
          have e0 := Arr.frozen HZ2.out 0
          have e1 := Arr.frozen HZ2.out 1
          have e2 := Arr.frozen HZ2.out 2
          have e3 := Arr.frozen HZ2.out 3
          have e4 := Arr.frozen HZ2.out 4
          have e5 := Arr.frozen HZ2.out 5
          have e6 := Arr.frozen HZ2.out 6
          go_wp2
          refine bodyPost_ret (v := .tuple #[.agg #[.int .i64 0, .int .i64 0, .int .i64 0, .int .i64 0, .int .i64 0, .int .i64 0, .int .i64 0], .int .i64 0, .int .i64 11]) (by simp [results, Tryz.results155, go_sem, d0, d1, d2, d3, d4, d5, d6]) rfl ⟨?_, ?_⟩
          · rw [HQ.out]; rfl
          · exact below_store (below_store (below_store (below_store (below_store (below_store (below_store HB2.out (Nat.le_refl _) _) (Nat.le_refl _) _) (Nat.le_refl _) _) (Nat.le_refl _) _) (Nat.le_refl _) _) (Nat.le_refl _) _) (Nat.le_refl _) _
        · have SD : Hid (Seg wr (some ⟨b, off + p, none⟩) (m - p) (l.drop p)) := by
            have := seg_cut (HS.out.below HB.out (Nat.le_refl _)) hp hmc
            rwa [if_neg hpc] at this
          have BD : Hid (Byt (l.drop p)) := byt_drop HY.out p
          cases hd : dec (l.drop p) with
          | error i =>
            have hi3 := dec_err hd
            have HQ : Hid (R = .error (11 + i)) := by show _ = _; rw [← hR.out]; exact rd1_err' (rd1_bad HR.out hd) (by omega)
            have HD : Hid (dec (l.drop p) = .error i) := hd
            have hne : ((11 + (i : Int)) != 0) = true := by rw [bne_iff_ne]; omega
            clear hd hR
            go_wp2_with fail
            refine (getU_bad HB.out (Nat.le_refl _) SD.out BD.out (HE.out.below HB.out (Nat.le_refl _)) HD.out).mono ?_
            rintro e w2 ⟨rfl, hb2, hb2'⟩
            have HB2 : Hid (Below w.heap.size w w2) := hb2
            have HZ2 : Hid (Arr w2 w.heap.size w.heap.size []) := HZ.out.below hb2' (Nat.le_refl _)
            clear hb2 hb2' HZ HA SD HR
            have d0 := Arr.cell HZ2.out 0 (by decide)
            have d1 := Arr.cell HZ2.out 1 (by decide)
            have d2 := Arr.cell HZ2.out 2 (by decide)
            have d3 := Arr.cell HZ2.out 3 (by decide)
            have d4 := Arr.cell HZ2.out 4 (by decide)
            have d5 := Arr.cell HZ2.out 5 (by decide)
            have d6 := Arr.cell HZ2.out 6 (by decide)
            simp only [arrL, List.getElem?_cons_zero, List.getElem?_cons_succ, List.getD_nil] at d0 d1 d2 d3 d4 d5 d6
            have e0 := Arr.frozen HZ2.out 0
            have e1 := Arr.frozen HZ2.out 1
            have e2 := Arr.frozen HZ2.out 2
            have e3 := Arr.frozen HZ2.out 3
            have e4 := Arr.frozen HZ2.out 4
            have e5 := Arr.frozen HZ2.out 5
            have e6 := Arr.frozen HZ2.out 6
            go_wp2
            refine bodyPost_ret (v := .tuple #[.agg #[.int .i64 0, .int .i64 0, .int .i64 0, .int .i64 0, .int .i64 0, .int .i64 0, .int .i64 0], .int .i64 0, .int .i64 (11 + (i : Int))]) (by simp [results, Tryz.results155, go_sem, d0, d1, d2, d3, d4, d5, d6]) rfl ⟨?_, ?_⟩
            · rw [HQ.out]; rfl
            · exact below_store (below_store (below_store (below_store (below_store (below_store (below_store HB2.out (Nat.le_refl _) _) (Nat.le_refl _) _) (Nat.le_refl _) _) (Nat.le_refl _) _) (Nat.le_refl _) _) (Nat.le_refl _) _) (Nat.le_refl _) _
          | ok q =>
            obtain ⟨x, mm⟩ := q
            have hml := dec_len BD.out hd
            rw [List.length_drop, HL.out] at hml
            have hxl := dec_lt BD.out hd
            have HD : Hid (dec (l.drop p) = .ok (x, mm)) := hd
            clear hd
            go_wp2_with fail
            refine (getU_ok HB.out (Nat.le_refl _) SD.out BD.out (HE.out.below HB.out (Nat.le_refl _)) HD.out).mono ?_
            rintro e w2 ⟨rfl, hb2, hb2'⟩
            have HB2 : Hid (Below w.heap.size w w2) := hb2
            have HZ2 : Hid (Arr w2 w.heap.size w.heap.size []) := HZ.out.below hb2' (Nat.le_refl _)
            have HA2 : Hid (Arr w2 w.heap.size (w.heap.size + 1) xs) := HA.out.below hb2' (Nat.le_refl _)
            clear hb2 hb2' HZ HA SD
            by_cases hx : (1048576 : Int) < (x : Int)
            · have HQ : Hid (R = .error 32) := by show _ = _; rw [← hR.out]; exact rd1_err' (rd1_big HR.out HD.out (by omega)) (by omega)
              clear hR HR
              have d0 := Arr.cell HZ2.out 0 (by decide)
              have d1 := Arr.cell HZ2.out 1 (by decide)
              have d2 := Arr.cell HZ2.out 2 (by decide)
              have d3 := Arr.cell HZ2.out 3 (by decide)
              have d4 := Arr.cell HZ2.out 4 (by decide)
              have d5 := Arr.cell HZ2.out 5 (by decide)
              have d6 := Arr.cell HZ2.out 6 (by decide)
              simp only [arrL, List.getElem?_cons_zero, List.getElem?_cons_succ, List.getD_nil] at d0 d1 d2 d3 d4 d5 d6
              have e0 := Arr.frozen HZ2.out 0
              have e1 := Arr.frozen HZ2.out 1
              have e2 := Arr.frozen HZ2.out 2
              have e3 := Arr.frozen HZ2.out 3
              have e4 := Arr.frozen HZ2.out 4
              have e5 := Arr.frozen HZ2.out 5
              have e6 := Arr.frozen HZ2.out 6
              go_wp2
              refine bodyPost_ret (v := .tuple #[.agg #[.int .i64 0, .int .i64 0, .int .i64 0, .int .i64 0, .int .i64 0, .int .i64 0, .int .i64 0], .int .i64 0, .int .i64 32]) (by simp [results, Tryz.results155, go_sem, d0, d1, d2, d3, d4, d5, d6]) rfl ⟨?_, ?_⟩
              · rw [HQ.out]; rfl
              · exact below_store (below_store (below_store (below_store (below_store (below_store (below_store HB2.out (Nat.le_refl _) _) (Nat.le_refl _) _) (Nat.le_refl _) _) (Nat.le_refl _) _) (Nat.le_refl _) _) (Nat.le_refl _) _) (Nat.le_refl _) _
            · have HR' : Hid (rd1 l (k + 1) = .ok (xs ++ [(x : Int)], p + mm)) := rd1_step HR.out HD.out (by omega)
              have HA3 : Hid (Arr (w2.setCell ⟨w.heap.size + 1, k, none⟩ (.int .i64 (x : Int))) w.heap.size (w.heap.size + 1) (xs ++ [(x : Int)])) := HA2.out.store hxs.1 (by omega) _
              have HZ3 : Hid (Arr (w2.setCell ⟨w.heap.size + 1, k, none⟩ (.int .i64 (x : Int))) w.heap.size w.heap.size []) := HZ2.out.beside (by omega) _
              have HB3 : Hid (Below w.heap.size w (w2.setCell ⟨w.heap.size + 1, k, none⟩ (.int .i64 (x : Int)))) := below_store HB2.out (by omega) _
              have fz := HA2.out.frozen k
              obtain ⟨vv, cx⟩ : ∃ vv, w2.cell? ⟨w.heap.size + 1, k, none⟩ = some vv := by
                rw [HA2.out.cell k (by omega)]
                exact ⟨_, List.getElem?_eq_getElem (by show k < 7; omega)⟩
              obtain ⟨z, rfl⟩ : ∃ z, vv = .int .i64 z := arr_int (by rw [← cx, HA2.out.cell k (by omega)])
              clear HR hR HA2 HZ2 HB2
              go_wp2
              go_roundw
              case rel => exact ⟨k + 1, p + mm, by go_num, by omega, by go_num, by omega, ⟨_, HR', HA3⟩, HZ3, HB3⟩
              case measure => simp [intOf]; omega
    · obtain rfl : n = k := by omega
      have HQ : Hid (R = .ok (xs, p)) := by show _ = _; rw [← hR.out]; exact HR.out
      clear hR HR
      clear hsrc
      obtain ⟨x0, x1, x2, x3, x4, x5, x6, HX⟩ : ∃ x0 x1 x2 x3 x4 x5 x6 : Int, Hid (arrL xs = [.int .i64 x0, .int .i64 x1, .int .i64 x2, .int .i64 x3, .int .i64 x4, .int .i64 x5, .int .i64 x6]) := ⟨_, _, _, _, _, _, _, rfl⟩
      have c0 := Arr.cell HA.out 0 (by decide)
      have c1 := Arr.cell HA.out 1 (by decide)
      have c2 := Arr.cell HA.out 2 (by decide)
      have c3 := Arr.cell HA.out 3 (by decide)
      have c4 := Arr.cell HA.out 4 (by decide)
      have c5 := Arr.cell HA.out 5 (by decide)
      have c6 := Arr.cell HA.out 6 (by decide)
      rw [HX.out] at c0 c1 c2 c3 c4 c5 c6
      simp only [List.getElem?_cons_zero, List.getElem?_cons_succ] at c0 c1 c2 c3 c4 c5 c6
      have d0 := Arr.cell HZ.out 0 (by decide)
      have d1 := Arr.cell HZ.out 1 (by decide)
      have d2 := Arr.cell HZ.out 2 (by decide)
      have d3 := Arr.cell HZ.out 3 (by decide)
      have d4 := Arr.cell HZ.out 4 (by decide)
      have d5 := Arr.cell HZ.out 5 (by decide)
      have d6 := Arr.cell HZ.out 6 (by decide)
      simp only [arrL, List.getElem?_cons_zero, List.getElem?_cons_succ, List.getD_nil] at d0 d1 d2 d3 d4 d5 d6
      have e0 := Arr.frozen HZ.out 0
      have e1 := Arr.frozen HZ.out 1
      have e2 := Arr.frozen HZ.out 2
      have e3 := Arr.frozen HZ.out 3
      have e4 := Arr.frozen HZ.out 4
      have e5 := Arr.frozen HZ.out 5
      have e6 := Arr.frozen HZ.out 6
      go_wp2
      refine bodyPost_ret (v := .tuple #[.agg #[.int .i64 x0, .int .i64 x1, .int .i64 x2, .int .i64 x3, .int .i64 x4, .int .i64 x5, .int .i64 x6], .int .i64 (p : Int), .int .i64 0]) (by simp [results, Tryz.results155, go_sem, d0, d1, d2, d3, d4, d5, d6]) rfl ⟨?_, ?_⟩
      · rw [HQ.out]
        show _ = Ending.returned (.tuple #[.agg (arrL xs).toArray, .int .i64 (p : Int), .int .i64 0])
        rw [HX.out]
      · exact below_store (below_store (below_store (below_store (below_store (below_store (below_store HB.out (Nat.le_refl _) _) (Nat.le_refl _) _) (Nat.le_refl _) _) (Nat.le_refl _) _) (Nat.le_refl _) _) (Nat.le_refl _) _) (Nat.le_refl _) _
end Go.Proofs.YtlhididcanedhaaGreatDoor
/- The contract of entryFrom: a difference, and the entry that it makes. -/
namespace Go.Proofs.YtlhididcanedhaaGreatDoor
open Go.RowKit Go.Wire1

def enY : Except Nat (Int × Nat) → Int
  | .ok (y, _) => y
  | .error _ => 0
def enM : Except Nat (Int × Nat) → Nat
  | .ok (_, m) => m
  | .error _ => 0
def enE : Except Nat (Int × Nat) → Nat
  | .ok _ => 0
  | .error e => e

set_option maxHeartbeats 1000000 in
set_option maxRecDepth 100000 in
theorem entryFrom_any (q : Int) (m cap : Nat) (sa : Option Addr) (l : List Int) (a : Nat → Addr) (w : World) (hq : 0 ≤ q ∧ q ≤ 1048576) (hs : Seg w sa m l) (hy : Byt l) (he : Errs w a) :
    Calls Tryz.prog 173 #[.int .i64 q, .slice sa m cap] w fun e w' => e = .returned (.tuple #[.int .i64 (enY (entry q l)), .int .i64 (enM (entry q l) : Int), .int .i64 (enE (entry q l) : Int)]) ∧ Below w.heap.size w w' := by
  have HS : Hid (Seg w sa m l) := hs
  have HE : Hid (Errs w a) := he
  have HY : Hid (Byt l) := hy
  obtain ⟨R, hR⟩ : ∃ R, Hid (entry q l = R) := ⟨_, rfl⟩
  rw [hR.out]
  clear hs he hy
  cases hd : dec l with
  | error i =>
    have hi3 := dec_err hd
    have HQ : Hid (R = .error (11 + i)) := by show _ = _; rw [← hR.out]; unfold entry; rw [hd]
    have HD : Hid (dec l = .error i) := hd
    have hne : ((11 + (i : Int)) != 0) = true := by rw [bne_iff_ne]; omega
    clear hd hR
    go_enter Tryz.func173, Tryz.ntmps173
    go_wp2_with fail
    refine (getI_bad (Below.refl w.heap.size w) (Nat.le_refl _) HS.out HY.out HE.out HD.out).mono ?_
    rintro e w2 ⟨rfl, hb2, -⟩
    have HB2 : Hid (Below w.heap.size w w2) := hb2
    clear hb2
    go_wp2
    go_ret3
    exact ⟨by rw [HQ.out]; rfl, HB2.out⟩
  | ok p =>
    obtain ⟨u, k⟩ := p
    have hu := dec_lt HY.out hd
    have hub := unzig_bd u hu
    have HD : Hid (dec l = .ok (u, k)) := hd
    have HF : Hid (R = if unzig u = 0 then .error 34 else if unzig u < -q ∨ 1048576 - q < unzig u then .error 32 else .ok (q + unzig u, k)) := by show _ = _; rw [← hR.out]; unfold entry; rw [hd]
    clear hd hR hu
    obtain ⟨d, hdd⟩ : ∃ d, Hid (unzig u = d) := ⟨_, rfl⟩
    rw [hdd.out] at HF hub
    by_cases h0 : d = 0
    · subst h0
      have HQ : Hid (R = .error 34) := by show _ = _; rw [HF.out, if_pos rfl]
      go_enter Tryz.func173, Tryz.ntmps173
      go_wp2_with fail
      refine (getI_ok (Below.refl w.heap.size w) (Nat.le_refl _) HS.out HY.out HE.out HD.out).mono ?_
      rintro e w2 ⟨rfl, hb2, -⟩
      have HB2 : Hid (Below w.heap.size w w2) := hb2
      rw [hdd.out]
      clear hb2
      go_wp2
      go_ret3
      exact ⟨by rw [HQ.out]; rfl, HB2.out⟩
    · have hz : (d == 0) = false := beq_eq_false_iff_ne.2 h0
      by_cases h1 : d < -q
      · have HQ : Hid (R = .error 32) := by show _ = _; rw [HF.out, if_neg h0, if_pos (.inl h1)]
        go_enter Tryz.func173, Tryz.ntmps173
        go_wp2_with fail
        refine (getI_ok (Below.refl w.heap.size w) (Nat.le_refl _) HS.out HY.out HE.out HD.out).mono ?_
        rintro e w2 ⟨rfl, hb2, -⟩
        have HB2 : Hid (Below w.heap.size w w2) := hb2
        rw [hdd.out]
        clear hb2 h0
        go_wp2
        go_ret3
        exact ⟨by rw [HQ.out]; rfl, HB2.out⟩
      · by_cases h2 : 1048576 - q < d
        · have HQ : Hid (R = .error 32) := by show _ = _; rw [HF.out, if_neg h0, if_pos (.inr h2)]
          go_enter Tryz.func173, Tryz.ntmps173
          go_wp2_with fail
          refine (getI_ok (Below.refl w.heap.size w) (Nat.le_refl _) HS.out HY.out HE.out HD.out).mono ?_
          rintro e w2 ⟨rfl, hb2, -⟩
          have HB2 : Hid (Below w.heap.size w w2) := hb2
          rw [hdd.out]
          clear hb2 h0
          go_wp2
          go_ret3
          exact ⟨by rw [HQ.out]; rfl, HB2.out⟩
        · have HQ : Hid (R = .ok (q + d, k)) := by show _ = _; rw [HF.out, if_neg h0, if_neg (by omega)]
          go_enter Tryz.func173, Tryz.ntmps173
          go_wp2_with fail
          refine (getI_ok (Below.refl w.heap.size w) (Nat.le_refl _) HS.out HY.out HE.out HD.out).mono ?_
          rintro e w2 ⟨rfl, hb2, -⟩
          have HB2 : Hid (Below w.heap.size w w2) := hb2
          rw [hdd.out]
          clear hb2 h0
          go_wp2
          go_ret3
          exact ⟨by rw [HQ.out]; rfl, HB2.out⟩
theorem entryFrom_res {q : Int} {m cap : Nat} {sa : Option Addr} {l : List Int} {a : Nat → Addr} {w w0 : World} {B : Nat} (hb : Below B w0 w) (hB : B ≤ w0.heap.size) (hq : 0 ≤ q ∧ q ≤ 1048576) (hs : Seg w sa m l) (hy : Byt l) (he : Errs w a) {r : Except Nat (Int × Nat)} (hr : entry q l = r) :
    Calls Tryz.prog 173 #[.int .i64 q, .slice sa m cap] w fun e w' => e = .returned (.tuple #[.int .i64 (enY r), .int .i64 (enM r : Int), .int .i64 (enE r : Int)]) ∧ Below B w0 w' ∧ Below w.heap.size w w' :=
  (entryFrom_any q m cap sa l a w hq hs hy he).mono fun e w' ⟨h1, h2⟩ => by rw [hr] at h1; exact ⟨h1, hb.on h2 hB, h2⟩
end Go.Proofs.YtlhididcanedhaaGreatDoor
