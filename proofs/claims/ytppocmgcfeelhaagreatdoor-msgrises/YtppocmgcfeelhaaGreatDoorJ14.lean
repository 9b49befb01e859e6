import Derived.Deep.RegionHeld3
import Derived.Test.YtppocmgcfeelhaaGreatDoorJ13
set_option maxHeartbeats 8000000
set_option maxRecDepth 100000
namespace Go.Proofs.YtppocmgcfeelhaaGreatDoor
open Go.RowKit Go.Wire1
theorem upk2_len {l : List Int} (hy : Byt l) {n p : Nat} {xs : List Int} (h : upk2 l n = .ok (xs, p)) : xs.length = n ∧ p ≤ l.length ∧ okL xs = true := by
 unfold upk2 at h
 cases hd : dec l with
 | error i => rw [hd] at h; cases h
 | ok q =>
  obtain ⟨mk, p0⟩ := q
  rw [hd] at h
  simp only at h
  split at h
  ·cases h
  ·exact rd2_len hy (dec_len hy hd).2.2 h
theorem upk_len {l : List Int} (hy : Byt l) {v n : Int} {p : Nat} {xs : List Int} (h : upk v n l = .ok (xs, p)) : (xs.length : Int) = n ∧ p ≤ l.length ∧ isVec xs = true := by
 unfold upk at h
 split at h
 ·split at h
  ·rename_i hn
   have key : xs.length = n.toNat ∧ p ≤ l.length ∧ okL xs = true := by
    split at h
    ·exact rd1_len hy h
    ·exact upk2_len hy h
   refine ⟨by omega, key.2.1, ?_⟩
   unfold isVec
   rw [key.2.2, show okW xs.length = true from decide_eq_true (by omega)]; rfl
  ·cases h
 ·cases h
theorem rd1_pos {l : List Int} : ∀ {k e : Nat}, rd1 l k = .error e → 1 ≤ e
 | 0, e, h => by simp [rd1] at h
 | k + 1, e, h => by
  simp only [rd1] at h
  split at h
  ·rename_i hh; simp only [Except.error.injEq] at h; subst h; exact rd1_pos hh
  ·split at h
   ·simp only [Except.error.injEq] at h; omega
   ·split at h
    ·simp only [Except.error.injEq] at h; omega
    ·cases h
theorem rd2_pos {l : List Int} {mk p0 : Nat} : ∀ {k e : Nat}, rd2 l mk p0 k = .error e → 1 ≤ e
 | 0, e, h => by simp [rd2] at h
 | k + 1, e, h => by
  simp only [rd2] at h
  split at h
  ·rename_i hh; simp only [Except.error.injEq] at h; subst h; exact rd2_pos hh
  ·split at h
   ·split at h
    ·rename_i hh; simp only [Except.error.injEq] at h; subst h; have := entry_err hh; omega
    ·cases h
   ·cases h
theorem upk_err {v n : Int} {l : List Int} {e : Nat} (h : upk v n l = .error e) : 1 ≤ e := by
 unfold upk at h
 split at h
 ·split at h
  ·split at h
   ·exact rd1_pos h
   ·unfold upk2 at h
    split at h
    ·simp only [Except.error.injEq] at h; omega
    ·split at h
     ·simp only [Except.error.injEq] at h; omega
     ·exact rd2_pos h
  ·simp only [Except.error.injEq] at h; omega
 ·simp only [Except.error.injEq] at h; omega
theorem unpack_any (v : Int) (n m cap : Nat) (sa : Option Addr) (l : List Int) (a : Nat → Addr) (w : World) (hv : v = 1 ∨ v = 2) (hn : 1 ≤ n ∧ n ≤ 7) (hs : Seg w sa m l) (hsrc : Src sa m cap) (hy : Byt l) (he : Errs w a) :
  Calls Tryz.prog 82 #[.int .i64 v, .int .i64 n, .slice sa m cap] w fun e w' => e = .returned (.tuple #[.agg (arrL (upL (upk v n l))).toArray, .int .i64 (upN (upk v n l) : Int), .int .i64 (upE (upk v n l) : Int)]) ∧ Below w.heap.size w w' := by
 obtain ⟨R, hR⟩ : ∃ R, Hid (upk v n l = R) := ⟨_, rfl⟩
 rw [hR.out]
 have HS : Hid (Seg w sa m l) := hs
 have HE : Hid (Errs w a) := he
 have HY : Hid (Byt l) := hy
 have HC : Hid (Src sa m cap) := hsrc
 obtain ⟨x0, x1, x2, x3, x4, x5, x6, HX⟩ : ∃ x0 x1 x2 x3 x4 x5 x6 : Int, Hid (arrL (upL R) = [.int .i64 x0, .int .i64 x1, .int .i64 x2, .int .i64 x3, .int .i64 x4, .int .i64 x5, .int .i64 x6]) := ⟨_, _, _, _, _, _, _, rfl⟩
 obtain ⟨W1, hW1⟩ : ∃ W1, W1 = w.alloc (.cells zer7.toArray 145) := ⟨_, rfl⟩
 have B1 : Hid (Below w.heap.size w W1) := by rw [hW1]; exact (Below.refl _ _).more zN _
 have R1 : Hid (Arr W1 w.heap.size w.heap.size []) := by rw [hW1]; exact arr_zero w zN
 clear hs he hy hsrc
 unfold zer7 at hW1
 rcases hv with rfl | rfl
 ·have HR : Hid (rd1 l n = R) := by show _ = _; rw [← hR.out]; unfold upk; rw [if_pos (.inl rfl), if_pos (by omega), if_pos rfl, Int.toNat_natCast]
  clear hR
  go_enter Tryz.func82, Tryz.ntmps82
  go_wp2_with fail
  rw [← hW1]
  clear hW1
  refine (unpackPlain_any n m cap sa l a _ hn.2 (HS.out.below B1.out zN) HC.out HY.out (HE.out.below B1.out zN)).mono ?_
  rw [HR.out]
  rintro e w2 ⟨rfl, hb2⟩
  have HB : Hid (Below w.heap.size w w2) := B1.out.on hb2 zN
  have HZ : Hid (Arr w2 w.heap.size w.heap.size []) := R1.out.below hb2 zN
  rw [HX.out]
  clear hb2 R1 B1 HR
  have d0 := Arr.cell HZ.out 0 (by decide)
  have d1 := Arr.cell HZ.out 1 (by decide)
  have d2 := Arr.cell HZ.out 2 (by decide)
  have d3 := Arr.cell HZ.out 3 (by decide)
  have d4 := Arr.cell HZ.out 4 (by decide)
  have d5 := Arr.cell HZ.out 5 (by decide)
  have d6 := Arr.cell HZ.out 6 (by decide)
  simp only [arrL, List.getElem?_cons_zero, List.getElem?_cons_succ, List.getD_nil] at d0 d1 d2 d3 d4 d5 d6
  have e0 := Arr.frozen HZ.out 0
  have e1 := Arr.frozen HZ.out 1
  have e2 := Arr.frozen HZ.out 2
  have e3 := Arr.frozen HZ.out 3
  have e4 := Arr.frozen HZ.out 4
  have e5 := Arr.frozen HZ.out 5
  have e6 := Arr.frozen HZ.out 6
  go_wp2
  refine bodyPost_ret (v := .tuple #[.agg #[.int .i64 x0, .int .i64 x1, .int .i64 x2, .int .i64 x3, .int .i64 x4, .int .i64 x5, .int .i64 x6], .int .i64 (upN R : Int), .int .i64 (upE R : Int)]) (by simp [results, Tryz.results82, go_sem, d0, d1, d2, d3, d4, d5, d6]) rfl ⟨?_, ?_⟩
  ·rw [HX.out]
  ·exact below_store (below_store (below_store (below_store (below_store (below_store (below_store HB.out zN _) zN _) zN _) zN _) zN _) zN _) zN _
 ·have HR : Hid (upk2 l n = R) := by show _ = _; rw [← hR.out]; unfold upk; rw [if_pos (.inr rfl), if_pos (by omega), if_neg (by decide), Int.toNat_natCast]
  clear hR
  go_enter Tryz.func82, Tryz.ntmps82
  go_wp2_with fail
  rw [← hW1]
  clear hW1
  refine (unpackTight_any n m cap sa l a _ hn.2 (HS.out.below B1.out zN) HC.out HY.out (HE.out.below B1.out zN)).mono ?_
  rw [HR.out]
  rintro e w2 ⟨rfl, hb2⟩
  have HB : Hid (Below w.heap.size w w2) := B1.out.on hb2 zN
  have HZ : Hid (Arr w2 w.heap.size w.heap.size []) := R1.out.below hb2 zN
  rw [HX.out]
  clear hb2 R1 B1 HR
  have d0 := Arr.cell HZ.out 0 (by decide)
  have d1 := Arr.cell HZ.out 1 (by decide)
  have d2 := Arr.cell HZ.out 2 (by decide)
  have d3 := Arr.cell HZ.out 3 (by decide)
  have d4 := Arr.cell HZ.out 4 (by decide)
  have d5 := Arr.cell HZ.out 5 (by decide)
  have d6 := Arr.cell HZ.out 6 (by decide)
  simp only [arrL, List.getElem?_cons_zero, List.getElem?_cons_succ, List.getD_nil] at d0 d1 d2 d3 d4 d5 d6
  have e0 := Arr.frozen HZ.out 0
  have e1 := Arr.frozen HZ.out 1
  have e2 := Arr.frozen HZ.out 2
  have e3 := Arr.frozen HZ.out 3
  have e4 := Arr.frozen HZ.out 4
  have e5 := Arr.frozen HZ.out 5
  have e6 := Arr.frozen HZ.out 6
  go_wp2
  refine bodyPost_ret (v := .tuple #[.agg #[.int .i64 x0, .int .i64 x1, .int .i64 x2, .int .i64 x3, .int .i64 x4, .int .i64 x5, .int .i64 x6], .int .i64 (upN R : Int), .int .i64 (upE R : Int)]) (by simp [results, Tryz.results82, go_sem, d0, d1, d2, d3, d4, d5, d6]) rfl ⟨?_, ?_⟩
  ·rw [HX.out]
  ·exact below_store (below_store (below_store (below_store (below_store (below_store (below_store HB.out zN _) zN _) zN _) zN _) zN _) zN _) zN _
theorem copiedA {w1 : World} {g b n : Nat} {cur : List Value} {l : List Int} (h : ∀ k, k < 7 → w1.cell? ⟨b, k, none⟩ = some (.int .i64 (l.getD k 0))) (hl : l.length = n) (h7 : n ≤ 7) (hcl : cur.length = n) (hrow : w1.heap[g]? = some (.cells cur.toArray 3 (0, 0))) {w : World} {B : Nat} (hb : Below B w w1) (hB : B ≤ g) :
  ∃ w2, (Builtin.copy_ #[28, 28] 3 #[.slice (some ⟨g, 0, none⟩) n n, .slice (some ⟨b, 0, none⟩) 7 7]).run Tryz.prog w1 = .ok (.int .i64 n) w2 ∧ MineI w2 B g n n l ∧ Below B w w2 := by
 have hrun := run_copy_row (P := Tryz.prog) w1 28 28 3 3 g 0 n n ⟨b, 0, none⟩ 7 7 cur.toArray 3 (l.map (Value.int .i64)) Tryz.underlying28 Tryz.size3 hrow
  (by rw [List.length_map, hl]; exact (Nat.min_eq_right h7).symm)
  (fun j v hv => by
   rw [List.getElem?_map] at hv
   have hj : j < l.length := by
    rcases Nat.lt_or_ge j l.length with h | h
    ·exact h
    ·rw [List.getElem?_eq_none h] at hv; cases hv
   rw [List.getElem?_eq_getElem hj] at hv
   simp only [Option.map_some, Option.some.injEq] at hv
   subst hv
   rw [add_at, Nat.zero_add, h j (by omega), List.getD, List.getElem?_eq_getElem hj]
   rfl)
  (by rw [List.length_map, List.size_toArray]; omega)
  (fun v hv => by obtain ⟨x, _, rfl⟩ := List.mem_map.1 hv; rfl)
 have e : (cur.toArray.toList.take 0 ++ l.map (Value.int .i64) ++ cur.toArray.toList.drop (0 + (l.map (Value.int .i64)).length)) = l.map (Value.int .i64) := by
  simp [hl, ← hcl]
 have hm : n ≤ maxLen := by unfold maxLen; omega
 rw [e, List.length_map, hl] at hrun
 refine ⟨_, hrun, ?_, below_setRow hb hB _⟩
 have h2 := setRow_heap w1 g cur.toArray (l.map (Value.int .i64)).toArray 3 (0, 0) hrow
 exact ⟨own_of_row h2 hB (by rw [List.length_map]; exact hl) hm, hl, Nat.le_refl _, hm, hB⟩
theorem arrL_at (l : List Int) {k : Nat} (hk : k < 7) : (arrL l)[k]? = some (.int .i64 (l.getD k 0)) := by
 match k, hk with
 | 0, _ => rfl
 | 1, _ => rfl
 | 2, _ => rfl
 | 3, _ => rfl
 | 4, _ => rfl
 | 5, _ => rfl
 | 6, _ => rfl
theorem list_any {cs : Array Value} (l : List Int) (hcs : (arrL l).toArray = cs) (n : Nat) (w : World) (hl : l.length = n) (hn : n ≤ 7) :
  Calls Tryz.prog 83 #[.agg cs, .int .i64 n] w fun e w' => ∃ v, e = .returned v ∧ w'.ownsRow w.heap.size 3 1 v l.length (l.map (Value.int .i64)) ∧ Below w.heap.size w w' := by
 obtain ⟨i0, hi, hz0, hz1, hz2⟩ := info_parts Tryz.info3
 subst hcs
 have HL : Hid (l.length = n) := hl
 have hmx : n ≤ maxLen := by unfold maxLen; omega
 obtain ⟨W1, hW1⟩ : ∃ W1, W1 = w.alloc (.cells (arrL l).toArray 145) := ⟨_, rfl⟩
 have B1 : Hid (Below w.heap.size w W1) := by rw [hW1]; exact (Below.refl _ _).more zN _
 have A1 : Hid (∀ k, k < 7 → W1.cell? ⟨w.heap.size, k, none⟩ = some (.int .i64 (l.getD k 0))) := fun k hk => by
  rw [hW1, cell_new, arrL_at l hk]
 have hs1 : Hid (W1.heap.size = w.heap.size + 1) := by show _ = _; rw [hW1]; simp
 clear hl
 go_enter Tryz.func83, Tryz.ntmps83
 go_wp2_with (first
  | (at_make; rw [← hW1]; clear hW1; refine wpList_make_full _ rfl _ _ 28 rfl W1.heap.size 3 i0 (.int .i64 0) 1 Tryz.underlying28 hi hz0 hz1 .i64 .i64 _ _ n rfl rfl (by omega) (by omega) (by rw [hz2]; omega) hmx zN ?_))
 intro w2 hown hgrow
 have hb : Below W1.heap.size W1 w2 := (Below.refl W1.heap.size W1).grown hgrow zN (fun j hj => by cases hj)
 obtain ⟨cur, hcl, hrow⟩ := made_row hown
 obtain ⟨w3, hrun, hmine, hb3⟩ := copiedA (b := w.heap.size) (l := l) (fun k hk => by rw [hb.cell (p := ⟨w.heap.size, k, none⟩) (by have := hs1.out; show w.heap.size < _; omega)]; exact A1.out k hk) HL.out hn hcl hrow hb zN
 have O1 : Hid (w3.ownsRow w.heap.size 3 1 (.slice (some ⟨W1.heap.size, 0, none⟩) n n) l.length (l.map (Value.int .i64))) := by
  rw [HL.out]; exact own_base hmine.1 (by have := hs1.out; omega)
 have BB : Hid (Below w.heap.size w w3) := B1.out.on hb3 zN
 clear hown hgrow hrow hcl hmine hb3 hb
 go_wp2
 go_ret
 exact ⟨_, rfl, O1.out, BB.out⟩
theorem unpackF_any (v n : Int) (m cap : Nat) (sa : Option Addr) (l : List Int) (a : Nat → Addr) (w : World) (hs : Seg w sa m l) (hsrc : Src sa m cap) (hy : Byt l) (he : Errs w a) :
  Calls Tryz.prog 72 #[.int .i64 v, .int .i64 n, .slice sa m cap] w fun e w' => ∃ u, e = .returned (.tuple #[u, .int .i64 (upN (upk v n l) : Int), .int .i64 (upE (upk v n l) : Int)]) ∧ w'.ownsRow w.heap.size 3 1 u (upL (upk v n l)).length ((upL (upk v n l)).map (Value.int .i64)) ∧ Below w.heap.size w w' := by
 obtain ⟨R, hR⟩ : ∃ R, Hid (upk v n l = R) := ⟨_, rfl⟩
 rw [hR.out]
 have HS : Hid (Seg w sa m l) := hs
 have HE : Hid (Errs w a) := he
 have HY : Hid (Byt l) := hy
 have HC : Hid (Src sa m cap) := hsrc
 clear hs he hy hsrc
 go_enter Tryz.func72, Tryz.ntmps72
 go_wp2_with fail
 refine (visVersion_any v _).mono ?_
 rintro e w' ⟨rfl, rfl⟩
 cases hv : okV v with
 | false =>
  have HQ : Hid (R = .error 2) := by show _ = _; rw [← hR.out]; unfold upk; rw [if_neg (of_decide_eq_false hv)]
  clear hv
  go_wp2
  go_ret3
  exact ⟨_, by rw [HQ.out]; rfl, by rw [HQ.out]; exact World.ownsRow_nil _ _ _ _, Below.refl _ _⟩
 | true =>
  have HV := hide (of_decide_eq_true hv)
  clear hv
  go_wp2_with fail
  refine (isWidth_any n _).mono ?_
  rintro e w' ⟨rfl, rfl⟩
  cases hn : okI n with
  | false =>
   have HQ : Hid (R = .error 3) := by show _ = _; rw [← hR.out]; unfold upk; rw [if_pos HV.out, if_neg (of_decide_eq_false hn)]
   clear hn
   go_wp2
   go_ret3
   exact ⟨_, by rw [HQ.out]; rfl, by rw [HQ.out]; exact World.ownsRow_nil _ _ _ _, Below.refl _ _⟩
  | true =>
   have hn2 := of_decide_eq_true hn
   obtain ⟨nn, rfl⟩ := zI (show 0 ≤ n by omega)
   clear hn
   obtain ⟨x0, x1, x2, x3, x4, x5, x6, HX⟩ : ∃ x0 x1 x2 x3 x4 x5 x6 : Int, Hid (arrL (upL R) = [.int .i64 x0, .int .i64 x1, .int .i64 x2, .int .i64 x3, .int .i64 x4, .int .i64 x5, .int .i64 x6]) := ⟨_, _, _, _, _, _, _, rfl⟩
   go_wp2_with fail
   refine (unpack_any v nn m cap sa l a _ HV.out (by omega) HS.out HC.out HY.out HE.out).mono ?_
   rw [hR.out]
   rintro e w1 ⟨rfl, hb1⟩
   have B1 : Hid (Below w.heap.size w w1) := hb1
   have BA : Hid (Below w.heap.size w (w1.alloc (.cells #[.int .i64 x0, .int .i64 x1, .int .i64 x2, .int .i64 x3, .int .i64 x4, .int .i64 x5, .int .i64 x6] 145))) := hb1.more zN _
   rw [HX.out]
   clear hb1
   cases R with
   | error er =>
    have her : 1 ≤ er := upk_err hR.out
    have hne : ((er : Int) != 0) = true := by rw [bne_iff_ne]; omega
    simp only [upN, upE]
    clear hR
    go_wp2
    go_ret3
    exact ⟨_, rfl, World.ownsRow_nil _ _ _ _, BA.out⟩
   | ok q =>
    obtain ⟨xs, p⟩ := q
    have hlen := upk_len HY.out hR.out
    have HLn : Hid (xs.length = nn) := by show _ = _; omega
    have HX2 : Hid ((arrL xs).toArray = #[.int .i64 x0, .int .i64 x1, .int .i64 x2, .int .i64 x3, .int .i64 x4, .int .i64 x5, .int .i64 x6]) := by show _ = _; have := HX.out; simp only [upL] at this; rw [this]
    have hsz : Hid (w.heap.size ≤ (w1.alloc (.cells #[.int .i64 x0, .int .i64 x1, .int .i64 x2, .int .i64 x3, .int .i64 x4, .int .i64 x5, .int .i64 x6] 145)).heap.size) := BA.out.size
    simp only [upN, upE]
    clear hR hlen HX
    go_wp2_with fail
    refine (list_any xs HX2.out nn _ HLn.out (by omega)).mono ?_
    rintro e w2 ⟨u, rfl, hown, hb2⟩
    have O1 := hide (own_base (B' := w.heap.size) hown hsz.out)
    have BB : Hid (Below w.heap.size w w2) := BA.out.on hb2 zN
    clear hown hb2 hsz
    go_wp2
    go_ret3
    exact ⟨_, rfl, O1.out, BB.out⟩
theorem fit_up {l : List Int} (hy : Byt l) (v n : Int) : Fit (upL (upk v n l)) := by
 cases h : upk v n l with
 | error e => exact fit_of (fun x hx => by cases hx)
 | ok q =>
  obtain ⟨xs, p⟩ := q
  have := (upk_len hy h).2.2
  unfold isVec at this
  simp only [Bool.and_eq_true] at this
  exact fit_ok this.2
open Go.RowKit Go.Wire1
def Vf (v n : Int) : Nat → Option Value := fun j =>
 if j = 2 then some (.int .i64 v) else if j = 9 then some (.int .i64 n)
 else if v = 1 then (if j = 6 then some (.func (.func 32) #[] #[]) else if j = 7 then some (.func (.func 33) #[] #[]) else if j = 8 then some (.func (.func 34) #[] #[]) else if j = 3 then some (.func (.func 29) #[] #[]) else if j = 4 then some (.func (.func 30) #[] #[]) else if j = 5 then some (.func (.func 31) #[] #[]) else none)
 else (if j = 6 then some (.func (.func 38) #[] #[]) else if j = 7 then some (.func (.func 39) #[] #[]) else if j = 8 then some (.func (.func 40) #[] #[]) else if j = 3 then some (.func (.func 35) #[] #[]) else if j = 4 then some (.func (.func 36) #[] #[]) else if j = 5 then some (.func (.func 37) #[] #[]) else none)
def iCmd (v : Int) (l : List Int) (f : Int) : Cm × List Int × Int := if f = 0 then ((decC v l).1, l.drop (decC v l).2.1, (decC v l).2.2) else (zeroC, l, f)
theorem decC_le {v : Int} {l : List Int} (hy : Byt l) : (decC v l).2.1 ≤ l.length := by
 by_cases h : (decC v l).2.2 = 0
 ·exact (decC_one hy h).2.2.2.1
 ·unfold decC at h ⊢
  split
  ·split
   ·rename_i h1 h2
    rw [if_pos h1, if_pos h2] at h
    exact absurd rfl h
   ·exact Nat.zero_le _
  ·exact Nat.zero_le _
theorem src_none {sa : Option Addr} {n cap : Nat} (h : Src sa n cap) : n ≤ cap ∧ cap ≤ 9223372036854775807 ∧ (sa = none → n = 0) := by
 rcases h with ⟨rfl, rfl⟩ | ⟨⟨b, off, rfl⟩, h1, h2⟩
 ·exact ⟨Nat.le_refl _, by omega, fun _ => rfl⟩
 ·exact ⟨h1, by unfold maxLen at h2; omega, fun q => by cases q⟩
theorem Touch.set8 {g q : Nat} {x W : World} (h : Touch g x W) (hq : x.heap.size ≤ q) (v0 v1 v2 v3 v4 v5 v6 v7 : Value) : Touch g x ((((((((W.setCell ⟨q, 0, none⟩ v0).setCell ⟨q, 1, none⟩ v1).setCell ⟨q, 2, none⟩ v2).setCell ⟨q, 3, none⟩ v3).setCell ⟨q, 4, none⟩ v4).setCell ⟨q, 5, none⟩ v5).setCell ⟨q, 6, none⟩ v6).setCell ⟨q, 7, none⟩ v7) :=
 (((((((h.setNew _ hq).setNew _ hq).setNew _ hq).setNew _ hq).setNew _ hq).setNew _ hq).setNew _ hq).setNew _ hq
theorem Scx.set8 {w0 W : World} {g q : Nat} {V : Nat → Option Value} {l : List Int} {f : Int} (h : Scx w0 W g V l f) (hq : q ≠ g) (h0 : w0.heap.size ≤ q) (v0 v1 v2 v3 v4 v5 v6 v7 : Value) : Scx w0 ((((((((W.setCell ⟨q, 0, none⟩ v0).setCell ⟨q, 1, none⟩ v1).setCell ⟨q, 2, none⟩ v2).setCell ⟨q, 3, none⟩ v3).setCell ⟨q, 4, none⟩ v4).setCell ⟨q, 5, none⟩ v5).setCell ⟨q, 6, none⟩ v6).setCell ⟨q, 7, none⟩ v7) g V l f :=
 (((((((h.other _ hq h0).other _ hq h0).other _ hq h0).other _ hq h0).other _ hq h0).other _ hq h0).other _ hq h0).other _ hq h0
theorem below_set8 {B q : Nat} {x W : World} (h : Below B x W) (hq : B ≤ q) (v0 v1 v2 v3 v4 v5 v6 v7 : Value) : Below B x ((((((((W.setCell ⟨q, 0, none⟩ v0).setCell ⟨q, 1, none⟩ v1).setCell ⟨q, 2, none⟩ v2).setCell ⟨q, 3, none⟩ v3).setCell ⟨q, 4, none⟩ v4).setCell ⟨q, 5, none⟩ v5).setCell ⟨q, 6, none⟩ v6).setCell ⟨q, 7, none⟩ v7) :=
 (((((((h.setCell (p := ⟨q, 0, none⟩) hq _).setCell (p := ⟨q, 1, none⟩) hq _).setCell (p := ⟨q, 2, none⟩) hq _).setCell (p := ⟨q, 3, none⟩) hq _).setCell (p := ⟨q, 4, none⟩) hq _).setCell (p := ⟨q, 5, none⟩) hq _).setCell (p := ⟨q, 6, none⟩) hq _).setCell (p := ⟨q, 7, none⟩) hq _
theorem Bx.kind {w : World} {q : Nat} {c : Cm} (h : Bx w q c) (x : Int) : Bx (w.setCell ⟨q, 0, none⟩ (.int .i64 x)) q { c with kind := x } := by
 obtain ⟨h0, h1, h2, h3, h4, h5, h6, h7⟩ := h.box
 refine ⟨⟨World.cell?_setCell_same w ⟨q, 0, none⟩ _ h0, ?_, ?_, ?_, ?_, ?_, ?_, ?_⟩, h.setThaw _ _⟩ <;> (rw [zO _ _ _ _ (by simp)]; assumption)
section
variable (w0 : World) (g : Nat) (v n : Int) (l : List Int)
theorem scmd_any (a : Nat → Addr) (f : Int) (w : World) (he : Errs w0 a) (hK : Knd w0) (h : Scx w0 w g (Vf v n) l f) :
  Calls Tryz.prog 56 #[.pointer (some ⟨g, 0, none⟩)] w fun r w' => r = .returned (.agg #[.int .i64 (iCmd v l f).1.kind, .int .i64 (iCmd v l f).1.client, .int .i64 (iCmd v l f).1.req, .string (iCmd v l f).1.key, .string (iCmd v l f).1.key2, .string (iCmd v l f).1.val, .string (iCmd v l f).1.old, .int .i64 (iCmd v l f).1.n]) ∧ Touch g w w' ∧ Scx w0 w' g (Vf v n) (iCmd v l f).2.1 (iCmd v l f).2.2 := by
 obtain ⟨⟨c0, c1, c2, c3, c4, c5, c6, c7⟩, l1, f1, e1⟩ : ∃ c l1 f1, Hid (iCmd v l f = (c, l1, f1)) := ⟨_, _, _, rfl⟩
 rw [e1.out]
 simp only
 obtain ⟨U, hU⟩ : ∃ U, U = w.alloc (.cells #[.int .i64 0, .int .i64 0, .int .i64 0, .string ⟨#[]⟩, .string ⟨#[]⟩, .string ⟨#[]⟩, .string ⟨#[]⟩, .int .i64 0] 27) := ⟨_, rfl⟩
 have XB : Hid (Bx U w.heap.size zeroC) := by rw [hU]; exact bx_new w 27 0 0 0 ⟨#[]⟩ ⟨#[]⟩ ⟨#[]⟩ ⟨#[]⟩ 0
 have T0 : Hid (Touch g w U) := by rw [hU]; exact Touch.ofBelow ((Below.refl _ _).alloc zN _)
 have hgl := h.lt
 have HX : Hid (Scx w0 U g (Vf v n) l f) := by rw [hU]; exact h.alloc _
 have HW := hide h.low.size
 have HE := hide he
 have HK := hide hK
 obtain ⟨sa, m, cap, hh⟩ := h
 have r0' := hh.rest
 have r1' := hh.flt
 have r2' : w.cell? ⟨g, 2, none⟩ = some (.int .i64 v) := hh.more 2 zN
 have hs : Sc w0 U g (Vf v n) sa m cap l f := by rw [hU]; exact hh.below ((Below.refl _ _).alloc zN _)
 clear hh he hK
 have r0 := hs.rest
 have r1 := hs.flt
 have r2 : U.cell? ⟨g, 2, none⟩ = some (.int .i64 v) := hs.more 2 zN
 have hsrc := src_none hs.src
 have HS := hide hs
 have HL : Hid (Below w0.heap.size w0 U.drew) := ⟨hs.low.os, hs.low.tape, hs.low.output, hs.low.size, hs.low.block⟩
 clear hs
 by_cases h0 : f = 0
 ·subst h0
  obtain ⟨kk, hkk⟩ : ∃ kk, (decC v l).2.1 = kk := ⟨_, rfl⟩
  have D : Hid (decC v l = (⟨c0, c1, c2, c3, c4, c5, c6, c7⟩, kk, f1)) := by
   have := e1.out
   unfold iCmd at this
   rw [if_pos rfl] at this
   simp only [Prod.mk.injEq] at this
   show _ = _
   rw [← this.1, ← hkk, ← this.2.2]
  have hl1 : Hid (l.drop kk = l1) := by
   have := e1.out
   unfold iCmd at this
   rw [if_pos rfl] at this
   simp only [Prod.mk.injEq] at this
   rw [← hkk]
   exact this.2.1
  have hkl : Hid (kk ≤ l.length) := by rw [← hkk]; exact decC_le HS.out.byt
  clear hkk e1
  have hgU : g < U.heap.size := cell_lt r0
  have hUg : U.heap.size ≠ g := by omega
  have BU1 : Hid (Below U.heap.size U U.drew) := (Below.refl _ _).drew
  have BU3 : Hid (Below U.heap.size U (U.drew.alloc (.cells #[.int .i64 0, .int .i64 0, .int .i64 0, .string ⟨#[]⟩, .string ⟨#[]⟩, .string ⟨#[]⟩, .string ⟨#[]⟩, .int .i64 0] 27))) := ((Below.refl _ _).drew).alloc zN _
  have F1 : ∀ W, Below U.heap.size U W → Hid (Seg W sa m l ∧ Errs W a ∧ Knd W) := fun W hb =>
   have hl := low_on HS.out.low hb HS.out.low.size
   ⟨HS.out.seg.below hl zN, HE.out.below hl zN, HK.out.below hl zN⟩
  go_enter Tryz.func56, Tryz.ntmps56
  go_wp2
  rw [← hU]
  clear hU r0' r1' r2'
  refine wp_region_noPanic ?_
  refine wp_region_held_drew (S := (fun w' => w'.cell? ⟨g, 0, none⟩ = some (.slice sa m cap) ∧ w'.cell? ⟨g, 2, none⟩ = some (.int .i64 v))) (by kernel_rfl) ⟨r0, r2⟩ (fun hHeld => ?_)
  refine tk 0 ?_
  refine tk 1 ?_
  refine tk 2 ?_
  refine tk 3 ?_
  refine tk 4 ?_
  refine tk 5 ?_
  refine tk 6 ?_
  refine tk 7 ?_
  refine tk 8 ?_
  refine tk 9 ?_
  refine wpAnyH_ready (rs := [10, 15]) (by kernel_rfl) (by simp) ?_
  refine AllReadyH.cons rfl (fun K hK => ?_) (AllReadyH.cons rfl (fun K hK => ?_) AllReadyH.nil)
  ·rw [if_pos (by rfl)]
   go_wp2_with fail
   refine (decode_any sa m cap l a v (U.drew) (F1 _ BU1.out).out.1 HS.out.byt (F1 _ BU1.out).out.2.1 (F1 _ BU1.out).out.2.2 hsrc.1 hsrc.2.1 hsrc.2.2).mono ?_
   rintro e w1 ⟨rfl, hb1⟩
   rw [D.out]
   have BW : Hid (Below U.heap.size U w1) := low_on (BU1.out) hb1 (BU1.out).size
   have k0 := (BW.out.cell (p := ⟨g, 0, none⟩) hgU).trans r0
   have k2 := (BW.out.cell (p := ⟨g, 2, none⟩) hgU).trans r2
   refine hK.out _ _ ⟨k0, k2⟩ (fun hHeld => ?_)
   clear hK K
   try skip
   refine tk 11 ?_
   refine tk 12 ?_
   refine tk 13 ?_
   refine tk 14 ?_
   refine zR 15 fun K hK => ?_
   go_wp2_with fail
   refine hK.out _ _ ⟨by simp [*, World.cell?_alloc_some], by simp [*, World.cell?_alloc_some]⟩ (fun hHeld => ?_)
   clear hK K
   try simp only [Act.put, zA, zB, zC, zD, zE, zF]
   refine zR 16 fun K hK => ?_
   have n0 := World.new_ne w1 _ k0
   go_wp2_with fail
   refine hK.out _ _ ⟨by simp [*, World.cell?_alloc_some], by simp [*, World.cell?_alloc_some]⟩ (fun hHeld => ?_)
   clear hK K
   try simp only [Act.put, zA, zB, zC, zD, zE, zF]
   refine tk 17 ?_
   refine tk 18 ?_
   refine wpAnyH_done (by kernel_rfl) ?_ _
   refine NoPanic.normal ?_
   have hUw1 : U.heap.size ≤ w1.heap.size := BW.out.size
   have BUW : Hid (Below U.heap.size U (w1.alloc (.cells #[.int .i64 c0, .int .i64 c1, .int .i64 c2, .string c3, .string c4, .string c5, .string c6, .int .i64 c7] 27))) := BW.out.alloc BW.out.size _
   have XQ : Hid (Bx (w1.alloc (.cells #[.int .i64 c0, .int .i64 c1, .int .i64 c2, .string c3, .string c4, .string c5, .string c6, .int .i64 c7] 27)) (w1.heap.size) ⟨c0, c1, c2, c3, c4, c5, c6, c7⟩) := bx_new w1 27 c0 c1 c2 c3 c4 c5 c6 c7
   have XR : Hid (Bx (w1.alloc (.cells #[.int .i64 c0, .int .i64 c1, .int .i64 c2, .string c3, .string c4, .string c5, .string c6, .int .i64 c7] 27)) w.heap.size zeroC) := XB.out.of_block (BUW.out.block w.heap.size XB.out.lt)
   have SX : Hid (Scx w0 (w1.alloc (.cells #[.int .i64 c0, .int .i64 c1, .int .i64 c2, .string c3, .string c4, .string c5, .string c6, .int .i64 c7] 27)) g (Vf v n) l 0) := HX.out.below BUW.out
   have TW : Hid (Touch g w (w1.alloc (.cells #[.int .i64 c0, .int .i64 c1, .int .i64 c2, .string c3, .string c4, .string c5, .string c6, .int .i64 c7] 27))) := T0.out.trans (Touch.ofBelow BUW.out)
   have hqg : (w1.heap.size) ≠ g := by omega
   clear hb1 BW BUW k0 k2 hHeld
   generalize (w1.alloc (.cells #[.int .i64 c0, .int .i64 c1, .int .i64 c2, .string c3, .string c4, .string c5, .string c6, .int .i64 c7] 27)) = W9 at *
   go_wp2_with fail
   refine (ipass_any w0 g (Vf v n) l kk 0 f1 _ hkl.out SX.out).mono ?_
   rintro r w2 ⟨rfl, T2, S2⟩
   have Q2 := hide (XQ.out.beside T2 hqg)
   have R2 := hide (XR.out.beside T2 (by omega))
   have a0 := Q2.out.box.1
   have a1 := Q2.out.box.2.1
   have a2 := Q2.out.box.2.2.1
   have a3 := Q2.out.box.2.2.2.1
   have a4 := Q2.out.box.2.2.2.2.1
   have a5 := Q2.out.box.2.2.2.2.2.1
   have a6 := Q2.out.box.2.2.2.2.2.2.1
   have a7 := Q2.out.box.2.2.2.2.2.2.2
   have b0 := R2.out.box.1
   have d0 := R2.out.thaw 0
   have b1 := R2.out.box.2.1
   have d1 := R2.out.thaw 1
   have b2 := R2.out.box.2.2.1
   have d2 := R2.out.thaw 2
   have b3 := R2.out.box.2.2.2.1
   have d3 := R2.out.thaw 3
   have b4 := R2.out.box.2.2.2.2.1
   have d4 := R2.out.thaw 4
   have b5 := R2.out.box.2.2.2.2.2.1
   have d5 := R2.out.thaw 5
   have b6 := R2.out.box.2.2.2.2.2.2.1
   have d6 := R2.out.thaw 6
   have b7 := R2.out.box.2.2.2.2.2.2.2
   have d7 := R2.out.thaw 7
   rw [hl1.out] at S2
   have R : Hid (Touch g w ((((((((w2.setCell ⟨w.heap.size, 0, none⟩ (.int .i64 c0)).setCell ⟨w.heap.size, 1, none⟩ (.int .i64 c1)).setCell ⟨w.heap.size, 2, none⟩ (.int .i64 c2)).setCell ⟨w.heap.size, 3, none⟩ (.string c3)).setCell ⟨w.heap.size, 4, none⟩ (.string c4)).setCell ⟨w.heap.size, 5, none⟩ (.string c5)).setCell ⟨w.heap.size, 6, none⟩ (.string c6)).setCell ⟨w.heap.size, 7, none⟩ (.int .i64 c7)) ∧ Scx w0 ((((((((w2.setCell ⟨w.heap.size, 0, none⟩ (.int .i64 c0)).setCell ⟨w.heap.size, 1, none⟩ (.int .i64 c1)).setCell ⟨w.heap.size, 2, none⟩ (.int .i64 c2)).setCell ⟨w.heap.size, 3, none⟩ (.string c3)).setCell ⟨w.heap.size, 4, none⟩ (.string c4)).setCell ⟨w.heap.size, 5, none⟩ (.string c5)).setCell ⟨w.heap.size, 6, none⟩ (.string c6)).setCell ⟨w.heap.size, 7, none⟩ (.int .i64 c7)) g (Vf v n) l1 f1) := ⟨(TW.out.trans T2).set8 zN _ _ _ _ _ _ _ _, S2.set8 (by omega) HW.out _ _ _ _ _ _ _ _⟩
   clear T2 S2 SX TW XQ XR Q2 R2
   simp only [zeroC] at b0 b1 b2 b3 b4 b5 b6 b7
   go_wp2
   refine bodyPost_ret (v := .agg #[.int .i64 c0, .int .i64 c1, .int .i64 c2, .string c3, .string c4, .string c5, .string c6, .int .i64 c7]) (by simp [results, Tryz.results56, go_sem, *]) rfl ⟨rfl, R.out⟩
  ·rw [if_pos (by rfl)]
   go_wp2_with fail
   refine hK.out _ _ ⟨by simp [*, World.cell?_alloc_some], by simp [*, World.cell?_alloc_some]⟩ (fun hHeld => ?_)
   clear hK K
   try simp only [Act.put, zA, zB, zC, zD, zE, zF]
   refine zR 10 fun K hK => ?_
   go_wp2_with fail
   refine (decode_any sa m cap l a v (U.drew.alloc (.cells #[.int .i64 0, .int .i64 0, .int .i64 0, .string ⟨#[]⟩, .string ⟨#[]⟩, .string ⟨#[]⟩, .string ⟨#[]⟩, .int .i64 0] 27)) (F1 _ BU3.out).out.1 HS.out.byt (F1 _ BU3.out).out.2.1 (F1 _ BU3.out).out.2.2 hsrc.1 hsrc.2.1 hsrc.2.2).mono ?_
   rintro e w1 ⟨rfl, hb1⟩
   rw [D.out]
   have BW : Hid (Below U.heap.size U w1) := low_on (BU3.out) hb1 (BU3.out).size
   have k0 := (BW.out.cell (p := ⟨g, 0, none⟩) hgU).trans r0
   have k2 := (BW.out.cell (p := ⟨g, 2, none⟩) hgU).trans r2
   have XC : Hid (Bx w1 U.heap.size zeroC) := Bx.of_block (bx_new U.drew 27 0 0 0 ⟨#[]⟩ ⟨#[]⟩ ⟨#[]⟩ ⟨#[]⟩ 0) (hb1.block U.heap.size (by simp))
   refine hK.out _ _ ⟨k0, k2⟩ (fun hHeld => ?_)
   clear hK K
   try skip
   refine tk 11 ?_
   refine tk 12 ?_
   refine tk 13 ?_
   refine tk 14 ?_
   refine zR 16 fun K hK => ?_
   have x0 := XC.out.box.1
   have x1 := XC.out.box.2.1
   have x2 := XC.out.box.2.2.1
   have x3 := XC.out.box.2.2.2.1
   have x4 := XC.out.box.2.2.2.2.1
   have x5 := XC.out.box.2.2.2.2.2.1
   have x6 := XC.out.box.2.2.2.2.2.2.1
   have x7 := XC.out.box.2.2.2.2.2.2.2
   have y0 := XC.out.thaw 0
   have y1 := XC.out.thaw 1
   have y2 := XC.out.thaw 2
   have y3 := XC.out.thaw 3
   have y4 := XC.out.thaw 4
   have y5 := XC.out.thaw 5
   have y6 := XC.out.thaw 6
   have y7 := XC.out.thaw 7
   simp only [zeroC] at x0 x1 x2 x3 x4 x5 x6 x7
   go_wp2_with fail
   refine hK.out _ _ ⟨by simp [*, zS], by simp [*, zS]⟩ (fun hHeld => ?_)
   clear hK K
   try simp only [Act.put, zA, zB, zC, zD, zE, zF]
   refine tk 17 ?_
   refine tk 18 ?_
   refine wpAnyH_done (by kernel_rfl) ?_ _
   refine NoPanic.normal ?_
   clear x0 x1 x2 x3 x4 x5 x6 x7 y0 y1 y2 y3 y4 y5 y6 y7
   have BUW : Hid (Below U.heap.size U (((((((((w1.setCell ⟨U.heap.size, 0, none⟩ (.int .i64 c0)).setCell ⟨U.heap.size, 1, none⟩ (.int .i64 c1)).setCell ⟨U.heap.size, 2, none⟩ (.int .i64 c2)).setCell ⟨U.heap.size, 3, none⟩ (.string c3)).setCell ⟨U.heap.size, 4, none⟩ (.string c4)).setCell ⟨U.heap.size, 5, none⟩ (.string c5)).setCell ⟨U.heap.size, 6, none⟩ (.string c6)).setCell ⟨U.heap.size, 7, none⟩ (.int .i64 c7)))) := below_set8 BW.out zN _ _ _ _ _ _ _ _
   have XQ : Hid (Bx (((((((((w1.setCell ⟨U.heap.size, 0, none⟩ (.int .i64 c0)).setCell ⟨U.heap.size, 1, none⟩ (.int .i64 c1)).setCell ⟨U.heap.size, 2, none⟩ (.int .i64 c2)).setCell ⟨U.heap.size, 3, none⟩ (.string c3)).setCell ⟨U.heap.size, 4, none⟩ (.string c4)).setCell ⟨U.heap.size, 5, none⟩ (.string c5)).setCell ⟨U.heap.size, 6, none⟩ (.string c6)).setCell ⟨U.heap.size, 7, none⟩ (.int .i64 c7))) (U.heap.size) ⟨c0, c1, c2, c3, c4, c5, c6, c7⟩) := ((((((((XC.out.kind c0).client c1).req c2).key c3).key2 c4).val c5).old c6).n c7)
   have XR : Hid (Bx (((((((((w1.setCell ⟨U.heap.size, 0, none⟩ (.int .i64 c0)).setCell ⟨U.heap.size, 1, none⟩ (.int .i64 c1)).setCell ⟨U.heap.size, 2, none⟩ (.int .i64 c2)).setCell ⟨U.heap.size, 3, none⟩ (.string c3)).setCell ⟨U.heap.size, 4, none⟩ (.string c4)).setCell ⟨U.heap.size, 5, none⟩ (.string c5)).setCell ⟨U.heap.size, 6, none⟩ (.string c6)).setCell ⟨U.heap.size, 7, none⟩ (.int .i64 c7))) w.heap.size zeroC) := XB.out.of_block (BUW.out.block w.heap.size XB.out.lt)
   have SX : Hid (Scx w0 (((((((((w1.setCell ⟨U.heap.size, 0, none⟩ (.int .i64 c0)).setCell ⟨U.heap.size, 1, none⟩ (.int .i64 c1)).setCell ⟨U.heap.size, 2, none⟩ (.int .i64 c2)).setCell ⟨U.heap.size, 3, none⟩ (.string c3)).setCell ⟨U.heap.size, 4, none⟩ (.string c4)).setCell ⟨U.heap.size, 5, none⟩ (.string c5)).setCell ⟨U.heap.size, 6, none⟩ (.string c6)).setCell ⟨U.heap.size, 7, none⟩ (.int .i64 c7))) g (Vf v n) l 0) := HX.out.below BUW.out
   have TW : Hid (Touch g w (((((((((w1.setCell ⟨U.heap.size, 0, none⟩ (.int .i64 c0)).setCell ⟨U.heap.size, 1, none⟩ (.int .i64 c1)).setCell ⟨U.heap.size, 2, none⟩ (.int .i64 c2)).setCell ⟨U.heap.size, 3, none⟩ (.string c3)).setCell ⟨U.heap.size, 4, none⟩ (.string c4)).setCell ⟨U.heap.size, 5, none⟩ (.string c5)).setCell ⟨U.heap.size, 6, none⟩ (.string c6)).setCell ⟨U.heap.size, 7, none⟩ (.int .i64 c7)))) := T0.out.trans (Touch.ofBelow BUW.out)
   have hqg : (U.heap.size) ≠ g := by omega
   clear hb1 BW BUW k0 k2 hHeld
   generalize (((((((((w1.setCell ⟨U.heap.size, 0, none⟩ (.int .i64 c0)).setCell ⟨U.heap.size, 1, none⟩ (.int .i64 c1)).setCell ⟨U.heap.size, 2, none⟩ (.int .i64 c2)).setCell ⟨U.heap.size, 3, none⟩ (.string c3)).setCell ⟨U.heap.size, 4, none⟩ (.string c4)).setCell ⟨U.heap.size, 5, none⟩ (.string c5)).setCell ⟨U.heap.size, 6, none⟩ (.string c6)).setCell ⟨U.heap.size, 7, none⟩ (.int .i64 c7))) = W9 at *
   go_wp2_with fail
   refine (ipass_any w0 g (Vf v n) l kk 0 f1 _ hkl.out SX.out).mono ?_
   rintro r w2 ⟨rfl, T2, S2⟩
   have Q2 := hide (XQ.out.beside T2 hqg)
   have R2 := hide (XR.out.beside T2 (by omega))
   have a0 := Q2.out.box.1
   have a1 := Q2.out.box.2.1
   have a2 := Q2.out.box.2.2.1
   have a3 := Q2.out.box.2.2.2.1
   have a4 := Q2.out.box.2.2.2.2.1
   have a5 := Q2.out.box.2.2.2.2.2.1
   have a6 := Q2.out.box.2.2.2.2.2.2.1
   have a7 := Q2.out.box.2.2.2.2.2.2.2
   have b0 := R2.out.box.1
   have d0 := R2.out.thaw 0
   have b1 := R2.out.box.2.1
   have d1 := R2.out.thaw 1
   have b2 := R2.out.box.2.2.1
   have d2 := R2.out.thaw 2
   have b3 := R2.out.box.2.2.2.1
   have d3 := R2.out.thaw 3
   have b4 := R2.out.box.2.2.2.2.1
   have d4 := R2.out.thaw 4
   have b5 := R2.out.box.2.2.2.2.2.1
   have d5 := R2.out.thaw 5
   have b6 := R2.out.box.2.2.2.2.2.2.1
   have d6 := R2.out.thaw 6
   have b7 := R2.out.box.2.2.2.2.2.2.2
   have d7 := R2.out.thaw 7
   rw [hl1.out] at S2
   have R : Hid (Touch g w ((((((((w2.setCell ⟨w.heap.size, 0, none⟩ (.int .i64 c0)).setCell ⟨w.heap.size, 1, none⟩ (.int .i64 c1)).setCell ⟨w.heap.size, 2, none⟩ (.int .i64 c2)).setCell ⟨w.heap.size, 3, none⟩ (.string c3)).setCell ⟨w.heap.size, 4, none⟩ (.string c4)).setCell ⟨w.heap.size, 5, none⟩ (.string c5)).setCell ⟨w.heap.size, 6, none⟩ (.string c6)).setCell ⟨w.heap.size, 7, none⟩ (.int .i64 c7)) ∧ Scx w0 ((((((((w2.setCell ⟨w.heap.size, 0, none⟩ (.int .i64 c0)).setCell ⟨w.heap.size, 1, none⟩ (.int .i64 c1)).setCell ⟨w.heap.size, 2, none⟩ (.int .i64 c2)).setCell ⟨w.heap.size, 3, none⟩ (.string c3)).setCell ⟨w.heap.size, 4, none⟩ (.string c4)).setCell ⟨w.heap.size, 5, none⟩ (.string c5)).setCell ⟨w.heap.size, 6, none⟩ (.string c6)).setCell ⟨w.heap.size, 7, none⟩ (.int .i64 c7)) g (Vf v n) l1 f1) := ⟨(TW.out.trans T2).set8 zN _ _ _ _ _ _ _ _, S2.set8 (by omega) HW.out _ _ _ _ _ _ _ _⟩
   clear T2 S2 SX TW XQ XR Q2 R2
   simp only [zeroC] at b0 b1 b2 b3 b4 b5 b6 b7
   go_wp2
   refine bodyPost_ret (v := .agg #[.int .i64 c0, .int .i64 c1, .int .i64 c2, .string c3, .string c4, .string c5, .string c6, .int .i64 c7]) (by simp [results, Tryz.results56, go_sem, *]) rfl ⟨rfl, R.out⟩
 ·obtain ⟨e2, e3, e4⟩ : Hid (zeroC = ⟨c0, c1, c2, c3, c4, c5, c6, c7⟩ ∧ l = l1 ∧ f = f1) := by
   have := e1.out
   unfold iCmd at this
   rw [if_neg h0] at this
   simp only [Prod.mk.injEq] at this
   exact this
  simp only [zeroC, Cm.mk.injEq] at e2
  obtain ⟨rfl, rfl, rfl, rfl, rfl, rfl, rfl, rfl⟩ := e2
  subst e3 e4
  have g1 : (f != 0) = true := by simpa using h0
  have R : Hid (Touch g w U ∧ Scx w0 U g (Vf v n) l f) := ⟨T0.out, HX.out⟩
  clear h0 e1 HS HX T0 XB
  subst hU
  go_enter Tryz.func56, Tryz.ntmps56
  go_wp2
  refine bodyPost_ret (v := .agg #[.int .i64 0, .int .i64 0, .int .i64 0, .string ⟨#[]⟩, .string ⟨#[]⟩, .string ⟨#[]⟩, .string ⟨#[]⟩, .int .i64 0]) (by simp [results, Tryz.results56, go_sem, *]) rfl ⟨rfl, R.out⟩
end
end Go.Proofs.YtppocmgcfeelhaaGreatDoor
