/- Texts of the proof, joined. -/
import Derived.Test.YtlhididcanedhaaGreatDoorJ20
import Derived.Test.YtlhididcanedhaaGreatDoorJ03
/- The contracts of unpack, list and Unpack. -/
namespace Go.Proofs.YtlhididcanedhaaGreatDoor
open Go.RowKit Go.Wire1

theorem upk2_len {l : List Int} (hy : Byt l) {n p : Nat} {xs : List Int} (h : upk2 l n = .ok (xs, p)) : xs.length = n ∧ p ≤ l.length ∧ okL xs = true := by
  unfold upk2 at h
  cases hd : dec l with
  | error i => rw [hd] at h; cases h
  | ok q =>
    obtain ⟨mk, p0⟩ := q
    rw [hd] at h
    simp only at h
    split at h
    · cases h
    · exact rd2_len hy (dec_len hy hd).2.2 h
theorem upk_len {l : List Int} (hy : Byt l) {v n : Int} {p : Nat} {xs : List Int} (h : upk v n l = .ok (xs, p)) : (xs.length : Int) = n ∧ p ≤ l.length ∧ isVec xs = true := by
  unfold upk at h
  split at h
  · split at h
    · rename_i hn
      have key : xs.length = n.toNat ∧ p ≤ l.length ∧ okL xs = true := by
        split at h
        · exact rd1_len hy h
        · exact upk2_len hy h
      refine ⟨by omega, key.2.1, ?_⟩
      unfold isVec
      rw [key.2.2, show okW xs.length = true from decide_eq_true (by omega)]; rfl
    · cases h
  · cases h

theorem rd1_pos {l : List Int} : ∀ {k e : Nat}, rd1 l k = .error e → 1 ≤ e
  | 0, e, h => by simp [rd1] at h
  | k + 1, e, h => by
    simp only [rd1] at h
    split at h
    · rename_i hh; simp only [Except.error.injEq] at h; subst h; exact rd1_pos hh
    · split at h
      · simp only [Except.error.injEq] at h; omega
      · split at h
        · simp only [Except.error.injEq] at h; omega
        · cases h
theorem rd2_pos {l : List Int} {mk p0 : Nat} : ∀ {k e : Nat}, rd2 l mk p0 k = .error e → 1 ≤ e
  | 0, e, h => by simp [rd2] at h
  | k + 1, e, h => by
    simp only [rd2] at h
    split at h
    · rename_i hh; simp only [Except.error.injEq] at h; subst h; exact rd2_pos hh
    · split at h
      · split at h
        · rename_i hh; simp only [Except.error.injEq] at h; subst h; have := entry_err hh; omega
        · cases h
      · cases h
theorem upk_err {v n : Int} {l : List Int} {e : Nat} (h : upk v n l = .error e) : 1 ≤ e := by
  unfold upk at h
  split at h
  · split at h
    · split at h
      · exact rd1_pos h
      · unfold upk2 at h
        split at h
        · simp only [Except.error.injEq] at h; omega
        · split at h
          · simp only [Except.error.injEq] at h; omega
          · exact rd2_pos h
    · simp only [Except.error.injEq] at h; omega
  · simp only [Except.error.injEq] at h; omega

set_option maxHeartbeats 1000000 in
set_option maxRecDepth 100000 in
theorem unpack_any (v : Int) (n m cap : Nat) (sa : Option Addr) (l : List Int) (a : Nat → Addr) (w : World) (hv : v = 1 ∨ v = 2) (hn : 1 ≤ n ∧ n ≤ 7) (hs : Seg w sa m l) (hsrc : Src sa m cap) (hy : Byt l) (he : Errs w a) :
    Calls Tryz.prog 132 #[.int .i64 v, .int .i64 (n : Int), .slice sa m cap] w fun e w' => e = .returned (.tuple #[.agg (arrL (upL (upk v n l))).toArray, .int .i64 (upN (upk v n l) : Int), .int .i64 (upE (upk v n l) : Int)]) ∧ Below w.heap.size w w' := by
  obtain ⟨R, hR⟩ : ∃ R, Hid (upk v n l = R) := ⟨_, rfl⟩
  rw [hR.out]
  have HS : Hid (Seg w sa m l) := hs
  have HE : Hid (Errs w a) := he
  have HY : Hid (Byt l) := hy
  have HC : Hid (Src sa m cap) := hsrc
  obtain ⟨x0, x1, x2, x3, x4, x5, x6, HX⟩ : ∃ x0 x1 x2 x3 x4 x5 x6 : Int, Hid (arrL (upL R) = [.int .i64 x0, .int .i64 x1, .int .i64 x2, .int .i64 x3, .int .i64 x4, .int .i64 x5, .int .i64 x6]) := ⟨_, _, _, _, _, _, _, rfl⟩
  obtain ⟨W1, hW1⟩ : ∃ W1, W1 = w.alloc (.cells zer7.toArray 151) := ⟨_, rfl⟩
  have B1 : Hid (Below w.heap.size w W1) := by rw [hW1]; exact (Below.refl _ _).more (Nat.le_refl _) _
  have R1 : Hid (Arr W1 w.heap.size w.heap.size []) := by rw [hW1]; exact arr_zero w (Nat.le_refl _)
  clear hs he hy hsrc
  unfold zer7 at hW1
  rcases hv with rfl | rfl
  · have HR : Hid (rd1 l n = R) := by show _ = _; rw [← hR.out]; unfold upk; rw [if_pos (.inl rfl), if_pos (by omega), if_pos rfl, Int.toNat_natCast]
    clear hR
    go_enter Tryz.func132, Tryz.ntmps132
    go_wp2_with fail
    rw [← hW1]
    clear hW1
    refine (unpackPlain_any n m cap sa l a _ hn.2 (HS.out.below B1.out (Nat.le_refl _)) HC.out HY.out (HE.out.below B1.out (Nat.le_refl _))).mono ?_
    rw [HR.out]
    rintro e w2 ⟨rfl, hb2⟩
    have HB : Hid (Below w.heap.size w w2) := B1.out.on hb2 (Nat.le_refl _)
    have HZ : Hid (Arr w2 w.heap.size w.heap.size []) := R1.out.below hb2 (Nat.le_refl _)
    rw [HX.out]
    clear hb2 R1 B1 HR
    have d0 := Arr.cell HZ.out 0 (by decide)
    have d1 := Arr.cell HZ.out 1 (by decide)
    have d2 := Arr.cell HZ.out 2 (by decide)
    have d3 := Arr.cell HZ.out 3 (by decide)
    have d4 := Arr.cell HZ.out 4 (by decide)
    have d5 := Arr.cell HZ.out 5 (by decide)
    have d6 := Arr.cell HZ.out 6 (by decide)
    simp only [arrL, List.getElem?_cons_zero, List.getElem?_cons_succ, List.getD_nil] at d0 d1 d2 d3 d4 d5 d6
    have e0 := Arr.frozen HZ.out 0
    have e1 := Arr.frozen HZ.out 1
    have e2 := Arr.frozen HZ.out 2
    have e3 := Arr.frozen HZ.out 3
    have e4 := Arr.frozen HZ.out 4
    have e5 := Arr.frozen HZ.out 5
    have e6 := Arr.frozen HZ.out 6
    go_wp2
    refine bodyPost_ret (v := .tuple #[.agg #[.int .i64 x0, .int .i64 x1, .int .i64 x2, .int .i64 x3, .int .i64 x4, .int .i64 x5, .int .i64 x6], .int .i64 (upN R : Int), .int .i64 (upE R : Int)]) (by simp [results, Tryz.results132, go_sem, d0, d1, d2, d3, d4, d5, d6]) rfl ⟨?_, ?_⟩
    · rw [HX.out]
    · exact below_store (below_store (below_store (below_store (below_store (below_store (below_store HB.out (Nat.le_refl _) _) (Nat.le_refl _) _) (Nat.le_refl _) _) (Nat.le_refl _) _) (Nat.le_refl _) _) (Nat.le_refl _) _) (Nat.le_refl _) _
  · have HR : Hid (upk2 l n = R) := by show _ = _; rw [← hR.out]; unfold upk; rw [if_pos (.inr rfl), if_pos (by omega), if_neg (by decide), Int.toNat_natCast]
    clear hR
    go_enter Tryz.func132, Tryz.ntmps132
    go_wp2_with fail
    rw [← hW1]
    clear hW1
    refine (unpackTight_any n m cap sa l a _ hn.2 (HS.out.below B1.out (Nat.le_refl _)) HC.out HY.out (HE.out.below B1.out (Nat.le_refl _))).mono ?_
    rw [HR.out]
    rintro e w2 ⟨rfl, hb2⟩
    have HB : Hid (Below w.heap.size w w2) := B1.out.on hb2 (Nat.le_refl _)
    have HZ : Hid (Arr w2 w.heap.size w.heap.size []) := R1.out.below hb2 (Nat.le_refl _)
    rw [HX.out]
    clear hb2 R1 B1 HR
    have d0 := Arr.cell HZ.out 0 (by decide)
    have d1 := Arr.cell HZ.out 1 (by decide)
    have d2 := Arr.cell HZ.out 2 (by decide)
    have d3 := Arr.cell HZ.out 3 (by decide)
    have d4 := Arr.cell HZ.out 4 (by decide)
    have d5 := Arr.cell HZ.out 5 (by decide)
    have d6 := Arr.cell HZ.out 6 (by decide)
    simp only [arrL, List.getElem?_cons_zero, List.getElem?_cons_succ, List.getD_nil] at d0 d1 d2 d3 d4 d5 d6
    have e0 := Arr.frozen HZ.out 0
    have e1 := Arr.frozen HZ.out 1
    have e2 := Arr.frozen HZ.out 2
    have e3 := Arr.frozen HZ.out 3
    have e4 := Arr.frozen HZ.out 4
    have e5 := Arr.frozen HZ.out 5
    have e6 := Arr.frozen HZ.out 6
    go_wp2
    refine bodyPost_ret (v := .tuple #[.agg #[.int .i64 x0, .int .i64 x1, .int .i64 x2, .int .i64 x3, .int .i64 x4, .int .i64 x5, .int .i64 x6], .int .i64 (upN R : Int), .int .i64 (upE R : Int)]) (by simp [results, Tryz.results132, go_sem, d0, d1, d2, d3, d4, d5, d6]) rfl ⟨?_, ?_⟩
    · rw [HX.out]
    · exact below_store (below_store (below_store (below_store (below_store (below_store (below_store HB.out (Nat.le_refl _) _) (Nat.le_refl _) _) (Nat.le_refl _) _) (Nat.le_refl _) _) (Nat.le_refl _) _) (Nat.le_refl _) _) (Nat.le_refl _) _

theorem copiedA {w1 : World} {g b n : Nat} {cur : List Value} {l : List Int} (h : ∀ k, k < 7 → w1.cell? ⟨b, k, none⟩ = some (.int .i64 (l.getD k 0))) (hl : l.length = n) (h7 : n ≤ 7) (hcl : cur.length = n) (hrow : w1.heap[g]? = some (.cells cur.toArray 3 (0, 0))) {w : World} {B : Nat} (hb : Below B w w1) (hB : B ≤ g) :
    ∃ w2, (Builtin.copy_ #[28, 28] 3 #[.slice (some ⟨g, 0, none⟩) n n, .slice (some ⟨b, 0, none⟩) 7 7]).run Tryz.prog w1 = .ok (.int .i64 (n : Int)) w2 ∧ MineI w2 B g n n l ∧ Below B w w2 := by
  have hrun := run_copy_row (P := Tryz.prog) w1 28 28 3 3 g 0 n n ⟨b, 0, none⟩ 7 7 cur.toArray 3 (l.map (Value.int .i64)) Tryz.underlying28 Tryz.size3 hrow
    (by rw [List.length_map, hl]; exact (Nat.min_eq_right h7).symm)
    (fun j v hv => by
      rw [List.getElem?_map] at hv
      have hj : j < l.length := by
        rcases Nat.lt_or_ge j l.length with h | h
        · exact h
        · rw [List.getElem?_eq_none h] at hv; cases hv
      rw [List.getElem?_eq_getElem hj] at hv
      simp only [Option.map_some, Option.some.injEq] at hv
      subst hv
      rw [add_at, Nat.zero_add, h j (by omega), List.getD, List.getElem?_eq_getElem hj]
      rfl)
    (by rw [List.length_map, List.size_toArray]; omega)
    (fun v hv => by obtain ⟨x, _, rfl⟩ := List.mem_map.1 hv; rfl)
  have e : (cur.toArray.toList.take 0 ++ l.map (Value.int .i64) ++ cur.toArray.toList.drop (0 + (l.map (Value.int .i64)).length)) = l.map (Value.int .i64) := by
    simp [hl, ← hcl]
  have hm : n ≤ maxLen := by unfold maxLen; omega
  rw [e, List.length_map, hl] at hrun
  refine ⟨_, hrun, ?_, below_setRow hb hB _⟩
  have h2 := setRow_heap w1 g cur.toArray (l.map (Value.int .i64)).toArray 3 (0, 0) hrow
  exact ⟨own_of_row h2 hB (by rw [List.length_map]; exact hl) hm, hl, Nat.le_refl _, hm, hB⟩

theorem arrL_at (l : List Int) {k : Nat} (hk : k < 7) : (arrL l)[k]? = some (.int .i64 (l.getD k 0)) := by
  match k, hk with
  | 0, _ => rfl
  | 1, _ => rfl
  | 2, _ => rfl
  | 3, _ => rfl
  | 4, _ => rfl
  | 5, _ => rfl
  | 6, _ => rfl

set_option maxHeartbeats 1000000 in
set_option maxRecDepth 100000 in
theorem list_any {cs : Array Value} (l : List Int) (hcs : (arrL l).toArray = cs) (n : Nat) (w : World) (hl : l.length = n) (hn : n ≤ 7) :
    Calls Tryz.prog 133 #[.agg cs, .int .i64 (n : Int)] w fun e w' => ∃ v, e = .returned v ∧ w'.ownsRow w.heap.size 3 1 v l.length (l.map (Value.int .i64)) ∧ Below w.heap.size w w' := by
  obtain ⟨i0, hi, hz0, hz1, hz2⟩ := info_parts Tryz.info3
  subst hcs
  have HL : Hid (l.length = n) := hl
  have hmx : n ≤ maxLen := by unfold maxLen; omega
  obtain ⟨W1, hW1⟩ : ∃ W1, W1 = w.alloc (.cells (arrL l).toArray 151) := ⟨_, rfl⟩
  have B1 : Hid (Below w.heap.size w W1) := by rw [hW1]; exact (Below.refl _ _).more (Nat.le_refl _) _
  have A1 : Hid (∀ k, k < 7 → W1.cell? ⟨w.heap.size, k, none⟩ = some (.int .i64 (l.getD k 0))) := fun k hk => by
    rw [hW1, cell_new, arrL_at l hk]
  have hs1 : Hid (W1.heap.size = w.heap.size + 1) := by show _ = _; rw [hW1]; simp
  clear hl
  go_enter Tryz.func133, Tryz.ntmps133
  go_wp2_with (first
    | (at_make; rw [← hW1]; clear hW1; refine wpList_make_full _ rfl _ _ 28 rfl W1.heap.size 3 i0 (.int .i64 0) 1 Tryz.underlying28 hi hz0 hz1 .i64 .i64 _ _ n rfl rfl (by omega) (by omega) (by rw [hz2]; omega) hmx (Nat.le_refl _) ?_))
  intro w2 hown hgrow
  have hb : Below W1.heap.size W1 w2 := (Below.refl W1.heap.size W1).grown hgrow (Nat.le_refl _) (fun j hj => by cases hj)
  obtain ⟨cur, hcl, hrow⟩ := made_row hown
  obtain ⟨w3, hrun, hmine, hb3⟩ := copiedA (b := w.heap.size) (l := l) (fun k hk => by rw [hb.cell (p := ⟨w.heap.size, k, none⟩) (by have := hs1.out; show w.heap.size < _; omega)]; exact A1.out k hk) HL.out hn hcl hrow hb (Nat.le_refl _)
  have O1 : Hid (w3.ownsRow w.heap.size 3 1 (.slice (some ⟨W1.heap.size, 0, none⟩) n n) l.length (l.map (Value.int .i64))) := by
    rw [HL.out]; exact own_base hmine.1 (by have := hs1.out; omega)
  have BB : Hid (Below w.heap.size w w3) := B1.out.on hb3 (Nat.le_refl _)
  clear hown hgrow hrow hcl hmine hb3 hb
  go_wp2
  go_ret
  exact ⟨_, rfl, O1.out, BB.out⟩

set_option maxHeartbeats 1000000 in
set_option maxRecDepth 100000 in
theorem unpackF_any (v n : Int) (m cap : Nat) (sa : Option Addr) (l : List Int) (a : Nat → Addr) (w : World) (hs : Seg w sa m l) (hsrc : Src sa m cap) (hy : Byt l) (he : Errs w a) :
    Calls Tryz.prog 92 #[.int .i64 v, .int .i64 n, .slice sa m cap] w fun e w' => ∃ u, e = .returned (.tuple #[u, .int .i64 (upN (upk v n l) : Int), .int .i64 (upE (upk v n l) : Int)]) ∧ w'.ownsRow w.heap.size 3 1 u (upL (upk v n l)).length ((upL (upk v n l)).map (Value.int .i64)) ∧ Below w.heap.size w w' := by
  obtain ⟨R, hR⟩ : ∃ R, Hid (upk v n l = R) := ⟨_, rfl⟩
  rw [hR.out]
  have HS : Hid (Seg w sa m l) := hs
  have HE : Hid (Errs w a) := he
  have HY : Hid (Byt l) := hy
  have HC : Hid (Src sa m cap) := hsrc
  clear hs he hy hsrc
  go_enter Tryz.func92, Tryz.ntmps92
  go_wp2_with fail
  refine (visVersion_any v _).mono ?_
  rintro e w' ⟨rfl, rfl⟩
  cases hv : okV v with
  | false =>
    have HQ : Hid (R = .error 2) := by show _ = _; rw [← hR.out]; unfold upk; rw [if_neg (of_decide_eq_false hv)]
    clear hv
    go_wp2
    go_ret3
    exact ⟨_, by rw [HQ.out]; rfl, by rw [HQ.out]; exact World.ownsRow_nil _ _ _ _, Below.refl _ _⟩
  | true =>
    have HV := hide (of_decide_eq_true hv)
    clear hv
    go_wp2_with fail
    refine (isWidth_any n _).mono ?_
    rintro e w' ⟨rfl, rfl⟩
    cases hn : okI n with
    | false =>
      have HQ : Hid (R = .error 3) := by show _ = _; rw [← hR.out]; unfold upk; rw [if_pos HV.out, if_neg (of_decide_eq_false hn)]
      clear hn
      go_wp2
      go_ret3
      exact ⟨_, by rw [HQ.out]; rfl, by rw [HQ.out]; exact World.ownsRow_nil _ _ _ _, Below.refl _ _⟩
    | true =>
      have hn2 := of_decide_eq_true hn
      obtain ⟨nn, rfl⟩ := Int.eq_ofNat_of_zero_le (show 0 ≤ n by omega)
      clear hn
      obtain ⟨x0, x1, x2, x3, x4, x5, x6, HX⟩ : ∃ x0 x1 x2 x3 x4 x5 x6 : Int, Hid (arrL (upL R) = [.int .i64 x0, .int .i64 x1, .int .i64 x2, .int .i64 x3, .int .i64 x4, .int .i64 x5, .int .i64 x6]) := ⟨_, _, _, _, _, _, _, rfl⟩
      go_wp2_with fail
      refine (unpack_any v nn m cap sa l a _ HV.out (by omega) HS.out HC.out HY.out HE.out).mono ?_
      rw [hR.out]
      rintro e w1 ⟨rfl, hb1⟩
      have B1 : Hid (Below w.heap.size w w1) := hb1
      have BA : Hid (Below w.heap.size w (w1.alloc (.cells #[.int .i64 x0, .int .i64 x1, .int .i64 x2, .int .i64 x3, .int .i64 x4, .int .i64 x5, .int .i64 x6] 151))) := hb1.more (Nat.le_refl _) _
      rw [HX.out]
      clear hb1
      cases R with
      | error er =>
        have her : 1 ≤ er := upk_err hR.out
        have hne : ((er : Int) != 0) = true := by rw [bne_iff_ne]; omega
        simp only [upN, upE]
        clear hR
        go_wp2
        go_ret3
        exact ⟨_, rfl, World.ownsRow_nil _ _ _ _, BA.out⟩
      | ok q =>
        obtain ⟨xs, p⟩ := q
        have hlen := upk_len HY.out hR.out
        have HLn : Hid (xs.length = nn) := by show _ = _; omega
        have HX2 : Hid ((arrL xs).toArray = #[.int .i64 x0, .int .i64 x1, .int .i64 x2, .int .i64 x3, .int .i64 x4, .int .i64 x5, .int .i64 x6]) := by show _ = _; have := HX.out; simp only [upL] at this; rw [this]
        have hsz : Hid (w.heap.size ≤ (w1.alloc (.cells #[.int .i64 x0, .int .i64 x1, .int .i64 x2, .int .i64 x3, .int .i64 x4, .int .i64 x5, .int .i64 x6] 151)).heap.size) := BA.out.size
        simp only [upN, upE]
        clear hR hlen HX
        go_wp2_with fail
        refine (list_any xs HX2.out nn _ HLn.out (by omega)).mono ?_
        rintro e w2 ⟨u, rfl, hown, hb2⟩
        have O1 := hide (own_base (B' := w.heap.size) hown hsz.out)
        have BB : Hid (Below w.heap.size w w2) := BA.out.on hb2 (Nat.le_refl _)
        clear hown hb2 hsz
        go_wp2
        go_ret3
        exact ⟨_, rfl, O1.out, BB.out⟩

theorem fit_up {l : List Int} (hy : Byt l) (v n : Int) : Fit (upL (upk v n l)) := by
  cases h : upk v n l with
  | error e => exact fit_of (fun x hx => by cases hx)
  | ok q =>
    obtain ⟨xs, p⟩ := q
    have := (upk_len hy h).2.2
    unfold isVec at this
    simp only [Bool.and_eq_true] at this
    exact fit_ok this.2
end Go.Proofs.YtlhididcanedhaaGreatDoor
