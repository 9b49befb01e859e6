/- The contracts of the statements' own alike and least. -/
import Derived.Test.YtkddbcgkfnmgbaaVNum
import Derived.Test.YtkddbcgkfnmgbaaVRefs
import Derived.Test.YtkddbcgkfnmgbaaVPreds
import Derived.Test.YtkddbcgkfnmgbaaVSound
namespace Go.Proofs.Ytkddbcgkfnmgbaa
open Go.RowKit Go.Wire1

def alikeS (L : List (List Int)) : Bool := decide (0 < L.length) && L.all fun l => isVec l && decide (l.length = (L.getD 0 []).length)
theorem alikeS_both {L : List (List Int)} (h : alikeS L = true) : alikeB L = true ∧ L.all okL = true := by
  unfold alikeS at h
  simp only [Bool.and_eq_true, decide_eq_true_eq] at h
  obtain ⟨h0, h1⟩ := h
  have key : ∀ l ∈ L, isVec l = true ∧ l.length = (L.getD 0 []).length := fun l hl => by
    have := List.all_eq_true.1 h1 l hl
    simp only [Bool.and_eq_true, decide_eq_true_eq] at this
    exact this
  have kv : ∀ l ∈ L, okW l.length = true ∧ okL l = true := fun l hl => by
    have := (key l hl).1
    unfold isVec at this
    simpa only [Bool.and_eq_true] using this
  refine ⟨alikeB_yes h0 (kv _ (by rw [List.getD, List.getElem?_eq_getElem h0]; exact List.getElem_mem h0)).1 (List.all_eq_true.2 fun l hl => decide_eq_true (key l hl).2), List.all_eq_true.2 fun l hl => (kv l hl).2⟩

set_option maxHeartbeats 400000 in
set_option maxRecDepth 100000 in
theorem lalike_any (a : Option Addr) (n cap : Nat) (ls : List LI) (w : World) (h : SegL w a n ls) :
    Calls Try.prog 16 #[.slice a n cap] w fun e w' => e = .returned (.bool (alikeS (lsOf ls))) ∧ ∃ q, w' = w.drewN q := by
  have HN : Hid ((lsOf ls).length = n) := by show _ = _; rw [lsOf_len]; exact h.1
  have hm := h.2.1
  unfold maxLen at hm
  have HS : Hid (SegL w a n ls) := h
  clear h
  generalize hL : lsOf ls = L at *
  go_enter Try.func16, Try.ntmps16
  go_wp2
  go_loopw [3] (fun i wr => ∃ k q : Nat, i = .int .i64 (k : Int) ∧ k ≤ n ∧ wr = w.drewN q ∧ Hid (((L.take k).all fun l => isVec l && decide (l.length = (L.getD 0 []).length)) = true)) (fun i _ => n - (intOf i).toNat)
  case atStart => exact ⟨0, 0, rfl, Nat.zero_le _, rfl, rfl⟩
  case round =>
    obtain ⟨k, q, rfl, hk, rfl, HT⟩ := hrel
    by_cases hlt : k < n
    · obtain ⟨b, off, rfl⟩ := HS.out.addr (by omega)
      obtain ⟨a0, n0, cap0, c0, s0⟩ := HS.out.at (i := 0) (by omega)
      rw [Nat.add_zero] at c0
      rw [hL] at s0
      have HN0 : Hid ((L.getD 0 []).length = n0) := s0.1
      have hn0 := s0.2.1
      unfold maxLen at hn0
      obtain ⟨ak, nk, ck, cc, sk⟩ := HS.out.at (i := k) hlt
      rw [hL] at sk
      have hnk : Hid ((L.getD k []).length = nk) := sk.1
      have hnk2 := sk.2.1
      unfold maxLen at hnk2
      clear s0
      go_wp2_with fail
      refine (sound_any ak nk ck _ _ (sk.drewN _)).mono ?_
      rintro e w' ⟨rfl, rfl⟩
      clear sk
      cases hw : isVec (L.getD k []) with
      | false =>
        have HQ : Hid (alikeS L = false) := by
          show _ = _
          unfold alikeS
          rw [all_no (p := fun l => isVec l && decide (l.length = (L.getD 0 []).length)) (i := k) (by have := HN.out; omega) (by rw [hw]; rfl)]
          simp
        clear hw
        go_wp2
        go_quiet (fail)
        go_wp2
        go_ret
        exact ⟨by rw [HQ.out]; rfl, _, by rw [World.drewN_drewN]⟩
      | true =>
        by_cases he : nk = n0
        · subst he
          have HT' : Hid (((L.take (k + 1)).all fun l => isVec l && decide (l.length = (L.getD 0 []).length)) = true) := all_step (by have := HN.out; omega) HT.out (by rw [hw, hnk.out, HN0.out]; simp)
          clear hw
          go_wp2
          go_quiet (fail)
          go_wp2
          go_roundw
          case rel => exact ⟨k + 1, _, by go_num, by omega, rfl, HT'⟩
          case measure => simp [intOf]; omega
        · have HQ : Hid (alikeS L = false) := by
            show _ = _
            unfold alikeS
            rw [all_no (p := fun l => isVec l && decide (l.length = (L.getD 0 []).length)) (i := k) (by have := HN.out; omega) (by rw [hw, hnk.out, HN0.out]; simpa using he)]
            simp
          have hne : ((nk : Int) != (n0 : Int)) = true := by rw [bne_iff_ne]; omega
          clear hw
          go_wp2
          go_quiet (fail)
          go_wp2
          go_ret
          exact ⟨by rw [HQ.out]; rfl, _, by rw [World.drewN_drewN]⟩
    · have HT' : Hid ((L.all fun l => isVec l && decide (l.length = (L.getD 0 []).length)) = true) := by
        have := HT.out
        rwa [List.take_of_length_le (by have := HN.out; omega)] at this
      have HQ : Hid (alikeS L = decide (0 < n)) := by show _ = _; unfold alikeS; rw [HT'.out, HN.out]; simp
      go_wp2
      go_ret
      exact ⟨by rw [HQ.out]; rfl, _, rfl⟩

theorem fold_ge (q : Nat) : ∀ (L : List (List Int)) (k : Int), k ≤ L.foldl (fun k l => if q < l.length ∧ k < l.getD q 0 then l.getD q 0 else k) k := by
  intro L
  induction L with
  | nil => intro k; exact Int.le_refl _
  | cons l r ih =>
    intro k
    refine Int.le_trans ?_ (ih _)
    show k ≤ if q < l.length ∧ k < l.getD q 0 then l.getD q 0 else k
    split <;> omega
theorem maxAt_ge {L : List (List Int)} {l : List Int} (hl : l ∈ L) {q : Nat} (hq : q < l.length) : l.getD q 0 ≤ maxAt L q := by
  have key : ∀ (L : List (List Int)) (k : Int), l ∈ L → l.getD q 0 ≤ L.foldl (fun k l => if q < l.length ∧ k < l.getD q 0 then l.getD q 0 else k) k := by
    intro L
    induction L with
    | nil => intro k h; cases h
    | cons m r ih =>
      intro k h
      rcases List.mem_cons.1 h with h | h
      · subst h
        refine Int.le_trans ?_ (fold_ge q r _)
        show _ ≤ if q < l.length ∧ k < l.getD q 0 then l.getD q 0 else k
        split <;> omega
      · exact ih _ h
  exact key L 0 hl
theorem maxAt_lub {L : List (List Int)} {q : Nat} {m : Int} (h0 : 0 ≤ m) (h : ∀ l ∈ L, l.getD q 0 ≤ m) : maxAt L q ≤ m := by
  have key : ∀ (L : List (List Int)) (k : Int), (∀ l ∈ L, l.getD q 0 ≤ m) → k ≤ m → L.foldl (fun k l => if q < l.length ∧ k < l.getD q 0 then l.getD q 0 else k) k ≤ m := by
    intro L
    induction L with
    | nil => intro k _ hk; exact hk
    | cons l r ih =>
      intro k h hk
      refine ih _ (fun x hx => h x (List.mem_cons_of_mem _ hx)) ?_
      have := h l List.mem_cons_self
      show (if q < l.length ∧ k < l.getD q 0 then l.getD q 0 else k) ≤ m
      split <;> omega
  exact key L 0 h h0
theorem isVec_row {L : List (List Int)} (h : alikeB L = true) (ha : L.all okL = true) : isVec (rowOf (L.getD 0 []).length (maxAt L)) = true := by
  have hl := alikeB_len h
  unfold isVec
  rw [rowOf_length, show okW (L.getD 0 []).length = true from decide_eq_true ⟨hl.2.1, hl.2.2.1⟩, Bool.true_and]
  refine List.all_eq_true.2 fun x hx => ?_
  unfold rowOf at hx
  obtain ⟨q, _, rfl⟩ := List.mem_map.1 hx
  exact decide_eq_true ⟨maxAt_nonneg L q, maxAt_le ha q⟩
theorem vec_of {L : List (List Int)} (h : alikeB L = true) (ha : L.all okL = true) {i : Nat} (hi : i < L.length) : isVec (L.getD i []) = true := by
  have hl := alikeB_len h
  unfold isVec
  rw [hl.2.2.2 i hi, show okW (L.getD 0 []).length = true from decide_eq_true ⟨hl.2.1, hl.2.2.1⟩, all_getD ha hi]; rfl
theorem getD_mem {L : List (List Int)} {i : Nat} (hi : i < L.length) : L.getD i [] ∈ L := by rw [List.getD, List.getElem?_eq_getElem hi]; exact List.getElem_mem hi
theorem cover_union {L : List (List Int)} (h : alikeB L = true) (ha : L.all okL = true) {i : Nat} (hi : i < L.length) : coversB (unionL L) (L.getD i []) = true := by
  have hl := alikeB_len h
  rw [(unionE_0 h ha).2]
  unfold coversB
  rw [isVec_row h ha, vec_of h ha hi, rowOf_length, decide_eq_true (hl.2.2.2 i hi).symm, Bool.true_and, Bool.true_and, Bool.true_and, overK_iff]
  intro q hq
  rw [rowOf_getD _ _ hq]
  exact maxAt_ge (getD_mem hi) (by rw [hl.2.2.2 i hi]; exact hq)
theorem cover_all {L : List (List Int)} {x : List Int} (h : alikeB L = true) (ha : L.all okL = true) (hx : isVec x = true) (hxl : x.length = (L.getD 0 []).length) : coversB x (unionL L) = L.all (coversB x) := by
  have hl := alikeB_len h
  rw [(unionE_0 h ha).2, Bool.eq_iff_iff]
  have hok : okL x = true := by unfold isVec at hx; simp only [Bool.and_eq_true] at hx; exact hx.2
  have hc : ∀ l ∈ L, coversB x l = true ↔ ∀ q, q < x.length → l.getD q 0 ≤ x.getD q 0 := fun l hlm => by
    obtain ⟨i, hi, rfl⟩ := List.getElem_of_mem hlm
    have e : L[i] = L.getD i [] := by rw [List.getD, List.getElem?_eq_getElem hi]; rfl
    rw [e]
    unfold coversB
    rw [hx, vec_of h ha hi, hxl, decide_eq_true (hl.2.2.2 i hi).symm, Bool.true_and, Bool.true_and, Bool.true_and, overK_iff]
  have hu : coversB x (rowOf (L.getD 0 []).length (maxAt L)) = true ↔ ∀ q, q < x.length → maxAt L q ≤ x.getD q 0 := by
    unfold coversB
    rw [hx, isVec_row h ha, rowOf_length, decide_eq_true hxl, Bool.true_and, Bool.true_and, Bool.true_and, overK_iff]
    constructor
    · intro k q hq; have := k q hq; rwa [rowOf_getD _ _ (by omega)] at this
    · intro k q hq; rw [rowOf_getD _ _ (by omega)]; exact k q hq
  rw [hu, List.all_eq_true]
  constructor
  · intro k l hlm
    rw [hc l hlm]
    intro q hq
    obtain ⟨i, hi, rfl⟩ := List.getElem_of_mem hlm
    have e : L[i] = L.getD i [] := by rw [List.getD, List.getElem?_eq_getElem hi]; rfl
    refine Int.le_trans ?_ (k q hq)
    rw [e]
    exact maxAt_ge (getD_mem hi) (by rw [hl.2.2.2 i hi]; omega)
  · intro k q hq
    exact maxAt_lub (okL_at hok q).1 (fun l hlm => (hc l hlm).1 (k l hlm) q hq)

set_option maxHeartbeats 400000 in
set_option maxRecDepth 100000 in
theorem least_any (a a' : Option Addr) (n cap n' cap' : Nat) (ls : List LI) (x : List Int) (w : World) (h : SegL w a n ls) (hcap : n ≤ cap) (hx : SegI w a' n' x) (h1 : alikeB (lsOf ls) = true) (h2 : (lsOf ls).all okL = true) (h3 : isVec x = true) (h4 : x.length = ((lsOf ls).getD 0 []).length) :
    Calls Try.prog 15 #[.slice a n cap, .slice a' n' cap'] w fun e w' => e = .returned (.bool true) ∧ Below w.heap.size w w' := by
  have HN : Hid ((lsOf ls).length = n) := by show _ = _; rw [lsOf_len]; exact h.1
  have hm := h.2.1
  unfold maxLen at hm
  have HS : Hid (SegL w a n ls) := h
  have HX : Hid (SegI w a' n' x) := hx
  have HU : Hid (∀ i, i < (lsOf ls).length → coversB (unionL (lsOf ls)) ((lsOf ls).getD i []) = true) := fun i hi => cover_union h1 h2 hi
  have HC : Hid (coversB x (unionL (lsOf ls)) = (lsOf ls).all (coversB x)) := cover_all h1 h2 h3 h4
  have HE : Hid (unionE (lsOf ls) = 0) := (unionE_0 h1 h2).1
  clear h hx h1 h2 h3 h4
  go_enter Try.func15, Try.ntmps15
  go_wp2_with fail
  refine (union_seg (ls := ls) (B := w.heap.size) (w0 := w) (Below.refl _ _) (Nat.le_refl _) HS.out hcap rfl HE.out rfl).mono ?_
  rintro e w1 ⟨a1, c1, rfl, hc1, s1, hb1, -⟩
  have S1 : Hid (SegI w1 a1 (unionL (lsOf ls)).length (unionL (lsOf ls))) := s1
  have B1 : Hid (Below w.heap.size w w1) := hb1
  generalize hL : lsOf ls = L at *
  generalize unionL L = U at *
  generalize U.length = m at *
  clear s1 hb1
  go_wp2_with fail
  refine (num_any _ _).mono ?_
  rintro e w' ⟨rfl, rfl⟩
  go_wp2
  go_loopw [7, 8] (fun o i wr => ∃ k q : Nat, i = .int .i64 (k : Int) ∧ k ≤ n ∧ (∃ t : Bool, o = .bool t ∧ Hid (t = (L.take k).all (coversB x))) ∧ wr = w1.drewN q) (fun _ i _ => n - (intOf i).toNat)
  case atStart => exact ⟨0, 0, rfl, Nat.zero_le _, ⟨true, rfl, rfl⟩, rfl⟩
  case round =>
    obtain ⟨k, q, rfl, hk, ⟨t, rfl, HT⟩, rfl⟩ := hrel
    by_cases hlt : k < n
    · obtain ⟨b, off, rfl⟩ := HS.out.addr (by omega)
      obtain ⟨ak, nk, ck, cc0, sk0⟩ := HS.out.at (i := k) hlt
      rw [hL] at sk0
      have cc : w1.cell? ⟨b, off + k, none⟩ = some (.slice ak nk ck) := by rw [B1.out.cell (p := ⟨b, off + k, none⟩) (cell_lt cc0)]; exact cc0
      have SK : Hid (SegI w1 ak nk (L.getD k [])) := sk0.below B1.out (Nat.le_refl _)
      have HU1 : Hid (coversB U (L.getD k []) = true) := HU.out k (by have := HN.out; omega)
      clear cc0 sk0
      go_wp2_with fail
      refine (covers_any _ _ _ _ _ _ U (L.getD k []) _ (S1.out.drewN _) (SK.out.drewN _)).mono ?_
      rintro e w2 ⟨rfl, q2, hq2⟩
      rw [HU1.out]
      have hq3 : w2 = w1.drewN (q + q2) := by rw [hq2, World.drewN_drewN]
      clear hq2
      subst hq3
      go_wp2_with fail
      refine (covers_any _ _ _ _ _ _ x (L.getD k []) _ ((HX.out.below B1.out (Nat.le_refl _)).drewN _) (SK.out.drewN _)).mono ?_
      rintro e w3 ⟨rfl, q4, hq4⟩
      have hq5 : w3 = w1.drewN (q + q2 + q4) := by rw [hq4, World.drewN_drewN]
      clear hq4
      subst hq5
      have HT' : Hid ((L.take (k + 1)).all (coversB x) = (t && coversB x (L.getD k []))) := by
        show _ = _
        rw [take_snoc [] (by have := HN.out; omega), List.all_append, ← HT.out]
        simp
      generalize coversB x (L.getD k []) = y at *
      cases t <;> cases y <;>
      · go_wp2
        go_roundw
        case rel => exact ⟨k + 1, _, by go_num, by omega, ⟨_, rfl, by rw [HT'.out]; rfl⟩, rfl⟩
        case measure => simp [intOf]; omega
    · have HT' : Hid (t = coversB x U) := by
        show _ = _
        have := HT.out
        rw [List.take_of_length_le (by have := HN.out; omega)] at this
        rw [this, HC.out]
      go_wp2_with fail
      refine (covers_any _ _ _ _ _ _ x U _ ((HX.out.below B1.out (Nat.le_refl _)).drewN _) (S1.out.drewN _)).mono ?_
      rintro e w3 ⟨rfl, q4, hq4⟩
      have BB : Hid (Below w.heap.size w w3) := by rw [hq4]; exact (B1.out.drewN' _).drewN' _
      rw [← HT'.out]
      clear hq4 HT HT'
      cases t <;>
      · go_wp2
        go_ret
        exact ⟨rfl, BB.out⟩
end Go.Proofs.Ytkddbcgkfnmgbaa
