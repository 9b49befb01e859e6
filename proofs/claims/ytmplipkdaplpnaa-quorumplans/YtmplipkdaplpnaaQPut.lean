/- The contracts of the document's own Size, Attr and put. -/
import Derived.Test.YtmplipkdaplpnaaQBdM
import Derived.Test.YtmplipkdaplpnaaVRef0
import Derived.Test.YtmplipkdaplpnaaVLit
namespace Go.Proofs.Ytmplipkdaplpnaa
open Go.RowKit Go.Wire1

set_option maxHeartbeats 1000000 in
set_option maxRecDepth 100000 in
theorem qSize_any (n : Int) (w : World) : Calls Try.prog 38 #[.int .i64 n] w fun e w' => e = .returned (.bool (szQ n)) ∧ w = w' := by
  by_cases h3 : n = 3
  · subst h3
    go_enter Try.func38, Try.ntmps38
    go_wp2
    go_ret
    exact ⟨rfl, rfl⟩
  · by_cases h5 : n = 5
    · subst h5
      go_enter Try.func38, Try.ntmps38
      go_wp2
      go_ret
      exact ⟨rfl, rfl⟩
    · have HQ : Hid (szQ n = (n == 7)) := by
        show _ = _
        unfold szQ
        rw [beq_eq_false_iff_ne.2 h3, beq_eq_false_iff_ne.2 h5]; rfl
      have b3 : (n == 3) = false := beq_eq_false_iff_ne.2 h3
      have b5 : (n == 5) = false := beq_eq_false_iff_ne.2 h5
      clear h3 h5
      go_enter Try.func38, Try.ntmps38
      go_wp2
      go_ret
      exact ⟨by rw [HQ.out]; rfl, rfl⟩
set_option maxHeartbeats 1000000 in
set_option maxRecDepth 100000 in
theorem qVector_any (a : Option Addr) (n cap : Nat) (l : List Int) (w : World) (h : SegI w a n l) :
    Calls Try.prog 81 #[.slice a n cap] w fun e w' => e = .returned (.bool (isVec l)) ∧ w = w' := by
  have HS : Hid (SegI w a n l) := h
  have HQ : Hid (isVec l = (okW n && okL l)) := by show _ = _; unfold isVec; rw [h.1]
  have hm := h.2.1
  clear h
  go_enter Try.func81, Try.ntmps81
  go_wp2_with fail
  refine (width_any _ _ _ _ hm).mono ?_
  rintro e w' ⟨rfl, rfl⟩
  go_wp2_with fail
  refine (entries_any _ _ _ l _ HS.out).mono ?_
  rintro e w' ⟨rfl, rfl⟩
  generalize okW n = x at *
  generalize okL l = y at *
  cases x <;> cases y <;>
  · go_wp2
    go_ret
    exact ⟨by rw [HQ.out]; rfl, rfl⟩
def vkQ (k : Int) (l : List Int) : Bool := isVec l && ((l.length : Int) == k)
set_option maxHeartbeats 1000000 in
set_option maxRecDepth 100000 in
theorem qSound_any (k : Int) (a : Option Addr) (n cap : Nat) (l : List Int) (w : World) (h : SegI w a n l) :
    Calls Try.prog 71 #[.int .i64 k, .slice a n cap] w fun e w' => e = .returned (.bool (vkQ k l)) ∧ w = w' := by
  have HS : Hid (SegI w a n l) := h
  have HQ : Hid (vkQ k l = (isVec l && ((n : Int) == k))) := by show _ = _; unfold vkQ; rw [h.1]
  clear h
  go_enter Try.func71, Try.ntmps71
  go_wp2_with fail
  refine (qVector_any _ _ _ l _ HS.out).mono ?_
  rintro e w' ⟨rfl, rfl⟩
  generalize isVec l = x at *
  cases x <;>
  · go_wp2
    go_ret
    exact ⟨by rw [HQ.out]; rfl, rfl⟩
set_option maxHeartbeats 2000000 in
set_option maxRecDepth 100000 in
theorem qAttr_any (n seq : Int) (a : Option Addr) (k c : Nat) (l : List Int) (w : World) (h : SegI w a k l) :
    Calls Try.prog 52 #[.int .i64 n, .agg #[.int .i64 seq, .slice a k c]] w fun e w' => e = .returned (.bool (sndQ n seq l)) ∧ Below w.heap.size w w' := by
  have HS : Hid (SegI (w.alloc (.cells #[.int .i64 seq, .slice a k c] 24)) a k l) := h.below ((Below.refl _ _).alloc (Nat.le_refl _) _) (Nat.le_refl _)
  clear h
  cases hv : vkQ n l with
  | false =>
    have HQ : Hid (sndQ n seq l = false) := by
      show _ = _
      unfold sndQ
      unfold vkQ at hv
      rw [Bool.and_eq_false_iff] at hv
      rcases hv with h | h
      · rw [h]; simp
      · rw [decide_eq_false (beq_eq_false_iff_ne.1 h)]; simp
    go_enter Try.func52, Try.ntmps52
    go_wp2_with fail
    refine (qSound_any n a k c l _ HS.out).mono ?_
    rintro e w' ⟨rfl, rfl⟩
    rw [hv]
    clear hv
    go_wp2
    go_ret
    exact ⟨by rw [HQ.out]; rfl, (Below.refl _ _).alloc (Nat.le_refl _) _⟩
  | true =>
    have HQ0 : Hid (sndQ n seq l = (decide (0 ≤ seq) && decide (seq ≤ 1073741824))) := by
      show _ = _
      unfold vkQ at hv
      rw [Bool.and_eq_true, beq_iff_eq] at hv
      unfold sndQ
      rw [hv.1, decide_eq_true hv.2]; simp
    by_cases h0 : 0 ≤ seq
    · have HQ : Hid (sndQ n seq l = decide (seq ≤ 1073741824)) := by show _ = _; rw [HQ0.out, decide_eq_true h0]; rfl
      go_enter Try.func52, Try.ntmps52
      go_wp2_with fail
      refine (qSound_any n a k c l _ HS.out).mono ?_
      rintro e w' ⟨rfl, rfl⟩
      rw [hv]
      clear hv
      go_wp2
      go_ret
      exact ⟨by rw [HQ.out]; rfl, (Below.refl _ _).alloc (Nat.le_refl _) _⟩
    · have HQ : Hid (sndQ n seq l = false) := by show _ = _; rw [HQ0.out, decide_eq_false h0]; rfl
      go_enter Try.func52, Try.ntmps52
      go_wp2_with fail
      refine (qSound_any n a k c l _ HS.out).mono ?_
      rintro e w' ⟨rfl, rfl⟩
      rw [hv]
      clear hv
      go_wp2
      go_ret
      exact ⟨by rw [HQ.out]; rfl, (Below.refl _ _).alloc (Nat.le_refl _) _⟩
/-- One more on the board, unless its place is taken. -/
def putM (m : List (Int × Vt)) (i : Nat) (v : Vt) : List (Int × Vt) := if (lkm m (i : Int)).isSome then m else m ++ [((i : Int), v)]
theorem below_lt {w w' : World} {B b : Nat} (h : Below B w w') (_hb : b < w.heap.size) : b < w'.heap.size := Nat.lt_of_lt_of_le _hb h.size
set_option maxHeartbeats 4000000 in
set_option maxRecDepth 100000 in
theorem put_any (bb i : Nat) (m : List (Int × Vt)) (v : Vt) (hfr : v.fr = (i : Int)) (hi : i < 7) (hml : m.length ≤ 7) (w : World) (h : Blk w bb (bdC m)) :
    Calls Try.prog 53 #[.pointer (some ⟨bb, 0, none⟩), .agg (vcs v).toArray] w fun e w' => e = .returned (.tuple #[]) ∧ Blk w' bb (bdC (putM m i v)) ∧ Below bb w w' := by
  obtain ⟨U, hU⟩ : ∃ U, U = w.alloc (.cells (vcs v).toArray 33) := ⟨_, rfl⟩
  have BU : Hid (Below bb w U) := by rw [hU]; exact (Below.refl _ w).alloc (Nat.le_of_lt h.lt) _
  have QV : Hid (Blk U w.heap.size (vcs v)) := by rw [hU]; exact blk_new w 33 (vcs v)
  have QB : Hid (Blk U bb (bdC m)) := by rw [hU]; exact h.on ((Below.refl _ _).alloc (Nat.le_refl _) _)
  have hbw := h.lt
  have c0 : U.cell? ⟨w.heap.size, 0, none⟩ = some (.int .i64 (i : Int)) := by have := QV.out.cell 0 _ (vcs0 v); rwa [hfr] at this
  have cb : U.cell? ⟨bb, i, none⟩ = some (.bool (lkm m (i : Int)).isSome) := QB.out.cell i _ (bd_there m hi)
  have HFR := hide hfr
  have hi7 : (i : Int) < 7 := by omega
  clear h hfr
  go_enter Try.func53, Try.ntmps53
  go_upto_region 1 with fail
  rw [← hU]
  clear hU
  refine wp_region_held_drew (S := (fun W' => W'.cell? ⟨w.heap.size, 0, none⟩ = some (.int .i64 (i : Int)) ∧ W'.cell? ⟨bb, i, none⟩ = some (.bool (lkm m (i : Int)).isSome))) (by kernel_rfl) ⟨c0, cb⟩ (fun hHeld => ?_)
  refine wpAnyH_take (i := 0) (v := ?_) rfl (by kernel_rfl) (by kernel_rfl) (by kernel_rfl) (fun _ _ _ h => h) (Or.inl ⟨by rfl, ?_⟩) (by assumption) ?_
  rotate_left
  · intro w hSw
    try dsimp only at hSw
    go_simp
    try with_reducible rfl
  try simp only [Act.put, List.getElem_toArray, List.getElem_cons_zero, List.setIfInBounds_toArray, List.set_cons_zero, List.set_cons_succ]
  refine wpAnyH_take (i := 1) (v := ?_) rfl (by kernel_rfl) (by kernel_rfl) (by kernel_rfl) (fun _ _ _ h => h) (Or.inl ⟨by rfl, ?_⟩) (by assumption) ?_
  rotate_left
  · intro w hSw
    try dsimp only at hSw
    go_simp
    try with_reducible rfl
  try simp only [Act.put, List.getElem_toArray, List.getElem_cons_succ, List.getElem_cons_zero, List.setIfInBounds_toArray, List.set_cons_zero, List.set_cons_succ]
  refine wpAnyH_take (i := 2) (v := ?_) rfl (by kernel_rfl) (by kernel_rfl) (by kernel_rfl) (fun _ _ _ h => h) (Or.inl ⟨by rfl, ?_⟩) (by assumption) ?_
  rotate_left
  · intro w hSw
    try dsimp only at hSw
    have s0 := hSw.1
    go_simp
    try with_reducible rfl
  try simp only [Act.put, List.getElem_toArray, List.getElem_cons_succ, List.getElem_cons_zero, List.setIfInBounds_toArray, List.set_cons_zero, List.set_cons_succ]
  refine wpAnyH_take (i := 3) (v := ?_) rfl (by kernel_rfl) (by kernel_rfl) (by kernel_rfl) (fun _ _ _ h => h) (Or.inl ⟨by rfl, ?_⟩) (by assumption) ?_
  rotate_left
  · intro w hSw
    try dsimp only at hSw
    go_simp
    try with_reducible rfl
  try simp only [Act.put, List.getElem_toArray, List.getElem_cons_succ, List.getElem_cons_zero, List.setIfInBounds_toArray, List.set_cons_zero, List.set_cons_succ]
  refine wpAnyH_take (i := 4) (v := ?_) rfl (by kernel_rfl) (by kernel_rfl) (by kernel_rfl) (fun _ _ _ h => h) (Or.inl ⟨by rfl, ?_⟩) (by assumption) ?_
  rotate_left
  · intro w hSw
    try dsimp only at hSw
    go_simp
    try with_reducible rfl
  try simp only [Act.put, List.getElem_toArray, List.getElem_cons_succ, List.getElem_cons_zero, List.setIfInBounds_toArray, List.set_cons_zero, List.set_cons_succ]
  refine wpAnyH_take (i := 5) (v := ?_) rfl (by kernel_rfl) (by kernel_rfl) (by kernel_rfl) (fun _ _ _ h => h) (Or.inl ⟨by rfl, ?_⟩) (by assumption) ?_
  rotate_left
  · intro w hSw
    try dsimp only at hSw
    go_simp
    try with_reducible rfl
  try simp only [Act.put, List.getElem_toArray, List.getElem_cons_succ, List.getElem_cons_zero, List.setIfInBounds_toArray, List.set_cons_zero, List.set_cons_succ]
  refine wpAnyH_take (i := 6) (v := ?_) rfl (by kernel_rfl) (by kernel_rfl) (by kernel_rfl) (fun _ _ _ h => h) (Or.inl ⟨by rfl, ?_⟩) (by assumption) ?_
  rotate_left
  · intro w hSw
    try dsimp only at hSw
    have s1 := hSw.2
    go_simp
    try with_reducible rfl
  try simp only [Act.put, List.getElem_toArray, List.getElem_cons_succ, List.getElem_cons_zero, List.setIfInBounds_toArray, List.set_cons_zero, List.set_cons_succ]
  refine wpAnyH_done (by kernel_rfl) ?_ _
  cases hs : (lkm m (i : Int)).isSome with
  | true =>
    have HQ : Hid (putM m i v = m) := by show _ = _; unfold putM; rw [hs]; rfl
    go_wp2
    refine bodyPost_ret (results_none rfl _ _ _) rfl ?_
    exact ⟨rfl, by rw [HQ.out]; exact QB.out.drewN 1, BU.out.drew⟩
  | false =>
    have HQ : Hid (putM m i v = m ++ [((i : Int), v)]) := by show _ = _; unfold putM; rw [hs]; rfl
    have HLN : Hid (lkm m (i : Int) = none) := by
      show _ = _
      cases hl : lkm m (i : Int) with
      | none => rfl
      | some u => rw [hl] at hs; cases hs
    obtain ⟨X, hX⟩ : ∃ X, X = U.drew := ⟨_, rfl⟩
    have QXB : Hid (Blk X bb (bdC m)) := by rw [hX]; exact QB.out.drewN 1
    have QXV : Hid (Blk X w.heap.size (vcs v)) := by rw [hX]; exact QV.out.drewN 1
    have BX : Hid (Below bb w X) := by rw [hX]; exact BU.out.drew
    rw [← hX]
    clear hX c0
    have c0 : X.cell? ⟨w.heap.size, 0, none⟩ = some (.int .i64 (i : Int)) := by have := QXV.out.cell 0 _ (vcs0 v); rwa [HFR.out] at this
    have cb : X.cell? ⟨bb, i, none⟩ = some (.bool false) := by have := QXB.out.cell i _ (bd_there m hi); rwa [hs] at this
    have tb := QXB.out.thaw i
    clear hs
    go_upto_region 2 with fail
    refine wp_region_held_drew (S := (fun W' => W'.cell? ⟨w.heap.size, 0, none⟩ = some (.int .i64 (i : Int)))) (by kernel_rfl) c0 (fun hHeld => ?_)
    refine wpAnyH_take (i := 0) (v := ?_) rfl (by kernel_rfl) (by kernel_rfl) (by kernel_rfl) (fun _ _ _ h => h) (Or.inl ⟨by rfl, ?_⟩) (by assumption) ?_
    rotate_left
    · intro w hSw
      try dsimp only at hSw
      go_simp
      try with_reducible rfl
    try simp only [Act.put, List.getElem_toArray, List.getElem_cons_zero, List.setIfInBounds_toArray, List.set_cons_zero, List.set_cons_succ]
    refine wpAnyH_take (i := 1) (v := ?_) rfl (by kernel_rfl) (by kernel_rfl) (by kernel_rfl) (fun _ _ _ h => h) (Or.inl ⟨by rfl, ?_⟩) (by assumption) ?_
    rotate_left
    · intro w hSw
      try dsimp only at hSw
      go_simp
      try with_reducible rfl
    try simp only [Act.put, List.getElem_toArray, List.getElem_cons_succ, List.getElem_cons_zero, List.setIfInBounds_toArray, List.set_cons_zero, List.set_cons_succ]
    refine wpAnyH_take (i := 2) (v := ?_) rfl (by kernel_rfl) (by kernel_rfl) (by kernel_rfl) (fun _ _ _ h => h) (Or.inl ⟨by rfl, ?_⟩) (by assumption) ?_
    rotate_left
    · intro w hSw
      try dsimp only at hSw
      go_simp
      try with_reducible rfl
    try simp only [Act.put, List.getElem_toArray, List.getElem_cons_succ, List.getElem_cons_zero, List.setIfInBounds_toArray, List.set_cons_zero, List.set_cons_succ]
    refine wpAnyH_take (i := 3) (v := ?_) rfl (by kernel_rfl) (by kernel_rfl) (by kernel_rfl) (fun _ _ _ h => h) (Or.inl ⟨by rfl, ?_⟩) (by assumption) ?_
    rotate_left
    · intro w hSw
      try dsimp only at hSw
      go_simp
      try with_reducible rfl
    try simp only [Act.put, List.getElem_toArray, List.getElem_cons_succ, List.getElem_cons_zero, List.setIfInBounds_toArray, List.set_cons_zero, List.set_cons_succ]
    refine wpAnyH_take (i := 4) (v := ?_) rfl (by kernel_rfl) (by kernel_rfl) (by kernel_rfl) (fun _ _ _ h => h) (Or.inl ⟨by rfl, ?_⟩) (by assumption) ?_
    rotate_left
    · intro w hSw
      try dsimp only at hSw
      go_simp
      try with_reducible rfl
    try simp only [Act.put, List.getElem_toArray, List.getElem_cons_succ, List.getElem_cons_zero, List.setIfInBounds_toArray, List.set_cons_zero, List.set_cons_succ]
    refine wpAnyH_take (i := 5) (v := ?_) rfl (by kernel_rfl) (by kernel_rfl) (by kernel_rfl) (fun _ _ _ h => h) (Or.inl ⟨by rfl, ?_⟩) (by assumption) ?_
    rotate_left
    · intro w hSw
      try dsimp only at hSw
      go_simp
      try with_reducible rfl
    try simp only [Act.put, List.getElem_toArray, List.getElem_cons_succ, List.getElem_cons_zero, List.setIfInBounds_toArray, List.set_cons_zero, List.set_cons_succ]
    refine wpAnyH_ready (rs := [6]) (by kernel_rfl) (by simp) ?_
    refine AllReadyH.cons rfl (fun K hK => ?_) AllReadyH.nil
    rw [if_pos (by rfl)]
    go_wp2_with fail
    refine hK.out _ _ (show (X.setCell ⟨bb, i, none⟩ (.bool true)).cell? ⟨w.heap.size, 0, none⟩ = some (.int .i64 (i : Int)) from by rw [World.cell?_setCell_other _ _ _ _ (by intro r; injection r with r1 _ _; omega)]; exact c0) (fun hHeld => ?_)
    clear hK K
    try simp only [Act.put, List.getElem_toArray, List.getElem_cons_succ, List.getElem_cons_zero, List.setIfInBounds_toArray, List.set_cons_zero, List.set_cons_succ]
    refine wpAnyH_done (by kernel_rfl) ?_ _
    obtain ⟨Y, hY⟩ : ∃ Y, Y = (X.setCell ⟨bb, i, none⟩ (.bool true)).drew := ⟨_, rfl⟩
    have HYB : Hid (Blk Y bb ((bdC m).set i (.bool true))) := by rw [hY]; exact (QXB.out.setAt i _).drewN 1
    have HYV : Hid (Blk Y w.heap.size (vcs v)) := by
      rw [hY]
      exact (QXV.out.of_block (heap_setCell_other X ⟨bb, i, none⟩ _ _ (fun e => by have e2 := congrArg id e; simp only [id] at e2; omega))).drewN 1
    have BY : Hid (Below bb w Y) := by rw [hY]; exact (below_store BX.out (Nat.le_refl _) _).drew
    have HYE := hide hY
    rw [← hY]
    clear hY c0 cb tb
    have d0 : Y.cell? ⟨w.heap.size, 0, none⟩ = some (.int .i64 (i : Int)) := by have := HYV.out.cell 0 _ (vcs0 v); rwa [HFR.out] at this
    have TY : Hid (Y.drew.there bb (7 + i * 15) 15) := fun j hj => by
      have hlt : 7 + i * 15 + j < ((bdC m).set i (.bool true)).length := by rw [List.length_set, bdC_len]; omega
      have hB := HYB.out.drewN 1
      exact ⟨by
        have := hB.cell _ _ (List.getElem?_eq_getElem hlt)
        show (World.cell? (Y.drewN 1) _).isSome = true
        rw [this]; rfl, hB.thaw _⟩
    go_upto_region 3 with fail
    refine wp_region_held_drew (S := (fun W' => W'.cell? ⟨w.heap.size, 0, none⟩ = some (.int .i64 (i : Int)) ∧ W'.rangeAt w.heap.size 0 (vcs v))) (by kernel_rfl) ⟨d0, HYV.out.range⟩ (fun hHeld => ?_)
    refine wpAnyH_take (i := 0) (v := ?_) rfl (by kernel_rfl) (by kernel_rfl) (by kernel_rfl) (fun _ _ _ h => h) (Or.inl ⟨by rfl, ?_⟩) (by assumption) ?_
    rotate_left
    · intro w hSw
      try dsimp only at hSw
      go_simp
      try with_reducible rfl
    try simp only [Act.put, List.getElem_toArray, List.getElem_cons_zero, List.setIfInBounds_toArray, List.set_cons_zero, List.set_cons_succ]
    refine wpAnyH_take (i := 1) (v := ?_) rfl (by kernel_rfl) (by kernel_rfl) (by kernel_rfl) (fun _ _ _ h => h) (Or.inl ⟨by rfl, ?_⟩) (by assumption) ?_
    rotate_left
    · intro w hSw
      try dsimp only at hSw
      go_simp
      try with_reducible rfl
    try simp only [Act.put, List.getElem_toArray, List.getElem_cons_succ, List.getElem_cons_zero, List.setIfInBounds_toArray, List.set_cons_zero, List.set_cons_succ]
    refine wpAnyH_take (i := 2) (v := ?_) rfl (by kernel_rfl) (by kernel_rfl) (by kernel_rfl) (fun _ _ _ h => h) (Or.inl ⟨by rfl, ?_⟩) (by assumption) ?_
    rotate_left
    · intro w hSw
      try dsimp only at hSw
      have s0 := hSw.1
      go_simp
      try with_reducible rfl
    try simp only [Act.put, List.getElem_toArray, List.getElem_cons_succ, List.getElem_cons_zero, List.setIfInBounds_toArray, List.set_cons_zero, List.set_cons_succ]
    refine wpAnyH_take (i := 3) rfl (by kernel_rfl) (by kernel_rfl) (by kernel_rfl) (fun _ _ _ h => h) (yieldsIf_load_mid (by rfl) 33 _ rfl w.heap.size 0 rfl (vcs v) _ (fun _ h => h.2) Try.underlying33 rfl (by kernel_rfl)) (by assumption) ?_
    try simp only [Act.put, List.getElem_toArray, List.getElem_cons_succ, List.getElem_cons_zero, List.setIfInBounds_toArray, List.set_cons_zero, List.set_cons_succ]
    refine wpAnyH_take (i := 4) (v := ?_) rfl (by kernel_rfl) (by kernel_rfl) (by kernel_rfl) (fun _ _ _ h => h) (Or.inl ⟨by rfl, ?_⟩) (by assumption) ?_
    rotate_left
    · intro w hSw
      try dsimp only at hSw
      go_simp
      try with_reducible rfl
    try simp only [Act.put, List.getElem_toArray, List.getElem_cons_succ, List.getElem_cons_zero, List.setIfInBounds_toArray, List.set_cons_zero, List.set_cons_succ]
    refine wpAnyH_take (i := 5) (v := ?_) rfl (by kernel_rfl) (by kernel_rfl) (by kernel_rfl) (fun _ _ _ h => h) (Or.inl ⟨by rfl, ?_⟩) (by assumption) ?_
    rotate_left
    · intro w hSw
      try dsimp only at hSw
      go_simp
      try with_reducible rfl
    try simp only [Act.put, List.getElem_toArray, List.getElem_cons_succ, List.getElem_cons_zero, List.setIfInBounds_toArray, List.set_cons_zero, List.set_cons_succ]
    refine wpAnyH_take (i := 6) (v := ?_) rfl (by kernel_rfl) (by kernel_rfl) (by kernel_rfl) (fun _ _ _ h => h) (Or.inl ⟨by rfl, ?_⟩) (by assumption) ?_
    rotate_left
    · intro w hSw
      try dsimp only at hSw
      go_simp
      try with_reducible rfl
    try simp only [Act.put, List.getElem_toArray, List.getElem_cons_succ, List.getElem_cons_zero, List.setIfInBounds_toArray, List.set_cons_zero, List.set_cons_succ]
    refine wpAnyH_ready (rs := [7]) (by kernel_rfl) (by simp) ?_
    refine AllReadyH.cons rfl (fun K hK => ?_) AllReadyH.nil
    rw [if_pos (by rfl)]
    refine wp_store_mid 33 _ _ rfl bb (7 + i * 15) (vcs v).toArray rfl rfl TY.out (by kernel_rfl) (all_oneCell_toArray (vcs_one _)) ?_
    refine hK.out _ _ ⟨by have hc : (Y.drewN 1).rangeAt w.heap.size 0 (vcs v) := (HYV.out.drewN 1).range; have := World.rangeAt_setCells_apart hc bb (7 + i * 15) (vcs v) (.inl (by omega)) 0 _ (vcs0 v); rw [HFR.out] at this; exact this, World.rangeAt_setCells_apart (HYV.out.drewN 1).range _ _ _ (.inl (by omega))⟩ (fun hHeld => ?_)
    clear hK K
    try simp only [Act.put, List.getElem_toArray, List.getElem_cons_succ, List.getElem_cons_zero]
    refine wpAnyH_done (by kernel_rfl) ?_ _
    obtain ⟨Z, hZ⟩ : ∃ Z, Z = Y.drew.setCells bb (7 + i * 15) (vcs v) := ⟨_, rfl⟩
    have HZT : Hid (Blk (Z.setCell ⟨bb, 112, none⟩ (.int .i64 ((m.length : Int) + 1))) bb (bdC (m ++ [((i : Int), v)]))) := by
      have e : Z = ((X.drewN 2).setCell ⟨bb, i, none⟩ (.bool true)).setCells bb (7 + i * 15) (vcs v) := by rw [hZ, HYE.out]; rfl
      rw [e]
      exact blk_told (QXB.out.drewN 2) hi HLN.out
    have BZ : Hid (Below bb w Z) := by rw [hZ]; exact below_cells (Nat.le_refl _) _ _ _ BY.out.drew
    have z112 : Z.cell? ⟨bb, 112, none⟩ = some (.int .i64 (m.length : Int)) := by
      have e1 : (bdC m)[112]? = some (.int .i64 (m.length : Int)) := bd_cnt m
      have hc : (Y.drewN 1).rangeAt bb 112 [.int .i64 (m.length : Int)] := fun q u hu => by
        match q, hu with
        | 0, hu =>
          simp only [List.getElem?_cons_zero, Option.some.injEq] at hu
          subst hu
          exact (HYB.out.drewN 1).cell _ _ (by rw [Nat.add_zero, List.getElem?_set, if_neg (by omega)]; exact e1)
      rw [hZ]
      exact World.rangeAt_setCells_apart hc bb (7 + i * 15) (vcs v) (by rw [vcs_len]; omega) 0 _ rfl
    have t112 : Z.frozen? ⟨bb, 112, none⟩ = false := by rw [hZ, World.frozen?_setCells]; exact (HYB.out.drewN 1).thaw 112
    rw [← hZ]
    clear hZ d0
    go_wp2
    go_end0
    exact ⟨rfl, by rw [HQ.out]; exact HZT.out, below_store BZ.out (Nat.le_refl _) _⟩
end Go.Proofs.Ytmplipkdaplpnaa
