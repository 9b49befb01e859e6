/- The document's own disk: Rot. -/
import Derived.Test.YtahpnfbjpdnapaaDkRMeth
import Derived.Test.YtahpnfbjpdnapaaDkTurned
namespace Go.Proofs.Ytahpnfbjpdnapaa
open Go.RowKit Go.Wire1 Go.MuLone

section
variable {w : World} {b : Nat} {sv tv : Value} {S T : List Int} {E0 : Nat}
theorem RDk.rotS {g n cap : Nat} (h : RDk w b (.slice (some ⟨g, 0, none⟩) n cap) tv S T E0) (k : Nat) (z : Int) : RDst w (w.setCell ⟨g, k, none⟩ (.int .u8 z)) b (.slice (some ⟨g, 0, none⟩) n cap) tv (.slice (some ⟨g, 0, none⟩) n cap) tv (S.set k z) T E0 := by
  have oth : ∀ j, j ≠ g → (w.setCell ⟨g, k, none⟩ (.int .u8 z)).heap[j]? = w.heap[j]? := fun j hj => Below.heap_setCell _ _ _ _ hj
  refine ⟨⟨h.box.of_block (oth b (fun e => h.fs (by rw [e]; rfl))), ?_, own_other h.to (fun j hj => oth j (fun e => h.st g rfl (by rw [← e]; exact hj))), h.fs, h.ft, h.st, h.low, by rw [List.length_set]; exact h.top⟩, rfl, rfl, rfl, by simp [World.setCell], fun j _ _ h1 _ => oth j (fun e => h1 (by rw [e]; rfl)), fun _ hk => .inl hk, fun _ hk => .inl hk⟩
  have ho := h.so
  rw [List.length_set, List.map_set]
  obtain ⟨a, c, e⟩ := own_shape ho
  cases e
  exact (ho.stored k _).1
theorem RDk.rotT {g n cap : Nat} (h : RDk w b sv (.slice (some ⟨g, 0, none⟩) n cap) S T E0) (k : Nat) (z : Int) : RDst w (w.setCell ⟨g, k, none⟩ (.int .u8 z)) b sv (.slice (some ⟨g, 0, none⟩) n cap) sv (.slice (some ⟨g, 0, none⟩) n cap) S (T.set k z) E0 := by
  have oth : ∀ j, j ≠ g → (w.setCell ⟨g, k, none⟩ (.int .u8 z)).heap[j]? = w.heap[j]? := fun j hj => Below.heap_setCell _ _ _ _ hj
  refine ⟨⟨h.box.of_block (oth b (fun e => h.ft (by rw [e]; rfl))), own_other h.so (fun j hj => oth j (fun e => h.st j hj (by rw [e]; rfl))), ?_, h.fs, h.ft, h.st, h.low, by rw [List.length_set]; exact h.top⟩, rfl, rfl, rfl, by simp [World.setCell], fun j _ _ _ h1 => oth j (fun e => h1 (by rw [e]; rfl)), fun _ hk => .inl hk, fun _ hk => .inl hk⟩
  have ho := h.to
  rw [List.length_set, List.map_set]
  obtain ⟨a, c, e⟩ := own_shape ho
  cases e
  exact (ho.stored k _).1
theorem RDst.ofDrew {w' : World} {sv' tv' : Value} {S' T' : List Int} {q : Nat} (h : RDst (w.drewN q) w' b sv tv sv' tv' S' T' E0) : RDst w w' b sv tv sv' tv' S' T' E0 := ⟨h.rdk, h.os, h.tape, h.output, h.size, h.block, h.ls, h.lt⟩
theorem RDk.drew (h : RDk w b sv tv S T E0) (q : Nat) : RDk (w.drewN q) b sv tv S T E0 := h.on rfl (fun _ _ => rfl) (fun _ _ => rfl)
theorem cell_row {v : Value} {B g n cap k : Nat} {L : List Int} (h : w.ownsRow B 5 1 v n (L.map (Value.int .u8))) (e : v = .slice (some ⟨g, 0, none⟩) n cap) (hl : L.length = n) (hk : k < n) : w.cell? ⟨g, k, none⟩ = some (.int .u8 (L.getD k 0)) ∧ w.frozen? ⟨g, k, none⟩ = false := by
  subst e
  refine ⟨?_, ?_⟩
  · rw [h.cellAt k (by omega)]; simp [List.getElem?_eq_getElem (show k < L.length by omega)]
  · rcases h.2 with ⟨e, _⟩ | ⟨g', cap', cur, e, _, hh, _⟩
    · cases e
    · cases e; exact frozen_of_row w g k cur 5 hh
end

set_option maxHeartbeats 4000000 in
set_option maxRecDepth 100000 in
theorem rrot_low (w : World) (b : Nat) (sv tv : Value) (S T : List Int) (E0 : Nat) (z x : Int) (h : RDk w b sv tv S T E0) (hz : z < 0) :
    Calls Try.prog 33 #[.pointer (some ⟨b, 0, none⟩), .int .i64 z, .int .i64 x] w fun r w' => r = .returned (.int .i64 93) ∧ Below w.heap.size w w' := by
  obtain ⟨sa, sc, rfl⟩ := own_shape h.so
  obtain ⟨ta, tc, rfl⟩ := own_shape h.to
  have c0 := h.box.cell 0 _ rfl
  have c1 := h.box.cell 1 _ rfl
  have htop := h.top
  have HH := hide h
  clear h
  obtain ⟨sn, hsn⟩ : ∃ sn, sn = S.length := ⟨_, rfl⟩
  obtain ⟨tn, htn⟩ : ∃ tn, tn = T.length := ⟨_, rfl⟩
  have HSN := hide hsn
  have HTN := hide htn
  rw [← hsn] at c0 htop
  rw [← htn] at c1 htop
  clear hsn htn
  go_enter Try.func33, Try.ntmps33
  go_wp2_with fail
  refine (rsize_any _ b _ _ S T E0 HH.out).mono ?_
  rintro e w1 ⟨rfl, q, rfl⟩
  rw [← HSN.out, ← HTN.out]
  have BB := hide (below_drewN' (Below.refl w.heap.size w) q)
  obtain ⟨st, hst⟩ : ∃ st : Nat, (sn : Int) + (tn : Int) = (st : Int) := ⟨sn + tn, by omega⟩
  have HSTN : Hid (st = sn + tn) := by show _ = _; omega
  rw [hst]
  clear hst
  go_wp2
  go_ret
  exact ⟨rfl, BB.out⟩

set_option maxHeartbeats 4000000 in
set_option maxRecDepth 100000 in
theorem rrot_high (w : World) (b : Nat) (sv tv : Value) (S T : List Int) (E0 : Nat) (z x : Int) (h : RDk w b sv tv S T E0) (hz : ¬ z < 0) (hz2 : (S.length : Int) + (T.length : Int) ≤ z) :
    Calls Try.prog 33 #[.pointer (some ⟨b, 0, none⟩), .int .i64 z, .int .i64 x] w fun r w' => r = .returned (.int .i64 93) ∧ Below w.heap.size w w' := by
  obtain ⟨sa, sc, rfl⟩ := own_shape h.so
  obtain ⟨ta, tc, rfl⟩ := own_shape h.to
  have c0 := h.box.cell 0 _ rfl
  have c1 := h.box.cell 1 _ rfl
  have htop := h.top
  have HH := hide h
  clear h
  obtain ⟨sn, hsn⟩ : ∃ sn, sn = S.length := ⟨_, rfl⟩
  obtain ⟨tn, htn⟩ : ∃ tn, tn = T.length := ⟨_, rfl⟩
  have HSN := hide hsn
  have HTN := hide htn
  rw [← hsn] at c0 htop
  rw [← htn] at c1 htop
  clear hsn htn
  rw [← HSN.out, ← HTN.out] at hz2
  go_enter Try.func33, Try.ntmps33
  go_wp2_with fail
  refine (rsize_any _ b _ _ S T E0 HH.out).mono ?_
  rintro e w1 ⟨rfl, q, rfl⟩
  rw [← HSN.out, ← HTN.out]
  have BB := hide (below_drewN' (Below.refl w.heap.size w) q)
  obtain ⟨st, hst⟩ : ∃ st : Nat, (sn : Int) + (tn : Int) = (st : Int) := ⟨sn + tn, by omega⟩
  have HSTN : Hid (st = sn + tn) := by show _ = _; omega
  rw [hst]
  clear hst
  have q5 : (st : Int) ≤ z := by have := HSTN.out; omega
  clear hz2
  go_wp2
  go_ret
  exact ⟨rfl, BB.out⟩

set_option maxHeartbeats 4000000 in
set_option maxRecDepth 100000 in
theorem rrot_zero (w : World) (b : Nat) (sv tv : Value) (S T : List Int) (E0 : Nat) (z x : Int) (h : RDk w b sv tv S T E0) (hz : ¬ z < 0) (hz2 : z < (S.length : Int) + (T.length : Int)) (hx : x < 1) :
    Calls Try.prog 33 #[.pointer (some ⟨b, 0, none⟩), .int .i64 z, .int .i64 x] w fun r w' => r = .returned (.int .i64 94) ∧ Below w.heap.size w w' := by
  obtain ⟨sa, sc, rfl⟩ := own_shape h.so
  obtain ⟨ta, tc, rfl⟩ := own_shape h.to
  have c0 := h.box.cell 0 _ rfl
  have c1 := h.box.cell 1 _ rfl
  have htop := h.top
  have HH := hide h
  clear h
  obtain ⟨sn, hsn⟩ : ∃ sn, sn = S.length := ⟨_, rfl⟩
  obtain ⟨tn, htn⟩ : ∃ tn, tn = T.length := ⟨_, rfl⟩
  have HSN := hide hsn
  have HTN := hide htn
  rw [← hsn] at c0 htop
  rw [← htn] at c1 htop
  clear hsn htn
  rw [← HSN.out, ← HTN.out] at hz2
  go_enter Try.func33, Try.ntmps33
  go_wp2_with fail
  refine (rsize_any _ b _ _ S T E0 HH.out).mono ?_
  rintro e w1 ⟨rfl, q, rfl⟩
  rw [← HSN.out, ← HTN.out]
  have BB := hide (below_drewN' (Below.refl w.heap.size w) q)
  obtain ⟨st, hst⟩ : ∃ st : Nat, (sn : Int) + (tn : Int) = (st : Int) := ⟨sn + tn, by omega⟩
  have HSTN : Hid (st = sn + tn) := by show _ = _; omega
  rw [hst]
  clear hst
  have q5 : ¬ ((st : Int) ≤ z) := by have := HSTN.out; omega
  clear hz2
  go_wp2
  go_ret
  exact ⟨rfl, BB.out⟩

set_option maxHeartbeats 4000000 in
set_option maxRecDepth 100000 in
theorem rrot_wide (w : World) (b : Nat) (sv tv : Value) (S T : List Int) (E0 : Nat) (z x : Int) (h : RDk w b sv tv S T E0) (hz : ¬ z < 0) (hz2 : z < (S.length : Int) + (T.length : Int)) (hx : ¬ x < 1) (hx2 : 255 < x) :
    Calls Try.prog 33 #[.pointer (some ⟨b, 0, none⟩), .int .i64 z, .int .i64 x] w fun r w' => r = .returned (.int .i64 94) ∧ Below w.heap.size w w' := by
  obtain ⟨sa, sc, rfl⟩ := own_shape h.so
  obtain ⟨ta, tc, rfl⟩ := own_shape h.to
  have c0 := h.box.cell 0 _ rfl
  have c1 := h.box.cell 1 _ rfl
  have htop := h.top
  have HH := hide h
  clear h
  obtain ⟨sn, hsn⟩ : ∃ sn, sn = S.length := ⟨_, rfl⟩
  obtain ⟨tn, htn⟩ : ∃ tn, tn = T.length := ⟨_, rfl⟩
  have HSN := hide hsn
  have HTN := hide htn
  rw [← hsn] at c0 htop
  rw [← htn] at c1 htop
  clear hsn htn
  rw [← HSN.out, ← HTN.out] at hz2
  go_enter Try.func33, Try.ntmps33
  go_wp2_with fail
  refine (rsize_any _ b _ _ S T E0 HH.out).mono ?_
  rintro e w1 ⟨rfl, q, rfl⟩
  rw [← HSN.out, ← HTN.out]
  have BB := hide (below_drewN' (Below.refl w.heap.size w) q)
  obtain ⟨st, hst⟩ : ∃ st : Nat, (sn : Int) + (tn : Int) = (st : Int) := ⟨sn + tn, by omega⟩
  have HSTN : Hid (st = sn + tn) := by show _ = _; omega
  rw [hst]
  clear hst
  have q5 : ¬ ((st : Int) ≤ z) := by have := HSTN.out; omega
  clear hz2
  go_wp2
  go_ret
  exact ⟨rfl, BB.out⟩

set_option maxHeartbeats 4000000 in
set_option maxRecDepth 100000 in
theorem rrot_safe (w : World) (b : Nat) (sv tv : Value) (S T : List Int) (E0 : Nat) (k x : Nat) (h : RDk w b sv tv S T E0) (hk : k < S.length) (hc : 0 ≤ S.getD k 0 ∧ S.getD k 0 < 256) (hx : 1 ≤ x) (hx2 : x ≤ 255) :
    Calls Try.prog 33 #[.pointer (some ⟨b, 0, none⟩), .int .i64 (k : Int), .int .i64 (x : Int)] w fun r w' => r = .returned (.int .i64 0) ∧ RDst w w' b sv tv sv tv (S.set k (rotZ (S.getD k 0) (x : Int))) T E0 := by
  obtain ⟨sa, sc, rfl⟩ := own_shape h.so
  obtain ⟨ta, tc, rfl⟩ := own_shape h.to
  have c0 := h.box.cell 0 _ rfl
  have c1 := h.box.cell 1 _ rfl
  have htop := h.top
  have HH := hide h
  clear h
  obtain ⟨sn, hsn⟩ : ∃ sn, sn = S.length := ⟨_, rfl⟩
  obtain ⟨tn, htn⟩ : ∃ tn, tn = T.length := ⟨_, rfl⟩
  have HSN := hide hsn
  have HTN := hide htn
  rw [← hsn] at c0 htop
  rw [← htn] at c1 htop
  clear hsn htn
  rw [← HSN.out] at hk
  obtain ⟨g, rfl⟩ : ∃ g, sa = some ⟨g, 0, none⟩ := by
    rcases HH.out.so.2 with ⟨_, h0⟩ | ⟨g, cap, _, e, _⟩
    · have := HSN.out; omega
    · cases e; exact ⟨g, rfl⟩
  obtain ⟨cg, fg⟩ := cell_row (k := k) HH.out.so rfl rfl (by rw [← HSN.out]; exact hk)
  have R : Hid (∀ q, RDst w ((w.drewN q).setCell ⟨g, k, none⟩ (.int .u8 (rotZ (S.getD k 0) (x : Int)))) b _ _ _ _ (S.set k (rotZ (S.getD k 0) (x : Int))) T E0) := fun q => ((HH.out.drew q).rotS k (rotZ (S.getD k 0) (x : Int))).ofDrew
  rw [← HSN.out, ← HTN.out] at R ⊢
  generalize S.getD k 0 = c at *
  obtain ⟨zz, hzz⟩ : ∃ zz, zz = rotZ c (x : Int) := ⟨_, rfl⟩
  have HZZ := hide hzz
  rw [← hzz] at R ⊢
  clear hzz
  have x1 : ¬ ((x : Int) < 1) := by omega
  have x2 : ¬ ((255 : Int) < (x : Int)) := by omega
  have k1 : (k : Int) < (sn : Int) := by omega
  go_enter Try.func33, Try.ntmps33
  go_wp2_with fail
  refine (rsize_any _ b _ _ S T E0 HH.out).mono ?_
  rintro e w1 ⟨rfl, q, rfl⟩
  rw [← HSN.out, ← HTN.out]
  have BB := hide (below_drewN' (Below.refl w.heap.size w) q)
  obtain ⟨st, hst⟩ : ∃ st : Nat, (sn : Int) + (tn : Int) = (st : Int) := ⟨sn + tn, by omega⟩
  have HSTN : Hid (st = sn + tn) := by show _ = _; omega
  rw [hst]
  clear hst
  have q5 : ¬ ((st : Int) ≤ (k : Int)) := by have := HSTN.out; omega
  go_wp2_with fail
  refine wp_region_held_drew (S := (fun _ => True)) (by kernel_rfl) trivial (fun hHeld => ?_)
  refine wpAnyH_take (i := 0) (v := ?_) rfl (by kernel_rfl) (by kernel_rfl) (by kernel_rfl) (fun _ _ _ h => h) (Or.inl ⟨by rfl, ?_⟩) (by assumption) ?_
  rotate_left
  · intro w hSw
    try dsimp only at hSw
    go_simp
    try with_reducible rfl
  try simp only [Act.put, List.getElem_toArray, List.getElem_cons_zero, List.setIfInBounds_toArray, List.set_cons_zero, List.set_cons_succ]
  refine wpAnyH_take (i := 1) (v := ?_) rfl (by kernel_rfl) (by kernel_rfl) (by kernel_rfl) (fun _ _ _ h => h) (Or.inl ⟨by rfl, ?_⟩) (by assumption) ?_
  rotate_left
  · intro w hSw
    try dsimp only at hSw
    go_simp
    try with_reducible rfl
  try simp only [Act.put, List.getElem_toArray, List.getElem_cons_succ, List.getElem_cons_zero, List.setIfInBounds_toArray, List.set_cons_zero, List.set_cons_succ]
  refine wpAnyH_take (i := 2) (v := ?_) rfl (by kernel_rfl) (by kernel_rfl) (by kernel_rfl) (fun _ _ _ h => h) (Or.inl ⟨by rfl, ?_⟩) (by assumption) ?_
  rotate_left
  · intro w hSw
    try dsimp only at hSw
    go_simp
    try with_reducible rfl
  try simp only [Act.put, List.getElem_toArray, List.getElem_cons_succ, List.getElem_cons_zero, List.setIfInBounds_toArray, List.set_cons_zero, List.set_cons_succ]
  refine wpAnyH_take (i := 4) (v := ?_) rfl (by kernel_rfl) (by kernel_rfl) (by kernel_rfl) (fun _ _ _ h => h) (Or.inl ⟨by rfl, ?_⟩) (by assumption) ?_
  rotate_left
  · intro w hSw
    try dsimp only at hSw
    go_simp
    try with_reducible rfl
  try simp only [Act.put, List.getElem_toArray, List.getElem_cons_succ, List.getElem_cons_zero, List.setIfInBounds_toArray, List.set_cons_zero, List.set_cons_succ]
  refine wpAnyH_take (i := 5) (v := ?_) rfl (by kernel_rfl) (by kernel_rfl) (by kernel_rfl) (fun _ _ _ h => h) (Or.inl ⟨by rfl, ?_⟩) (by assumption) ?_
  rotate_left
  · intro w hSw
    try dsimp only at hSw
    go_simp
    try with_reducible rfl
  try simp only [Act.put, List.getElem_toArray, List.getElem_cons_succ, List.getElem_cons_zero, List.setIfInBounds_toArray, List.set_cons_zero, List.set_cons_succ]
  refine wpAnyH_take (i := 6) (v := ?_) rfl (by kernel_rfl) (by kernel_rfl) (by kernel_rfl) (fun _ _ _ h => h) (Or.inl ⟨by rfl, ?_⟩) (by assumption) ?_
  rotate_left
  · intro w hSw
    try dsimp only at hSw
    go_simp
    try with_reducible rfl
  try simp only [Act.put, List.getElem_toArray, List.getElem_cons_succ, List.getElem_cons_zero, List.setIfInBounds_toArray, List.set_cons_zero, List.set_cons_succ]
  refine wpAnyH_take (i := 7) (v := ?_) rfl (by kernel_rfl) (by kernel_rfl) (by kernel_rfl) (fun _ _ _ h => h) (Or.inl ⟨by rfl, ?_⟩) (by assumption) ?_
  rotate_left
  · intro w hSw
    try dsimp only at hSw
    go_simp
    try with_reducible rfl
  try simp only [Act.put, List.getElem_toArray, List.getElem_cons_succ, List.getElem_cons_zero, List.setIfInBounds_toArray, List.set_cons_zero, List.set_cons_succ]
  refine wpAnyH_take (i := 9) (v := ?_) rfl (by kernel_rfl) (by kernel_rfl) (by kernel_rfl) (fun _ _ _ h => h) (Or.inl ⟨by rfl, ?_⟩) (by assumption) ?_
  rotate_left
  · intro w hSw
    try dsimp only at hSw
    go_simp
    try with_reducible rfl
  try simp only [Act.put, List.getElem_toArray, List.getElem_cons_succ, List.getElem_cons_zero, List.setIfInBounds_toArray, List.set_cons_zero, List.set_cons_succ]
  refine wpAnyH_take (i := 12) (v := ?_) rfl (by kernel_rfl) (by kernel_rfl) (by kernel_rfl) (fun _ _ _ h => h) (Or.inl ⟨by rfl, ?_⟩) (by assumption) ?_
  rotate_left
  · intro w hSw
    try dsimp only at hSw
    go_simp
    try with_reducible rfl
  try simp only [Act.put, List.getElem_toArray, List.getElem_cons_succ, List.getElem_cons_zero, List.setIfInBounds_toArray, List.set_cons_zero, List.set_cons_succ]
  refine wpAnyH_ready (rs := [3, 8]) (by kernel_rfl) (by simp) ?_
  refine AllReadyH.cons rfl (fun K hK => ?_) (AllReadyH.cons rfl (fun K hK => ?_) AllReadyH.nil)
  · rw [if_pos (by rfl)]
    go_wp2_with fail
    refine hK.out _ _ trivial (fun hHeld => ?_)
    clear hK K
    try simp only [Act.put, List.getElem_toArray, List.getElem_cons_succ, List.getElem_cons_zero, List.setIfInBounds_toArray, List.set_cons_zero, List.set_cons_succ]
    refine wpAnyH_ready (rs := [8]) (by kernel_rfl) (by simp) ?_
    refine AllReadyH.cons rfl (fun K hK => ?_) AllReadyH.nil
    rw [if_pos (by rfl)]
    go_wp2_with fail
    refine hK.out _ _ trivial (fun hHeld => ?_)
    clear hK K
    try simp only [Act.put, List.getElem_toArray, List.getElem_cons_succ, List.getElem_cons_zero, List.setIfInBounds_toArray, List.set_cons_zero, List.set_cons_succ]
    refine wpAnyH_take (i := 10) (v := ?_) rfl (by kernel_rfl) (by kernel_rfl) (by kernel_rfl) (fun _ _ _ h => h) (Or.inl ⟨by rfl, ?_⟩) (by assumption) ?_
    rotate_left
    · intro w hSw
      try dsimp only at hSw
      go_simp
      try with_reducible rfl
    try simp only [Act.put, List.getElem_toArray, List.getElem_cons_succ, List.getElem_cons_zero, List.setIfInBounds_toArray, List.set_cons_zero, List.set_cons_succ]
    refine wpAnyH_ready (rs := [11]) (by kernel_rfl) (by simp) ?_
    refine AllReadyH.cons rfl (fun K hK => ?_) AllReadyH.nil
    rw [if_pos (by rfl)]
    go_wp2_with fail
    refine hK.out _ _ trivial (fun hHeld => ?_)
    clear hK K
    try simp only [Act.put, List.getElem_toArray, List.getElem_cons_succ, List.getElem_cons_zero, List.setIfInBounds_toArray, List.set_cons_zero, List.set_cons_succ]
    refine wpAnyH_ready (rs := [13]) (by kernel_rfl) (by simp) ?_
    refine AllReadyH.cons rfl (fun K hK => ?_) AllReadyH.nil
    rw [if_pos (by rfl)]
    go_wp2_with fail
    refine (turned_any c x _ hc (by omega)).mono ?_
    rintro e w9 ⟨rfl, rfl⟩
    rw [← HZZ.out]
    refine hK.out _ _ trivial (fun hHeld => ?_)
    clear hK K
    try simp only [Act.put, List.getElem_toArray, List.getElem_cons_succ, List.getElem_cons_zero, List.setIfInBounds_toArray, List.set_cons_zero, List.set_cons_succ]
    refine wpAnyH_take (i := 14) (v := ?_) rfl (by kernel_rfl) (by kernel_rfl) (by kernel_rfl) (fun _ _ _ h => h) (Or.inl ⟨by rfl, ?_⟩) (by assumption) ?_
    rotate_left
    · intro w hSw
      try dsimp only at hSw
      go_simp
      try with_reducible rfl
    try simp only [Act.put, List.getElem_toArray, List.getElem_cons_succ, List.getElem_cons_zero, List.setIfInBounds_toArray, List.set_cons_zero, List.set_cons_succ]
    refine wpAnyH_ready (rs := [15]) (by kernel_rfl) (by simp) ?_
    refine AllReadyH.cons rfl (fun K hK => ?_) AllReadyH.nil
    rw [if_pos (by rfl)]
    go_wp2_with fail
    refine hK.out _ _ trivial (fun hHeld => ?_)
    clear hK K
    try simp only [Act.put, List.getElem_toArray, List.getElem_cons_succ, List.getElem_cons_zero, List.setIfInBounds_toArray, List.set_cons_zero, List.set_cons_succ]
    refine wpAnyH_done (by kernel_rfl) ?_ _
    go_wp2
    go_ret
    exact ⟨rfl, R.out _⟩
  · rw [if_pos (by rfl)]
    go_wp2_with fail
    refine hK.out _ _ trivial (fun hHeld => ?_)
    clear hK K
    try simp only [Act.put, List.getElem_toArray, List.getElem_cons_succ, List.getElem_cons_zero, List.setIfInBounds_toArray, List.set_cons_zero, List.set_cons_succ]
    refine wpAnyH_take (i := 10) (v := ?_) rfl (by kernel_rfl) (by kernel_rfl) (by kernel_rfl) (fun _ _ _ h => h) (Or.inl ⟨by rfl, ?_⟩) (by assumption) ?_
    rotate_left
    · intro w hSw
      try dsimp only at hSw
      go_simp
      try with_reducible rfl
    try simp only [Act.put, List.getElem_toArray, List.getElem_cons_succ, List.getElem_cons_zero, List.setIfInBounds_toArray, List.set_cons_zero, List.set_cons_succ]
    refine wpAnyH_ready (rs := [3, 11]) (by kernel_rfl) (by simp) ?_
    refine AllReadyH.cons rfl (fun K hK => ?_) (AllReadyH.cons rfl (fun K hK => ?_) AllReadyH.nil)
    · rw [if_pos (by rfl)]
      go_wp2_with fail
      refine hK.out _ _ trivial (fun hHeld => ?_)
      clear hK K
      try simp only [Act.put, List.getElem_toArray, List.getElem_cons_succ, List.getElem_cons_zero, List.setIfInBounds_toArray, List.set_cons_zero, List.set_cons_succ]
      refine wpAnyH_ready (rs := [11]) (by kernel_rfl) (by simp) ?_
      refine AllReadyH.cons rfl (fun K hK => ?_) AllReadyH.nil
      rw [if_pos (by rfl)]
      go_wp2_with fail
      refine hK.out _ _ trivial (fun hHeld => ?_)
      clear hK K
      try simp only [Act.put, List.getElem_toArray, List.getElem_cons_succ, List.getElem_cons_zero, List.setIfInBounds_toArray, List.set_cons_zero, List.set_cons_succ]
      refine wpAnyH_ready (rs := [13]) (by kernel_rfl) (by simp) ?_
      refine AllReadyH.cons rfl (fun K hK => ?_) AllReadyH.nil
      rw [if_pos (by rfl)]
      go_wp2_with fail
      refine (turned_any c x _ hc (by omega)).mono ?_
      rintro e w9 ⟨rfl, rfl⟩
      rw [← HZZ.out]
      refine hK.out _ _ trivial (fun hHeld => ?_)
      clear hK K
      try simp only [Act.put, List.getElem_toArray, List.getElem_cons_succ, List.getElem_cons_zero, List.setIfInBounds_toArray, List.set_cons_zero, List.set_cons_succ]
      refine wpAnyH_take (i := 14) (v := ?_) rfl (by kernel_rfl) (by kernel_rfl) (by kernel_rfl) (fun _ _ _ h => h) (Or.inl ⟨by rfl, ?_⟩) (by assumption) ?_
      rotate_left
      · intro w hSw
        try dsimp only at hSw
        go_simp
        try with_reducible rfl
      try simp only [Act.put, List.getElem_toArray, List.getElem_cons_succ, List.getElem_cons_zero, List.setIfInBounds_toArray, List.set_cons_zero, List.set_cons_succ]
      refine wpAnyH_ready (rs := [15]) (by kernel_rfl) (by simp) ?_
      refine AllReadyH.cons rfl (fun K hK => ?_) AllReadyH.nil
      rw [if_pos (by rfl)]
      go_wp2_with fail
      refine hK.out _ _ trivial (fun hHeld => ?_)
      clear hK K
      try simp only [Act.put, List.getElem_toArray, List.getElem_cons_succ, List.getElem_cons_zero, List.setIfInBounds_toArray, List.set_cons_zero, List.set_cons_succ]
      refine wpAnyH_done (by kernel_rfl) ?_ _
      go_wp2
      go_ret
      exact ⟨rfl, R.out _⟩
    · rw [if_pos (by rfl)]
      go_wp2_with fail
      refine hK.out _ _ trivial (fun hHeld => ?_)
      clear hK K
      try simp only [Act.put, List.getElem_toArray, List.getElem_cons_succ, List.getElem_cons_zero, List.setIfInBounds_toArray, List.set_cons_zero, List.set_cons_succ]
      refine wpAnyH_ready (rs := [3, 13]) (by kernel_rfl) (by simp) ?_
      refine AllReadyH.cons rfl (fun K hK => ?_) (AllReadyH.cons rfl (fun K hK => ?_) AllReadyH.nil)
      · rw [if_pos (by rfl)]
        go_wp2_with fail
        refine hK.out _ _ trivial (fun hHeld => ?_)
        clear hK K
        try simp only [Act.put, List.getElem_toArray, List.getElem_cons_succ, List.getElem_cons_zero, List.setIfInBounds_toArray, List.set_cons_zero, List.set_cons_succ]
        refine wpAnyH_ready (rs := [13]) (by kernel_rfl) (by simp) ?_
        refine AllReadyH.cons rfl (fun K hK => ?_) AllReadyH.nil
        rw [if_pos (by rfl)]
        go_wp2_with fail
        refine (turned_any c x _ hc (by omega)).mono ?_
        rintro e w9 ⟨rfl, rfl⟩
        rw [← HZZ.out]
        refine hK.out _ _ trivial (fun hHeld => ?_)
        clear hK K
        try simp only [Act.put, List.getElem_toArray, List.getElem_cons_succ, List.getElem_cons_zero, List.setIfInBounds_toArray, List.set_cons_zero, List.set_cons_succ]
        refine wpAnyH_take (i := 14) (v := ?_) rfl (by kernel_rfl) (by kernel_rfl) (by kernel_rfl) (fun _ _ _ h => h) (Or.inl ⟨by rfl, ?_⟩) (by assumption) ?_
        rotate_left
        · intro w hSw
          try dsimp only at hSw
          go_simp
          try with_reducible rfl
        try simp only [Act.put, List.getElem_toArray, List.getElem_cons_succ, List.getElem_cons_zero, List.setIfInBounds_toArray, List.set_cons_zero, List.set_cons_succ]
        refine wpAnyH_ready (rs := [15]) (by kernel_rfl) (by simp) ?_
        refine AllReadyH.cons rfl (fun K hK => ?_) AllReadyH.nil
        rw [if_pos (by rfl)]
        go_wp2_with fail
        refine hK.out _ _ trivial (fun hHeld => ?_)
        clear hK K
        try simp only [Act.put, List.getElem_toArray, List.getElem_cons_succ, List.getElem_cons_zero, List.setIfInBounds_toArray, List.set_cons_zero, List.set_cons_succ]
        refine wpAnyH_done (by kernel_rfl) ?_ _
        go_wp2
        go_ret
        exact ⟨rfl, R.out _⟩
      · rw [if_pos (by rfl)]
        go_wp2_with fail
        refine (turned_any c x _ hc (by omega)).mono ?_
        rintro e w9 ⟨rfl, rfl⟩
        rw [← HZZ.out]
        refine hK.out _ _ trivial (fun hHeld => ?_)
        clear hK K
        try simp only [Act.put, List.getElem_toArray, List.getElem_cons_succ, List.getElem_cons_zero, List.setIfInBounds_toArray, List.set_cons_zero, List.set_cons_succ]
        refine wpAnyH_ready (rs := [3]) (by kernel_rfl) (by simp) ?_
        refine AllReadyH.cons rfl (fun K hK => ?_) AllReadyH.nil
        rw [if_pos (by rfl)]
        go_wp2_with fail
        refine hK.out _ _ trivial (fun hHeld => ?_)
        clear hK K
        try simp only [Act.put, List.getElem_toArray, List.getElem_cons_succ, List.getElem_cons_zero, List.setIfInBounds_toArray, List.set_cons_zero, List.set_cons_succ]
        refine wpAnyH_take (i := 14) (v := ?_) rfl (by kernel_rfl) (by kernel_rfl) (by kernel_rfl) (fun _ _ _ h => h) (Or.inl ⟨by rfl, ?_⟩) (by assumption) ?_
        rotate_left
        · intro w hSw
          try dsimp only at hSw
          go_simp
          try with_reducible rfl
        try simp only [Act.put, List.getElem_toArray, List.getElem_cons_succ, List.getElem_cons_zero, List.setIfInBounds_toArray, List.set_cons_zero, List.set_cons_succ]
        refine wpAnyH_ready (rs := [15]) (by kernel_rfl) (by simp) ?_
        refine AllReadyH.cons rfl (fun K hK => ?_) AllReadyH.nil
        rw [if_pos (by rfl)]
        go_wp2_with fail
        refine hK.out _ _ trivial (fun hHeld => ?_)
        clear hK K
        try simp only [Act.put, List.getElem_toArray, List.getElem_cons_succ, List.getElem_cons_zero, List.setIfInBounds_toArray, List.set_cons_zero, List.set_cons_succ]
        refine wpAnyH_done (by kernel_rfl) ?_ _
        go_wp2
        go_ret
        exact ⟨rfl, R.out _⟩

set_option maxHeartbeats 4000000 in
set_option maxRecDepth 100000 in
theorem rrot_tail (w : World) (b : Nat) (sv tv : Value) (S T : List Int) (E0 : Nat) (k x : Nat) (h : RDk w b sv tv S T E0) (hk : k < T.length) (hc : 0 ≤ T.getD k 0 ∧ T.getD k 0 < 256) (hx : 1 ≤ x) (hx2 : x ≤ 255) :
    Calls Try.prog 33 #[.pointer (some ⟨b, 0, none⟩), .int .i64 ((S.length : Int) + (k : Int)), .int .i64 (x : Int)] w fun r w' => r = .returned (.int .i64 0) ∧ RDst w w' b sv tv sv tv S (T.set k (rotZ (T.getD k 0) (x : Int))) E0 := by
  obtain ⟨sa, sc, rfl⟩ := own_shape h.so
  obtain ⟨ta, tc, rfl⟩ := own_shape h.to
  have c0 := h.box.cell 0 _ rfl
  have c1 := h.box.cell 1 _ rfl
  have htop := h.top
  have HH := hide h
  clear h
  obtain ⟨sn, hsn⟩ : ∃ sn, sn = S.length := ⟨_, rfl⟩
  obtain ⟨tn, htn⟩ : ∃ tn, tn = T.length := ⟨_, rfl⟩
  have HSN := hide hsn
  have HTN := hide htn
  rw [← hsn] at c0 htop
  rw [← htn] at c1 htop
  clear hsn htn
  rw [← HTN.out] at hk
  obtain ⟨g, rfl⟩ : ∃ g, ta = some ⟨g, 0, none⟩ := by
    rcases HH.out.to.2 with ⟨_, h0⟩ | ⟨g, cap, _, e, _⟩
    · have := HTN.out; omega
    · cases e; exact ⟨g, rfl⟩
  obtain ⟨cg, fg⟩ := cell_row (k := k) HH.out.to rfl rfl (by rw [← HTN.out]; exact hk)
  have R : Hid (∀ q, RDst w ((w.drewN q).setCell ⟨g, k, none⟩ (.int .u8 (rotZ (T.getD k 0) (x : Int)))) b _ _ _ _ S (T.set k (rotZ (T.getD k 0) (x : Int))) E0) := fun q => ((HH.out.drew q).rotT k (rotZ (T.getD k 0) (x : Int))).ofDrew
  rw [← HSN.out, ← HTN.out] at R ⊢
  generalize T.getD k 0 = c at *
  obtain ⟨zz, hzz⟩ : ∃ zz, zz = rotZ c (x : Int) := ⟨_, rfl⟩
  have HZZ := hide hzz
  rw [← hzz] at R ⊢
  clear hzz
  have x1 : ¬ ((x : Int) < 1) := by omega
  have x2 : ¬ ((255 : Int) < (x : Int)) := by omega
  obtain ⟨z, hz⟩ : ∃ z : Nat, (sn : Int) + (k : Int) = (z : Int) := ⟨sn + k, by omega⟩
  rw [hz]
  have HZ := hide hz
  have z1 : ¬ ((z : Int) < (sn : Int)) := by omega
  have z2 : (z : Int) - (sn : Int) = (k : Int) := by omega
  have z3 : IntKind.i64.wrap (k : Int) = (k : Int) := by simp only [IntKind.wrap_i64]; omega
  have z4 : (z : Int) ≤ 4194304 := by omega
  have k1 : (k : Int) < (tn : Int) := by omega
  clear hz
  go_enter Try.func33, Try.ntmps33
  go_wp2_with fail
  refine (rsize_any _ b _ _ S T E0 HH.out).mono ?_
  rintro e w1 ⟨rfl, q, rfl⟩
  rw [← HSN.out, ← HTN.out]
  have BB := hide (below_drewN' (Below.refl w.heap.size w) q)
  obtain ⟨st, hst⟩ : ∃ st : Nat, (sn : Int) + (tn : Int) = (st : Int) := ⟨sn + tn, by omega⟩
  have HSTN : Hid (st = sn + tn) := by show _ = _; omega
  rw [hst]
  clear hst
  have q5 : ¬ ((st : Int) ≤ (z : Int)) := by have := HSTN.out; have := HZ.out; omega
  go_wp2_with fail
  refine wp_region_held_drew (S := (fun _ => True)) (by kernel_rfl) trivial (fun hHeld => ?_)
  refine wpAnyH_take (i := 0) (v := ?_) rfl (by kernel_rfl) (by kernel_rfl) (by kernel_rfl) (fun _ _ _ h => h) (Or.inl ⟨by rfl, ?_⟩) (by assumption) ?_
  rotate_left
  · intro w hSw
    try dsimp only at hSw
    go_simp
    try with_reducible rfl
  try simp only [Act.put, List.getElem_toArray, List.getElem_cons_zero, List.setIfInBounds_toArray, List.set_cons_zero, List.set_cons_succ]
  refine wpAnyH_take (i := 1) (v := ?_) rfl (by kernel_rfl) (by kernel_rfl) (by kernel_rfl) (fun _ _ _ h => h) (Or.inl ⟨by rfl, ?_⟩) (by assumption) ?_
  rotate_left
  · intro w hSw
    try dsimp only at hSw
    go_simp
    try with_reducible rfl
  try simp only [Act.put, List.getElem_toArray, List.getElem_cons_succ, List.getElem_cons_zero, List.setIfInBounds_toArray, List.set_cons_zero, List.set_cons_succ]
  refine wpAnyH_take (i := 2) (v := ?_) rfl (by kernel_rfl) (by kernel_rfl) (by kernel_rfl) (fun _ _ _ h => h) (Or.inl ⟨by rfl, ?_⟩) (by assumption) ?_
  rotate_left
  · intro w hSw
    try dsimp only at hSw
    go_simp
    try with_reducible rfl
  try simp only [Act.put, List.getElem_toArray, List.getElem_cons_succ, List.getElem_cons_zero, List.setIfInBounds_toArray, List.set_cons_zero, List.set_cons_succ]
  refine wpAnyH_take (i := 4) (v := ?_) rfl (by kernel_rfl) (by kernel_rfl) (by kernel_rfl) (fun _ _ _ h => h) (Or.inl ⟨by rfl, ?_⟩) (by assumption) ?_
  rotate_left
  · intro w hSw
    try dsimp only at hSw
    go_simp
    try with_reducible rfl
  try simp only [Act.put, List.getElem_toArray, List.getElem_cons_succ, List.getElem_cons_zero, List.setIfInBounds_toArray, List.set_cons_zero, List.set_cons_succ]
  refine wpAnyH_take (i := 5) (v := ?_) rfl (by kernel_rfl) (by kernel_rfl) (by kernel_rfl) (fun _ _ _ h => h) (Or.inl ⟨by rfl, ?_⟩) (by assumption) ?_
  rotate_left
  · intro w hSw
    try dsimp only at hSw
    go_simp
    try with_reducible rfl
  try simp only [Act.put, List.getElem_toArray, List.getElem_cons_succ, List.getElem_cons_zero, List.setIfInBounds_toArray, List.set_cons_zero, List.set_cons_succ]
  refine wpAnyH_take (i := 6) (v := ?_) rfl (by kernel_rfl) (by kernel_rfl) (by kernel_rfl) (fun _ _ _ h => h) (Or.inl ⟨by rfl, ?_⟩) (by assumption) ?_
  rotate_left
  · intro w hSw
    try dsimp only at hSw
    go_simp
    try with_reducible rfl
  try simp only [Act.put, List.getElem_toArray, List.getElem_cons_succ, List.getElem_cons_zero, List.setIfInBounds_toArray, List.set_cons_zero, List.set_cons_succ]
  refine wpAnyH_take (i := 7) (v := ?_) rfl (by kernel_rfl) (by kernel_rfl) (by kernel_rfl) (fun _ _ _ h => h) (Or.inl ⟨by rfl, ?_⟩) (by assumption) ?_
  rotate_left
  · intro w hSw
    try dsimp only at hSw
    go_simp
    try with_reducible rfl
  try simp only [Act.put, List.getElem_toArray, List.getElem_cons_succ, List.getElem_cons_zero, List.setIfInBounds_toArray, List.set_cons_zero, List.set_cons_succ]
  refine wpAnyH_take (i := 9) (v := ?_) rfl (by kernel_rfl) (by kernel_rfl) (by kernel_rfl) (fun _ _ _ h => h) (Or.inl ⟨by rfl, ?_⟩) (by assumption) ?_
  rotate_left
  · intro w hSw
    try dsimp only at hSw
    go_simp
    try with_reducible rfl
  try simp only [Act.put, List.getElem_toArray, List.getElem_cons_succ, List.getElem_cons_zero, List.setIfInBounds_toArray, List.set_cons_zero, List.set_cons_succ]
  refine wpAnyH_take (i := 12) (v := ?_) rfl (by kernel_rfl) (by kernel_rfl) (by kernel_rfl) (fun _ _ _ h => h) (Or.inl ⟨by rfl, ?_⟩) (by assumption) ?_
  rotate_left
  · intro w hSw
    try dsimp only at hSw
    go_simp
    try with_reducible rfl
  try simp only [Act.put, List.getElem_toArray, List.getElem_cons_succ, List.getElem_cons_zero, List.setIfInBounds_toArray, List.set_cons_zero, List.set_cons_succ]
  refine wpAnyH_ready (rs := [3, 8]) (by kernel_rfl) (by simp) ?_
  refine AllReadyH.cons rfl (fun K hK => ?_) (AllReadyH.cons rfl (fun K hK => ?_) AllReadyH.nil)
  · rw [if_pos (by rfl)]
    go_wp2_with fail
    refine hK.out _ _ trivial (fun hHeld => ?_)
    clear hK K
    try simp only [Act.put, List.getElem_toArray, List.getElem_cons_succ, List.getElem_cons_zero, List.setIfInBounds_toArray, List.set_cons_zero, List.set_cons_succ]
    refine wpAnyH_ready (rs := [8]) (by kernel_rfl) (by simp) ?_
    refine AllReadyH.cons rfl (fun K hK => ?_) AllReadyH.nil
    rw [if_pos (by rfl)]
    go_wp2_with fail
    refine hK.out _ _ trivial (fun hHeld => ?_)
    clear hK K
    try simp only [Act.put, List.getElem_toArray, List.getElem_cons_succ, List.getElem_cons_zero, List.setIfInBounds_toArray, List.set_cons_zero, List.set_cons_succ]
    refine wpAnyH_take (i := 10) (v := ?_) rfl (by kernel_rfl) (by kernel_rfl) (by kernel_rfl) (fun _ _ _ h => h) (Or.inl ⟨by rfl, ?_⟩) (by assumption) ?_
    rotate_left
    · intro w hSw
      try dsimp only at hSw
      go_simp
      try with_reducible rfl
    try simp only [Act.put, List.getElem_toArray, List.getElem_cons_succ, List.getElem_cons_zero, List.setIfInBounds_toArray, List.set_cons_zero, List.set_cons_succ]
    refine wpAnyH_ready (rs := [11]) (by kernel_rfl) (by simp) ?_
    refine AllReadyH.cons rfl (fun K hK => ?_) AllReadyH.nil
    rw [if_pos (by rfl)]
    go_wp2_with fail
    refine hK.out _ _ trivial (fun hHeld => ?_)
    clear hK K
    try simp only [Act.put, List.getElem_toArray, List.getElem_cons_succ, List.getElem_cons_zero, List.setIfInBounds_toArray, List.set_cons_zero, List.set_cons_succ]
    refine wpAnyH_ready (rs := [13]) (by kernel_rfl) (by simp) ?_
    refine AllReadyH.cons rfl (fun K hK => ?_) AllReadyH.nil
    rw [if_pos (by rfl)]
    go_wp2_with fail
    refine (turned_any c x _ hc (by omega)).mono ?_
    rintro e w9 ⟨rfl, rfl⟩
    rw [← HZZ.out]
    refine hK.out _ _ trivial (fun hHeld => ?_)
    clear hK K
    try simp only [Act.put, List.getElem_toArray, List.getElem_cons_succ, List.getElem_cons_zero, List.setIfInBounds_toArray, List.set_cons_zero, List.set_cons_succ]
    refine wpAnyH_take (i := 14) (v := ?_) rfl (by kernel_rfl) (by kernel_rfl) (by kernel_rfl) (fun _ _ _ h => h) (Or.inl ⟨by rfl, ?_⟩) (by assumption) ?_
    rotate_left
    · intro w hSw
      try dsimp only at hSw
      go_simp
      try with_reducible rfl
    try simp only [Act.put, List.getElem_toArray, List.getElem_cons_succ, List.getElem_cons_zero, List.setIfInBounds_toArray, List.set_cons_zero, List.set_cons_succ]
    refine wpAnyH_ready (rs := [15]) (by kernel_rfl) (by simp) ?_
    refine AllReadyH.cons rfl (fun K hK => ?_) AllReadyH.nil
    rw [if_pos (by rfl)]
    go_wp2_with fail
    refine hK.out _ _ trivial (fun hHeld => ?_)
    clear hK K
    try simp only [Act.put, List.getElem_toArray, List.getElem_cons_succ, List.getElem_cons_zero, List.setIfInBounds_toArray, List.set_cons_zero, List.set_cons_succ]
    refine wpAnyH_done (by kernel_rfl) ?_ _
    go_wp2
    go_ret
    exact ⟨rfl, R.out _⟩
  · rw [if_pos (by rfl)]
    go_wp2_with fail
    refine hK.out _ _ trivial (fun hHeld => ?_)
    clear hK K
    try simp only [Act.put, List.getElem_toArray, List.getElem_cons_succ, List.getElem_cons_zero, List.setIfInBounds_toArray, List.set_cons_zero, List.set_cons_succ]
    refine wpAnyH_take (i := 10) (v := ?_) rfl (by kernel_rfl) (by kernel_rfl) (by kernel_rfl) (fun _ _ _ h => h) (Or.inl ⟨by rfl, ?_⟩) (by assumption) ?_
    rotate_left
    · intro w hSw
      try dsimp only at hSw
      go_simp
      try with_reducible rfl
    try simp only [Act.put, List.getElem_toArray, List.getElem_cons_succ, List.getElem_cons_zero, List.setIfInBounds_toArray, List.set_cons_zero, List.set_cons_succ]
    refine wpAnyH_ready (rs := [3, 11]) (by kernel_rfl) (by simp) ?_
    refine AllReadyH.cons rfl (fun K hK => ?_) (AllReadyH.cons rfl (fun K hK => ?_) AllReadyH.nil)
    · rw [if_pos (by rfl)]
      go_wp2_with fail
      refine hK.out _ _ trivial (fun hHeld => ?_)
      clear hK K
      try simp only [Act.put, List.getElem_toArray, List.getElem_cons_succ, List.getElem_cons_zero, List.setIfInBounds_toArray, List.set_cons_zero, List.set_cons_succ]
      refine wpAnyH_ready (rs := [11]) (by kernel_rfl) (by simp) ?_
      refine AllReadyH.cons rfl (fun K hK => ?_) AllReadyH.nil
      rw [if_pos (by rfl)]
      go_wp2_with fail
      refine hK.out _ _ trivial (fun hHeld => ?_)
      clear hK K
      try simp only [Act.put, List.getElem_toArray, List.getElem_cons_succ, List.getElem_cons_zero, List.setIfInBounds_toArray, List.set_cons_zero, List.set_cons_succ]
      refine wpAnyH_ready (rs := [13]) (by kernel_rfl) (by simp) ?_
      refine AllReadyH.cons rfl (fun K hK => ?_) AllReadyH.nil
      rw [if_pos (by rfl)]
      go_wp2_with fail
      refine (turned_any c x _ hc (by omega)).mono ?_
      rintro e w9 ⟨rfl, rfl⟩
      rw [← HZZ.out]
      refine hK.out _ _ trivial (fun hHeld => ?_)
      clear hK K
      try simp only [Act.put, List.getElem_toArray, List.getElem_cons_succ, List.getElem_cons_zero, List.setIfInBounds_toArray, List.set_cons_zero, List.set_cons_succ]
      refine wpAnyH_take (i := 14) (v := ?_) rfl (by kernel_rfl) (by kernel_rfl) (by kernel_rfl) (fun _ _ _ h => h) (Or.inl ⟨by rfl, ?_⟩) (by assumption) ?_
      rotate_left
      · intro w hSw
        try dsimp only at hSw
        go_simp
        try with_reducible rfl
      try simp only [Act.put, List.getElem_toArray, List.getElem_cons_succ, List.getElem_cons_zero, List.setIfInBounds_toArray, List.set_cons_zero, List.set_cons_succ]
      refine wpAnyH_ready (rs := [15]) (by kernel_rfl) (by simp) ?_
      refine AllReadyH.cons rfl (fun K hK => ?_) AllReadyH.nil
      rw [if_pos (by rfl)]
      go_wp2_with fail
      refine hK.out _ _ trivial (fun hHeld => ?_)
      clear hK K
      try simp only [Act.put, List.getElem_toArray, List.getElem_cons_succ, List.getElem_cons_zero, List.setIfInBounds_toArray, List.set_cons_zero, List.set_cons_succ]
      refine wpAnyH_done (by kernel_rfl) ?_ _
      go_wp2
      go_ret
      exact ⟨rfl, R.out _⟩
    · rw [if_pos (by rfl)]
      go_wp2_with fail
      refine hK.out _ _ trivial (fun hHeld => ?_)
      clear hK K
      try simp only [Act.put, List.getElem_toArray, List.getElem_cons_succ, List.getElem_cons_zero, List.setIfInBounds_toArray, List.set_cons_zero, List.set_cons_succ]
      refine wpAnyH_ready (rs := [3, 13]) (by kernel_rfl) (by simp) ?_
      refine AllReadyH.cons rfl (fun K hK => ?_) (AllReadyH.cons rfl (fun K hK => ?_) AllReadyH.nil)
      · rw [if_pos (by rfl)]
        go_wp2_with fail
        refine hK.out _ _ trivial (fun hHeld => ?_)
        clear hK K
        try simp only [Act.put, List.getElem_toArray, List.getElem_cons_succ, List.getElem_cons_zero, List.setIfInBounds_toArray, List.set_cons_zero, List.set_cons_succ]
        refine wpAnyH_ready (rs := [13]) (by kernel_rfl) (by simp) ?_
        refine AllReadyH.cons rfl (fun K hK => ?_) AllReadyH.nil
        rw [if_pos (by rfl)]
        go_wp2_with fail
        refine (turned_any c x _ hc (by omega)).mono ?_
        rintro e w9 ⟨rfl, rfl⟩
        rw [← HZZ.out]
        refine hK.out _ _ trivial (fun hHeld => ?_)
        clear hK K
        try simp only [Act.put, List.getElem_toArray, List.getElem_cons_succ, List.getElem_cons_zero, List.setIfInBounds_toArray, List.set_cons_zero, List.set_cons_succ]
        refine wpAnyH_take (i := 14) (v := ?_) rfl (by kernel_rfl) (by kernel_rfl) (by kernel_rfl) (fun _ _ _ h => h) (Or.inl ⟨by rfl, ?_⟩) (by assumption) ?_
        rotate_left
        · intro w hSw
          try dsimp only at hSw
          go_simp
          try with_reducible rfl
        try simp only [Act.put, List.getElem_toArray, List.getElem_cons_succ, List.getElem_cons_zero, List.setIfInBounds_toArray, List.set_cons_zero, List.set_cons_succ]
        refine wpAnyH_ready (rs := [15]) (by kernel_rfl) (by simp) ?_
        refine AllReadyH.cons rfl (fun K hK => ?_) AllReadyH.nil
        rw [if_pos (by rfl)]
        go_wp2_with fail
        refine hK.out _ _ trivial (fun hHeld => ?_)
        clear hK K
        try simp only [Act.put, List.getElem_toArray, List.getElem_cons_succ, List.getElem_cons_zero, List.setIfInBounds_toArray, List.set_cons_zero, List.set_cons_succ]
        refine wpAnyH_done (by kernel_rfl) ?_ _
        go_wp2
        go_ret
        exact ⟨rfl, R.out _⟩
      · rw [if_pos (by rfl)]
        go_wp2_with fail
        refine (turned_any c x _ hc (by omega)).mono ?_
        rintro e w9 ⟨rfl, rfl⟩
        rw [← HZZ.out]
        refine hK.out _ _ trivial (fun hHeld => ?_)
        clear hK K
        try simp only [Act.put, List.getElem_toArray, List.getElem_cons_succ, List.getElem_cons_zero, List.setIfInBounds_toArray, List.set_cons_zero, List.set_cons_succ]
        refine wpAnyH_ready (rs := [3]) (by kernel_rfl) (by simp) ?_
        refine AllReadyH.cons rfl (fun K hK => ?_) AllReadyH.nil
        rw [if_pos (by rfl)]
        go_wp2_with fail
        refine hK.out _ _ trivial (fun hHeld => ?_)
        clear hK K
        try simp only [Act.put, List.getElem_toArray, List.getElem_cons_succ, List.getElem_cons_zero, List.setIfInBounds_toArray, List.set_cons_zero, List.set_cons_succ]
        refine wpAnyH_take (i := 14) (v := ?_) rfl (by kernel_rfl) (by kernel_rfl) (by kernel_rfl) (fun _ _ _ h => h) (Or.inl ⟨by rfl, ?_⟩) (by assumption) ?_
        rotate_left
        · intro w hSw
          try dsimp only at hSw
          go_simp
          try with_reducible rfl
        try simp only [Act.put, List.getElem_toArray, List.getElem_cons_succ, List.getElem_cons_zero, List.setIfInBounds_toArray, List.set_cons_zero, List.set_cons_succ]
        refine wpAnyH_ready (rs := [15]) (by kernel_rfl) (by simp) ?_
        refine AllReadyH.cons rfl (fun K hK => ?_) AllReadyH.nil
        rw [if_pos (by rfl)]
        go_wp2_with fail
        refine hK.out _ _ trivial (fun hHeld => ?_)
        clear hK K
        try simp only [Act.put, List.getElem_toArray, List.getElem_cons_succ, List.getElem_cons_zero, List.setIfInBounds_toArray, List.set_cons_zero, List.set_cons_succ]
        refine wpAnyH_done (by kernel_rfl) ?_ _
        go_wp2
        go_ret
        exact ⟨rfl, R.out _⟩

end Go.Proofs.Ytahpnfbjpdnapaa
