/- The document's own disk: Cut. -/
import Derived.Test.YtahpnfbjpdnapaaDkRSync
namespace Go.Proofs.Ytahpnfbjpdnapaa
open Go.RowKit Go.Wire1 Go.MuLone

set_option maxHeartbeats 4000000 in
set_option maxRecDepth 100000 in
theorem rcut_low (w : World) (b : Nat) (sv tv : Value) (S T : List Int) (E0 : Nat) (z : Int) (h : RDk w b sv tv S T E0) (hz : z < (S.length : Int)) :
    Calls Try.prog 32 #[.pointer (some ⟨b, 0, none⟩), .int .i64 z] w fun r w' => r = .returned (.int .i64 93) ∧ Below w.heap.size w w' := by
  obtain ⟨sa, sc, rfl, _, _, ss⟩ := seg_own h.so
  obtain ⟨ta, tc, rfl, _, _, tt⟩ := seg_own h.to
  have c0 := h.box.cell 0 _ rfl
  have c1 := h.box.cell 1 _ rfl
  have f0 := h.box.thaw 0
  have f1 := h.box.thaw 1
  have htop := h.top
  have HH := hide h
  have SS := hide ss
  have TT := hide tt
  have HBL := hide h.box.lt
  clear h ss tt
  obtain ⟨sn, hsn⟩ : ∃ sn, sn = S.length := ⟨_, rfl⟩
  obtain ⟨tn, htn⟩ : ∃ tn, tn = T.length := ⟨_, rfl⟩
  have HSN := hide hsn
  have HTN := hide htn
  rw [← hsn] at SS c0 htop
  rw [← htn] at TT c1 htop
  clear hsn htn
  rw [← HSN.out] at hz
  go_enter Try.func32, Try.ntmps32
  go_wp2_with fail
  refine (rsize_any _ b _ _ S T E0 HH.out).mono ?_
  rintro e w1 ⟨rfl, q, rfl⟩
  rw [← HSN.out, ← HTN.out]
  have BB := hide (below_drewN' (Below.refl w.heap.size w) q)
  obtain ⟨st, hst⟩ : ∃ st : Nat, (sn : Int) + (tn : Int) = (st : Int) := ⟨sn + tn, by omega⟩
  have HSTN : Hid (st = sn + tn) := by show _ = _; omega
  rw [hst]
  clear hst
  have d0 : (w.drewN q).cell? ⟨b, 0, none⟩ = some (.slice sa sn sc) := c0
  have d1 : (w.drewN q).cell? ⟨b, 1, none⟩ = some (.slice ta tn tc) := c1
  have g0 : (w.drewN q).frozen? ⟨b, 0, none⟩ = false := f0
  have g1 : (w.drewN q).frozen? ⟨b, 1, none⟩ = false := f1
  go_wp2
  go_ret
  exact ⟨rfl, BB.out⟩

set_option maxHeartbeats 4000000 in
set_option maxRecDepth 100000 in
theorem rcut_high (w : World) (b : Nat) (sv tv : Value) (S T : List Int) (E0 : Nat) (z : Int) (h : RDk w b sv tv S T E0) (hz : ¬ z < (S.length : Int)) (hz2 : (S.length : Int) + (T.length : Int) < z) :
    Calls Try.prog 32 #[.pointer (some ⟨b, 0, none⟩), .int .i64 z] w fun r w' => r = .returned (.int .i64 93) ∧ Below w.heap.size w w' := by
  obtain ⟨sa, sc, rfl, _, _, ss⟩ := seg_own h.so
  obtain ⟨ta, tc, rfl, _, _, tt⟩ := seg_own h.to
  have c0 := h.box.cell 0 _ rfl
  have c1 := h.box.cell 1 _ rfl
  have f0 := h.box.thaw 0
  have f1 := h.box.thaw 1
  have htop := h.top
  have HH := hide h
  have SS := hide ss
  have TT := hide tt
  have HBL := hide h.box.lt
  clear h ss tt
  obtain ⟨sn, hsn⟩ : ∃ sn, sn = S.length := ⟨_, rfl⟩
  obtain ⟨tn, htn⟩ : ∃ tn, tn = T.length := ⟨_, rfl⟩
  have HSN := hide hsn
  have HTN := hide htn
  rw [← hsn] at SS c0 htop
  rw [← htn] at TT c1 htop
  clear hsn htn
  rw [← HSN.out] at hz hz2
  rw [← HTN.out] at hz2
  go_enter Try.func32, Try.ntmps32
  go_wp2_with fail
  refine (rsize_any _ b _ _ S T E0 HH.out).mono ?_
  rintro e w1 ⟨rfl, q, rfl⟩
  rw [← HSN.out, ← HTN.out]
  have BB := hide (below_drewN' (Below.refl w.heap.size w) q)
  obtain ⟨st, hst⟩ : ∃ st : Nat, (sn : Int) + (tn : Int) = (st : Int) := ⟨sn + tn, by omega⟩
  have HSTN : Hid (st = sn + tn) := by show _ = _; omega
  rw [hst]
  clear hst
  have d0 : (w.drewN q).cell? ⟨b, 0, none⟩ = some (.slice sa sn sc) := c0
  have d1 : (w.drewN q).cell? ⟨b, 1, none⟩ = some (.slice ta tn tc) := c1
  have g0 : (w.drewN q).frozen? ⟨b, 0, none⟩ = false := f0
  have g1 : (w.drewN q).frozen? ⟨b, 1, none⟩ = false := f1
  have q5 : (st : Int) < z := by have := HSTN.out; omega
  clear hz2
  go_wp2
  go_ret
  exact ⟨rfl, BB.out⟩
set_option maxHeartbeats 4000000 in
set_option maxRecDepth 100000 in
theorem rcut_yes (w : World) (b : Nat) (sv tv : Value) (S T : List Int) (E0 : Nat) (kk : Nat) (h : RDk w b sv tv S T E0) (hk : kk ≤ T.length) :
    Calls Try.prog 32 #[.pointer (some ⟨b, 0, none⟩), .int .i64 ((S.length : Int) + (kk : Int))] w fun r w' => r = .returned (.int .i64 0) ∧ ∃ tv', RDst w w' b sv tv sv tv' S (T.take kk) E0 := by
  obtain ⟨sa, sc, rfl, _, _, ss⟩ := seg_own h.so
  obtain ⟨ta, tc, rfl, _, _, tt⟩ := seg_own h.to
  have c0 := h.box.cell 0 _ rfl
  have c1 := h.box.cell 1 _ rfl
  have f0 := h.box.thaw 0
  have f1 := h.box.thaw 1
  have htop := h.top
  have HH := hide h
  have SS := hide ss
  have TT := hide tt
  have HBL := hide h.box.lt
  clear h ss tt
  obtain ⟨sn, hsn⟩ : ∃ sn, sn = S.length := ⟨_, rfl⟩
  obtain ⟨tn, htn⟩ : ∃ tn, tn = T.length := ⟨_, rfl⟩
  have HSN := hide hsn
  have HTN := hide htn
  rw [← hsn] at SS c0 htop
  rw [← htn] at TT c1 htop
  clear hsn htn
  rw [← HTN.out] at hk
  rw [← HSN.out]
  obtain ⟨T2, hT2⟩ : ∃ T2, T2 = T.take kk := ⟨_, rfl⟩
  have HT2 := hide hT2
  rw [← hT2]
  clear hT2
  obtain ⟨z, hz⟩ : ∃ z : Nat, (sn : Int) + (kk : Int) = (z : Int) := ⟨sn + kk, by omega⟩
  rw [hz]
  have HZ := hide hz
  have z1 : ¬ ((z : Int) < (sn : Int)) := by omega
  have z2 : (z : Int) - (sn : Int) = (kk : Int) := by omega
  have z3 : IntKind.i64.wrap (kk : Int) = (kk : Int) := by simp only [IntKind.wrap_i64]; omega
  clear hz
  go_enter Try.func32, Try.ntmps32
  go_wp2_with fail
  refine (rsize_any _ b _ _ S T E0 HH.out).mono ?_
  rintro e w1 ⟨rfl, q, rfl⟩
  rw [← HSN.out, ← HTN.out]
  have BB := hide (below_drewN' (Below.refl w.heap.size w) q)
  obtain ⟨st, hst⟩ : ∃ st : Nat, (sn : Int) + (tn : Int) = (st : Int) := ⟨sn + tn, by omega⟩
  have HSTN : Hid (st = sn + tn) := by show _ = _; omega
  rw [hst]
  clear hst
  have d0 : (w.drewN q).cell? ⟨b, 0, none⟩ = some (.slice sa sn sc) := c0
  have d1 : (w.drewN q).cell? ⟨b, 1, none⟩ = some (.slice ta tn tc) := c1
  have g0 : (w.drewN q).frozen? ⟨b, 0, none⟩ = false := f0
  have g1 : (w.drewN q).frozen? ⟨b, 1, none⟩ = false := f1
  have q5 : ¬ ((st : Int) < (z : Int)) := by have := HSTN.out; have := HZ.out; omega
  clear d0 d1 g0 g1
  go_wp2_with fail
  refine wp_region_held_drew (S := (fun _ => True)) (by kernel_rfl) trivial (fun hHeld => ?_)
  refine wpAnyH_take (i := 0) (v := ?_) rfl (by kernel_rfl) (by kernel_rfl) (by kernel_rfl) (fun _ _ _ h => h) (Or.inl ⟨by rfl, ?_⟩) (by assumption) ?_
  rotate_left
  · intro w hSw
    try dsimp only at hSw
    go_simp
    try with_reducible rfl
  try simp only [Act.put, List.getElem_toArray, List.getElem_cons_zero, List.setIfInBounds_toArray, List.set_cons_zero, List.set_cons_succ]
  refine wpAnyH_take (i := 1) (v := ?_) rfl (by kernel_rfl) (by kernel_rfl) (by kernel_rfl) (fun _ _ _ h => h) (Or.inl ⟨by rfl, ?_⟩) (by assumption) ?_
  rotate_left
  · intro w hSw
    try dsimp only at hSw
    go_simp
    try with_reducible rfl
  try simp only [Act.put, List.getElem_toArray, List.getElem_cons_succ, List.getElem_cons_zero, List.setIfInBounds_toArray, List.set_cons_zero, List.set_cons_succ]
  refine wpAnyH_take (i := 2) (v := ?_) rfl (by kernel_rfl) (by kernel_rfl) (by kernel_rfl) (fun _ _ _ h => h) (Or.inl ⟨by rfl, ?_⟩) (by assumption) ?_
  rotate_left
  · intro w hSw
    try dsimp only at hSw
    go_simp
    try with_reducible rfl
  try simp only [Act.put, List.getElem_toArray, List.getElem_cons_succ, List.getElem_cons_zero, List.setIfInBounds_toArray, List.set_cons_zero, List.set_cons_succ]
  refine wpAnyH_take (i := 3) (v := ?_) rfl (by kernel_rfl) (by kernel_rfl) (by kernel_rfl) (fun _ _ _ h => h) (Or.inl ⟨by rfl, ?_⟩) (by assumption) ?_
  rotate_left
  · intro w hSw
    try dsimp only at hSw
    go_simp
    try with_reducible rfl
  try simp only [Act.put, List.getElem_toArray, List.getElem_cons_succ, List.getElem_cons_zero, List.setIfInBounds_toArray, List.set_cons_zero, List.set_cons_succ]
  refine wpAnyH_take (i := 5) (v := ?_) rfl (by kernel_rfl) (by kernel_rfl) (by kernel_rfl) (fun _ _ _ h => h) (Or.inl ⟨by rfl, ?_⟩) (by assumption) ?_
  rotate_left
  · intro w hSw
    try dsimp only at hSw
    go_simp
    try with_reducible rfl
  try simp only [Act.put, List.getElem_toArray, List.getElem_cons_succ, List.getElem_cons_zero, List.setIfInBounds_toArray, List.set_cons_zero, List.set_cons_succ]
  refine wpAnyH_take (i := 6) (v := ?_) rfl (by kernel_rfl) (by kernel_rfl) (by kernel_rfl) (fun _ _ _ h => h) (Or.inl ⟨by rfl, ?_⟩) (by assumption) ?_
  rotate_left
  · intro w hSw
    try dsimp only at hSw
    go_simp
    try with_reducible rfl
  try simp only [Act.put, List.getElem_toArray, List.getElem_cons_succ, List.getElem_cons_zero, List.setIfInBounds_toArray, List.set_cons_zero, List.set_cons_succ]
  refine wpAnyH_take (i := 7) (v := ?_) rfl (by kernel_rfl) (by kernel_rfl) (by kernel_rfl) (fun _ _ _ h => h) (Or.inl ⟨by rfl, ?_⟩) (by assumption) ?_
  rotate_left
  · intro w hSw
    try dsimp only at hSw
    go_simp
    try with_reducible rfl
  try simp only [Act.put, List.getElem_toArray, List.getElem_cons_succ, List.getElem_cons_zero, List.setIfInBounds_toArray, List.set_cons_zero, List.set_cons_succ]
  refine wpAnyH_take (i := 8) (v := ?_) rfl (by kernel_rfl) (by kernel_rfl) (by kernel_rfl) (fun _ _ _ h => h) (Or.inl ⟨by rfl, ?_⟩) (by assumption) ?_
  rotate_left
  · intro w hSw
    try dsimp only at hSw
    go_simp
    try with_reducible rfl
  try simp only [Act.put, List.getElem_toArray, List.getElem_cons_succ, List.getElem_cons_zero, List.setIfInBounds_toArray, List.set_cons_zero, List.set_cons_succ]
  refine wpAnyH_ready (rs := [4, 9]) (by kernel_rfl) (by simp) ?_
  refine AllReadyH.cons rfl (fun K hK => ?_) (AllReadyH.cons rfl (fun K hK => ?_) AllReadyH.nil)
  · rw [if_pos (by rfl)]
    go_wp2_with fail
    refine hK.out _ _ trivial (fun hHeld => ?_)
    clear hK K
    try simp only [Act.put, List.getElem_toArray, List.getElem_cons_succ, List.getElem_cons_zero, List.setIfInBounds_toArray, List.set_cons_zero, List.set_cons_succ]
    refine wpAnyH_ready (rs := [9]) (by kernel_rfl) (by simp) ?_
    refine AllReadyH.cons rfl (fun K hK => ?_) AllReadyH.nil
    rw [if_pos (by rfl)]
    go_wp2_with fail
    refine hK.out _ _ trivial (fun hHeld => ?_)
    clear hK K
    try simp only [Act.put, List.getElem_toArray, List.getElem_cons_succ, List.getElem_cons_zero, List.setIfInBounds_toArray, List.set_cons_zero, List.set_cons_succ]
    refine wpAnyH_take (i := 10) (v := ?_) rfl (by kernel_rfl) (by kernel_rfl) (by kernel_rfl) (fun _ _ _ h => h) (Or.inl ⟨by rfl, ?_⟩) (by assumption) ?_
    rotate_left
    · intro w hSw
      try dsimp only at hSw
      go_simp
      try with_reducible rfl
    try simp only [Act.put, List.getElem_toArray, List.getElem_cons_succ, List.getElem_cons_zero, List.setIfInBounds_toArray, List.set_cons_zero, List.set_cons_succ]
    refine wpAnyH_take (i := 11) (v := ?_) rfl (by kernel_rfl) (by kernel_rfl) (by kernel_rfl) (fun _ _ _ h => h) (Or.inl ⟨by rfl, ?_⟩) (by assumption) ?_
    rotate_left
    · intro w hSw
      try dsimp only at hSw
      go_simp
      try with_reducible rfl
    try simp only [Act.put, List.getElem_toArray, List.getElem_cons_succ, List.getElem_cons_zero, List.setIfInBounds_toArray, List.set_cons_zero, List.set_cons_succ]
    refine wpAnyH_ready (rs := [12]) (by kernel_rfl) (by simp) ?_
    refine AllReadyH.cons rfl (fun K hK => ?_) AllReadyH.nil
    rw [if_pos (by rfl)]
    go_wp2_with fail
    refine (part_any ta tn tc 0 kk T _ (by exact TT.out) (Nat.zero_le _) (Nat.zero_le _) (by omega) (by omega)).mono ?_
    rintro e w2 ⟨v, rfl, hown, hb2⟩
    rw [List.drop_zero, ← HT2.out] at hown
    obtain ⟨va, vc, rfl⟩ := own_shape hown
    have hb2' : Below w.heap.size w w2 := ⟨hb2.os, hb2.tape, hb2.output, hb2.size, hb2.block⟩
    have e0 : w2.cell? ⟨b, 0, none⟩ = some (.slice sa sn sc) := (hb2'.cell (p := ⟨b, 0, none⟩) HBL.out).trans c0
    have e1 : w2.cell? ⟨b, 1, none⟩ = some (.slice ta tn tc) := (hb2'.cell (p := ⟨b, 1, none⟩) HBL.out).trans c1
    have k0 : w2.frozen? ⟨b, 0, none⟩ = false := (hb2'.frozen (p := ⟨b, 0, none⟩) HBL.out).trans f0
    have k1 : w2.frozen? ⟨b, 1, none⟩ = false := (hb2'.frozen (p := ⟨b, 1, none⟩) HBL.out).trans f1
    have R := hide (HH.out.tail hb2' (by exact hown) (by rw [HT2.out, List.length_take, ← HTN.out, ← HSN.out]; omega))
    generalize T2.length = lv at *
    clear hown hb2 hb2'
    refine hK.out _ _ trivial (fun hHeld => ?_)
    clear hK K
    try simp only [Act.put, List.getElem_toArray, List.getElem_cons_succ, List.getElem_cons_zero, List.setIfInBounds_toArray, List.set_cons_zero, List.set_cons_succ]
    refine wpAnyH_take (i := 13) (v := ?_) rfl (by kernel_rfl) (by kernel_rfl) (by kernel_rfl) (fun _ _ _ h => h) (Or.inl ⟨by rfl, ?_⟩) (by assumption) ?_
    rotate_left
    · intro w hSw
      try dsimp only at hSw
      go_simp
      try with_reducible rfl
    try simp only [Act.put, List.getElem_toArray, List.getElem_cons_succ, List.getElem_cons_zero, List.setIfInBounds_toArray, List.set_cons_zero, List.set_cons_succ]
    refine wpAnyH_take (i := 14) (v := ?_) rfl (by kernel_rfl) (by kernel_rfl) (by kernel_rfl) (fun _ _ _ h => h) (Or.inl ⟨by rfl, ?_⟩) (by assumption) ?_
    rotate_left
    · intro w hSw
      try dsimp only at hSw
      go_simp
      try with_reducible rfl
    try simp only [Act.put, List.getElem_toArray, List.getElem_cons_succ, List.getElem_cons_zero, List.setIfInBounds_toArray, List.set_cons_zero, List.set_cons_succ]
    refine wpAnyH_ready (rs := [15]) (by kernel_rfl) (by simp) ?_
    refine AllReadyH.cons rfl (fun K hK => ?_) AllReadyH.nil
    rw [if_pos (by rfl)]
    go_wp2_with fail
    refine hK.out _ _ trivial (fun hHeld => ?_)
    clear hK K
    try simp only [Act.put, List.getElem_toArray, List.getElem_cons_succ, List.getElem_cons_zero, List.setIfInBounds_toArray, List.set_cons_zero, List.set_cons_succ]
    refine wpAnyH_done (by kernel_rfl) ?_ _
    go_wp2
    go_ret
    exact ⟨rfl, _, by have := R.out; rw [← HSN.out] at this; exact this⟩
  · rw [if_pos (by rfl)]
    go_wp2_with fail
    refine hK.out _ _ trivial (fun hHeld => ?_)
    clear hK K
    try simp only [Act.put, List.getElem_toArray, List.getElem_cons_succ, List.getElem_cons_zero, List.setIfInBounds_toArray, List.set_cons_zero, List.set_cons_succ]
    refine wpAnyH_take (i := 10) (v := ?_) rfl (by kernel_rfl) (by kernel_rfl) (by kernel_rfl) (fun _ _ _ h => h) (Or.inl ⟨by rfl, ?_⟩) (by assumption) ?_
    rotate_left
    · intro w hSw
      try dsimp only at hSw
      go_simp
      try with_reducible rfl
    try simp only [Act.put, List.getElem_toArray, List.getElem_cons_succ, List.getElem_cons_zero, List.setIfInBounds_toArray, List.set_cons_zero, List.set_cons_succ]
    refine wpAnyH_take (i := 11) (v := ?_) rfl (by kernel_rfl) (by kernel_rfl) (by kernel_rfl) (fun _ _ _ h => h) (Or.inl ⟨by rfl, ?_⟩) (by assumption) ?_
    rotate_left
    · intro w hSw
      try dsimp only at hSw
      go_simp
      try with_reducible rfl
    try simp only [Act.put, List.getElem_toArray, List.getElem_cons_succ, List.getElem_cons_zero, List.setIfInBounds_toArray, List.set_cons_zero, List.set_cons_succ]
    refine wpAnyH_ready (rs := [4]) (by kernel_rfl) (by simp) ?_
    refine AllReadyH.cons rfl (fun K hK => ?_) AllReadyH.nil
    rw [if_pos (by rfl)]
    go_wp2_with fail
    refine hK.out _ _ trivial (fun hHeld => ?_)
    clear hK K
    try simp only [Act.put, List.getElem_toArray, List.getElem_cons_succ, List.getElem_cons_zero, List.setIfInBounds_toArray, List.set_cons_zero, List.set_cons_succ]
    refine wpAnyH_ready (rs := [12]) (by kernel_rfl) (by simp) ?_
    refine AllReadyH.cons rfl (fun K hK => ?_) AllReadyH.nil
    rw [if_pos (by rfl)]
    go_wp2_with fail
    refine (part_any ta tn tc 0 kk T _ (by exact TT.out) (Nat.zero_le _) (Nat.zero_le _) (by omega) (by omega)).mono ?_
    rintro e w2 ⟨v, rfl, hown, hb2⟩
    rw [List.drop_zero, ← HT2.out] at hown
    obtain ⟨va, vc, rfl⟩ := own_shape hown
    have hb2' : Below w.heap.size w w2 := ⟨hb2.os, hb2.tape, hb2.output, hb2.size, hb2.block⟩
    have e0 : w2.cell? ⟨b, 0, none⟩ = some (.slice sa sn sc) := (hb2'.cell (p := ⟨b, 0, none⟩) HBL.out).trans c0
    have e1 : w2.cell? ⟨b, 1, none⟩ = some (.slice ta tn tc) := (hb2'.cell (p := ⟨b, 1, none⟩) HBL.out).trans c1
    have k0 : w2.frozen? ⟨b, 0, none⟩ = false := (hb2'.frozen (p := ⟨b, 0, none⟩) HBL.out).trans f0
    have k1 : w2.frozen? ⟨b, 1, none⟩ = false := (hb2'.frozen (p := ⟨b, 1, none⟩) HBL.out).trans f1
    have R := hide (HH.out.tail hb2' (by exact hown) (by rw [HT2.out, List.length_take, ← HTN.out, ← HSN.out]; omega))
    generalize T2.length = lv at *
    clear hown hb2 hb2'
    refine hK.out _ _ trivial (fun hHeld => ?_)
    clear hK K
    try simp only [Act.put, List.getElem_toArray, List.getElem_cons_succ, List.getElem_cons_zero, List.setIfInBounds_toArray, List.set_cons_zero, List.set_cons_succ]
    refine wpAnyH_take (i := 13) (v := ?_) rfl (by kernel_rfl) (by kernel_rfl) (by kernel_rfl) (fun _ _ _ h => h) (Or.inl ⟨by rfl, ?_⟩) (by assumption) ?_
    rotate_left
    · intro w hSw
      try dsimp only at hSw
      go_simp
      try with_reducible rfl
    try simp only [Act.put, List.getElem_toArray, List.getElem_cons_succ, List.getElem_cons_zero, List.setIfInBounds_toArray, List.set_cons_zero, List.set_cons_succ]
    refine wpAnyH_take (i := 14) (v := ?_) rfl (by kernel_rfl) (by kernel_rfl) (by kernel_rfl) (fun _ _ _ h => h) (Or.inl ⟨by rfl, ?_⟩) (by assumption) ?_
    rotate_left
    · intro w hSw
      try dsimp only at hSw
      go_simp
      try with_reducible rfl
    try simp only [Act.put, List.getElem_toArray, List.getElem_cons_succ, List.getElem_cons_zero, List.setIfInBounds_toArray, List.set_cons_zero, List.set_cons_succ]
    refine wpAnyH_ready (rs := [15]) (by kernel_rfl) (by simp) ?_
    refine AllReadyH.cons rfl (fun K hK => ?_) AllReadyH.nil
    rw [if_pos (by rfl)]
    go_wp2_with fail
    refine hK.out _ _ trivial (fun hHeld => ?_)
    clear hK K
    try simp only [Act.put, List.getElem_toArray, List.getElem_cons_succ, List.getElem_cons_zero, List.setIfInBounds_toArray, List.set_cons_zero, List.set_cons_succ]
    refine wpAnyH_done (by kernel_rfl) ?_ _
    go_wp2
    go_ret
    exact ⟨rfl, _, by have := R.out; rw [← HSN.out] at this; exact this⟩

end Go.Proofs.Ytahpnfbjpdnapaa
