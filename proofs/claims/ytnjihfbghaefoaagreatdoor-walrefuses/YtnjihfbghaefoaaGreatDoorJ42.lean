/- Texts of the proof, joined. -/
import Derived.Test.YtnjihfbghaefoaaGreatDoorJ02
import Derived.Test.YtnjihfbghaefoaaGreatDoorJ41
/- The walk of WalRefuses. -/
namespace Go.Proofs.YtnjihfbghaefoaaGreatDoor
open Go.RowKit Go.Wire1 Go.MuLone

theorem yieldsIf_build {P : Program} {ops : Array Oper} {S : World → Prop} {op : Oper} {a : Act} (hw : Region.wanted op (yielded ops a.tmps) = true) (ty : TypeId) (parts : List (Nat × Operand)) (ho : op.op = .build ty parts.toArray)
    (vs : List (Nat × Value)) (hv : (parts.map fun p => (p.1, a.eval p.2)) = vs) (cells : Array Value) (hb : P.built ty vs = some cells) : YieldsIf P ops S op (.agg cells) a :=
  .inl ⟨hw, fun w _ => by
    unfold execOp
    have e : (parts.toArray.map fun (x : Nat × Operand) => match x with | (i, x) => (i, a.eval x)) = vs.toArray := by rw [← hv]; simp
    simp only [ho]
    rw [e]
    simp only [Sem.run_bind, Sem.run_pure, Result.andThen_ok, run_build w ty vs.toArray cells (by simpa using hb)]⟩

theorem ply_app {w wm w7 : World} {pb b lb : Nat} {id n : Int} {pv pv7 rs fr : Value} {l l7 : List Int} {m to E0 : Nat} {k : Nat} (h : Ply w pb b lb id n (k : Int) pv rs fr l m to E0) (K : Dst 0 w wm b pv pv7 l7 m E0) (hl : Blk wm lb (lgL b n (k : Int))) (hw : w7 = wm.setCell ⟨lb, 2, none⟩ (.int .i64 ((k + 1 : Nat) : Int))) :
    Ply w7 pb b lb id n ((k + 1 : Nat) : Int) pv7 rs fr l7 m to E0 := by
  have oth : ∀ j, j ≠ lb → w7.heap[j]? = wm.heap[j]? := fun j hj => by rw [hw]; exact Below.heap_setCell _ _ _ _ hj
  have far : ∀ j, j < w.heap.size → some j ≠ pv.ownBlock → some j ≠ pv7.ownBlock := fun j hj h1 e => by
    rcases K.lat with e2 | e2
    · rw [e2] at e; exact h1 e
    · have := e2 j e.symm; omega
  refine ⟨?_, ?_, ?_, h.pl, ⟨h.pd.1, far pb h.box.lt h.pd.2⟩, ⟨h.ld.1, far lb h.log.lt h.ld.2⟩, h.low⟩
  · exact (h.box.of_block (K.tch.block pb h.box.lt h.pd.1 h.pd.2)).of_block (oth pb h.pl)
  · rw [hw]; exact hl.setAt 2 _
  · exact K.dsk.on (oth b (fun e => h.ld.1 e.symm)) (fun j hj => oth j (fun e => far lb h.log.lt h.ld.2 (by rw [← e]; exact hj.symm)))

set_option maxHeartbeats 8000000 in
set_option maxRecDepth 100000 in
theorem refuses_bad (id n : Int) (r : Rc) (w : World) (hr : Rok w r) (hG : Glb w) (_hn1 : -9223372036854775808 ≤ r.c.n) (_hn2 : r.c.n ≤ 9223372036854775807) (I N : Int) (hV1 : 1 ≤ N) (hV2 : N ≤ 7) (hV3 : 0 ≤ I) (hV4 : I < N)
    (W2 : World) (hW2 : W2 = (w.alloc (.cells (rcs r).toArray 30)).alloc (.cells #[.int .i64 0, .int .i64 0, .pointer none, .pointer none, .slice none 0 0, .slice none 0 0, .int .i64 0] 36))
    (hop : Calls Tryz.prog 9 #[.pointer (some ⟨w.heap.size + 1, 0, none⟩), .int .i64 id, .int .i64 n] W2 fun e w' => e = .returned (.bool true) ∧ ∃ b lb pv fr, Ply w' (w.heap.size + 1) b lb I N 0 pv (.slice none 0 0) fr (frR (hdR I N)) (frR (hdR I N)).length (frR (hdR I N)).length (w.heap.size + 1) ∧ Below (w.heap.size + 1) W2 w') (hz : chkR N r ≠ 0) :
    Calls Tryz.prog 3 #[.int .i64 id, .int .i64 n, .agg (rcs r).toArray] w fun e w' => e = .returned (.bool true) ∧ Below w.heap.size w w' := by
  obtain ⟨FR, hFR⟩ : ∃ FR, FR = frR (hdR I N) := ⟨_, rfl⟩
  have HFB := hide (frR_len (hd_zero hV1 hV2 hV3 hV4))
  rw [← hFR] at hop HFB
  obtain ⟨X, hX⟩ : ∃ X, X = w.heap.size := ⟨_, rfl⟩
  obtain ⟨E0, hE0⟩ : ∃ E0, E0 = w.heap.size + 1 := ⟨_, rfl⟩
  rw [← hE0] at hop
  have HXE : Hid (X < E0) := by show X < E0; omega
  have HEW : Hid (w.heap.size ≤ E0) := by show _ ≤ E0; omega
  obtain ⟨z, hzz⟩ : ∃ z, chkR N r = z := ⟨_, rfl⟩
  have HZ := hide hzz
  rw [hzz] at hz
  have HOP := hide hop
  have BW2 : Hid (Below w.heap.size w W2) := by rw [hW2]; exact ((Below.refl _ _).alloc (Nat.le_refl _) _).alloc (by simp) _
  have Q2 : Hid (Blk W2 X (rcs r)) := by
    rw [hW2, hX]
    exact (blk_new w 30 (rcs r)).on ((Below.refl _ _).alloc (Nat.le_refl _) _)
  have HW2 := hide hW2
  have HE0 := hide hE0
  have HX := hide hX
  have GW : Hid (∀ W, Below w.heap.size w W → Glb W) := fun W h => hG.below h (Nat.le_refl _)
  have RW : Hid (∀ W, Below w.heap.size w W → Rok W r) := fun W h => hr.below h (Nat.le_refl _)
  clear hop hW2 hX hE0 hG hr hFR hzz
  go_enter Tryz.func3, Tryz.ntmps3
  go_wp2_with fail
  rw [← HW2.out, ← HX.out]
  rw [show X + 1 = E0 from by have := HX.out; have := HE0.out; omega]
  refine HOP.out.mono ?_
  rintro e w3 ⟨rfl, b, lb, pv, fr, hpl, hb3⟩
  have PL3 := hide hpl
  have BW3 := hide (BW2.out.trans (hb3.mono HEW.out))
  have Q3 := hide (Q2.out.of_block (hb3.block X HXE.out))
  have G3 := hide (GW.out _ BW3.out)
  have hft : FR.length ≤ 4194304 := hpl.d.top
  have c0 := hpl.box.cell 0 _ rfl
  have c1 := hpl.box.cell 1 _ rfl
  have c3 := hpl.box.cell 3 _ rfl
  clear hpl hb3
  go_wp2_with fail
  refine wp_region_held_drew (S := (fun x => x.cell? ⟨E0, 3, none⟩ = some (.pointer (some ⟨lb, 0, none⟩)) ∧ x.cell? ⟨E0, 0, none⟩ = some (.int .i64 I) ∧ x.cell? ⟨E0, 1, none⟩ = some (.int .i64 N))) (by kernel_rfl) ⟨c3, c0, c1⟩ (fun hHeld => ?_)
  refine tk 0 ?_
  refine tk 1 ?_
  refine tk 2 ?_
  refine tk 3 ?_
  refine tk 4 ?_
  refine tk 5 ?_
  refine tk 6 ?_
  refine tk 7 ?_
  refine tk 8 ?_
  refine tk 9 ?_
  refine tk 10 ?_
  refine tk 11 ?_
  refine tq 12 rfl (yieldsIf_build (by rfl) 30 _ rfl [(0, Value.int .i64 1), (7, Value.int .i64 I), (8, Value.int .i64 N)] rfl _ (builtH I N)) ?_
  refine wpAnyH_ready (rs := [13]) (by kernel_rfl) (by simp) ?_
  refine AllReadyH.cons rfl (fun K hK => ?_) AllReadyH.nil
  rw [if_pos (by rfl)]
  go_wp2_with fail
  refine (wappend_head _ lb b N 0 (hdR I N) (PL3.out.log.drewN _) (hd_ok I N _) (G3.out.drewN _) (hd_zero hV1 hV2 hV3 hV4) rfl).mono ?_
  rintro e w4 ⟨rfl, hb4⟩
  have B34 : Hid (Below w3.heap.size w3 w4) := ⟨hb4.os, hb4.tape, hb4.output, hb4.size, hb4.block⟩
  have PL4 := hide (PL3.out.later B34.out)
  have d0 := PL4.out.box.cell 0 _ rfl
  have d1 := PL4.out.box.cell 1 _ rfl
  have d3 := PL4.out.box.cell 3 _ rfl
  clear hb4
  refine hK.out _ _ ⟨d3, d0, d1⟩ (fun hHeld => ?_)
  clear hK K
  try simp only [Act.put, List.getElem_toArray, List.getElem_cons_succ, List.getElem_cons_zero, List.setIfInBounds_toArray, List.set_cons_zero, List.set_cons_succ]
  refine tk 14 ?_
  refine wpAnyH_done (by kernel_rfl) ?_ _
  skip
  clear c0 c1 c3 d0 d1
  have BW4 := hide (BW3.out.trans (B34.out.mono BW3.out.size))
  have Q4 := hide (Q3.out.on B34.out)
  go_wp2_with fail
  refine (waiting_any _ lb b N 0 PL4.out.log).mono ?_
  rintro e w' ⟨rfl, rfl⟩
  have d2 := PL4.out.box.cell 2 _ rfl
  go_wp2_with fail
  refine (psize_any _ E0 b pv FR FR.length E0 d2 PL4.out.d).mono ?_
  rintro e w5 ⟨rfl, hb5⟩
  have PL5 := hide (PL4.out.later hb5)
  have BW5 := hide (BW4.out.trans (hb5.mono BW4.out.size))
  have Q5 := hide (Q4.out.on hb5)
  have G5 := hide (GW.out _ BW5.out)
  have HR5 := hide (RW.out _ BW5.out)
  have e6 := PL5.out.box.cell 6 _ rfl
  have e1 := PL5.out.box.cell 1 _ rfl
  clear hb5 d2 d3
  go_wp2_with (first | (go_at_call 13; refine (num10_any _ _).mono ?_; rintro e w' ⟨rfl, rfl⟩))
  refine wp_region_held_drew (S := (fun x => x.rangeAt X 0 (rcs r) ∧ x.cell? ⟨E0, 1, none⟩ = some (.int .i64 N))) (by kernel_rfl) ⟨Q5.out.range, e1⟩ (fun hHeld => ?_)
  refine tk 0 ?_
  refine tk 1 ?_
  refine tk 2 ?_
  refine tk 3 ?_
  refine tq 4 rfl (yieldsIf_load_mid (by rfl) 30 _ rfl X 0 rfl (rcs r) _ (fun _ h => h.1) Tryz.underlying30 rfl (by kernel_rfl)) ?_
  refine wpAnyH_ready (rs := [5]) (by kernel_rfl) (by simp) ?_
  refine AllReadyH.cons rfl (fun K hK => ?_) AllReadyH.nil
  rw [if_pos (by rfl)]
  go_wp2_with fail
  refine (recCheck_any N r _ (HR5.out.drewN _) (G5.out.drewN _).r (G5.out.drewN _).k).mono ?_
  rintro e w6 ⟨rfl, hb6⟩
  rw [HZ.out]
  have B56 : Hid (Below w5.heap.size w5 w6) := ⟨hb6.os, hb6.tape, hb6.output, hb6.size, hb6.block⟩
  have PL6 := hide (PL5.out.later B56.out)
  have Q6 := hide (Q5.out.on B56.out)
  have g1 := PL6.out.box.cell 1 _ rfl
  clear hb6
  refine hK.out _ _ ⟨Q6.out.range, g1⟩ (fun hHeld => ?_)
  clear hK K
  try simp only [Act.put, List.getElem_toArray, List.getElem_cons_succ, List.getElem_cons_zero, List.setIfInBounds_toArray, List.set_cons_zero, List.set_cons_succ]
  refine tk 6 ?_
  refine wpAnyH_done (by kernel_rfl) ?_ _
  skip
  clear e6 e1 g1
  have BW6 := hide (BW5.out.trans (B56.out.mono BW5.out.size))
  have G6 := hide (GW.out _ BW6.out)
  have HR6 := hide (RW.out _ BW6.out)
  have g3 := PL6.out.box.cell 3 _ rfl
  go_wp2_with fail
  refine wp_region_held_drew (S := (fun x => x.rangeAt X 0 (rcs r) ∧ x.cell? ⟨E0, 3, none⟩ = some (.pointer (some ⟨lb, 0, none⟩)))) (by kernel_rfl) ⟨Q6.out.range, g3⟩ (fun hHeld => ?_)
  refine tk 0 ?_
  refine tk 1 ?_
  refine tk 2 ?_
  refine tk 3 ?_
  refine tq 4 rfl (yieldsIf_load_mid (by rfl) 30 _ rfl X 0 rfl (rcs r) _ (fun _ h => h.1) Tryz.underlying30 rfl (by kernel_rfl)) ?_
  refine wpAnyH_ready (rs := [5]) (by kernel_rfl) (by simp) ?_
  refine AllReadyH.cons rfl (fun K hK => ?_) AllReadyH.nil
  rw [if_pos (by rfl)]
  go_wp2_with fail
  refine (wappend_bad _ lb b N 0 r (PL6.out.log.drewN _) (HR6.out.drewN _) (G6.out.drewN _) (by rw [HZ.out]; exact hz)).mono ?_
  rintro e w7 ⟨rfl, hb7⟩
  rw [HZ.out]
  have B67 : Hid (Below w6.heap.size w6 w7) := ⟨hb7.os, hb7.tape, hb7.output, hb7.size, hb7.block⟩
  have PL7 := hide (PL6.out.later B67.out)
  have Q7 := hide (Q6.out.on B67.out)
  have BW7 := hide (BW6.out.trans (B67.out.mono BW6.out.size))
  have h3 := PL7.out.box.cell 3 _ rfl
  clear hb7
  refine hK.out _ _ ⟨Q7.out.range, h3⟩ (fun hHeld => ?_)
  clear hK K
  try simp only [Act.put, List.getElem_toArray, List.getElem_cons_succ, List.getElem_cons_zero, List.setIfInBounds_toArray, List.set_cons_zero, List.set_cons_succ]
  refine tk 6 ?_
  refine wpAnyH_done (by kernel_rfl) ?_ _
  skip
  clear g3
  go_wp2_with fail
  refine (waiting_any _ lb b N 0 PL7.out.log).mono ?_
  rintro e w' ⟨rfl, rfl⟩
  have k2 := PL7.out.box.cell 2 _ rfl
  go_wp2_with fail
  refine (psize_any _ E0 b _ _ FR.length E0 k2 PL7.out.d).mono ?_
  rintro e w8 ⟨rfl, hb8⟩
  have PL8 := hide (PL7.out.later hb8)
  have BW8 := hide (BW7.out.trans (hb8.mono BW7.out.size))
  have Q8 := hide (Q7.out.on hb8)
  have m6 := PL8.out.box.cell 6 _ rfl
  have x0 := Q8.out.cell 0 _ rfl
  clear hb8 k2 h3
  have y1 : (((z : Nat) : Int) != 0) = true := by rw [bne_iff_ne]; omega
  have y2 : ¬ ((z : Nat) : Int) = 0 := by omega
  generalize FR.length = fl at *
  go_wp2_with (first | (go_at_call 13; refine (num10_any _ _).mono ?_; rintro e w' ⟨rfl, rfl⟩))
  go_ret
  exact ⟨rfl, BW8.out⟩

set_option maxHeartbeats 8000000 in
set_option maxRecDepth 100000 in
theorem refuses_head (id n : Int) (r : Rc) (w : World) (hr : Rok w r) (hG : Glb w) (_hn1 : -9223372036854775808 ≤ r.c.n) (_hn2 : r.c.n ≤ 9223372036854775807) (I N : Int) (hV1 : 1 ≤ N) (hV2 : N ≤ 7) (hV3 : 0 ≤ I) (hV4 : I < N)
    (W2 : World) (hW2 : W2 = (w.alloc (.cells (rcs r).toArray 30)).alloc (.cells #[.int .i64 0, .int .i64 0, .pointer none, .pointer none, .slice none 0 0, .slice none 0 0, .int .i64 0] 36))
    (hop : Calls Tryz.prog 9 #[.pointer (some ⟨w.heap.size + 1, 0, none⟩), .int .i64 id, .int .i64 n] W2 fun e w' => e = .returned (.bool true) ∧ ∃ b lb pv fr, Ply w' (w.heap.size + 1) b lb I N 0 pv (.slice none 0 0) fr (frR (hdR I N)) (frR (hdR I N)).length (frR (hdR I N)).length (w.heap.size + 1) ∧ Below (w.heap.size + 1) W2 w') (hz : chkR N r = 0) (hk : r.kind = 1) :
    Calls Tryz.prog 3 #[.int .i64 id, .int .i64 n, .agg (rcs r).toArray] w fun e w' => e = .returned (.bool true) ∧ Below w.heap.size w w' := by
  obtain ⟨FR, hFR⟩ : ∃ FR, FR = frR (hdR I N) := ⟨_, rfl⟩
  have HFB := hide (frR_len (hd_zero hV1 hV2 hV3 hV4))
  rw [← hFR] at hop HFB
  obtain ⟨X, hX⟩ : ∃ X, X = w.heap.size := ⟨_, rfl⟩
  obtain ⟨E0, hE0⟩ : ∃ E0, E0 = w.heap.size + 1 := ⟨_, rfl⟩
  rw [← hE0] at hop
  have HXE : Hid (X < E0) := by show X < E0; omega
  have HEW : Hid (w.heap.size ≤ E0) := by show _ ≤ E0; omega
  obtain ⟨z, hzz⟩ : ∃ z, chkR N r = z := ⟨_, rfl⟩
  have HZ := hide hzz
  rw [hzz] at hz
  have HOP := hide hop
  have BW2 : Hid (Below w.heap.size w W2) := by rw [hW2]; exact ((Below.refl _ _).alloc (Nat.le_refl _) _).alloc (by simp) _
  have Q2 : Hid (Blk W2 X (rcs r)) := by
    rw [hW2, hX]
    exact (blk_new w 30 (rcs r)).on ((Below.refl _ _).alloc (Nat.le_refl _) _)
  have HW2 := hide hW2
  have HE0 := hide hE0
  have HX := hide hX
  have GW : Hid (∀ W, Below w.heap.size w W → Glb W) := fun W h => hG.below h (Nat.le_refl _)
  have RW : Hid (∀ W, Below w.heap.size w W → Rok W r) := fun W h => hr.below h (Nat.le_refl _)
  clear hop hW2 hX hE0 hG hr hFR hzz
  go_enter Tryz.func3, Tryz.ntmps3
  go_wp2_with fail
  rw [← HW2.out, ← HX.out]
  rw [show X + 1 = E0 from by have := HX.out; have := HE0.out; omega]
  refine HOP.out.mono ?_
  rintro e w3 ⟨rfl, b, lb, pv, fr, hpl, hb3⟩
  have PL3 := hide hpl
  have BW3 := hide (BW2.out.trans (hb3.mono HEW.out))
  have Q3 := hide (Q2.out.of_block (hb3.block X HXE.out))
  have G3 := hide (GW.out _ BW3.out)
  have hft : FR.length ≤ 4194304 := hpl.d.top
  have c0 := hpl.box.cell 0 _ rfl
  have c1 := hpl.box.cell 1 _ rfl
  have c3 := hpl.box.cell 3 _ rfl
  clear hpl hb3
  go_wp2_with fail
  refine wp_region_held_drew (S := (fun x => x.cell? ⟨E0, 3, none⟩ = some (.pointer (some ⟨lb, 0, none⟩)) ∧ x.cell? ⟨E0, 0, none⟩ = some (.int .i64 I) ∧ x.cell? ⟨E0, 1, none⟩ = some (.int .i64 N))) (by kernel_rfl) ⟨c3, c0, c1⟩ (fun hHeld => ?_)
  refine tk 0 ?_
  refine tk 1 ?_
  refine tk 2 ?_
  refine tk 3 ?_
  refine tk 4 ?_
  refine tk 5 ?_
  refine tk 6 ?_
  refine tk 7 ?_
  refine tk 8 ?_
  refine tk 9 ?_
  refine tk 10 ?_
  refine tk 11 ?_
  refine tq 12 rfl (yieldsIf_build (by rfl) 30 _ rfl [(0, Value.int .i64 1), (7, Value.int .i64 I), (8, Value.int .i64 N)] rfl _ (builtH I N)) ?_
  refine wpAnyH_ready (rs := [13]) (by kernel_rfl) (by simp) ?_
  refine AllReadyH.cons rfl (fun K hK => ?_) AllReadyH.nil
  rw [if_pos (by rfl)]
  go_wp2_with fail
  refine (wappend_head _ lb b N 0 (hdR I N) (PL3.out.log.drewN _) (hd_ok I N _) (G3.out.drewN _) (hd_zero hV1 hV2 hV3 hV4) rfl).mono ?_
  rintro e w4 ⟨rfl, hb4⟩
  have B34 : Hid (Below w3.heap.size w3 w4) := ⟨hb4.os, hb4.tape, hb4.output, hb4.size, hb4.block⟩
  have PL4 := hide (PL3.out.later B34.out)
  have d0 := PL4.out.box.cell 0 _ rfl
  have d1 := PL4.out.box.cell 1 _ rfl
  have d3 := PL4.out.box.cell 3 _ rfl
  clear hb4
  refine hK.out _ _ ⟨d3, d0, d1⟩ (fun hHeld => ?_)
  clear hK K
  try simp only [Act.put, List.getElem_toArray, List.getElem_cons_succ, List.getElem_cons_zero, List.setIfInBounds_toArray, List.set_cons_zero, List.set_cons_succ]
  refine tk 14 ?_
  refine wpAnyH_done (by kernel_rfl) ?_ _
  skip
  clear c0 c1 c3 d0 d1
  have BW4 := hide (BW3.out.trans (B34.out.mono BW3.out.size))
  have Q4 := hide (Q3.out.on B34.out)
  go_wp2_with fail
  refine (waiting_any _ lb b N 0 PL4.out.log).mono ?_
  rintro e w' ⟨rfl, rfl⟩
  have d2 := PL4.out.box.cell 2 _ rfl
  go_wp2_with fail
  refine (psize_any _ E0 b pv FR FR.length E0 d2 PL4.out.d).mono ?_
  rintro e w5 ⟨rfl, hb5⟩
  have PL5 := hide (PL4.out.later hb5)
  have BW5 := hide (BW4.out.trans (hb5.mono BW4.out.size))
  have Q5 := hide (Q4.out.on hb5)
  have G5 := hide (GW.out _ BW5.out)
  have HR5 := hide (RW.out _ BW5.out)
  have e6 := PL5.out.box.cell 6 _ rfl
  have e1 := PL5.out.box.cell 1 _ rfl
  clear hb5 d2 d3
  go_wp2_with (first | (go_at_call 13; refine (num10_any _ _).mono ?_; rintro e w' ⟨rfl, rfl⟩))
  refine wp_region_held_drew (S := (fun x => x.rangeAt X 0 (rcs r) ∧ x.cell? ⟨E0, 1, none⟩ = some (.int .i64 N))) (by kernel_rfl) ⟨Q5.out.range, e1⟩ (fun hHeld => ?_)
  refine tk 0 ?_
  refine tk 1 ?_
  refine tk 2 ?_
  refine tk 3 ?_
  refine tq 4 rfl (yieldsIf_load_mid (by rfl) 30 _ rfl X 0 rfl (rcs r) _ (fun _ h => h.1) Tryz.underlying30 rfl (by kernel_rfl)) ?_
  refine wpAnyH_ready (rs := [5]) (by kernel_rfl) (by simp) ?_
  refine AllReadyH.cons rfl (fun K hK => ?_) AllReadyH.nil
  rw [if_pos (by rfl)]
  go_wp2_with fail
  refine (recCheck_any N r _ (HR5.out.drewN _) (G5.out.drewN _).r (G5.out.drewN _).k).mono ?_
  rintro e w6 ⟨rfl, hb6⟩
  rw [HZ.out]
  have B56 : Hid (Below w5.heap.size w5 w6) := ⟨hb6.os, hb6.tape, hb6.output, hb6.size, hb6.block⟩
  have PL6 := hide (PL5.out.later B56.out)
  have Q6 := hide (Q5.out.on B56.out)
  have g1 := PL6.out.box.cell 1 _ rfl
  clear hb6
  refine hK.out _ _ ⟨Q6.out.range, g1⟩ (fun hHeld => ?_)
  clear hK K
  try simp only [Act.put, List.getElem_toArray, List.getElem_cons_succ, List.getElem_cons_zero, List.setIfInBounds_toArray, List.set_cons_zero, List.set_cons_succ]
  refine tk 6 ?_
  refine wpAnyH_done (by kernel_rfl) ?_ _
  skip
  clear e6 e1 g1
  have BW6 := hide (BW5.out.trans (B56.out.mono BW5.out.size))
  have G6 := hide (GW.out _ BW6.out)
  have HR6 := hide (RW.out _ BW6.out)
  have g3 := PL6.out.box.cell 3 _ rfl
  go_wp2_with fail
  refine wp_region_held_drew (S := (fun x => x.rangeAt X 0 (rcs r) ∧ x.cell? ⟨E0, 3, none⟩ = some (.pointer (some ⟨lb, 0, none⟩)))) (by kernel_rfl) ⟨Q6.out.range, g3⟩ (fun hHeld => ?_)
  refine tk 0 ?_
  refine tk 1 ?_
  refine tk 2 ?_
  refine tk 3 ?_
  refine tq 4 rfl (yieldsIf_load_mid (by rfl) 30 _ rfl X 0 rfl (rcs r) _ (fun _ h => h.1) Tryz.underlying30 rfl (by kernel_rfl)) ?_
  refine wpAnyH_ready (rs := [5]) (by kernel_rfl) (by simp) ?_
  refine AllReadyH.cons rfl (fun K hK => ?_) AllReadyH.nil
  rw [if_pos (by rfl)]
  go_wp2_with fail
  refine (wappend_head _ lb b N 0 r (PL6.out.log.drewN _) (HR6.out.drewN _) (G6.out.drewN _) (by rw [HZ.out]; exact hz) hk).mono ?_
  rintro e w7 ⟨rfl, hb7⟩
  have B67 : Hid (Below w6.heap.size w6 w7) := ⟨hb7.os, hb7.tape, hb7.output, hb7.size, hb7.block⟩
  have PL7 := hide (PL6.out.later B67.out)
  have Q7 := hide (Q6.out.on B67.out)
  have BW7 := hide (BW6.out.trans (B67.out.mono BW6.out.size))
  have h3 := PL7.out.box.cell 3 _ rfl
  clear hb7
  refine hK.out _ _ ⟨Q7.out.range, h3⟩ (fun hHeld => ?_)
  clear hK K
  try simp only [Act.put, List.getElem_toArray, List.getElem_cons_succ, List.getElem_cons_zero, List.setIfInBounds_toArray, List.set_cons_zero, List.set_cons_succ]
  refine tk 6 ?_
  refine wpAnyH_done (by kernel_rfl) ?_ _
  skip
  clear g3
  go_wp2_with fail
  refine (waiting_any _ lb b N 0 PL7.out.log).mono ?_
  rintro e w' ⟨rfl, rfl⟩
  have k2 := PL7.out.box.cell 2 _ rfl
  go_wp2_with fail
  refine (psize_any _ E0 b _ _ FR.length E0 k2 PL7.out.d).mono ?_
  rintro e w8 ⟨rfl, hb8⟩
  have PL8 := hide (PL7.out.later hb8)
  have BW8 := hide (BW7.out.trans (hb8.mono BW7.out.size))
  have Q8 := hide (Q7.out.on hb8)
  have m6 := PL8.out.box.cell 6 _ rfl
  have x0 := Q8.out.cell 0 _ rfl
  clear hb8 k2 h3
  subst hz
  rw [hk] at x0
  generalize FR.length = fl at *
  go_wp2_with (first | (go_at_call 13; refine (num10_any _ _).mono ?_; rintro e w' ⟨rfl, rfl⟩))
  go_ret
  exact ⟨rfl, BW8.out⟩

set_option maxHeartbeats 8000000 in
set_option maxRecDepth 100000 in
theorem refuses_yes (id n : Int) (r : Rc) (w : World) (hr : Rok w r) (hG : Glb w) (hn1 : -9223372036854775808 ≤ r.c.n) (hn2 : r.c.n ≤ 9223372036854775807) (I N : Int) (hV1 : 1 ≤ N) (hV2 : N ≤ 7) (hV3 : 0 ≤ I) (hV4 : I < N)
    (W2 : World) (hW2 : W2 = (w.alloc (.cells (rcs r).toArray 30)).alloc (.cells #[.int .i64 0, .int .i64 0, .pointer none, .pointer none, .slice none 0 0, .slice none 0 0, .int .i64 0] 36))
    (hop : Calls Tryz.prog 9 #[.pointer (some ⟨w.heap.size + 1, 0, none⟩), .int .i64 id, .int .i64 n] W2 fun e w' => e = .returned (.bool true) ∧ ∃ b lb pv fr, Ply w' (w.heap.size + 1) b lb I N 0 pv (.slice none 0 0) fr (frR (hdR I N)) (frR (hdR I N)).length (frR (hdR I N)).length (w.heap.size + 1) ∧ Below (w.heap.size + 1) W2 w') (hz : chkR N r = 0) (hk : r.kind ≠ 1) :
    Calls Tryz.prog 3 #[.int .i64 id, .int .i64 n, .agg (rcs r).toArray] w fun e w' => e = .returned (.bool true) ∧ Below w.heap.size w w' := by
  obtain ⟨FR, hFR⟩ : ∃ FR, FR = frR (hdR I N) := ⟨_, rfl⟩
  have HFB := hide (frR_len (hd_zero hV1 hV2 hV3 hV4))
  rw [← hFR] at hop HFB
  obtain ⟨X, hX⟩ : ∃ X, X = w.heap.size := ⟨_, rfl⟩
  obtain ⟨E0, hE0⟩ : ∃ E0, E0 = w.heap.size + 1 := ⟨_, rfl⟩
  rw [← hE0] at hop
  have HXE : Hid (X < E0) := by show X < E0; omega
  have HEW : Hid (w.heap.size ≤ E0) := by show _ ≤ E0; omega
  obtain ⟨z, hzz⟩ : ∃ z, chkR N r = z := ⟨_, rfl⟩
  have HZ := hide hzz
  rw [hzz] at hz
  have HOP := hide hop
  have BW2 : Hid (Below w.heap.size w W2) := by rw [hW2]; exact ((Below.refl _ _).alloc (Nat.le_refl _) _).alloc (by simp) _
  have Q2 : Hid (Blk W2 X (rcs r)) := by
    rw [hW2, hX]
    exact (blk_new w 30 (rcs r)).on ((Below.refl _ _).alloc (Nat.le_refl _) _)
  have HW2 := hide hW2
  have HE0 := hide hE0
  have HX := hide hX
  have GW : Hid (∀ W, Below w.heap.size w W → Glb W) := fun W h => hG.below h (Nat.le_refl _)
  have RW : Hid (∀ W, Below w.heap.size w W → Rok W r) := fun W h => hr.below h (Nat.le_refl _)
  clear hop hW2 hX hE0 hG hr hFR hzz
  go_enter Tryz.func3, Tryz.ntmps3
  go_wp2_with fail
  rw [← HW2.out, ← HX.out]
  rw [show X + 1 = E0 from by have := HX.out; have := HE0.out; omega]
  refine HOP.out.mono ?_
  rintro e w3 ⟨rfl, b, lb, pv, fr, hpl, hb3⟩
  have PL3 := hide hpl
  have BW3 := hide (BW2.out.trans (hb3.mono HEW.out))
  have Q3 := hide (Q2.out.of_block (hb3.block X HXE.out))
  have G3 := hide (GW.out _ BW3.out)
  have hft : FR.length ≤ 4194304 := hpl.d.top
  have c0 := hpl.box.cell 0 _ rfl
  have c1 := hpl.box.cell 1 _ rfl
  have c3 := hpl.box.cell 3 _ rfl
  clear hpl hb3
  go_wp2_with fail
  refine wp_region_held_drew (S := (fun x => x.cell? ⟨E0, 3, none⟩ = some (.pointer (some ⟨lb, 0, none⟩)) ∧ x.cell? ⟨E0, 0, none⟩ = some (.int .i64 I) ∧ x.cell? ⟨E0, 1, none⟩ = some (.int .i64 N))) (by kernel_rfl) ⟨c3, c0, c1⟩ (fun hHeld => ?_)
  refine tk 0 ?_
  refine tk 1 ?_
  refine tk 2 ?_
  refine tk 3 ?_
  refine tk 4 ?_
  refine tk 5 ?_
  refine tk 6 ?_
  refine tk 7 ?_
  refine tk 8 ?_
  refine tk 9 ?_
  refine tk 10 ?_
  refine tk 11 ?_
  refine tq 12 rfl (yieldsIf_build (by rfl) 30 _ rfl [(0, Value.int .i64 1), (7, Value.int .i64 I), (8, Value.int .i64 N)] rfl _ (builtH I N)) ?_
  refine wpAnyH_ready (rs := [13]) (by kernel_rfl) (by simp) ?_
  refine AllReadyH.cons rfl (fun K hK => ?_) AllReadyH.nil
  rw [if_pos (by rfl)]
  go_wp2_with fail
  refine (wappend_head _ lb b N 0 (hdR I N) (PL3.out.log.drewN _) (hd_ok I N _) (G3.out.drewN _) (hd_zero hV1 hV2 hV3 hV4) rfl).mono ?_
  rintro e w4 ⟨rfl, hb4⟩
  have B34 : Hid (Below w3.heap.size w3 w4) := ⟨hb4.os, hb4.tape, hb4.output, hb4.size, hb4.block⟩
  have PL4 := hide (PL3.out.later B34.out)
  have d0 := PL4.out.box.cell 0 _ rfl
  have d1 := PL4.out.box.cell 1 _ rfl
  have d3 := PL4.out.box.cell 3 _ rfl
  clear hb4
  refine hK.out _ _ ⟨d3, d0, d1⟩ (fun hHeld => ?_)
  clear hK K
  try simp only [Act.put, List.getElem_toArray, List.getElem_cons_succ, List.getElem_cons_zero, List.setIfInBounds_toArray, List.set_cons_zero, List.set_cons_succ]
  refine tk 14 ?_
  refine wpAnyH_done (by kernel_rfl) ?_ _
  skip
  clear c0 c1 c3 d0 d1
  have BW4 := hide (BW3.out.trans (B34.out.mono BW3.out.size))
  have Q4 := hide (Q3.out.on B34.out)
  go_wp2_with fail
  refine (waiting_any _ lb b N 0 PL4.out.log).mono ?_
  rintro e w' ⟨rfl, rfl⟩
  have d2 := PL4.out.box.cell 2 _ rfl
  go_wp2_with fail
  refine (psize_any _ E0 b pv FR FR.length E0 d2 PL4.out.d).mono ?_
  rintro e w5 ⟨rfl, hb5⟩
  have PL5 := hide (PL4.out.later hb5)
  have BW5 := hide (BW4.out.trans (hb5.mono BW4.out.size))
  have Q5 := hide (Q4.out.on hb5)
  have G5 := hide (GW.out _ BW5.out)
  have HR5 := hide (RW.out _ BW5.out)
  have e6 := PL5.out.box.cell 6 _ rfl
  have e1 := PL5.out.box.cell 1 _ rfl
  clear hb5 d2 d3
  go_wp2_with (first | (go_at_call 13; refine (num10_any _ _).mono ?_; rintro e w' ⟨rfl, rfl⟩))
  refine wp_region_held_drew (S := (fun x => x.rangeAt X 0 (rcs r) ∧ x.cell? ⟨E0, 1, none⟩ = some (.int .i64 N))) (by kernel_rfl) ⟨Q5.out.range, e1⟩ (fun hHeld => ?_)
  refine tk 0 ?_
  refine tk 1 ?_
  refine tk 2 ?_
  refine tk 3 ?_
  refine tq 4 rfl (yieldsIf_load_mid (by rfl) 30 _ rfl X 0 rfl (rcs r) _ (fun _ h => h.1) Tryz.underlying30 rfl (by kernel_rfl)) ?_
  refine wpAnyH_ready (rs := [5]) (by kernel_rfl) (by simp) ?_
  refine AllReadyH.cons rfl (fun K hK => ?_) AllReadyH.nil
  rw [if_pos (by rfl)]
  go_wp2_with fail
  refine (recCheck_any N r _ (HR5.out.drewN _) (G5.out.drewN _).r (G5.out.drewN _).k).mono ?_
  rintro e w6 ⟨rfl, hb6⟩
  rw [HZ.out]
  have B56 : Hid (Below w5.heap.size w5 w6) := ⟨hb6.os, hb6.tape, hb6.output, hb6.size, hb6.block⟩
  have PL6 := hide (PL5.out.later B56.out)
  have Q6 := hide (Q5.out.on B56.out)
  have g1 := PL6.out.box.cell 1 _ rfl
  clear hb6
  refine hK.out _ _ ⟨Q6.out.range, g1⟩ (fun hHeld => ?_)
  clear hK K
  try simp only [Act.put, List.getElem_toArray, List.getElem_cons_succ, List.getElem_cons_zero, List.setIfInBounds_toArray, List.set_cons_zero, List.set_cons_succ]
  refine tk 6 ?_
  refine wpAnyH_done (by kernel_rfl) ?_ _
  skip
  clear e6 e1 g1
  have BW6 := hide (BW5.out.trans (B56.out.mono BW5.out.size))
  have G6 := hide (GW.out _ BW6.out)
  have HR6 := hide (RW.out _ BW6.out)
  have g3 := PL6.out.box.cell 3 _ rfl
  have HFT : Hid (FR.length + (frR r).length ≤ 4194304) := by have h1 := HFB.out.2; have h2 := (frR_len (n := N) (r := r) (by rw [HZ.out]; exact hz)).2; show _ ≤ _; omega
  have HFP : Hid (0 < (frR r).length) := (frR_len (n := N) (r := r) (by rw [HZ.out]; exact hz)).1
  go_wp2_with fail
  refine wp_region_held_drew (S := (fun x => x.rangeAt X 0 (rcs r) ∧ x.cell? ⟨E0, 3, none⟩ = some (.pointer (some ⟨lb, 0, none⟩)))) (by kernel_rfl) ⟨Q6.out.range, g3⟩ (fun hHeld => ?_)
  refine tk 0 ?_
  refine tk 1 ?_
  refine tk 2 ?_
  refine tk 3 ?_
  refine tq 4 rfl (yieldsIf_load_mid (by rfl) 30 _ rfl X 0 rfl (rcs r) _ (fun _ h => h.1) Tryz.underlying30 rfl (by kernel_rfl)) ?_
  refine wpAnyH_ready (rs := [5]) (by kernel_rfl) (by simp) ?_
  refine AllReadyH.cons rfl (fun K hK => ?_) AllReadyH.nil
  rw [if_pos (by rfl)]
  go_wp2_with fail
  refine (wappend_yes _ lb b N 0 r (PL6.out.log.drewN _) (HR6.out.drewN _) (G6.out.drewN _) (by omega) pv FR FR.length E0 (PL6.out.d.drewN _) hn1 hn2 (by rw [HZ.out]; exact hz) hk HFT.out PL6.out.ld).mono ?_
  rintro e w7 ⟨rfl, pv7, wm, k7, l7, hw7⟩
  have K7 : Hid (Dst 0 w6 wm b pv pv7 (FR ++ frR r) FR.length E0) := ⟨k7.dsk, ⟨k7.tch.os, k7.tch.tape, k7.tch.output, k7.tch.size, k7.tch.block⟩, k7.lat⟩
  have PL7 := hide (ply_app PL6.out K7.out l7 hw7)
  have BM : Hid (Below E0 w6 w7) := by
    have h1 := K7.out.below PL6.out.d
    rw [hw7]
    exact ⟨h1.os, h1.tape, h1.output, by have := h1.size; simpa [World.setCell] using this, fun k hk => by rw [Below.heap_setCell _ _ _ _ (by show k ≠ lb; have := PL6.out.low.2; omega)]; exact h1.block k hk⟩
  have Q7 : Hid (Blk w7 X (rcs r)) := Q6.out.of_block (BM.out.block X HXE.out)
  have BW7 := hide (BW6.out.trans (BM.out.mono HEW.out))
  have h3 := PL7.out.box.cell 3 _ rfl
  clear k7 l7 hw7
  refine hK.out _ _ ⟨Q7.out.range, h3⟩ (fun hHeld => ?_)
  clear hK K
  try simp only [Act.put, List.getElem_toArray, List.getElem_cons_succ, List.getElem_cons_zero, List.setIfInBounds_toArray, List.set_cons_zero, List.set_cons_succ]
  refine tk 6 ?_
  refine wpAnyH_done (by kernel_rfl) ?_ _
  skip
  clear g3
  go_wp2_with fail
  refine (waiting_any _ lb b N 1 PL7.out.log).mono ?_
  rintro e w' ⟨rfl, rfl⟩
  have k2 := PL7.out.box.cell 2 _ rfl
  go_wp2_with fail
  refine (psize_any _ E0 b _ _ FR.length E0 k2 PL7.out.d).mono ?_
  rintro e w8 ⟨rfl, hb8⟩
  have PL8 := hide (PL7.out.later hb8)
  have BW8 := hide (BW7.out.trans (hb8.mono BW7.out.size))
  have Q8 := hide (Q7.out.on hb8)
  have m6 := PL8.out.box.cell 6 _ rfl
  have x0 := Q8.out.cell 0 _ rfl
  clear hb8 k2 h3
  subst hz
  have gk : (r.kind == 1) = false := by rw [beq_eq_false_iff_ne]; exact hk
  have HLL : Hid ((FR ++ frR r).length = FR.length + (frR r).length) := List.length_append
  rw [HLL.out]
  have q9 : (FR.length : Int) < ((FR.length + (frR r).length : Nat) : Int) := by have := HFP.out; omega
  have hft2 : FR.length + (frR r).length ≤ 4194304 := HFT.out
  generalize FR.length + (frR r).length = fl2 at *
  generalize FR.length = fl at *
  go_wp2_with (first | (go_at_call 13; refine (num10_any _ _).mono ?_; rintro e w' ⟨rfl, rfl⟩))
  go_ret
  exact ⟨rfl, BW8.out⟩

end Go.Proofs.YtnjihfbghaefoaaGreatDoor
