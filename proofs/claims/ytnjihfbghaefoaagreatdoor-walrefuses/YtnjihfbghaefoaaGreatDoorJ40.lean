/- Texts of the proof, joined. -/
import Derived.Test.YtnjihfbghaefoaaGreatDoorJ02
import Derived.Test.YtnjihfbghaefoaaGreatDoorJ39
/- The log: Create on a new disk, Append, Waiting. -/
namespace Go.Proofs.YtnjihfbghaefoaaGreatDoor
open Go.RowKit Go.Wire1 Go.MuLone

def zeroC10 : Cm := ⟨0, 0, 0, ⟨#[]⟩, ⟨#[]⟩, ⟨#[]⟩, ⟨#[]⟩, 0⟩
def hdR (id of : Int) : Rc := ⟨1, 0, 0, 0, 0, false, zeroC10, 0, none, 0, 0, [], id, of⟩
theorem builtH (id of : Int) : Tryz.prog.built 30 [(0, Value.int .i64 1), (7, Value.int .i64 id), (8, Value.int .i64 of)] = some (rcs (hdR id of)).toArray := by kernel_rfl
theorem seg_none10 (w : World) : SegI w none 0 [] := ⟨rfl, by unfold maxLen; omega, fun h => by omega, fun j => by simp⟩
theorem hd_ok (id of : Int) (w : World) : Rok w (hdR id of) := ⟨seg_none10 w, by show (0 : Nat) ≤ _; omega, by show (0 : Nat) ≤ _; omega⟩
theorem hd_chk {n id of : Int} (h : isSizeB n = true) : chkR n (hdR id of) = if isSizeB of && (decide (0 ≤ id) && decide (id < of)) then 0 else 66 := by
  have e : extraR (hdR id of) = false := by kernel_rfl
  have e2 : firstR n (hdR id of) (rowR (hdR id of).kind) = if unlR (headB (hdR id of)) 66 = 0 then 0 else unlR (headB (hdR id of)) 66 := rfl
  unfold chkR
  rw [h, e, e2]
  show (if unlR (isSizeB of && (decide (0 ≤ id) && decide (id < of))) 66 = 0 then 0 else unlR (isSizeB of && (decide (0 ≤ id) && decide (id < of))) 66) = _
  cases isSizeB of && (decide (0 ≤ id) && decide (id < of)) <;> rfl
theorem hd_zero {n id : Int} (h1 : 1 ≤ n) (h7 : n ≤ 7) (i0 : 0 ≤ id) (i1 : id < n) : chkR n (hdR id n) = 0 := by
  have h : isSizeB n = true := by simp [isSizeB]; omega
  rw [hd_chk h, h]
  simp [i0, i1]

set_option maxHeartbeats 4000000 in
set_option maxRecDepth 100000 in
theorem create_new (w : World) (b : Nat) (pv : Value) (m E0 : Nat) (id n : Int) (hd : Dsk 0 w b pv [] m E0) (hG : Glb w) (h1 : 1 ≤ n) (h7 : n ≤ 7) (i0 : 0 ≤ id) (i1 : id < n) :
    Calls Tryz.prog 28 #[.pointer (some ⟨b, 0, none⟩), .int .i64 id, .int .i64 n] w fun e w' => ∃ lb pv', e = .returned (.tuple #[.pointer (some ⟨lb, 0, none⟩), .int .i64 0]) ∧ w.heap.size ≤ lb ∧ Blk w' lb (lgL b n 0) ∧ Dst 0 w w' b pv pv' (frR (hdR id n)) (frR (hdR id n)).length E0 ∧ pv'.ownBlock ≠ some lb := by
  have HD := hide hd
  have HG := hide hG
  have CZ := hide (hd_zero h1 h7 i0 i1)
  clear hd hG
  go_enter Tryz.func28, Tryz.ntmps28
  go_wp2_with fail
  refine (wfaultOn_no b id n _ h1 h7 i0 i1).mono ?_
  rintro e w1 ⟨rfl, rfl⟩
  go_wp2_with fail
  refine (look_any _ b pv [] m _ HD.out).mono ?_
  rintro e w1 ⟨v, rfl, ho, hb1⟩
  obtain ⟨va, vc, rfl⟩ := own_shape ho
  obtain ⟨LB, hLB⟩ : ∃ LB, LB = w1.heap.size := ⟨_, rfl⟩
  obtain ⟨V, hV⟩ : ∃ V, V = w1.alloc (.cells #[.pointer (some ⟨b, 0, none⟩), .int .i64 n, .int .i64 0] 71) := ⟨_, rfl⟩
  have BA : Hid (Below w1.heap.size w1 V) := by rw [hV]; exact (Below.refl _ _).alloc (Nat.le_refl _) _
  have BV := hide (hb1.trans (BA.out.mono hb1.size))
  have LV : Hid (Blk V LB (lgL b n 0)) := by rw [hV, hLB]; exact blk_new w1 _ (lgL b n 0)
  have DV := hide (HD.out.later BV.out)
  have SV := hide (HD.out.stay BV.out)
  have GV := hide (HG.out.below BV.out (Nat.le_refl _))
  have hlb : Hid (w.heap.size ≤ LB) := by rw [hLB]; exact hb1.size
  have HLB := hide hLB
  have HV := hide hV
  clear ho hb1 hLB hV BA
  go_wp2_with (first | (refine wpList_build rfl 30 _ rfl [(0, Value.int .i64 1), (7, Value.int .i64 id), (8, Value.int .i64 n)] rfl _ (builtH id n) ?_))
  rw [← HV.out, ← HLB.out]
  refine (lay_yes _ LB b pv [] m E0 n 0 (hdR id n) LV.out DV.out (hd_ok id n _) GV.out (by show _ ≤ (0 : Int); omega) (by show (0 : Int) ≤ _; omega) CZ.out (by have := (frR_len CZ.out).2; show 0 + _ ≤ _; omega)).mono ?_
  rintro e w2 ⟨rfl, pv2, k2⟩
  have hnb : Hid (LB ≠ b ∧ some LB ≠ pv.ownBlock) := ⟨fun e => by have := HD.out.box.lt; have := hlb.out; omega, fun e => by have := (HD.out.own.lt _ e.symm).2; have := hlb.out; omega⟩
  have L2 : Hid (Blk w2 LB (lgL b n 0)) := LV.out.of_block (k2.tch.block LB LV.out.lt hnb.out.1 hnb.out.2)
  have D2 := hide k2.dsk
  have S2 := hide (SV.out.trans k2)
  have hp2 : Hid (pv2.ownBlock ≠ some LB) := fun e => by
    rcases k2.lat with e2 | e2
    · rw [e2] at e; exact hnb.out.2 e.symm
    · have := e2 LB e; have := LV.out.lt; omega
  clear k2
  go_wp2_with fail
  refine (sync_any _ b pv2 _ m E0 D2.out).mono ?_
  rintro e w3 ⟨rfl, k3⟩
  have L3 : Hid (Blk w3 LB (lgL b n 0)) := L2.out.of_block (k3.tch.block LB L2.out.lt hnb.out.1 (fun e => hp2.out e.symm))
  have S3 := hide (S2.out.trans k3)
  clear k3
  go_wp2
  go_ret2
  exact ⟨LB, pv2, rfl, hlb.out, L3.out, S3.out, hp2.out⟩

set_option maxHeartbeats 4000000 in
set_option maxRecDepth 100000 in
theorem wappend_bad (w : World) (lb b : Nat) (n k : Int) (r : Rc) (hL : Blk w lb (lgL b n k)) (hr : Rok w r) (hG : Glb w) (hz : chkR n r ≠ 0) :
    Calls Tryz.prog 10 #[.pointer (some ⟨lb, 0, none⟩), .agg (rcs r).toArray] w fun e w' => e = .returned (.int .i64 (chkR n r : Nat)) ∧ Below w.heap.size w w' := by
  obtain ⟨V, hV⟩ : ∃ V, V = w.alloc (.cells (rcs r).toArray 30) := ⟨_, rfl⟩
  obtain ⟨X, hX⟩ : ∃ X, X = w.heap.size := ⟨_, rfl⟩
  have Q : Hid (Blk V X (rcs r)) := by rw [hV, hX]; exact blk_new w 30 (rcs r)
  have BV : Hid (Below w.heap.size w V) := by rw [hV]; exact (Below.refl _ _).alloc (Nat.le_refl _) _
  have HR := hide (hr.below BV.out (Nat.le_refl _))
  have HG := hide (hG.below BV.out (Nat.le_refl _))
  have LG := hide (hL.on BV.out)
  have c1 := LG.out.cell 1 _ rfl
  have HX := hide hX
  obtain ⟨z, hzz⟩ : ∃ z, chkR n r = z := ⟨_, rfl⟩
  have HZ := hide hzz
  clear hL hr hG hzz
  go_enter Tryz.func10, Tryz.ntmps10
  go_upto_region 1 with fail
  rw [← hV, ← hX]
  clear hV hX
  refine wp_region_held_drew (S := (fun x => x.rangeAt X 0 (rcs r) ∧ x.cell? ⟨lb, 1, none⟩ = some (.int .i64 n))) (by kernel_rfl) ⟨Q.out.range, c1⟩ (fun hHeld => ?_)
  refine tk 0 ?_
  refine tk 1 ?_
  refine tk 2 ?_
  refine tk 3 ?_
  refine tq 4 rfl (yieldsIf_load_mid (by rfl) 30 _ rfl X 0 rfl (rcs r) _ (fun _ h => h.1) Tryz.underlying30 rfl (by kernel_rfl)) ?_
  refine wpAnyH_ready (rs := [5]) (by kernel_rfl) (by simp) ?_
  refine AllReadyH.cons rfl (fun K hK => ?_) AllReadyH.nil
  rw [if_pos (by rfl)]
  go_wp2_with fail
  refine (recCheck_any n r _ (HR.out.drewN _) (HG.out.drewN _).r (HG.out.drewN _).k).mono ?_
  rintro e w1 ⟨rfl, hb1⟩
  rw [HZ.out]
  have B1 : Hid (Below V.heap.size V w1) := ⟨hb1.os, hb1.tape, hb1.output, hb1.size, hb1.block⟩
  have Q1 : Hid (Blk w1 X (rcs r)) := Q.out.on B1.out
  have L1 : Hid (Blk w1 lb (lgL b n k)) := LG.out.on B1.out
  have c11 := L1.out.cell 1 _ rfl
  clear hb1
  refine hK.out _ _ ⟨Q1.out.range, c11⟩ (fun hHeld => ?_)
  clear hK K
  try simp only [Act.put, List.getElem_toArray, List.getElem_cons_succ, List.getElem_cons_zero, List.setIfInBounds_toArray, List.set_cons_zero, List.set_cons_succ]
  refine tk 6 ?_
  refine wpAnyH_done (by kernel_rfl) ?_ _
  skip
  rw [HZ.out] at hz
  have g1 : (((z : Nat) : Int) != 0) = true := by rw [bne_iff_ne]; omega
  have B2 := hide (BV.out.trans (B1.out.mono BV.out.size))
  clear hz c1 c11
  go_wp2
  go_ret
  exact ⟨congrArg (fun x : Nat => Ending.returned (Value.int .i64 (x : Int))) HZ.out.symm, B2.out⟩

set_option maxHeartbeats 4000000 in
set_option maxRecDepth 100000 in
theorem wappend_head (w : World) (lb b : Nat) (n k : Int) (r : Rc) (hL : Blk w lb (lgL b n k)) (hr : Rok w r) (hG : Glb w) (hz : chkR n r = 0) (hk : r.kind = 1) :
    Calls Tryz.prog 10 #[.pointer (some ⟨lb, 0, none⟩), .agg (rcs r).toArray] w fun e w' => e = .returned (.int .i64 104) ∧ Below w.heap.size w w' := by
  obtain ⟨V, hV⟩ : ∃ V, V = w.alloc (.cells (rcs r).toArray 30) := ⟨_, rfl⟩
  obtain ⟨X, hX⟩ : ∃ X, X = w.heap.size := ⟨_, rfl⟩
  have Q : Hid (Blk V X (rcs r)) := by rw [hV, hX]; exact blk_new w 30 (rcs r)
  have BV : Hid (Below w.heap.size w V) := by rw [hV]; exact (Below.refl _ _).alloc (Nat.le_refl _) _
  have HR := hide (hr.below BV.out (Nat.le_refl _))
  have HG := hide (hG.below BV.out (Nat.le_refl _))
  have LG := hide (hL.on BV.out)
  have c1 := LG.out.cell 1 _ rfl
  have HX := hide hX
  obtain ⟨z, hzz⟩ : ∃ z, chkR n r = z := ⟨_, rfl⟩
  have HZ := hide hzz
  clear hL hr hG hzz
  go_enter Tryz.func10, Tryz.ntmps10
  go_upto_region 1 with fail
  rw [← hV, ← hX]
  clear hV hX
  refine wp_region_held_drew (S := (fun x => x.rangeAt X 0 (rcs r) ∧ x.cell? ⟨lb, 1, none⟩ = some (.int .i64 n))) (by kernel_rfl) ⟨Q.out.range, c1⟩ (fun hHeld => ?_)
  refine tk 0 ?_
  refine tk 1 ?_
  refine tk 2 ?_
  refine tk 3 ?_
  refine tq 4 rfl (yieldsIf_load_mid (by rfl) 30 _ rfl X 0 rfl (rcs r) _ (fun _ h => h.1) Tryz.underlying30 rfl (by kernel_rfl)) ?_
  refine wpAnyH_ready (rs := [5]) (by kernel_rfl) (by simp) ?_
  refine AllReadyH.cons rfl (fun K hK => ?_) AllReadyH.nil
  rw [if_pos (by rfl)]
  go_wp2_with fail
  refine (recCheck_any n r _ (HR.out.drewN _) (HG.out.drewN _).r (HG.out.drewN _).k).mono ?_
  rintro e w1 ⟨rfl, hb1⟩
  rw [HZ.out]
  have B1 : Hid (Below V.heap.size V w1) := ⟨hb1.os, hb1.tape, hb1.output, hb1.size, hb1.block⟩
  have Q1 : Hid (Blk w1 X (rcs r)) := Q.out.on B1.out
  have L1 : Hid (Blk w1 lb (lgL b n k)) := LG.out.on B1.out
  have c11 := L1.out.cell 1 _ rfl
  clear hb1
  refine hK.out _ _ ⟨Q1.out.range, c11⟩ (fun hHeld => ?_)
  clear hK K
  try simp only [Act.put, List.getElem_toArray, List.getElem_cons_succ, List.getElem_cons_zero, List.setIfInBounds_toArray, List.set_cons_zero, List.set_cons_succ]
  refine tk 6 ?_
  refine wpAnyH_done (by kernel_rfl) ?_ _
  skip
  have ez : z = 0 := by rw [← HZ.out]; exact hz
  subst ez
  have x0 : w1.cell? ⟨X, 0, none⟩ = some (.int .i64 1) := by rw [← hk]; exact Q1.out.cell 0 _ rfl
  have B2 := hide (BV.out.trans (B1.out.mono BV.out.size))
  clear hz c1 c11 hk
  go_wp2
  go_ret
  exact ⟨rfl, B2.out⟩

set_option maxHeartbeats 4000000 in
set_option maxRecDepth 100000 in
theorem wappend_yes (w : World) (lb b : Nat) (n : Int) (k : Nat) (r : Rc) (hL : Blk w lb (lgL b n (k : Int))) (hr : Rok w r) (hG : Glb w) (hk2 : k ≤ 4194304) (pv : Value) (l : List Int) (m E0 : Nat) (hd : Dsk 0 w b pv l m E0) (hn1 : -9223372036854775808 ≤ r.c.n) (hn2 : r.c.n ≤ 9223372036854775807) (hz : chkR n r = 0) (hk : r.kind ≠ 1) (hfit : l.length + (frR r).length ≤ 4194304) (hnb : lb ≠ b ∧ some lb ≠ pv.ownBlock) :
    Calls Tryz.prog 10 #[.pointer (some ⟨lb, 0, none⟩), .agg (rcs r).toArray] w fun e w' => e = .returned (.int .i64 0) ∧ ∃ pv' w1, Dst 0 w w1 b pv pv' (l ++ frR r) m E0 ∧ Blk w1 lb (lgL b n (k : Int)) ∧ w' = w1.setCell ⟨lb, 2, none⟩ (.int .i64 ((k + 1 : Nat) : Int)) := by
  obtain ⟨V, hV⟩ : ∃ V, V = w.alloc (.cells (rcs r).toArray 30) := ⟨_, rfl⟩
  obtain ⟨X, hX⟩ : ∃ X, X = w.heap.size := ⟨_, rfl⟩
  have Q : Hid (Blk V X (rcs r)) := by rw [hV, hX]; exact blk_new w 30 (rcs r)
  have BV : Hid (Below w.heap.size w V) := by rw [hV]; exact (Below.refl _ _).alloc (Nat.le_refl _) _
  have HR := hide (hr.below BV.out (Nat.le_refl _))
  have HG := hide (hG.below BV.out (Nat.le_refl _))
  have LG := hide (hL.on BV.out)
  have DV := hide (hd.later BV.out)
  have SV := hide (hd.stay BV.out)
  have c1 := LG.out.cell 1 _ rfl
  have HX := hide hX
  obtain ⟨z, hzz⟩ : ∃ z, chkR n r = z := ⟨_, rfl⟩
  have HZ := hide hzz
  clear hL hr hG hzz hd
  go_enter Tryz.func10, Tryz.ntmps10
  go_upto_region 1 with fail
  rw [← hV, ← hX]
  clear hV hX
  refine wp_region_held_drew (S := (fun x => x.rangeAt X 0 (rcs r) ∧ x.cell? ⟨lb, 1, none⟩ = some (.int .i64 n))) (by kernel_rfl) ⟨Q.out.range, c1⟩ (fun hHeld => ?_)
  refine tk 0 ?_
  refine tk 1 ?_
  refine tk 2 ?_
  refine tk 3 ?_
  refine tq 4 rfl (yieldsIf_load_mid (by rfl) 30 _ rfl X 0 rfl (rcs r) _ (fun _ h => h.1) Tryz.underlying30 rfl (by kernel_rfl)) ?_
  refine wpAnyH_ready (rs := [5]) (by kernel_rfl) (by simp) ?_
  refine AllReadyH.cons rfl (fun K hK => ?_) AllReadyH.nil
  rw [if_pos (by rfl)]
  go_wp2_with fail
  refine (recCheck_any n r _ (HR.out.drewN _) (HG.out.drewN _).r (HG.out.drewN _).k).mono ?_
  rintro e w1 ⟨rfl, hb1⟩
  rw [HZ.out]
  have B1 : Hid (Below V.heap.size V w1) := ⟨hb1.os, hb1.tape, hb1.output, hb1.size, hb1.block⟩
  have Q1 : Hid (Blk w1 X (rcs r)) := Q.out.on B1.out
  have L1 : Hid (Blk w1 lb (lgL b n (k : Int))) := LG.out.on B1.out
  have c11 := L1.out.cell 1 _ rfl
  clear hb1
  refine hK.out _ _ ⟨Q1.out.range, c11⟩ (fun hHeld => ?_)
  clear hK K
  try simp only [Act.put, List.getElem_toArray, List.getElem_cons_succ, List.getElem_cons_zero, List.setIfInBounds_toArray, List.set_cons_zero, List.set_cons_succ]
  refine tk 6 ?_
  refine wpAnyH_done (by kernel_rfl) ?_ _
  skip
  have ez : z = 0 := by rw [← HZ.out]; exact hz
  subst ez
  have x0 : w1.cell? ⟨X, 0, none⟩ = some (.int .i64 r.kind) := Q1.out.cell 0 _ rfl
  have gk : (r.kind == 1) = false := by rw [beq_eq_false_iff_ne]; exact hk
  have gk2 : ¬ r.kind = 1 := hk
  have D1 := hide (DV.out.later B1.out)
  have S1 := hide (SV.out.trans (DV.out.stay B1.out))
  have HR1 := hide (HR.out.below B1.out (Nat.le_refl _))
  have HG1 := hide (HG.out.below B1.out (Nat.le_refl _))
  have HNB := hide hnb
  have HFT := hide hfit
  clear c1 c11 hk hnb hfit
  go_wp2_with (first | (refine wpList_load_mid rfl 30 _ rfl X 0 rfl (rcs r) _ Q1.out.range Tryz.underlying30 rfl (by kernel_rfl) ?_))
  refine (lay_yes _ lb b pv l m E0 n k r L1.out D1.out HR1.out HG1.out hn1 hn2 hz HFT.out).mono ?_
  rintro e w2 ⟨rfl, pv2, k2⟩
  have L2 : Hid (Blk w2 lb (lgL b n (k : Int))) := L1.out.of_block (k2.tch.block lb L1.out.lt HNB.out.1 HNB.out.2)
  have S2 := hide (S1.out.trans k2)
  have d2 := L2.out.cell 2 _ rfl
  have f2 := L2.out.thaw 2
  have EK : Hid ((k : Int) + 1 = ((k + 1 : Nat) : Int)) := by show _ = _; omega
  clear k2 x0 hz HZ
  go_wp2
  go_ret
  exact ⟨rfl, pv2, w2, S2.out, L2.out, by rw [EK.out]⟩

set_option maxHeartbeats 4000000 in
set_option maxRecDepth 100000 in
theorem waiting_any (w : World) (lb b : Nat) (n k : Int) (hL : Blk w lb (lgL b n k)) :
    Calls Tryz.prog 11 #[.pointer (some ⟨lb, 0, none⟩)] w fun e w' => e = .returned (.int .i64 k) ∧ w = w' := by
  have c2 := hL.cell 2 _ rfl
  clear hL
  go_enter Tryz.func11, Tryz.ntmps11
  go_wp2
  go_ret
  exact ⟨rfl, rfl⟩
end Go.Proofs.YtnjihfbghaefoaaGreatDoor
