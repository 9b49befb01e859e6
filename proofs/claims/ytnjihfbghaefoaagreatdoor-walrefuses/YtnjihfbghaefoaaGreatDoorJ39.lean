/- Texts of the proof, joined. -/
import Derived.Test.YtnjihfbghaefoaaGreatDoorJ02
import Derived.Test.YtnjihfbghaefoaaGreatDoorJ04
import Derived.Test.YtnjihfbghaefoaaGreatDoorJ03
import Derived.Test.YtnjihfbghaefoaaGreatDoorJ32
import Derived.Test.YtnjihfbghaefoaaGreatDoorJ33
import Derived.Test.YtnjihfbghaefoaaGreatDoorJ38
/- The log: what it is in memory; who may have it; lay. -/
namespace Go.Proofs.YtnjihfbghaefoaaGreatDoor
open Go.RowKit Go.Wire1 Go.MuLone

/-- A log in memory: its disk, the number of replicas, how many wait. -/
def lgL (b : Nat) (n : Int) (k : Int) : List Value := [.pointer (some ⟨b, 0, none⟩), .int .i64 n, .int .i64 k]
/-- The tables that the road reads. -/
structure Glb (w : World) : Prop where
  r : Rws w
  k : Knd w
  h : Hal w
theorem Glb.below {w w' : World} {B : Nat} (g : Glb w) (hb : Below B w w') (hB : w.heap.size ≤ B) : Glb w' :=
  ⟨g.r.below hb hB, g.k.below hb hB, fun i hi => by rw [hb.cell (p := ⟨4, i, none⟩) (by have := cell_lt (g.h i hi); show 4 < B; omega)]; exact g.h i hi⟩
theorem Glb.drewN {w : World} (g : Glb w) (q : Nat) : Glb (w.drewN q) := g.below (B := w.heap.size) ⟨rfl, rfl, rfl, Nat.le_refl _, fun _ _ => rfl⟩ (Nat.le_refl _)
/-- A record's frame. -/
def frR (r : Rc) : List Int := frm 2 (recB r)
theorem frR_len {n : Int} {r : Rc} (h : chkR n r = 0) : 0 < (frR r).length ∧ (frR r).length ≤ 262163 := by
  have h1 := recB_len h
  have h2 := hdL_len 2 (recB r).length (by omega)
  have h3 : (frR r).length = (hdL 2 (recB r).length).length + (recB r).length + 4 := by unfold frR frm body; simp [Crc2.fb]; omega
  omega
theorem frR_byt {n : Int} {r : Rc} (h : chkR n r = 0) : Byt (frR r) := byt_frm 2 _ (by omega) (byt_recB h)

set_option maxHeartbeats 4000000 in
set_option maxRecDepth 100000 in
theorem wfault_no (id n : Int) (w : World) (h1 : 1 ≤ n) (h7 : n ≤ 7) (i0 : 0 ≤ id) (i1 : id < n) :
    Calls Tryz.prog 42 #[.int .i64 id, .int .i64 n] w fun e w' => e = .returned (.int .i64 0) ∧ w = w' := by
  have q1 : ¬ n < 1 := by omega
  have q2 : ¬ 7 < n := by omega
  have q3 : ¬ id < 0 := by omega
  have q4 : ¬ n ≤ id := by omega
  clear h1 h7 i0 i1
  go_enter Tryz.func42, Tryz.ntmps42
  go_wp2
  go_ret
  exact ⟨rfl, rfl⟩
set_option maxHeartbeats 4000000 in
set_option maxRecDepth 100000 in
theorem wfaultOn_no (b : Nat) (id n : Int) (w : World) (h1 : 1 ≤ n) (h7 : n ≤ 7) (i0 : 0 ≤ id) (i1 : id < n) :
    Calls Tryz.prog 45 #[.pointer (some ⟨b, 0, none⟩), .int .i64 id, .int .i64 n] w fun e w' => e = .returned (.int .i64 0) ∧ w = w' := by
  go_enter Tryz.func45, Tryz.ntmps45
  go_wp2_with fail
  refine (wfault_no id n _ h1 h7 i0 i1).mono ?_
  rintro e w1 ⟨rfl, rfl⟩
  go_wp2
  go_ret
  exact ⟨rfl, rfl⟩

set_option maxHeartbeats 4000000 in
set_option maxRecDepth 100000 in
theorem lay_yes (w : World) (lb b : Nat) (pv : Value) (l : List Int) (m E0 : Nat) (n k : Int) (r : Rc) (hL : Blk w lb (lgL b n k)) (hd : Dsk 0 w b pv l m E0) (hr : Rok w r) (hG : Glb w) (hn1 : -9223372036854775808 ≤ r.c.n) (hn2 : r.c.n ≤ 9223372036854775807) (hz : chkR n r = 0) (hfit : l.length + (frR r).length ≤ 4194304) :
    Calls Tryz.prog 30 #[.pointer (some ⟨lb, 0, none⟩), .agg (rcs r).toArray] w fun e w' => e = .returned (.int .i64 0) ∧ ∃ pv', Dst 0 w w' b pv pv' (l ++ frR r) m E0 := by
  obtain ⟨V, hV⟩ : ∃ V, V = w.alloc (.cells (rcs r).toArray 30) := ⟨_, rfl⟩
  obtain ⟨X, hX⟩ : ∃ X, X = w.heap.size := ⟨_, rfl⟩
  have Q : Hid (Blk V X (rcs r)) := by rw [hV, hX]; exact blk_new w 30 (rcs r)
  have BV : Hid (Below w.heap.size w V) := by rw [hV]; exact (Below.refl _ _).alloc (Nat.le_refl _) _
  have HR := hide (hr.below BV.out (Nat.le_refl _))
  have HG := hide (hG.below BV.out (Nat.le_refl _))
  have LG := hide (hL.on BV.out)
  have DV := hide (hd.later BV.out)
  have SV := hide (hd.stay BV.out)
  have c1 := LG.out.cell 1 _ rfl
  have hlen := recB_len hz
  have HBY := hide (byt_recB hz)
  have HFB := hide (frR_byt hz)
  have HX := hide hX
  clear hL hd hr hG
  go_enter Tryz.func30, Tryz.ntmps30
  go_upto_region 1 with fail
  rw [← hV, ← hX]
  clear hV hX
  refine wp_region_held_drew (S := (fun x => x.rangeAt X 0 (rcs r) ∧ x.cell? ⟨lb, 1, none⟩ = some (.int .i64 n))) (by kernel_rfl) ⟨Q.out.range, c1⟩ (fun hHeld => ?_)
  refine tk 0 ?_
  refine tk 1 ?_
  refine tk 2 ?_
  refine tk 3 ?_
  refine tq 4 rfl (yieldsIf_load_mid (by rfl) 30 _ rfl X 0 rfl (rcs r) _ (fun _ h => h.1) Tryz.underlying30 rfl (by kernel_rfl)) ?_
  refine wpAnyH_ready (rs := [5]) (by kernel_rfl) (by simp) ?_
  refine AllReadyH.cons rfl (fun K hK => ?_) AllReadyH.nil
  rw [if_pos (by rfl)]
  go_wp2_with fail
  refine (renc_any n r _ (HR.out.drewN _) (HG.out.drewN _).r (HG.out.drewN _).k hn1 hn2 hz).mono ?_
  rintro e w1 ⟨u, rfl, ho1, hb1⟩
  have B1 : Hid (Below V.heap.size V w1) := ⟨hb1.os, hb1.tape, hb1.output, hb1.size, hb1.block⟩
  have Q1 : Hid (Blk w1 X (rcs r)) := Q.out.on B1.out
  have L1 : Hid (Blk w1 lb (lgL b n k)) := LG.out.on B1.out
  obtain ⟨ua, uc, rfl, _, _, us⟩ := seg_own ho1
  have US := hide us
  have c11 := L1.out.cell 1 _ rfl
  clear ho1 hb1 us
  refine hK.out _ _ ⟨Q1.out.range, c11⟩ (fun hHeld => ?_)
  clear hK K
  try simp only [Act.put, List.getElem_toArray, List.getElem_cons_succ, List.getElem_cons_zero, List.setIfInBounds_toArray, List.set_cons_zero, List.set_cons_succ]
  refine tk 6 ?_
  refine tk 7 ?_
  refine tk 8 ?_
  refine tk 9 ?_
  refine tk 10 ?_
  refine wpAnyH_done (by kernel_rfl) ?_ _
  skip
  obtain ⟨BB, hBB⟩ : ∃ BB, recB r = BB := ⟨_, rfl⟩
  obtain ⟨bn, hbn⟩ : ∃ bn, BB.length = bn := ⟨_, rfl⟩
  have HFR : Hid (frR r = frm 2 BB) := by show _ = _; unfold frR; rw [hBB]
  rw [hBB] at US HBY hlen ⊢
  rw [hbn] at US hlen ⊢
  have HBN := hide hbn
  clear hBB hbn c1 c11
  have HG1 := hide (HG.out.below B1.out (Nat.le_refl _))
  go_wp2_with fail
  refine (seal_any 2 ua bn uc BB _ (by omega) US.out HBY.out (by omega) HG1.out.h).mono ?_
  rintro e w2 ⟨g, gc, rfl, hg, ho2, hb2⟩
  rw [← HFR.out] at ho2 ⊢
  obtain ⟨ga, gd, eg, _, _, gs⟩ := seg_own ho2
  cases eg
  have GS := hide gs
  have B2 := hide (B1.out.trans (hb2.mono B1.out.size))
  have L2 := LG.out.on B2.out
  have c20 := L2.cell 0 _ rfl
  have D2 := hide (DV.out.later B2.out)
  have S2 := hide (SV.out.trans (DV.out.stay B2.out))
  have hgb : Hid (g ≠ b) := by have h1 := DV.out.box.lt; have h2 := B1.out.size; show g ≠ b; omega
  clear ho2 hb2 gs L2
  generalize (frR r).length = fn at *
  go_wp2_with fail
  refine (append_some _ b pv l m E0 ⟨g, 0, none⟩ fn gc (frR r) D2.out GS.out HFB.out (fun _ => hgb.out) hfit).mono ?_
  rintro e w3 ⟨rfl, pv', k3⟩
  have S3 := hide (S2.out.trans k3)
  clear k3 c20
  go_wp2
  go_ret
  exact ⟨rfl, _, S3.out⟩
end Go.Proofs.YtnjihfbghaefoaaGreatDoor
