import Derived.WalkKit
import Derived.Deep.MidRow
import Derived.Test.YtibfdoggolkljaaGreatDoorJ18
set_option maxHeartbeats 8000000
set_option maxRecDepth 100000
namespace Go.Proofs.YtibfdoggolkljaaGreatDoor
open Go.RowKit Go.Wire1
def DV (w : World) (B : Nat) (u : Value) (l : List Int) : Prop := ∃ a k c, u = .slice a k c ∧ SegI w a k l ∧ ∀ x, a = some x → 0 < k → B ≤ x.block
theorem DV.nil (w : World) (B : Nat) : DV w B (.slice none 0 0) [] := ⟨none, 0, 0, rfl, ⟨rfl, by unfold maxLen; omega, fun h => by omega, fun j => by simp⟩, fun x h => by cases h⟩
theorem DV.of_blocks {w w' : World} {B : Nat} {u : Value} {l : List Int} (h : DV w B u l) (hb : ∀ k, B ≤ k → k < w.heap.size → w'.heap[k]? = w.heap[k]?) : DV w' B u l := by
 obtain ⟨a, k, c, rfl, ⟨h1, h2, h3, h4⟩, h5⟩ := h
 refine ⟨a, k, c, rfl, ⟨h1, h2, fun hk => ?_, h4⟩, h5⟩
 obtain ⟨b, off, rfl, hc⟩ := h3 hk
 exact ⟨b, off, rfl, fun j hj => by rw [World.cell?_of_block (w := w) (hb b (h5 _ rfl hk) (cell_lt (hc j hj)))]; exact hc j hj⟩
theorem DV.touch {w w' : World} {B g : Nat} {u : Value} {l : List Int} (h : DV w B u l) (T : Touch g w w') (hg : g < B) : DV w' B u l := h.of_blocks fun k h1 h2 => T.block k h2 (by omega)
theorem DV.below {w w' : World} {B C : Nat} {u : Value} {l : List Int} (h : DV w B u l) (hb : Below C w w') (hC : w.heap.size ≤ C) : DV w' B u l := h.of_blocks fun k _ h2 => hb.block k (by omega)
theorem DV.set {w : World} {B q o : Nat} {u : Value} {l : List Int} (h : DV w B u l) (x : Value) (hq : q < B) : DV (w.setCell ⟨q, o, none⟩ x) B u l := h.of_blocks fun k h1 _ => Below.heap_setCell _ _ _ _ (by show k ≠ q; omega)
theorem DV.less {w : World} {B B' : Nat} {u : Value} {l : List Int} (h : DV w B u l) (hB : B' ≤ B) : DV w B' u l := by
 obtain ⟨a, k, c, e, h1, h2⟩ := h
 exact ⟨a, k, c, e, h1, fun x hx hk => Nat.le_trans hB (h2 x hx hk)⟩
theorem DV.shape {w : World} {B : Nat} {u : Value} {l : List Int} (h : DV w B u l) : ∃ a k c, u = .slice a k c := by
 obtain ⟨a, k, c, e, _⟩ := h; exact ⟨a, k, c, e⟩
def iDeps (v n : Int) (l : List Int) (f : Int) : List Int × List Int × Int := if f = 0 then (upL (upk v n l), l.drop (upN (upk v n l)), (upE (upk v n l) : Int)) else ([], l, f)
theorem upN_le {v n : Int} {l : List Int} (hy : Byt l) : upN (upk v n l) ≤ l.length := by
 cases h : upk v n l with
 | error e => exact Nat.zero_le _
 | ok p => obtain ⟨xs, q⟩ := p; exact (upk_len hy h).2.1
theorem dv_own {w' : World} {B : Nat} {u : Value} {L : List Int} (h : w'.ownsRow B 3 1 u L.length (L.map (Value.int .i64))) (hf : Fit L) : DV w' B u L := by
 obtain ⟨a, c, hu, _, hs⟩ := own_segI h hf
 refine ⟨a, L.length, c, hu, hs, fun x hx hk => ?_⟩
 rcases h.2 with ⟨_, h2⟩ | ⟨b, cap, cur, e, hB, _⟩
 ·omega
 ·rw [hu, hx] at e
  injection e with e _ _
  injection e with e
  rw [e]
  exact hB
section
variable (w0 : World) (g : Nat) (v n : Int) (l : List Int)
theorem sdeps_any (a : Nat → Addr) (f : Int) (w : World) (he : Errs w0 a) (h : Scx w0 w g (Vf v n) l f) :
  Calls Tryz.prog 58 #[.pointer (some ⟨g, 0, none⟩)] w fun r w' => ∃ u, r = .returned u ∧ DV w' w.heap.size u (iDeps v n l f).1 ∧ Touch g w w' ∧ Scx w0 w' g (Vf v n) (iDeps v n l f).2.1 (iDeps v n l f).2.2 := by
 have HX := hide h
 have HE := hide he
 have hgl := h.lt
 obtain ⟨sa, m, cap, hs⟩ := h
 have r0 := hs.rest
 have r1 := hs.flt
 have r2 : w.cell? ⟨g, 2, none⟩ = some (.int .i64 v) := hs.more 2 zN
 have r9 : w.cell? ⟨g, 9, none⟩ = some (.int .i64 n) := hs.more 9 (by omega)
 have hsrc := hs.src
 have HS := hide hs
 clear hs he
 by_cases h0 : f = 0
 ·subst h0
  obtain ⟨L, hL⟩ : ∃ L, Hid (upL (upk v n l) = L) := ⟨_, rfl⟩
  obtain ⟨kk, hkk⟩ : ∃ kk, Hid (upN (upk v n l) = kk) := ⟨_, rfl⟩
  obtain ⟨f1, hf1⟩ : ∃ f1, Hid (((upE (upk v n l) : Nat) : Int) = f1) := ⟨_, rfl⟩
  have e1 : Hid (iDeps v n l 0 = (L, l.drop kk, f1)) := by show _ = _; unfold iDeps; rw [if_pos rfl, hL.out, hkk.out, hf1.out]
  rw [e1.out]
  simp only
  have hkl : Hid (kk ≤ l.length) := by rw [← hkk.out]; exact upN_le HS.out.byt
  have FL : Hid (Fit L) := by rw [← hL.out]; exact fit_up HS.out.byt _ _
  have BU1 : Hid (Below w.heap.size w w.drew) := (Below.refl _ _).drew
  have HL : Hid (Below w0.heap.size w0 w.drew) := low_on HS.out.low BU1.out HS.out.low.size
  go_enter Tryz.func58, Tryz.ntmps58
  go_wp2
  refine wp_region_noPanic ?_
  refine wp_region_held_drew (S := (fun w' => w'.cell? ⟨g, 0, none⟩ = some (.slice sa m cap) ∧ w'.cell? ⟨g, 2, none⟩ = some (.int .i64 v) ∧ w'.cell? ⟨g, 9, none⟩ = some (.int .i64 n))) (by kernel_rfl) ⟨r0, r2, r9⟩ (fun hHeld => ?_)
  refine tk 0 ?_
  refine tk 1 ?_
  refine tk 2 ?_
  refine tk 3 ?_
  refine tk 4 ?_
  refine tk 5 ?_
  refine tk 6 ?_
  refine tk 7 ?_
  refine tk 8 ?_
  refine tk 9 ?_
  refine tk 10 ?_
  refine tk 11 ?_
  refine tk 12 ?_
  refine tk 13 ?_
  refine zR 14 fun K hK => ?_
  go_wp2_with fail
  refine (unpackF_any v n m cap sa l a _ (HS.out.seg.below HL.out zN) hsrc HS.out.byt (HE.out.below HL.out zN)).mono ?_
  rintro e w1 ⟨u, rfl, hown, hb1⟩
  rw [hkk.out, hf1.out]
  rw [hL.out] at hown
  have BW : Hid (Below w.heap.size w w1) := low_on BU1.out hb1 BU1.out.size
  have k0 := (BW.out.cell (p := ⟨g, 0, none⟩) hgl).trans r0
  have k2 := (BW.out.cell (p := ⟨g, 2, none⟩) hgl).trans r2
  have k9 := (BW.out.cell (p := ⟨g, 9, none⟩) hgl).trans r9
  refine hK.out _ _ ⟨k0, k2, k9⟩ (fun hHeld => ?_)
  clear hK K
  try simp only [Act.put, zA, zB, zC, zD, zE, zF]
  refine tk 15 ?_
  refine tk 16 ?_
  refine tk 17 ?_
  refine tk 18 ?_
  refine tk 19 ?_
  refine tk 20 ?_
  refine tk 21 ?_
  refine wpAnyH_done (by kernel_rfl) ?_ _
  refine NoPanic.normal ?_
  have DU : Hid (DV w1 w.heap.size u L) := dv_own (by exact hown) FL.out
  obtain ⟨ua, uk, uc, rfl⟩ := DU.out.shape
  have SX : Hid (Scx w0 w1 g (Vf v n) l 0) := HX.out.below BW.out
  have TW : Hid (Touch g w w1) := Touch.ofBelow BW.out
  clear hb1 BW k0 k2 k9 hHeld hown
  go_wp2_with fail
  refine (ipass_any w0 g (Vf v n) l kk 0 f1 _ hkl.out SX.out).mono ?_
  rintro r w2 ⟨rfl, T2, S2⟩
  have R : Hid (DV w2 w.heap.size (.slice ua uk uc) L ∧ Touch g w w2 ∧ Scx w0 w2 g (Vf v n) (l.drop kk) f1) := ⟨DU.out.touch T2 hgl, TW.out.trans T2, S2⟩
  clear T2 S2 SX TW DU
  go_wp2
  go_ret
  exact ⟨_, rfl, R.out⟩
 ·have e1 : Hid (iDeps v n l f = ([], l, f)) := by show _ = _; unfold iDeps; rw [if_neg h0]
  rw [e1.out]
  simp only
  have g1 : (f != 0) = true := by simpa using h0
  clear h0 e1
  go_enter Tryz.func58, Tryz.ntmps58
  go_wp2
  go_ret
  exact ⟨_, rfl, DV.nil _ _, Touch.refl _ _, HX.out⟩
end
open Go.RowKit Go.Wire1
structure Blk (w : World) (q : Nat) (cs : List Value) : Prop where
 cell : ∀ j v, cs[j]? = some v → w.cell? ⟨q, j, none⟩ = some v
 thaw : ∀ o, w.frozen? ⟨q, o, none⟩ = false
 lt : q < w.heap.size
theorem blk_new (w : World) (T : TypeId) (cs : List Value) : Blk (w.alloc (.cells cs.toArray T)) w.heap.size cs :=
 ⟨fun j v hj => by rw [World.cell?_alloc_at _ _ _ _ rfl]; simpa using hj, fun _ => World.frozen?_alloc_at _ _ _ _ rfl, by simp⟩
theorem Blk.of_block {w w' : World} {q : Nat} {cs : List Value} (h : Blk w q cs) (e : w'.heap[q]? = w.heap[q]?) : Blk w' q cs :=
 ⟨fun j v hj => (World.cell?_of_block (a := ⟨q, j, none⟩) e).trans (h.cell j v hj), fun o => (World.frozen?_of_block (a := ⟨q, o, none⟩) e).trans (h.thaw o), by
  have := h.lt
  apply Classical.byContradiction
  intro hn
  rw [Array.getElem?_eq_none (by omega), Array.getElem?_eq_getElem this] at e
  cases e⟩
theorem Blk.below {w w' : World} {q B : Nat} {cs : List Value} (h : Blk w q cs) (hb : Below B w w') (hB : q < B) : Blk w' q cs := h.of_block (hb.block q hB)
theorem Blk.on {w w' : World} {q : Nat} {cs : List Value} (h : Blk w q cs) (hb : Below w.heap.size w w') : Blk w' q cs := h.below hb h.lt
theorem Blk.setAt {w : World} {q : Nat} {cs : List Value} (h : Blk w q cs) (k : Nat) (x : Value) : Blk (w.setCell ⟨q, k, none⟩ x) q (cs.set k x) := by
 refine ⟨fun j u hj => ?_, fun o => by rw [World.frozen?_setCell]; exact h.thaw o, by have := h.lt; simpa [World.setCell] using this⟩
 rw [List.getElem?_set] at hj
 by_cases e : k = j
 ·subst e
  rw [if_pos rfl] at hj
  split at hj
  ·rename_i hlt
   simp only [Option.some.injEq] at hj
   subst hj
   exact World.cell?_setCell_same w ⟨q, k, none⟩ _ (h.cell k _ (List.getElem?_eq_getElem hlt))
  ·cases hj
 ·rw [if_neg e] at hj
  rw [zO _ _ _ _ (by intro r; injection r with _ r2 _; omega)]
  exact h.cell j u hj
theorem results_cell_mid {P : Program} {fn : Func} {p : Tmp} {ty : TypeId} (h : fn.results = #[.cell p ty]) (tmps : Array Value) (w : World) (b : Nat) (cs : List Value) (d : TypeDesc) (ht : tmps[p]?.getD undef = .pointer (some ⟨b, 0, none⟩))
  (hc : w.rangeAt b 0 cs) (hu : P.underlying ty = some d) (hd : d.isRow = true) (hi : (P.info? ty).map (·.size) = some cs.length) : (results fn tmps).run P w = .ok (.agg cs.toArray) w := by
 have hl := run_loadVar_mid (P := P) w b 0 ty cs d hc hu hd hi
 simp [results, h, ht, asAddr, hl]
theorem Blk.there {w : World} {q : Nat} {cs : List Value} (h : Blk w q cs) : w.there q 0 cs.length := fun j hj => by
 rw [Nat.zero_add]
 exact ⟨by rw [h.cell j cs[j] (List.getElem?_eq_getElem hj)]; rfl, h.thaw j⟩
theorem below_cells {B b : Nat} {x : World} (hb : B ≤ b) : ∀ (vs : List Value) (o : Nat) (W : World), Below B x W → Below B x (W.setCells b o vs)
 | [], _, _, h => h
 | v :: vs, o, _, h => below_cells hb vs (o + 1) _ (h.setCell (p := ⟨b, o, none⟩) hb v)
theorem Blk.range {w : World} {q : Nat} {cs : List Value} (h : Blk w q cs) : w.rangeAt q 0 cs := fun j v hj => by rw [Nat.zero_add]; exact h.cell j v hj
theorem blk_cells {w : World} {q : Nat} {cs vs : List Value} (h : Blk w q cs) (hl : vs.length = cs.length) : Blk (w.setCells q 0 vs) q vs := by
 have hr : (w.setCells q 0 vs).rangeAt q 0 vs := World.rangeAt_setCells_same _ _ _ _ (by rw [hl]; exact h.there)
 refine ⟨fun j v hj => by have := hr j v hj; rwa [Nat.zero_add] at this, fun o => by rw [World.frozen?_setCells]; exact h.thaw o, ?_⟩
 have hs := (below_cells (B := 0) (x := w) (b := q) (Nat.zero_le _) vs 0 w ⟨rfl, rfl, rfl, Nat.le_refl _, fun _ _ => rfl⟩).size
 have := h.lt
 omega
theorem Blk.drewN {w : World} {q : Nat} {cs : List Value} (h : Blk w q cs) (n : Nat) : Blk (w.drewN n) q cs := ⟨h.cell, h.thaw, h.lt⟩
theorem zX (w : World) (T : TypeId) (cs : List Value) : ∃ X, X = w.alloc (.cells cs.toArray T) ∧ Hid (Blk X w.heap.size cs) := ⟨_, rfl, blk_new w T cs⟩
theorem zY (w : World) (T : TypeId) (cs : List Value) (U : TypeId) (ds : List Value) : ∃ X, X = (w.alloc (.cells cs.toArray T)).alloc (.cells ds.toArray U) ∧ Hid (Blk X w.heap.size cs) ∧ Hid (Blk X (w.heap.size + 1) ds) ∧ Hid (Below w.heap.size w X) := by
 refine ⟨_, rfl, (blk_new w T cs).on ((Below.refl _ _).alloc zN _), ?_, ((Below.refl _ w).alloc zN _).alloc (by simp) _⟩
 have h := blk_new (w.alloc (.cells cs.toArray T)) U ds
 rw [World.size_alloc] at h
 exact h
open Go.RowKit Go.Wire1
theorem Blk.touch {w w' : World} {q g : Nat} {cs : List Value} (h : Blk w q cs) (T : Touch g w w') (hq : q ≠ g) : Blk w' q cs := h.of_block (T.block q h.lt hq)
def iAttr (v n : Int) (noop : Bool) (l : List Int) (f : Int) : (Int × List Int) × List Int × Int :=
 ((top31 (iNum l f).1, (iDeps v n (iNum l f).2.1 (refF (unl (seqB noop (top31 (iNum l f).1)) 55) (iNum l f).2.2)).1), (iDeps v n (iNum l f).2.1 (refF (unl (seqB noop (top31 (iNum l f).1)) 55) (iNum l f).2.2)).2.1,
  refF (unl (depsB n noop (iDeps v n (iNum l f).2.1 (refF (unl (seqB noop (top31 (iNum l f).1)) 55) (iNum l f).2.2)).1) 56) (iDeps v n (iNum l f).2.1 (refF (unl (seqB noop (top31 (iNum l f).1)) 55) (iNum l f).2.2)).2.2)
section
variable (w0 : World) (g : Nat) (v n : Int) (l : List Int)
theorem sattr_any (a : Nat → Addr) (noop : Bool) (f : Int) (w : World) (he : Errs w0 a) (h : Scx w0 w g (Vf v n) l f) :
  Calls Tryz.prog 41 #[.pointer (some ⟨g, 0, none⟩), .bool noop] w fun r w' => ∃ u, r = .returned (.agg #[.int .i64 (iAttr v n noop l f).1.1, u]) ∧ DV w' w.heap.size u (iAttr v n noop l f).1.2 ∧ Touch g w w' ∧ Scx w0 w' g (Vf v n) (iAttr v n noop l f).2.1 (iAttr v n noop l f).2.2 := by
 obtain ⟨x, l1, f1, e1⟩ : ∃ x l1 f1, Hid (iNum l f = (x, l1, f1)) := ⟨_, _, _, rfl⟩
 obtain ⟨sq, hsq⟩ : ∃ sq, Hid (top31 x = sq) := ⟨_, rfl⟩
 obtain ⟨u1, hu1⟩ : ∃ u, Hid (unl (seqB noop sq) 55 = u) := ⟨_, rfl⟩
 obtain ⟨f2, hf2⟩ : ∃ f2, Hid (refF u1 f1 = f2) := ⟨_, rfl⟩
 obtain ⟨dl, l2, f3, e2⟩ : ∃ dl l2 f3, Hid (iDeps v n l1 f2 = (dl, l2, f3)) := ⟨_, _, _, rfl⟩
 obtain ⟨u2, hu2⟩ : ∃ u, Hid (unl (depsB n noop dl) 56 = u) := ⟨_, rfl⟩
 obtain ⟨f4, hf4⟩ : ∃ f4, Hid (refF u2 f3 = f4) := ⟨_, rfl⟩
 have e0 : Hid (iAttr v n noop l f = ((sq, dl), l2, f4)) := by
  show _ = _
  unfold iAttr
  simp only [e1.out, hsq.out, hu1.out, hf2.out, e2.out, hu2.out, hf4.out]
 rw [e0.out]
 simp only
 have HX := hide (h.alloc (.cells #[.int .i64 0, .slice none 0 0] 74))
 have HQ := hide (blk_new w 74 [.int .i64 0, .slice none 0 0])
 have T0 : Hid (Touch g w (w.alloc (.cells #[.int .i64 0, .slice none 0 0] 74))) := Touch.ofBelow ((Below.refl _ _).alloc zN _)
 have hgl := h.lt
 have HW := hide h.low.size
 have HE := hide he
 clear h he e0
 go_enter Tryz.func41, Tryz.ntmps41
 go_wp2_with fail
 refine (inumber_any w0 g (Vf v n) l a f _ HE.out HX.out).mono ?_
 rintro r w1 ⟨rfl, T1, S1⟩
 rw [e1.out] at S1 ⊢
 simp only at S1 ⊢
 have HT1 := hide (T0.out.trans T1)
 have HS1 := hide S1
 have HQ1 := hide (HQ.out.touch T1 (by omega))
 clear T1 S1 HX HQ T0
 go_wp2_with fail
 refine (intOf_any x _).mono ?_
 rintro r w1' ⟨rfl, rfl⟩
 rw [hsq.out]
 go_wp2
 refine wp_region_noPanic ?_
 refine wp_region_held_drew (S := (fun _ => True)) (by kernel_rfl) trivial (fun hHeld => ?_)
 refine tk 0 ?_
 refine tk 1 ?_
 refine tk 2 ?_
 refine tk 3 ?_
 refine tk 4 ?_
 refine zR 5 fun K hK => ?_
 go_wp2_with fail
 refine (seqFault_any noop sq _).mono ?_
 rintro e w2 ⟨rfl, hw2⟩
 subst hw2
 rw [hu1.out]
 refine hK.out _ _ trivial (fun hHeld => ?_)
 clear hK K
 try simp only [Act.put, zA, zB, zC, zD, zE, zF]
 refine zR 6 fun K hK => ?_
 go_wp2_with fail
 refine (irefuse_x w0 g (Vf v n) l1 f1 u1 _ HS1.out.drew).mono ?_
 rintro e w3 ⟨rfl, T3, S3⟩
 rw [hf2.out] at S3
 refine hK.out _ _ trivial (fun hHeld => ?_)
 clear hK K
 try simp only [Act.put, zA, zB, zC, zD, zE, zF]
 refine wpAnyH_done (by kernel_rfl) ?_ _
 refine NoPanic.normal ?_
 have HT3 : Hid (Touch g w w3) := (HT1.out.trans (z := w1.drew) ⟨rfl, rfl, rfl, Nat.le_refl _, fun _ _ _ => rfl⟩).trans T3
 have HS3 := hide S3
 have HQ3 := hide (Blk.touch (w := w1.drew) ⟨HQ1.out.cell, HQ1.out.thaw, HQ1.out.lt⟩ T3 (by omega))
 clear T3 S3 HS1 HT1 HQ1 hHeld
 go_wp2_with fail
 refine (sdeps_any w0 g v n l1 a f2 _ HE.out HS3.out).mono ?_
 rintro r w4 ⟨u, rfl, D4, T4, S4⟩
 rw [e2.out] at D4 S4
 simp only at D4 S4
 have HD4 := hide D4
 have HT4 := hide (HT3.out.trans T4)
 have HS4 := hide S4
 have HQ4 := hide (HQ3.out.touch T4 (by omega))
 have r9 : w4.cell? ⟨g, 9, none⟩ = some (.int .i64 n) := S4.more (by omega)
 have HT3s : Hid (w.heap.size < w3.heap.size) := HQ3.out.lt
 clear D4 T4 S4 HT3 HS3 HQ3
 obtain ⟨ua, uk, uc, rfl⟩ := HD4.out.shape
 have SG : Hid (SegI w4 ua uk dl) := by
  obtain ⟨a', k', c', e', s', _⟩ := HD4.out
  cases e'
  exact s'
 go_wp2
 refine wp_region_noPanic ?_
 refine wp_region_held_drew (S := (fun w' => w'.cell? ⟨g, 9, none⟩ = some (.int .i64 n))) (by kernel_rfl) r9 (fun hHeld => ?_)
 refine tk 0 ?_
 refine tk 1 ?_
 refine tk 2 ?_
 refine tk 3 ?_
 refine tk 4 ?_
 refine tk 5 ?_
 refine tk 6 ?_
 refine tk 7 ?_
 refine tk 8 ?_
 refine zR 9 fun K hK => ?_
 go_wp2_with fail
 refine (depsFault_any n noop ua uk uc dl _ (by exact SG.out)).mono ?_
 rintro e w5 ⟨rfl, hw5⟩
 subst hw5
 rw [hu2.out]
 refine hK.out _ _ r9 (fun hHeld => ?_)
 clear hK K
 try simp only [Act.put, zA, zB, zC, zD, zE, zF]
 refine zR 10 fun K hK => ?_
 go_wp2_with fail
 refine (irefuse_x w0 g (Vf v n) l2 f3 u2 _ HS4.out.drew).mono ?_
 rintro e w6 ⟨rfl, T6, S6⟩
 rw [hf4.out] at S6
 refine hK.out _ _ (S6.more (by omega)) (fun hHeld => ?_)
 clear hK K
 try simp only [Act.put, zA, zB, zC, zD, zE, zF]
 refine wpAnyH_done (by kernel_rfl) ?_ _
 refine NoPanic.normal ?_
 have HT6 : Hid (Touch g w w6) := (HT4.out.trans (z := w4.drew) ⟨rfl, rfl, rfl, Nat.le_refl _, fun _ _ _ => rfl⟩).trans T6
 have HD6 : Hid (DV w6 w3.heap.size (.slice ua uk uc) dl) := DV.touch (w := w4.drew) HD4.out T6 (by have := HT3s.out; omega)
 have HS6 := hide S6
 have Q6 := Blk.touch (w := w4.drew) ⟨HQ4.out.cell, HQ4.out.thaw, HQ4.out.lt⟩ T6 (by omega)
 have c0 := Q6.cell 0 _ rfl
 have c1 := Q6.cell 1 _ rfl
 have t0 := Q6.thaw 0
 have t1 := Q6.thaw 1
 have R : Hid (DV ((w6.setCell ⟨w.heap.size, 0, none⟩ (.int .i64 sq)).setCell ⟨w.heap.size, 1, none⟩ (.slice ua uk uc)) w.heap.size (.slice ua uk uc) dl ∧ Touch g w ((w6.setCell ⟨w.heap.size, 0, none⟩ (.int .i64 sq)).setCell ⟨w.heap.size, 1, none⟩ (.slice ua uk uc)) ∧ Scx w0 ((w6.setCell ⟨w.heap.size, 0, none⟩ (.int .i64 sq)).setCell ⟨w.heap.size, 1, none⟩ (.slice ua uk uc)) g (Vf v n) l2 f4) :=
  ⟨((HD6.out.set _ HT3s.out).set _ HT3s.out).less (Nat.le_of_lt HT3s.out), (HT6.out.setNew _ zN).setNew _ zN, (HS6.out.other _ (by omega) HW.out).other _ (by omega) HW.out⟩
 clear T6 S6 Q6 HT4 HS4 HQ4 HD4 HT6 HS6 HD6 hHeld SG
 go_wp2
 refine bodyPost_ret (v := .agg #[.int .i64 sq, .slice ua uk uc]) (by simp [results, Tryz.results41, go_sem, *]) rfl ⟨_, rfl, R.out⟩
end
open Go.RowKit Go.Wire1
def iLoad (v n : Int) (may : Bool) (l : List Int) (f : Int) : (Cm × Int × List Int) × List Int × Int :=
 (((iCmd v l f).1, (iAttr v n ((iCmd v l f).1.kind == 0) (iCmd v l f).2.1 (refF (unl (may || !((iCmd v l f).1.kind == 0)) 57) (iCmd v l f).2.2)).1), (iAttr v n ((iCmd v l f).1.kind == 0) (iCmd v l f).2.1 (refF (unl (may || !((iCmd v l f).1.kind == 0)) 57) (iCmd v l f).2.2)).2)
theorem Touch.drew {g : Nat} {x y : World} (h : Touch g x y) : Touch g x y.drew := h.drewN 1
theorem Blk.drew {w : World} {q : Nat} {cs : List Value} (h : Blk w q cs) : Blk w.drew q cs := ⟨h.cell, h.thaw, h.lt⟩
section
variable (w0 : World) (g : Nat) (v n : Int) (l : List Int)
theorem sload_any (a : Nat → Addr) (may : Bool) (f : Int) (w : World) (he : Errs w0 a) (hK : Knd w0) (h : Scx w0 w g (Vf v n) l f) :
  Calls Tryz.prog 39 #[.pointer (some ⟨g, 0, none⟩), .bool may] w fun r w' => ∃ u, r = .returned (.agg #[.int .i64 (iLoad v n may l f).1.1.kind, .int .i64 (iLoad v n may l f).1.1.client, .int .i64 (iLoad v n may l f).1.1.req, .string (iLoad v n may l f).1.1.key, .string (iLoad v n may l f).1.1.key2, .string (iLoad v n may l f).1.1.val, .string (iLoad v n may l f).1.1.old, .int .i64 (iLoad v n may l f).1.1.n, .int .i64 (iLoad v n may l f).1.2.1, u]) ∧ DV w' w.heap.size u (iLoad v n may l f).1.2.2 ∧ Touch g w w' ∧ Scx w0 w' g (Vf v n) (iLoad v n may l f).2.1 (iLoad v n may l f).2.2 := by
 obtain ⟨⟨c0, c1, c2, c3, c4, c5, c6, c7⟩, l1, f1, e1⟩ : ∃ c l1 f1, Hid (iCmd v l f = (c, l1, f1)) := ⟨_, _, _, rfl⟩
 obtain ⟨nb, hnb⟩ : ∃ b, (c0 == 0) = b := ⟨_, rfl⟩
 obtain ⟨u1, hu1⟩ : ∃ u, Hid (unl (may || !nb) 57 = u) := ⟨_, rfl⟩
 obtain ⟨f2, hf2⟩ : ∃ f2, Hid (refF u1 f1 = f2) := ⟨_, rfl⟩
 obtain ⟨sq, dl, l2, f3, e2⟩ : ∃ sq dl l2 f3, Hid (iAttr v n nb l1 f2 = ((sq, dl), l2, f3)) := ⟨_, _, _, _, rfl⟩
 have e0 : Hid (iLoad v n may l f = ((⟨c0, c1, c2, c3, c4, c5, c6, c7⟩, sq, dl), l2, f3)) := by
  show _ = _
  unfold iLoad
  simp only [e1.out, hnb, hu1.out, hf2.out, e2.out]
 rw [e0.out]
 simp only
 have HX := hide (h.alloc (.cells #[.int .i64 0, .int .i64 0, .int .i64 0, .string ⟨#[]⟩, .string ⟨#[]⟩, .string ⟨#[]⟩, .string ⟨#[]⟩, .int .i64 0, .int .i64 0, .slice none 0 0] 76))
 have HQ := hide (blk_new w 76 [.int .i64 0, .int .i64 0, .int .i64 0, .string ⟨#[]⟩, .string ⟨#[]⟩, .string ⟨#[]⟩, .string ⟨#[]⟩, .int .i64 0, .int .i64 0, .slice none 0 0])
 have T0 : Hid (Touch g w (w.alloc (.cells #[.int .i64 0, .int .i64 0, .int .i64 0, .string ⟨#[]⟩, .string ⟨#[]⟩, .string ⟨#[]⟩, .string ⟨#[]⟩, .int .i64 0, .int .i64 0, .slice none 0 0] 76))) := Touch.ofBelow ((Below.refl _ _).alloc zN _)
 have hgl := h.lt
 have HW := hide h.low.size
 have HE := hide he
 have HK := hide hK
 clear h he hK e0
 go_enter Tryz.func39, Tryz.ntmps39
 go_wp2_with fail
 refine (scmd_any w0 g v n l a f _ HE.out HK.out HX.out).mono ?_
 rintro r w1 ⟨rfl, T1, S1⟩
 rw [e1.out] at S1 ⊢
 simp only at S1 ⊢
 obtain ⟨U, hU⟩ : ∃ U, U = w1.alloc (.cells #[.int .i64 c0, .int .i64 c1, .int .i64 c2, .string c3, .string c4, .string c5, .string c6, .int .i64 c7, .int .i64 0, .slice none 0 0] 76) := ⟨_, rfl⟩
 have BU : Hid (Below w1.heap.size w1 U) := by rw [hU]; exact (Below.refl _ _).alloc zN _
 have HT1 : Hid (Touch g w U) := (T0.out.trans T1).trans (Touch.ofBelow BU.out)
 have HS1 : Hid (Scx w0 U g (Vf v n) l1 f1) := S1.below BU.out
 have HQ1 : Hid (Blk U w.heap.size [.int .i64 0, .int .i64 0, .int .i64 0, .string ⟨#[]⟩, .string ⟨#[]⟩, .string ⟨#[]⟩, .string ⟨#[]⟩, .int .i64 0, .int .i64 0, .slice none 0 0]) := (HQ.out.touch T1 (by omega)).on BU.out
 have HP1 : Hid (Blk U w1.heap.size [.int .i64 c0, .int .i64 c1, .int .i64 c2, .string c3, .string c4, .string c5, .string c6, .int .i64 c7, .int .i64 0, .slice none 0 0]) := by rw [hU]; exact blk_new w1 76 [.int .i64 c0, .int .i64 c1, .int .i64 c2, .string c3, .string c4, .string c5, .string c6, .int .i64 c7, .int .i64 0, .slice none 0 0]
 have hw1 : w.heap.size < w1.heap.size := (HQ.out.touch T1 (by omega)).lt
 clear T1 S1 HX HQ T0 BU
 have p0 := HP1.out.cell 0 _ rfl
 have p1 := HP1.out.cell 1 _ rfl
 have p2 := HP1.out.cell 2 _ rfl
 have p3 := HP1.out.cell 3 _ rfl
 have p4 := HP1.out.cell 4 _ rfl
 have p5 := HP1.out.cell 5 _ rfl
 have p6 := HP1.out.cell 6 _ rfl
 have p7 := HP1.out.cell 7 _ rfl
 have p8 := HP1.out.cell 8 _ rfl
 have p9 := HP1.out.cell 9 _ rfl
 go_wp2
 rw [← hU]
 clear hU
 refine wp_region_noPanic ?_
 refine wp_region_held_drew (S := (fun w' => w'.cell? ⟨w1.heap.size, 0, none⟩ = some (.int .i64 c0) ∧ w'.cell? ⟨w1.heap.size, 1, none⟩ = some (.int .i64 c1) ∧ w'.cell? ⟨w1.heap.size, 2, none⟩ = some (.int .i64 c2) ∧ w'.cell? ⟨w1.heap.size, 3, none⟩ = some (.string c3) ∧ w'.cell? ⟨w1.heap.size, 4, none⟩ = some (.string c4) ∧ w'.cell? ⟨w1.heap.size, 5, none⟩ = some (.string c5) ∧ w'.cell? ⟨w1.heap.size, 6, none⟩ = some (.string c6) ∧ w'.cell? ⟨w1.heap.size, 7, none⟩ = some (.int .i64 c7) ∧ w'.cell? ⟨w1.heap.size, 8, none⟩ = some (.int .i64 0) ∧ w'.cell? ⟨w1.heap.size, 9, none⟩ = some (.slice none 0 0))) (by kernel_rfl) ⟨p0, p1, p2, p3, p4, p5, p6, p7, p8, p9⟩ (fun hHeld => ?_)
 refine tk 0 ?_
 refine tk 1 ?_
 refine tk 2 ?_
 refine tk 3 ?_
 refine tk 4 ?_
 refine zR 5 fun K hK => ?_
 go_wp2_with fail
 refine (noopFault_any ⟨c0, c1, c2, c3, c4, c5, c6, c7⟩ 0 (.slice none 0 0) may _).mono ?_
 rintro e w2 ⟨rfl, hb2⟩
 simp only [hnb]
 rw [hu1.out]
 have P2 := Blk.on HP1.out.drew hb2
 have q0 := P2.cell 0 _ rfl
 have q1 := P2.cell 1 _ rfl
 have q2 := P2.cell 2 _ rfl
 have q3 := P2.cell 3 _ rfl
 have q4 := P2.cell 4 _ rfl
 have q5 := P2.cell 5 _ rfl
 have q6 := P2.cell 6 _ rfl
 have q7 := P2.cell 7 _ rfl
 have q8 := P2.cell 8 _ rfl
 have q9 := P2.cell 9 _ rfl
 refine hK.out _ _ ⟨q0, q1, q2, q3, q4, q5, q6, q7, q8, q9⟩ (fun hHeld => ?_)
 clear hK K
 try simp only [Act.put, zA, zB, zC, zD, zE, zF]
 refine zR 6 fun K hK => ?_
 go_wp2_with fail
 refine (irefuse_x w0 g (Vf v n) l1 f1 u1 _ (HS1.out.drew.below hb2)).mono ?_
 rintro e w3 ⟨rfl, T3, S3⟩
 rw [hf2.out] at S3
 have R3 := P2.touch T3 (by omega)
 refine hK.out _ _ ⟨R3.cell 0 _ rfl, R3.cell 1 _ rfl, R3.cell 2 _ rfl, R3.cell 3 _ rfl, R3.cell 4 _ rfl, R3.cell 5 _ rfl, R3.cell 6 _ rfl, R3.cell 7 _ rfl, R3.cell 8 _ rfl, R3.cell 9 _ rfl⟩ (fun hHeld => ?_)
 clear hK K
 try simp only [Act.put, zA, zB, zC, zD, zE, zF]
 refine wpAnyH_done (by kernel_rfl) ?_ _
 refine NoPanic.normal ?_
 have HT3 : Hid (Touch g w w3) := (HT1.out.drew.trans (Touch.ofBelow hb2)).trans T3
 have HS3 := hide S3
 have HQ3 := hide ((Blk.on HQ1.out.drew hb2).touch T3 (by omega))
 have HP3 := hide R3
 clear T3 S3 R3 P2 hb2 hHeld HS1 HT1 HQ1 HP1 p0 q0 p1 q1 p2 q2 p3 q3 p4 q4 p5 q5 p6 q6 p7 q7 p8 q8 p9 q9
 have p0 := HP3.out.cell 0 _ rfl
 have p1 := HP3.out.cell 1 _ rfl
 have p2 := HP3.out.cell 2 _ rfl
 have p3 := HP3.out.cell 3 _ rfl
 have p4 := HP3.out.cell 4 _ rfl
 have p5 := HP3.out.cell 5 _ rfl
 have p6 := HP3.out.cell 6 _ rfl
 have p7 := HP3.out.cell 7 _ rfl
 have p8 := HP3.out.cell 8 _ rfl
 have p9 := HP3.out.cell 9 _ rfl
 go_wp2_with fail
 refine (isNoop_any ⟨c0, c1, c2, c3, c4, c5, c6, c7⟩ 0 (.slice none 0 0) _).mono ?_
 rintro r w4 ⟨rfl, hb4⟩
 simp only [hnb]
 have HT4 : Hid (Touch g w w4) := HT3.out.trans (Touch.ofBelow hb4)
 have HS4 := hide (HS3.out.below hb4)
 have HQ4 := hide (HQ3.out.on hb4)
 have HP4 := hide (HP3.out.on hb4)
 clear hb4 HS3 HT3 HQ3 HP3 p0 p1 p2 p3 p4 p5 p6 p7 p8 p9
 go_wp2_with fail
 refine (sattr_any w0 g v n l1 a nb f2 _ HE.out HS4.out).mono ?_
 rintro r w5 ⟨u, rfl, D5, T5, S5⟩
 rw [e2.out] at D5 S5 ⊢
 simp only at D5 S5 ⊢
 obtain ⟨ua, uk, uc, rfl⟩ := D5.shape
 have HD5 := hide D5
 have hs4 : Hid (w1.heap.size < w4.heap.size) := HP4.out.lt
 have HT5 := hide (HT4.out.trans T5)
 have HS5 := hide S5
 have Q5 := HQ4.out.touch T5 (by omega)
 have P5 := HP4.out.touch T5 (by omega)
 clear D5 T5 S5 HT4 HS4 HQ4 HP4
 have p0 := P5.cell 0 _ rfl
 have p1 := P5.cell 1 _ rfl
 have p2 := P5.cell 2 _ rfl
 have p3 := P5.cell 3 _ rfl
 have p4 := P5.cell 4 _ rfl
 have p5 := P5.cell 5 _ rfl
 have p6 := P5.cell 6 _ rfl
 have p7 := P5.cell 7 _ rfl
 have p8 := P5.cell 8 _ rfl
 have p9 := P5.cell 9 _ rfl
 have t8 := P5.thaw 8
 have t9 := P5.thaw 9
 have q0 := Q5.cell 0 _ rfl
 have y0 := Q5.thaw 0
 have q1 := Q5.cell 1 _ rfl
 have y1 := Q5.thaw 1
 have q2 := Q5.cell 2 _ rfl
 have y2 := Q5.thaw 2
 have q3 := Q5.cell 3 _ rfl
 have y3 := Q5.thaw 3
 have q4 := Q5.cell 4 _ rfl
 have y4 := Q5.thaw 4
 have q5 := Q5.cell 5 _ rfl
 have y5 := Q5.thaw 5
 have q6 := Q5.cell 6 _ rfl
 have y6 := Q5.thaw 6
 have q7 := Q5.cell 7 _ rfl
 have y7 := Q5.thaw 7
 have q8 := Q5.cell 8 _ rfl
 have y8 := Q5.thaw 8
 have q9 := Q5.cell 9 _ rfl
 have y9 := Q5.thaw 9
 have hne : w1.heap.size ≠ w.heap.size := by omega
 have hne2 : w.heap.size ≠ w1.heap.size := by omega
 have D6 : DV ((w5.setCell ⟨w1.heap.size, 8, none⟩ (.int .i64 sq)).setCell ⟨w1.heap.size, 9, none⟩ (.slice ua uk uc)) w4.heap.size (.slice ua uk uc) dl := (HD5.out.set _ hs4.out).set _ hs4.out
 have T6 : Touch g w ((w5.setCell ⟨w1.heap.size, 8, none⟩ (.int .i64 sq)).setCell ⟨w1.heap.size, 9, none⟩ (.slice ua uk uc)) := (HT5.out.setNew _ (by omega)).setNew _ (by omega)
 have S6 : Scx w0 ((w5.setCell ⟨w1.heap.size, 8, none⟩ (.int .i64 sq)).setCell ⟨w1.heap.size, 9, none⟩ (.slice ua uk uc)) g (Vf v n) l2 f3 := (HS5.out.other _ (by omega) (by have := HW.out; omega)).other _ (by omega) (by have := HW.out; omega)
 have hlt : w.heap.size < w4.heap.size := by have := hs4.out; omega
 have R : Hid (DV ((((((((((((w5.setCell ⟨w1.heap.size, 8, none⟩ (.int .i64 sq)).setCell ⟨w1.heap.size, 9, none⟩ (.slice ua uk uc)).setCell ⟨w.heap.size, 0, none⟩ (.int .i64 c0)).setCell ⟨w.heap.size, 1, none⟩ (.int .i64 c1)).setCell ⟨w.heap.size, 2, none⟩ (.int .i64 c2)).setCell ⟨w.heap.size, 3, none⟩ (.string c3)).setCell ⟨w.heap.size, 4, none⟩ (.string c4)).setCell ⟨w.heap.size, 5, none⟩ (.string c5)).setCell ⟨w.heap.size, 6, none⟩ (.string c6)).setCell ⟨w.heap.size, 7, none⟩ (.int .i64 c7)).setCell ⟨w.heap.size, 8, none⟩ (.int .i64 sq)).setCell ⟨w.heap.size, 9, none⟩ (.slice ua uk uc)) w.heap.size (.slice ua uk uc) dl ∧ Touch g w ((((((((((((w5.setCell ⟨w1.heap.size, 8, none⟩ (.int .i64 sq)).setCell ⟨w1.heap.size, 9, none⟩ (.slice ua uk uc)).setCell ⟨w.heap.size, 0, none⟩ (.int .i64 c0)).setCell ⟨w.heap.size, 1, none⟩ (.int .i64 c1)).setCell ⟨w.heap.size, 2, none⟩ (.int .i64 c2)).setCell ⟨w.heap.size, 3, none⟩ (.string c3)).setCell ⟨w.heap.size, 4, none⟩ (.string c4)).setCell ⟨w.heap.size, 5, none⟩ (.string c5)).setCell ⟨w.heap.size, 6, none⟩ (.string c6)).setCell ⟨w.heap.size, 7, none⟩ (.int .i64 c7)).setCell ⟨w.heap.size, 8, none⟩ (.int .i64 sq)).setCell ⟨w.heap.size, 9, none⟩ (.slice ua uk uc)) ∧ Scx w0 ((((((((((((w5.setCell ⟨w1.heap.size, 8, none⟩ (.int .i64 sq)).setCell ⟨w1.heap.size, 9, none⟩ (.slice ua uk uc)).setCell ⟨w.heap.size, 0, none⟩ (.int .i64 c0)).setCell ⟨w.heap.size, 1, none⟩ (.int .i64 c1)).setCell ⟨w.heap.size, 2, none⟩ (.int .i64 c2)).setCell ⟨w.heap.size, 3, none⟩ (.string c3)).setCell ⟨w.heap.size, 4, none⟩ (.string c4)).setCell ⟨w.heap.size, 5, none⟩ (.string c5)).setCell ⟨w.heap.size, 6, none⟩ (.string c6)).setCell ⟨w.heap.size, 7, none⟩ (.int .i64 c7)).setCell ⟨w.heap.size, 8, none⟩ (.int .i64 sq)).setCell ⟨w.heap.size, 9, none⟩ (.slice ua uk uc)) g (Vf v n) l2 f3) :=
  ⟨((((((((((D6.set _ hlt).set _ hlt).set _ hlt).set _ hlt).set _ hlt).set _ hlt).set _ hlt).set _ hlt).set _ hlt).set _ hlt).less (Nat.le_of_lt hlt), ((T6.set8 zN _ _ _ _ _ _ _ _).setNew _ zN).setNew _ zN, ((S6.set8 (by omega) HW.out _ _ _ _ _ _ _ _).other _ (by omega) HW.out).other _ (by omega) HW.out⟩
 clear D6 T6 S6 Q5 P5 HD5 HT5 HS5
 go_wp2
 refine bodyPost_ret (v := .agg #[.int .i64 c0, .int .i64 c1, .int .i64 c2, .string c3, .string c4, .string c5, .string c6, .int .i64 c7, .int .i64 sq, .slice ua uk uc]) (by simp [results, Tryz.results39, go_sem, *]) rfl ⟨_, rfl, R.out⟩
end
end Go.Proofs.YtibfdoggolkljaaGreatDoor
