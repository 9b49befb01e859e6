import Derived.Deep.RegionHeld3
import Derived.Test.YtibfdoggolkljaaGreatDoorJ16
set_option maxHeartbeats 8000000
set_option maxRecDepth 100000
namespace Go.Proofs.YtibfdoggolkljaaGreatDoor
open Go.RowKit Go.Wire1
def Vf (v n : Int) : Nat → Option Value := fun j =>
 if j = 2 then some (.int .i64 v) else if j = 9 then some (.int .i64 n)
 else if v = 1 then (if j = 6 then some (.func (.func 28) #[] #[]) else if j = 7 then some (.func (.func 29) #[] #[]) else if j = 8 then some (.func (.func 30) #[] #[]) else if j = 3 then some (.func (.func 25) #[] #[]) else if j = 4 then some (.func (.func 26) #[] #[]) else if j = 5 then some (.func (.func 27) #[] #[]) else none)
 else (if j = 6 then some (.func (.func 34) #[] #[]) else if j = 7 then some (.func (.func 35) #[] #[]) else if j = 8 then some (.func (.func 36) #[] #[]) else if j = 3 then some (.func (.func 31) #[] #[]) else if j = 4 then some (.func (.func 32) #[] #[]) else if j = 5 then some (.func (.func 33) #[] #[]) else none)
def iCmd (v : Int) (l : List Int) (f : Int) : Cm × List Int × Int := if f = 0 then ((decC v l).1, l.drop (decC v l).2.1, (decC v l).2.2) else (zeroC, l, f)
theorem decC_le {v : Int} {l : List Int} (hy : Byt l) : (decC v l).2.1 ≤ l.length := by
 by_cases h : (decC v l).2.2 = 0
 ·exact (decC_one hy h).2.2.2.1
 ·unfold decC at h ⊢
  split
  ·split
   ·rename_i h1 h2
    rw [if_pos h1, if_pos h2] at h
    exact absurd rfl h
   ·exact Nat.zero_le _
  ·exact Nat.zero_le _
theorem src_none {sa : Option Addr} {n cap : Nat} (h : Src sa n cap) : n ≤ cap ∧ cap ≤ 9223372036854775807 ∧ (sa = none → n = 0) := by
 rcases h with ⟨rfl, rfl⟩ | ⟨⟨b, off, rfl⟩, h1, h2⟩
 ·exact ⟨Nat.le_refl _, by omega, fun _ => rfl⟩
 ·exact ⟨h1, by unfold maxLen at h2; omega, fun q => by cases q⟩
theorem Touch.set8 {g q : Nat} {x W : World} (h : Touch g x W) (hq : x.heap.size ≤ q) (v0 v1 v2 v3 v4 v5 v6 v7 : Value) : Touch g x ((((((((W.setCell ⟨q, 0, none⟩ v0).setCell ⟨q, 1, none⟩ v1).setCell ⟨q, 2, none⟩ v2).setCell ⟨q, 3, none⟩ v3).setCell ⟨q, 4, none⟩ v4).setCell ⟨q, 5, none⟩ v5).setCell ⟨q, 6, none⟩ v6).setCell ⟨q, 7, none⟩ v7) :=
 (((((((h.setNew _ hq).setNew _ hq).setNew _ hq).setNew _ hq).setNew _ hq).setNew _ hq).setNew _ hq).setNew _ hq
theorem Scx.set8 {w0 W : World} {g q : Nat} {V : Nat → Option Value} {l : List Int} {f : Int} (h : Scx w0 W g V l f) (hq : q ≠ g) (h0 : w0.heap.size ≤ q) (v0 v1 v2 v3 v4 v5 v6 v7 : Value) : Scx w0 ((((((((W.setCell ⟨q, 0, none⟩ v0).setCell ⟨q, 1, none⟩ v1).setCell ⟨q, 2, none⟩ v2).setCell ⟨q, 3, none⟩ v3).setCell ⟨q, 4, none⟩ v4).setCell ⟨q, 5, none⟩ v5).setCell ⟨q, 6, none⟩ v6).setCell ⟨q, 7, none⟩ v7) g V l f :=
 (((((((h.other _ hq h0).other _ hq h0).other _ hq h0).other _ hq h0).other _ hq h0).other _ hq h0).other _ hq h0).other _ hq h0
theorem below_set8 {B q : Nat} {x W : World} (h : Below B x W) (hq : B ≤ q) (v0 v1 v2 v3 v4 v5 v6 v7 : Value) : Below B x ((((((((W.setCell ⟨q, 0, none⟩ v0).setCell ⟨q, 1, none⟩ v1).setCell ⟨q, 2, none⟩ v2).setCell ⟨q, 3, none⟩ v3).setCell ⟨q, 4, none⟩ v4).setCell ⟨q, 5, none⟩ v5).setCell ⟨q, 6, none⟩ v6).setCell ⟨q, 7, none⟩ v7) :=
 (((((((h.setCell (p := ⟨q, 0, none⟩) hq _).setCell (p := ⟨q, 1, none⟩) hq _).setCell (p := ⟨q, 2, none⟩) hq _).setCell (p := ⟨q, 3, none⟩) hq _).setCell (p := ⟨q, 4, none⟩) hq _).setCell (p := ⟨q, 5, none⟩) hq _).setCell (p := ⟨q, 6, none⟩) hq _).setCell (p := ⟨q, 7, none⟩) hq _
theorem Bx.kind {w : World} {q : Nat} {c : Cm} (h : Bx w q c) (x : Int) : Bx (w.setCell ⟨q, 0, none⟩ (.int .i64 x)) q { c with kind := x } := by
 obtain ⟨h0, h1, h2, h3, h4, h5, h6, h7⟩ := h.box
 refine ⟨⟨World.cell?_setCell_same w ⟨q, 0, none⟩ _ h0, ?_, ?_, ?_, ?_, ?_, ?_, ?_⟩, h.setThaw _ _⟩ <;> (rw [zO _ _ _ _ (by simp)]; assumption)
section
variable (w0 : World) (g : Nat) (v n : Int) (l : List Int)
theorem scmd_any (a : Nat → Addr) (f : Int) (w : World) (he : Errs w0 a) (hK : Knd w0) (h : Scx w0 w g (Vf v n) l f) :
  Calls Tryz.prog 52 #[.pointer (some ⟨g, 0, none⟩)] w fun r w' => r = .returned (.agg #[.int .i64 (iCmd v l f).1.kind, .int .i64 (iCmd v l f).1.client, .int .i64 (iCmd v l f).1.req, .string (iCmd v l f).1.key, .string (iCmd v l f).1.key2, .string (iCmd v l f).1.val, .string (iCmd v l f).1.old, .int .i64 (iCmd v l f).1.n]) ∧ Touch g w w' ∧ Scx w0 w' g (Vf v n) (iCmd v l f).2.1 (iCmd v l f).2.2 := by
 obtain ⟨⟨c0, c1, c2, c3, c4, c5, c6, c7⟩, l1, f1, e1⟩ : ∃ c l1 f1, Hid (iCmd v l f = (c, l1, f1)) := ⟨_, _, _, rfl⟩
 rw [e1.out]
 simp only
 obtain ⟨U, hU⟩ : ∃ U, U = w.alloc (.cells #[.int .i64 0, .int .i64 0, .int .i64 0, .string ⟨#[]⟩, .string ⟨#[]⟩, .string ⟨#[]⟩, .string ⟨#[]⟩, .int .i64 0] 27) := ⟨_, rfl⟩
 have XB : Hid (Bx U w.heap.size zeroC) := by rw [hU]; exact bx_new w 27 0 0 0 ⟨#[]⟩ ⟨#[]⟩ ⟨#[]⟩ ⟨#[]⟩ 0
 have T0 : Hid (Touch g w U) := by rw [hU]; exact Touch.ofBelow ((Below.refl _ _).alloc zN _)
 have hgl := h.lt
 have HX : Hid (Scx w0 U g (Vf v n) l f) := by rw [hU]; exact h.alloc _
 have HW := hide h.low.size
 have HE := hide he
 have HK := hide hK
 obtain ⟨sa, m, cap, hh⟩ := h
 have r0' := hh.rest
 have r1' := hh.flt
 have r2' : w.cell? ⟨g, 2, none⟩ = some (.int .i64 v) := hh.more 2 zN
 have hs : Sc w0 U g (Vf v n) sa m cap l f := by rw [hU]; exact hh.below ((Below.refl _ _).alloc zN _)
 clear hh he hK
 have r0 := hs.rest
 have r1 := hs.flt
 have r2 : U.cell? ⟨g, 2, none⟩ = some (.int .i64 v) := hs.more 2 zN
 have hsrc := src_none hs.src
 have HS := hide hs
 have HL : Hid (Below w0.heap.size w0 U.drew) := ⟨hs.low.os, hs.low.tape, hs.low.output, hs.low.size, hs.low.block⟩
 clear hs
 by_cases h0 : f = 0
 ·subst h0
  obtain ⟨kk, hkk⟩ : ∃ kk, (decC v l).2.1 = kk := ⟨_, rfl⟩
  have D : Hid (decC v l = (⟨c0, c1, c2, c3, c4, c5, c6, c7⟩, kk, f1)) := by
   have := e1.out
   unfold iCmd at this
   rw [if_pos rfl] at this
   simp only [Prod.mk.injEq] at this
   show _ = _
   rw [← this.1, ← hkk, ← this.2.2]
  have hl1 : Hid (l.drop kk = l1) := by
   have := e1.out
   unfold iCmd at this
   rw [if_pos rfl] at this
   simp only [Prod.mk.injEq] at this
   rw [← hkk]
   exact this.2.1
  have hkl : Hid (kk ≤ l.length) := by rw [← hkk]; exact decC_le HS.out.byt
  clear hkk e1
  have hgU : g < U.heap.size := cell_lt r0
  have hUg : U.heap.size ≠ g := by omega
  have BU1 : Hid (Below U.heap.size U U.drew) := (Below.refl _ _).drew
  have BU3 : Hid (Below U.heap.size U (U.drew.alloc (.cells #[.int .i64 0, .int .i64 0, .int .i64 0, .string ⟨#[]⟩, .string ⟨#[]⟩, .string ⟨#[]⟩, .string ⟨#[]⟩, .int .i64 0] 27))) := ((Below.refl _ _).drew).alloc zN _
  have F1 : ∀ W, Below U.heap.size U W → Hid (Seg W sa m l ∧ Errs W a ∧ Knd W) := fun W hb =>
   have hl := low_on HS.out.low hb HS.out.low.size
   ⟨HS.out.seg.below hl zN, HE.out.below hl zN, HK.out.below hl zN⟩
  go_enter Tryz.func52, Tryz.ntmps52
  go_wp2
  rw [← hU]
  clear hU r0' r1' r2'
  refine wp_region_noPanic ?_
  refine wp_region_held_drew (S := (fun w' => w'.cell? ⟨g, 0, none⟩ = some (.slice sa m cap) ∧ w'.cell? ⟨g, 2, none⟩ = some (.int .i64 v))) (by kernel_rfl) ⟨r0, r2⟩ (fun hHeld => ?_)
  refine tk 0 ?_
  refine tk 1 ?_
  refine tk 2 ?_
  refine tk 3 ?_
  refine tk 4 ?_
  refine tk 5 ?_
  refine tk 6 ?_
  refine tk 7 ?_
  refine tk 8 ?_
  refine tk 9 ?_
  refine wpAnyH_ready (rs := [10, 15]) (by kernel_rfl) (by simp) ?_
  refine AllReadyH.cons rfl (fun K hK => ?_) (AllReadyH.cons rfl (fun K hK => ?_) AllReadyH.nil)
  ·rw [if_pos (by rfl)]
   go_wp2_with fail
   refine (decode_any sa m cap l a v (U.drew) (F1 _ BU1.out).out.1 HS.out.byt (F1 _ BU1.out).out.2.1 (F1 _ BU1.out).out.2.2 hsrc.1 hsrc.2.1 hsrc.2.2).mono ?_
   rintro e w1 ⟨rfl, hb1⟩
   rw [D.out]
   have BW : Hid (Below U.heap.size U w1) := low_on (BU1.out) hb1 (BU1.out).size
   have k0 := (BW.out.cell (p := ⟨g, 0, none⟩) hgU).trans r0
   have k2 := (BW.out.cell (p := ⟨g, 2, none⟩) hgU).trans r2
   refine hK.out _ _ ⟨k0, k2⟩ (fun hHeld => ?_)
   clear hK K
   try skip
   refine tk 11 ?_
   refine tk 12 ?_
   refine tk 13 ?_
   refine tk 14 ?_
   refine zR 15 fun K hK => ?_
   go_wp2_with fail
   refine hK.out _ _ ⟨by simp [*, World.cell?_alloc_some], by simp [*, World.cell?_alloc_some]⟩ (fun hHeld => ?_)
   clear hK K
   try simp only [Act.put, zA, zB, zC, zD, zE, zF]
   refine zR 16 fun K hK => ?_
   have n0 := World.new_ne w1 _ k0
   go_wp2_with fail
   refine hK.out _ _ ⟨by simp [*, World.cell?_alloc_some], by simp [*, World.cell?_alloc_some]⟩ (fun hHeld => ?_)
   clear hK K
   try simp only [Act.put, zA, zB, zC, zD, zE, zF]
   refine tk 17 ?_
   refine tk 18 ?_
   refine wpAnyH_done (by kernel_rfl) ?_ _
   refine NoPanic.normal ?_
   have hUw1 : U.heap.size ≤ w1.heap.size := BW.out.size
   have BUW : Hid (Below U.heap.size U (w1.alloc (.cells #[.int .i64 c0, .int .i64 c1, .int .i64 c2, .string c3, .string c4, .string c5, .string c6, .int .i64 c7] 27))) := BW.out.alloc BW.out.size _
   have XQ : Hid (Bx (w1.alloc (.cells #[.int .i64 c0, .int .i64 c1, .int .i64 c2, .string c3, .string c4, .string c5, .string c6, .int .i64 c7] 27)) (w1.heap.size) ⟨c0, c1, c2, c3, c4, c5, c6, c7⟩) := bx_new w1 27 c0 c1 c2 c3 c4 c5 c6 c7
   have XR : Hid (Bx (w1.alloc (.cells #[.int .i64 c0, .int .i64 c1, .int .i64 c2, .string c3, .string c4, .string c5, .string c6, .int .i64 c7] 27)) w.heap.size zeroC) := XB.out.of_block (BUW.out.block w.heap.size XB.out.lt)
   have SX : Hid (Scx w0 (w1.alloc (.cells #[.int .i64 c0, .int .i64 c1, .int .i64 c2, .string c3, .string c4, .string c5, .string c6, .int .i64 c7] 27)) g (Vf v n) l 0) := HX.out.below BUW.out
   have TW : Hid (Touch g w (w1.alloc (.cells #[.int .i64 c0, .int .i64 c1, .int .i64 c2, .string c3, .string c4, .string c5, .string c6, .int .i64 c7] 27))) := T0.out.trans (Touch.ofBelow BUW.out)
   have hqg : (w1.heap.size) ≠ g := by omega
   clear hb1 BW BUW k0 k2 hHeld
   generalize (w1.alloc (.cells #[.int .i64 c0, .int .i64 c1, .int .i64 c2, .string c3, .string c4, .string c5, .string c6, .int .i64 c7] 27)) = W9 at *
   go_wp2_with fail
   refine (ipass_any w0 g (Vf v n) l kk 0 f1 _ hkl.out SX.out).mono ?_
   rintro r w2 ⟨rfl, T2, S2⟩
   have Q2 := hide (XQ.out.beside T2 hqg)
   have R2 := hide (XR.out.beside T2 (by omega))
   have a0 := Q2.out.box.1
   have a1 := Q2.out.box.2.1
   have a2 := Q2.out.box.2.2.1
   have a3 := Q2.out.box.2.2.2.1
   have a4 := Q2.out.box.2.2.2.2.1
   have a5 := Q2.out.box.2.2.2.2.2.1
   have a6 := Q2.out.box.2.2.2.2.2.2.1
   have a7 := Q2.out.box.2.2.2.2.2.2.2
   have b0 := R2.out.box.1
   have d0 := R2.out.thaw 0
   have b1 := R2.out.box.2.1
   have d1 := R2.out.thaw 1
   have b2 := R2.out.box.2.2.1
   have d2 := R2.out.thaw 2
   have b3 := R2.out.box.2.2.2.1
   have d3 := R2.out.thaw 3
   have b4 := R2.out.box.2.2.2.2.1
   have d4 := R2.out.thaw 4
   have b5 := R2.out.box.2.2.2.2.2.1
   have d5 := R2.out.thaw 5
   have b6 := R2.out.box.2.2.2.2.2.2.1
   have d6 := R2.out.thaw 6
   have b7 := R2.out.box.2.2.2.2.2.2.2
   have d7 := R2.out.thaw 7
   rw [hl1.out] at S2
   have R : Hid (Touch g w ((((((((w2.setCell ⟨w.heap.size, 0, none⟩ (.int .i64 c0)).setCell ⟨w.heap.size, 1, none⟩ (.int .i64 c1)).setCell ⟨w.heap.size, 2, none⟩ (.int .i64 c2)).setCell ⟨w.heap.size, 3, none⟩ (.string c3)).setCell ⟨w.heap.size, 4, none⟩ (.string c4)).setCell ⟨w.heap.size, 5, none⟩ (.string c5)).setCell ⟨w.heap.size, 6, none⟩ (.string c6)).setCell ⟨w.heap.size, 7, none⟩ (.int .i64 c7)) ∧ Scx w0 ((((((((w2.setCell ⟨w.heap.size, 0, none⟩ (.int .i64 c0)).setCell ⟨w.heap.size, 1, none⟩ (.int .i64 c1)).setCell ⟨w.heap.size, 2, none⟩ (.int .i64 c2)).setCell ⟨w.heap.size, 3, none⟩ (.string c3)).setCell ⟨w.heap.size, 4, none⟩ (.string c4)).setCell ⟨w.heap.size, 5, none⟩ (.string c5)).setCell ⟨w.heap.size, 6, none⟩ (.string c6)).setCell ⟨w.heap.size, 7, none⟩ (.int .i64 c7)) g (Vf v n) l1 f1) := ⟨(TW.out.trans T2).set8 zN _ _ _ _ _ _ _ _, S2.set8 (by omega) HW.out _ _ _ _ _ _ _ _⟩
   clear T2 S2 SX TW XQ XR Q2 R2
   simp only [zeroC] at b0 b1 b2 b3 b4 b5 b6 b7
   go_wp2
   refine bodyPost_ret (v := .agg #[.int .i64 c0, .int .i64 c1, .int .i64 c2, .string c3, .string c4, .string c5, .string c6, .int .i64 c7]) (by simp [results, Tryz.results52, go_sem, *]) rfl ⟨rfl, R.out⟩
  ·rw [if_pos (by rfl)]
   go_wp2_with fail
   refine hK.out _ _ ⟨by simp [*, World.cell?_alloc_some], by simp [*, World.cell?_alloc_some]⟩ (fun hHeld => ?_)
   clear hK K
   try simp only [Act.put, zA, zB, zC, zD, zE, zF]
   refine zR 10 fun K hK => ?_
   go_wp2_with fail
   refine (decode_any sa m cap l a v (U.drew.alloc (.cells #[.int .i64 0, .int .i64 0, .int .i64 0, .string ⟨#[]⟩, .string ⟨#[]⟩, .string ⟨#[]⟩, .string ⟨#[]⟩, .int .i64 0] 27)) (F1 _ BU3.out).out.1 HS.out.byt (F1 _ BU3.out).out.2.1 (F1 _ BU3.out).out.2.2 hsrc.1 hsrc.2.1 hsrc.2.2).mono ?_
   rintro e w1 ⟨rfl, hb1⟩
   rw [D.out]
   have BW : Hid (Below U.heap.size U w1) := low_on (BU3.out) hb1 (BU3.out).size
   have k0 := (BW.out.cell (p := ⟨g, 0, none⟩) hgU).trans r0
   have k2 := (BW.out.cell (p := ⟨g, 2, none⟩) hgU).trans r2
   have XC : Hid (Bx w1 U.heap.size zeroC) := Bx.of_block (bx_new U.drew 27 0 0 0 ⟨#[]⟩ ⟨#[]⟩ ⟨#[]⟩ ⟨#[]⟩ 0) (hb1.block U.heap.size (by simp))
   refine hK.out _ _ ⟨k0, k2⟩ (fun hHeld => ?_)
   clear hK K
   try skip
   refine tk 11 ?_
   refine tk 12 ?_
   refine tk 13 ?_
   refine tk 14 ?_
   refine zR 16 fun K hK => ?_
   have x0 := XC.out.box.1
   have x1 := XC.out.box.2.1
   have x2 := XC.out.box.2.2.1
   have x3 := XC.out.box.2.2.2.1
   have x4 := XC.out.box.2.2.2.2.1
   have x5 := XC.out.box.2.2.2.2.2.1
   have x6 := XC.out.box.2.2.2.2.2.2.1
   have x7 := XC.out.box.2.2.2.2.2.2.2
   have y0 := XC.out.thaw 0
   have y1 := XC.out.thaw 1
   have y2 := XC.out.thaw 2
   have y3 := XC.out.thaw 3
   have y4 := XC.out.thaw 4
   have y5 := XC.out.thaw 5
   have y6 := XC.out.thaw 6
   have y7 := XC.out.thaw 7
   simp only [zeroC] at x0 x1 x2 x3 x4 x5 x6 x7
   go_wp2_with fail
   refine hK.out _ _ ⟨by simp [*, zS], by simp [*, zS]⟩ (fun hHeld => ?_)
   clear hK K
   try simp only [Act.put, zA, zB, zC, zD, zE, zF]
   refine tk 17 ?_
   refine tk 18 ?_
   refine wpAnyH_done (by kernel_rfl) ?_ _
   refine NoPanic.normal ?_
   clear x0 x1 x2 x3 x4 x5 x6 x7 y0 y1 y2 y3 y4 y5 y6 y7
   have BUW : Hid (Below U.heap.size U (((((((((w1.setCell ⟨U.heap.size, 0, none⟩ (.int .i64 c0)).setCell ⟨U.heap.size, 1, none⟩ (.int .i64 c1)).setCell ⟨U.heap.size, 2, none⟩ (.int .i64 c2)).setCell ⟨U.heap.size, 3, none⟩ (.string c3)).setCell ⟨U.heap.size, 4, none⟩ (.string c4)).setCell ⟨U.heap.size, 5, none⟩ (.string c5)).setCell ⟨U.heap.size, 6, none⟩ (.string c6)).setCell ⟨U.heap.size, 7, none⟩ (.int .i64 c7)))) := below_set8 BW.out zN _ _ _ _ _ _ _ _
   have XQ : Hid (Bx (((((((((w1.setCell ⟨U.heap.size, 0, none⟩ (.int .i64 c0)).setCell ⟨U.heap.size, 1, none⟩ (.int .i64 c1)).setCell ⟨U.heap.size, 2, none⟩ (.int .i64 c2)).setCell ⟨U.heap.size, 3, none⟩ (.string c3)).setCell ⟨U.heap.size, 4, none⟩ (.string c4)).setCell ⟨U.heap.size, 5, none⟩ (.string c5)).setCell ⟨U.heap.size, 6, none⟩ (.string c6)).setCell ⟨U.heap.size, 7, none⟩ (.int .i64 c7))) (U.heap.size) ⟨c0, c1, c2, c3, c4, c5, c6, c7⟩) := ((((((((XC.out.kind c0).client c1).req c2).key c3).key2 c4).val c5).old c6).n c7)
   have XR : Hid (Bx (((((((((w1.setCell ⟨U.heap.size, 0, none⟩ (.int .i64 c0)).setCell ⟨U.heap.size, 1, none⟩ (.int .i64 c1)).setCell ⟨U.heap.size, 2, none⟩ (.int .i64 c2)).setCell ⟨U.heap.size, 3, none⟩ (.string c3)).setCell ⟨U.heap.size, 4, none⟩ (.string c4)).setCell ⟨U.heap.size, 5, none⟩ (.string c5)).setCell ⟨U.heap.size, 6, none⟩ (.string c6)).setCell ⟨U.heap.size, 7, none⟩ (.int .i64 c7))) w.heap.size zeroC) := XB.out.of_block (BUW.out.block w.heap.size XB.out.lt)
   have SX : Hid (Scx w0 (((((((((w1.setCell ⟨U.heap.size, 0, none⟩ (.int .i64 c0)).setCell ⟨U.heap.size, 1, none⟩ (.int .i64 c1)).setCell ⟨U.heap.size, 2, none⟩ (.int .i64 c2)).setCell ⟨U.heap.size, 3, none⟩ (.string c3)).setCell ⟨U.heap.size, 4, none⟩ (.string c4)).setCell ⟨U.heap.size, 5, none⟩ (.string c5)).setCell ⟨U.heap.size, 6, none⟩ (.string c6)).setCell ⟨U.heap.size, 7, none⟩ (.int .i64 c7))) g (Vf v n) l 0) := HX.out.below BUW.out
   have TW : Hid (Touch g w (((((((((w1.setCell ⟨U.heap.size, 0, none⟩ (.int .i64 c0)).setCell ⟨U.heap.size, 1, none⟩ (.int .i64 c1)).setCell ⟨U.heap.size, 2, none⟩ (.int .i64 c2)).setCell ⟨U.heap.size, 3, none⟩ (.string c3)).setCell ⟨U.heap.size, 4, none⟩ (.string c4)).setCell ⟨U.heap.size, 5, none⟩ (.string c5)).setCell ⟨U.heap.size, 6, none⟩ (.string c6)).setCell ⟨U.heap.size, 7, none⟩ (.int .i64 c7)))) := T0.out.trans (Touch.ofBelow BUW.out)
   have hqg : (U.heap.size) ≠ g := by omega
   clear hb1 BW BUW k0 k2 hHeld
   generalize (((((((((w1.setCell ⟨U.heap.size, 0, none⟩ (.int .i64 c0)).setCell ⟨U.heap.size, 1, none⟩ (.int .i64 c1)).setCell ⟨U.heap.size, 2, none⟩ (.int .i64 c2)).setCell ⟨U.heap.size, 3, none⟩ (.string c3)).setCell ⟨U.heap.size, 4, none⟩ (.string c4)).setCell ⟨U.heap.size, 5, none⟩ (.string c5)).setCell ⟨U.heap.size, 6, none⟩ (.string c6)).setCell ⟨U.heap.size, 7, none⟩ (.int .i64 c7))) = W9 at *
   go_wp2_with fail
   refine (ipass_any w0 g (Vf v n) l kk 0 f1 _ hkl.out SX.out).mono ?_
   rintro r w2 ⟨rfl, T2, S2⟩
   have Q2 := hide (XQ.out.beside T2 hqg)
   have R2 := hide (XR.out.beside T2 (by omega))
   have a0 := Q2.out.box.1
   have a1 := Q2.out.box.2.1
   have a2 := Q2.out.box.2.2.1
   have a3 := Q2.out.box.2.2.2.1
   have a4 := Q2.out.box.2.2.2.2.1
   have a5 := Q2.out.box.2.2.2.2.2.1
   have a6 := Q2.out.box.2.2.2.2.2.2.1
   have a7 := Q2.out.box.2.2.2.2.2.2.2
   have b0 := R2.out.box.1
   have d0 := R2.out.thaw 0
   have b1 := R2.out.box.2.1
   have d1 := R2.out.thaw 1
   have b2 := R2.out.box.2.2.1
   have d2 := R2.out.thaw 2
   have b3 := R2.out.box.2.2.2.1
   have d3 := R2.out.thaw 3
   have b4 := R2.out.box.2.2.2.2.1
   have d4 := R2.out.thaw 4
   have b5 := R2.out.box.2.2.2.2.2.1
   have d5 := R2.out.thaw 5
   have b6 := R2.out.box.2.2.2.2.2.2.1
   have d6 := R2.out.thaw 6
   have b7 := R2.out.box.2.2.2.2.2.2.2
   have d7 := R2.out.thaw 7
   rw [hl1.out] at S2
   have R : Hid (Touch g w ((((((((w2.setCell ⟨w.heap.size, 0, none⟩ (.int .i64 c0)).setCell ⟨w.heap.size, 1, none⟩ (.int .i64 c1)).setCell ⟨w.heap.size, 2, none⟩ (.int .i64 c2)).setCell ⟨w.heap.size, 3, none⟩ (.string c3)).setCell ⟨w.heap.size, 4, none⟩ (.string c4)).setCell ⟨w.heap.size, 5, none⟩ (.string c5)).setCell ⟨w.heap.size, 6, none⟩ (.string c6)).setCell ⟨w.heap.size, 7, none⟩ (.int .i64 c7)) ∧ Scx w0 ((((((((w2.setCell ⟨w.heap.size, 0, none⟩ (.int .i64 c0)).setCell ⟨w.heap.size, 1, none⟩ (.int .i64 c1)).setCell ⟨w.heap.size, 2, none⟩ (.int .i64 c2)).setCell ⟨w.heap.size, 3, none⟩ (.string c3)).setCell ⟨w.heap.size, 4, none⟩ (.string c4)).setCell ⟨w.heap.size, 5, none⟩ (.string c5)).setCell ⟨w.heap.size, 6, none⟩ (.string c6)).setCell ⟨w.heap.size, 7, none⟩ (.int .i64 c7)) g (Vf v n) l1 f1) := ⟨(TW.out.trans T2).set8 zN _ _ _ _ _ _ _ _, S2.set8 (by omega) HW.out _ _ _ _ _ _ _ _⟩
   clear T2 S2 SX TW XQ XR Q2 R2
   simp only [zeroC] at b0 b1 b2 b3 b4 b5 b6 b7
   go_wp2
   refine bodyPost_ret (v := .agg #[.int .i64 c0, .int .i64 c1, .int .i64 c2, .string c3, .string c4, .string c5, .string c6, .int .i64 c7]) (by simp [results, Tryz.results52, go_sem, *]) rfl ⟨rfl, R.out⟩
 ·obtain ⟨e2, e3, e4⟩ : Hid (zeroC = ⟨c0, c1, c2, c3, c4, c5, c6, c7⟩ ∧ l = l1 ∧ f = f1) := by
   have := e1.out
   unfold iCmd at this
   rw [if_neg h0] at this
   simp only [Prod.mk.injEq] at this
   exact this
  simp only [zeroC, Cm.mk.injEq] at e2
  obtain ⟨rfl, rfl, rfl, rfl, rfl, rfl, rfl, rfl⟩ := e2
  subst e3 e4
  have g1 : (f != 0) = true := by simpa using h0
  have R : Hid (Touch g w U ∧ Scx w0 U g (Vf v n) l f) := ⟨T0.out, HX.out⟩
  clear h0 e1 HS HX T0 XB
  subst hU
  go_enter Tryz.func52, Tryz.ntmps52
  go_wp2
  refine bodyPost_ret (v := .agg #[.int .i64 0, .int .i64 0, .int .i64 0, .string ⟨#[]⟩, .string ⟨#[]⟩, .string ⟨#[]⟩, .string ⟨#[]⟩, .int .i64 0]) (by simp [results, Tryz.results52, go_sem, *]) rfl ⟨rfl, R.out⟩
end
open Go.RowKit Go.Wire1
def fromM : List Nat := [0, 1, 1, 1, 1, 1, 1, 1, 1, 2]
def rndM : List Nat := [0, 0, 0, 0, 0, 0, 1, 1, 0, 0]
def isMK (v k : Int) : Bool := decide (0 < k) && (decide (k < 10) && decide ((fromM.getD k.toNat 0 : Int) ≤ v))
def Kmd (w : World) : Prop := ∀ i, i < 10 → w.cell? ⟨0, i * 2, none⟩ = some (.int .i64 (fromM.getD i 0 : Nat)) ∧ w.cell? ⟨0, i * 2 + 1, none⟩ = some (.int .i64 (rndM.getD i 0 : Nat))
theorem Kmd.lt {w : World} (h : Kmd w) : 0 < w.heap.size := cell_lt (h 0 (by omega)).1
theorem Kmd.below {w w' : World} {B : Nat} (h : Kmd w) (hb : Below B w w') (hB : w.heap.size ≤ B) : Kmd w' := by
 have hl := h.lt
 intro i hi
 obtain ⟨h1, h2⟩ := h i hi
 exact ⟨by rw [hb.cell (p := ⟨0, i * 2, none⟩) (Nat.lt_of_lt_of_le hl hB)]; exact h1, by rw [hb.cell (p := ⟨0, i * 2 + 1, none⟩) (Nat.lt_of_lt_of_le hl hB)]; exact h2⟩
def balB (n row rnd who : Int) : Bool := decide (0 ≤ rnd) && (decide (rnd ≤ 65535) && (decide (0 ≤ who) && (decide (who < n) && (decide (0 < rnd) || who == row))))
def belB (r1 w1 r2 w2 : Int) : Bool := decide (r1 < r2) || (r1 == r2 && decide (w1 < w2))
def instB (n row num : Int) : Bool := decide (0 ≤ row) && (decide (row < n) && (decide (1 ≤ num) && decide (num ≤ 1048576)))
theorem mKind_any (v kind : Int) (w : World) (hK : Kmd w) :
  Calls Tryz.prog 23 #[.int .i64 v, .int .i64 kind] w fun e w' => e = .returned (.bool (isMK v kind)) ∧ w = w' := by
 by_cases h1 : 0 < kind
 ·by_cases h2 : kind < 10
  ·obtain ⟨k, rfl⟩ := zI (show 0 ≤ kind by omega)
   have h3 : k < 10 := by omega
   obtain ⟨hc, _⟩ := hK k h3
   have HR : Hid (isMK v (k : Int) = decide ((fromM.getD k 0 : Int) ≤ v)) := by
    show _ = _; unfold isMK; rw [decide_eq_true h1, decide_eq_true h2]; rfl
   generalize fromM.getD k 0 = fr at *
   go_enter Tryz.func23, Tryz.ntmps23
   go_wp2
   go_ret
   exact ⟨by rw [HR.out]; rfl, rfl⟩
  ·have HR : Hid (isMK v kind = false) := by show _ = _; unfold isMK; rw [decide_eq_false h2]; simp
   go_enter Tryz.func23, Tryz.ntmps23
   go_wp2
   go_ret
   exact ⟨by rw [HR.out]; first | rfl | (simp; omega), rfl⟩
 ·have HR : Hid (isMK v kind = false) := by show _ = _; unfold isMK; rw [decide_eq_false h1]; rfl
  go_enter Tryz.func23, Tryz.ntmps23
  go_wp2
  go_ret
  exact ⟨by rw [HR.out]; first | rfl | (simp; omega), rfl⟩
theorem isBallot_any (n row num rnd who : Int) (w : World) :
  Calls Tryz.prog 62 #[.int .i64 n, .agg #[.int .i64 row, .int .i64 num], .agg #[.int .i64 rnd, .int .i64 who]] w fun e w' => e = .returned (.bool (balB n row rnd who)) ∧ Below w.heap.size w w' := by
 have BB : ∀ o p, Hid (Below w.heap.size w ((w.alloc o).alloc p)) := fun o p => ((Below.refl _ w).alloc zN _).alloc (by simp) _
 by_cases h0 : 0 ≤ rnd
 rotate_left
 ·have HR : Hid (balB n row rnd who = false) := by simp [Hid, balB, h0]
  go_enter Tryz.func62, Tryz.ntmps62
  go_wp2
  go_ret
  exact ⟨by rw [HR.out]; first | rfl | (simp; done) | (simp; omega), (BB _ _).out⟩
 by_cases h1 : rnd ≤ 65535
 rotate_left
 ·have HR : Hid (balB n row rnd who = false) := by simp [Hid, balB, h1]
  go_enter Tryz.func62, Tryz.ntmps62
  go_wp2
  go_ret
  exact ⟨by rw [HR.out]; first | rfl | (simp; done) | (simp; omega), (BB _ _).out⟩
 by_cases h2 : 0 ≤ who
 rotate_left
 ·have HR : Hid (balB n row rnd who = false) := by simp [Hid, balB, h2]
  go_enter Tryz.func62, Tryz.ntmps62
  go_wp2
  go_ret
  exact ⟨by rw [HR.out]; first | rfl | (simp; done) | (simp; omega), (BB _ _).out⟩
 by_cases h3 : who < n
 rotate_left
 ·have HR : Hid (balB n row rnd who = false) := by simp [Hid, balB, h3]
  go_enter Tryz.func62, Tryz.ntmps62
  go_wp2
  go_ret
  exact ⟨by rw [HR.out]; first | rfl | (simp; done) | (simp; omega), (BB _ _).out⟩
 by_cases h4 : 0 < rnd
 ·have HR : Hid (balB n row rnd who = true) := by simp [Hid, balB, h0, h1, h2, h3, h4]
  go_enter Tryz.func62, Tryz.ntmps62
  go_wp2
  go_ret
  exact ⟨by rw [HR.out]; first | rfl | (simp; done) | (simp; omega), (BB _ _).out⟩
 ·have HR : Hid (balB n row rnd who = (who == row)) := by simp [Hid, balB, h0, h1, h2, h3, h4]
  obtain ⟨b, hb⟩ : ∃ b, (who == row) = b := ⟨_, rfl⟩
  rw [HR.out, hb]
  go_enter Tryz.func62, Tryz.ntmps62
  go_wp2
  go_ret
  exact ⟨rfl, (BB _ _).out⟩
theorem mbelow_any (r1 w1 r2 w2 : Int) (w : World) :
  Calls Tryz.prog 63 #[.agg #[.int .i64 r1, .int .i64 w1], .agg #[.int .i64 r2, .int .i64 w2]] w fun e w' => e = .returned (.bool (belB r1 w1 r2 w2)) ∧ Below w.heap.size w w' := by
 have BB : ∀ o p, Hid (Below w.heap.size w ((w.alloc o).alloc p)) := fun o p => ((Below.refl _ w).alloc zN _).alloc (by simp) _
 obtain ⟨p, hp⟩ : ∃ p, decide (r1 < r2) = p := ⟨_, rfl⟩
 obtain ⟨q, hq⟩ : ∃ q, (r1 == r2) = q := ⟨_, rfl⟩
 obtain ⟨r, hr⟩ : ∃ r, decide (w1 < w2) = r := ⟨_, rfl⟩
 unfold belB
 rw [hp, hq, hr]
 cases p <;> cases q
 all_goals
  go_enter Tryz.func63, Tryz.ntmps63
  go_wp2
  go_ret
  exact ⟨by first | rfl | (simp; done), (BB _ _).out⟩
theorem instFault_any (kind row num n : Int) (w : World) :
  Calls Tryz.prog 50 #[.agg #[.int .i64 kind, .int .i64 row, .int .i64 num], .int .i64 n] w fun e w' => e = .returned (.int .i64 (unl (instB n row num) 52)) ∧ Below w.heap.size w w' := by
 have BB : ∀ o q, Hid (Below w.heap.size w ((w.alloc o).drewN q)) := fun o q => by
  have h := (Below.refl _ w).alloc zN o
  exact ⟨h.os, h.tape, h.output, h.size, h.block⟩
 obtain ⟨b, hb⟩ : ∃ b, Hid (instB n row num = b) := ⟨_, rfl⟩
 rw [hb.out]
 by_cases h0 : 0 ≤ row
 rotate_left
 ·obtain rfl : b = false := by rw [← hb.out]; simp [instB, h0]
  have d0 : decide (0 ≤ row) = false := decide_eq_false h0
  go_enter Tryz.func50, Tryz.ntmps50
  go_wp2
  go_region
  go_wp2_with fail
  refine (unless_any _ 52 _).mono ?_
  rintro r w1 ⟨rfl, rfl⟩
  go_wp2
  go_ret
  exact ⟨by first | rfl | (simp; done) | simp_all, (BB _ 1).out⟩
 by_cases h1 : row < n
 rotate_left
 ·obtain rfl : b = false := by rw [← hb.out]; simp [instB, h1]
  have d1 : decide (row < n) = false := decide_eq_false h1
  go_enter Tryz.func50, Tryz.ntmps50
  go_wp2
  go_region
  go_wp2_with fail
  refine (unless_any _ 52 _).mono ?_
  rintro r w1 ⟨rfl, rfl⟩
  go_wp2
  go_ret
  exact ⟨by first | rfl | (simp; done) | simp_all, (BB _ 1).out⟩
 by_cases h2 : 1 ≤ num
 rotate_left
 ·obtain rfl : b = false := by rw [← hb.out]; simp [instB, h2]
  have d2 : decide (1 ≤ num) = false := decide_eq_false h2
  go_enter Tryz.func50, Tryz.ntmps50
  go_wp2
  go_region
  go_wp2_with fail
  refine (unless_any _ 52 _).mono ?_
  rintro r w1 ⟨rfl, rfl⟩
  go_wp2
  go_ret
  exact ⟨by first | rfl | (simp; done) | simp_all, (BB _ 1).out⟩
 by_cases h3 : num ≤ 1048576
 rotate_left
 ·obtain rfl : b = false := by rw [← hb.out]; simp [instB, h3]
  have d3 : decide (num ≤ 1048576) = false := decide_eq_false h3
  go_enter Tryz.func50, Tryz.ntmps50
  go_wp2
  go_region
  go_wp2_with fail
  refine (unless_any _ 52 _).mono ?_
  rintro r w1 ⟨rfl, rfl⟩
  go_wp2
  go_ret
  exact ⟨by first | rfl | (simp; done) | simp_all, (BB _ 1).out⟩
 obtain rfl : b = true := by rw [← hb.out]; simp [instB, h0, h1, h2, h3]
 go_enter Tryz.func50, Tryz.ntmps50
 go_wp2
 go_region
 go_wp2_with fail
 refine (unless_any _ 52 _).mono ?_
 rintro r w1 ⟨rfl, rfl⟩
 go_wp2
 go_ret
 exact ⟨by first | rfl | (simp; done) | simp_all, (BB _ 1).out⟩
def seqB (noop : Bool) (seq : Int) : Bool := if noop then seq == 0 else decide (1 ≤ seq) && decide (seq ≤ 1073741824)
theorem seqFault_any (noop : Bool) (seq : Int) (w : World) :
  Calls Tryz.prog 57 #[.bool noop, .int .i64 seq] w fun e w' => e = .returned (.int .i64 (unl (seqB noop seq) 55)) ∧ w = w' := by
 unfold seqB
 cases noop with
 | true =>
  obtain ⟨b, hb⟩ : ∃ b, (seq == 0) = b := ⟨_, rfl⟩
  rw [if_pos rfl, hb]
  go_enter Tryz.func57, Tryz.ntmps57
  go_wp2_with fail
  refine (unless_any b 55 _).mono ?_
  rintro r w1 ⟨rfl, rfl⟩
  go_wp2
  go_ret
  exact ⟨rfl, rfl⟩
 | false =>
  obtain ⟨p, hp⟩ : ∃ p, decide (1 ≤ seq) = p := ⟨_, rfl⟩
  obtain ⟨q, hq⟩ : ∃ q, decide (seq ≤ 1073741824) = q := ⟨_, rfl⟩
  rw [if_neg (by decide), hp, hq]
  cases p
  all_goals
   go_enter Tryz.func57, Tryz.ntmps57
   go_wp2_with fail
   refine (unless_any _ 55 _).mono ?_
   rintro r w1 ⟨rfl, rfl⟩
   go_wp2
   go_ret
   exact ⟨by first | rfl | (simp; done) | simp_all, rfl⟩
end Go.Proofs.YtibfdoggolkljaaGreatDoor
