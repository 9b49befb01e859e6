import Derived.Lib.AppendStr
import Derived.Lib.SliceRun
import Derived.Test.YtibfdoggolkljaaGreatDoorJ12
set_option maxHeartbeats 2000000
set_option maxRecDepth 100000
namespace Go.Proofs.YtibfdoggolkljaaGreatDoor
open Go.RowKit Go.Wire1
def sTail (v x : Int) (cl rq : Nat) (ky : ByteArray) (l : List Int) (s : St) : Cm × St :=
 if x = 6 ∨ x = 7 ∨ x = 8 then (⟨x, cl, rq, ky, (sKey2 x ky l s).1, ⟨#[]⟩, ⟨#[]⟩, 0⟩, (sKey2 x ky l s).2)
 else if x = 5 then (⟨x, cl, rq, ky, ⟨#[]⟩, (sTxt 0 (mostV v : Nat) 46 l (sTxt 0 (mostV v : Nat) 47 l s).2).1, (sTxt 0 (mostV v : Nat) 47 l s).1, 0⟩, (sTxt 0 (mostV v : Nat) 46 l (sTxt 0 (mostV v : Nat) 47 l s).2).2)
 else if x = 2 then (⟨x, cl, rq, ky, ⟨#[]⟩, (sTxt 0 (mostV v : Nat) 46 l s).1, ⟨#[]⟩, 0⟩, (sTxt 0 (mostV v : Nat) 46 l s).2)
 else if x = 4 then (⟨x, cl, rq, ky, ⟨#[]⟩, ⟨#[]⟩, ⟨#[]⟩, (sInt l s).1⟩, (sInt l s).2)
 else (⟨x, cl, rq, ky, ⟨#[]⟩, ⟨#[]⟩, ⟨#[]⟩, 0⟩, s)
def sAll (v x : Int) (l : List Int) (s : St) : Cm × St :=
 sTail v x (sNum 65535 42 l s).1 (sNum 1073741824 43 l (sNum 65535 42 l s).2).1 (sTxt 1 64 44 l (sNum 1073741824 43 l (sNum 65535 42 l s).2).2).1 l (sTxt 1 64 44 l (sNum 1073741824 43 l (sNum 65535 42 l s).2).2).2
def sCmd (v : Int) (l : List Int) (s : St) : Cm × St :=
 if (sKind v l s).2.ft = 0 ∧ (sKind v l s).1 ≠ 0 then sAll v (sKind v l s).1 l (sKind v l s).2
 else (⟨(sKind v l s).1, 0, 0, ⟨#[]⟩, ⟨#[]⟩, ⟨#[]⟩, ⟨#[]⟩, 0⟩, (sKind v l s).2)
theorem refF_ne (e ft : Int) (he : e ≠ 0) : refF e ft ≠ 0 := by
 unfold refF; split
 ·exact he
 ·assumption
theorem sKind_ok {v : Int} {l : List Int} {s : St} (h : (sKind v l s).2.ft = 0) : isKd v (sKind v l s).1 = true := by
 cases hk : isKd v (sKind v l s).1 with
 | true => rfl
 | false =>
  have : (sKind v l s).2.ft = refF 41 (noteF 41 (gB 255 l s).2.2 s.ft) := by
   show (if isKd v (sKind v l s).1 then _ else _) = _
   rw [hk]; rfl
  rw [this] at h
  exact absurd h (refF_ne _ _ (by decide))
theorem isKd_range {v k : Int} (h : isKd v k = true) : 0 ≤ k ∧ k < 9 := by
 unfold isKd at h
 simp only [Bool.and_eq_true, decide_eq_true_eq] at h
 exact ⟨h.1, h.2.1⟩
theorem command_scn (g b n cap : Nat) (sa : Option Addr) (l : List Int) (a : Nat → Addr) (v : Int) (s : St) (w : World) (hK : Knd w) (h : Scs w g b sa n cap l a s) :
  Calls Tryz.prog 71 #[.pointer (some ⟨g, 0, none⟩), .int .i64 v] w fun e w' => e = .returned (.agg #[.int .i64 (sCmd v l s).1.kind, .int .i64 (sCmd v l s).1.client, .int .i64 (sCmd v l s).1.req, .string (sCmd v l s).1.key, .string (sCmd v l s).1.key2, .string (sCmd v l s).1.val, .string (sCmd v l s).1.old, .int .i64 (sCmd v l s).1.n]) ∧ Turn g b w w' ∧ Scs w' g b sa n cap l a (sCmd v l s).2 := by
 obtain ⟨x, hx⟩ : ∃ x, (sKind v l s).1 = x := ⟨_, rfl⟩
 obtain ⟨s1, hs1⟩ : ∃ s1, (sKind v l s).2 = s1 := ⟨_, rfl⟩
 by_cases h0 : s1.ft = 0
 ·by_cases hz : x = 0
  ·subst hz
   have e : sCmd v l s = (⟨0, 0, 0, ⟨#[]⟩, ⟨#[]⟩, ⟨#[]⟩, ⟨#[]⟩, 0⟩, s1) := by unfold sCmd; rw [hx, hs1, if_neg (fun q => q.2 rfl)]
   rw [e]
   exact command_noop g b n cap sa l a v s w hK h s1 hx hs1 h0
  ·have hr := isKd_range (sKind_ok (by rw [hs1]; exact h0))
   rw [hx] at hr
   have e : sCmd v l s = sAll v x l s1 := by unfold sCmd; rw [hx, hs1, if_pos ⟨h0, hz⟩]
   rw [e]
   have h8 : x = 1 ∨ x = 2 ∨ x = 3 ∨ x = 4 ∨ x = 5 ∨ x = 6 ∨ x = 7 ∨ x = 8 := by omega
   rcases h8 with rfl | rfl | rfl | rfl | rfl | rfl | rfl | rfl
   ·exact command_leaf1 g b n cap sa l a v s w hK h s1 hx hs1 h0 _ _ rfl rfl _ _ rfl rfl _ _ rfl rfl
   ·exact command_leaf2 g b n cap sa l a v s w hK h s1 hx hs1 h0 _ _ rfl rfl _ _ rfl rfl _ _ rfl rfl _ _ rfl rfl
   ·exact command_leaf3 g b n cap sa l a v s w hK h s1 hx hs1 h0 _ _ rfl rfl _ _ rfl rfl _ _ rfl rfl
   ·exact command_leaf4 g b n cap sa l a v s w hK h s1 hx hs1 h0 _ _ rfl rfl _ _ rfl rfl _ _ rfl rfl _ _ rfl rfl
   ·exact command_leaf5 g b n cap sa l a v s w hK h s1 hx hs1 h0 _ _ rfl rfl _ _ rfl rfl _ _ rfl rfl _ _ rfl rfl _ _ rfl rfl
   ·exact command_leaf6 g b n cap sa l a v s w hK h s1 hx hs1 h0 _ _ rfl rfl _ _ rfl rfl _ _ rfl rfl _ _ rfl rfl
   ·exact command_leaf7 g b n cap sa l a v s w hK h s1 hx hs1 h0 _ _ rfl rfl _ _ rfl rfl _ _ rfl rfl _ _ rfl rfl
   ·exact command_leaf8 g b n cap sa l a v s w hK h s1 hx hs1 h0 _ _ rfl rfl _ _ rfl rfl _ _ rfl rfl _ _ rfl rfl
 ·have e : sCmd v l s = (⟨x, 0, 0, ⟨#[]⟩, ⟨#[]⟩, ⟨#[]⟩, ⟨#[]⟩, 0⟩, s1) := by unfold sCmd; rw [hx, hs1, if_neg (fun q => h0 q.1)]
  rw [e]
  exact command_early g b n cap sa l a v s w hK h x s1 hx hs1 h0
open Go.RowKit Go.Wire1 Go.Lib
theorem clone_any (sa : Option Addr) (n cap : Nat) (l : List Int) (w : World) (hs : Seg w sa n l) (hlen : n ≤ 140737488355328) (hnone : sa = none → n = 0) :
  Calls Tryz.prog 80 #[.slice sa n cap] w fun e w' => ∃ v, e = .returned v ∧ w'.ownsRow w.heap.size 5 1 v l.length (l.map (Value.int .u8)) ∧ Below w.heap.size w w' := by
 obtain ⟨i0, hi, hz0, hz1, hz2⟩ := info_parts Tryz.info5
 have qn : ∀ (w : World) (a : Option Addr) (n c n' c' : Nat), (binOp .eql 32 (.slice a n c) (.slice none n' c')).run Tryz.prog w = .ok (.bool a.isNone) w := fun w a n c n' c' => Lib.run_eql_slice_nil w _ _ a n c n' c' Tryz.underlying32
 cases sa with
 | none =>
  obtain rfl := hnone rfl
  obtain rfl : l = [] := List.eq_nil_of_length_eq_zero hs.1
  go_enter Tryz.func80, Tryz.ntmps80
  go_wp2
  go_ret
  exact ⟨_, rfl, World.ownsRow_nil _ _ _ _, Below.refl _ _⟩
 | some ad =>
  have hl := hide hs.1
  have ho : (w.alloc (.cells #[] 5)).ownsRow w.heap.size 5 1 (.slice (some ⟨w.heap.size, 0, none⟩) 0 0) 0 [] := World.ownsRow_made w #[] 0 zN (by unfold maxLen; omega) rfl
  have hcells : ∀ j u, (l.map (Value.int .u8))[j]? = some u → (w.alloc (.cells #[] 5)).cell? (ad.add j) = some u := fun j u hj => by
   have hjl : j < l.length := by
    rcases Nat.lt_or_ge j l.length with h | h
    ·exact h
    ·simp [List.getElem?_eq_none (show (l.map (Value.int .u8)).length ≤ j by simpa using h)] at hj
   obtain ⟨b, off, e, hc⟩ := hs.2.2 (by rw [← hs.1]; omega)
   cases e
   have hcj := hc j (by rw [← hs.1]; exact hjl)
   rw [add_at, World.cell?_alloc_past _ _ _ (cell_lt hcj), hcj]
   simp [List.getElem?_eq_getElem hjl] at hj
   subst hj
   simp [List.getElem?_eq_getElem hjl]
  go_enter Tryz.func80, Tryz.ntmps80
  go_wp2_with (first
   | (at_builtin; refine wpList_append_own _ rfl _ _ 32 rfl w.heap.size 5 i0 (.int .u8 0) 1 1 Tryz.underlying32 hi hz0 hz1 hz2 rfl (by decide) _ _ _ rfl ho ad n cap (l.map (Value.int .u8)) rfl ?c0 hcells ?c2 ?c3 ?c4 ?c5 ?_))
  case c0 => rw [List.length_map, hl.out, Nat.mul_one]
  case c2 => intro u hu; obtain ⟨z, _, rfl⟩ := List.mem_map.1 hu; rfl
  case c3 => unfold maxLen; omega
  case c4 => omega
  case c5 => simp
  intro v' w2 hown' hgrow _
  have B2 : Below w.heap.size w w2 := ((Below.refl _ w).alloc zN _).grown hgrow (by simp) (fun j hj => (ho.lt j hj).1)
  clear hgrow hcells ho
  go_wp2
  go_ret
  refine ⟨_, rfl, ?_, B2⟩
  rw [hl.out]
  simpa using hown'
theorem rdr_new {w w1 : World} {v : Value} {l : List Int} {a : Nat → Addr} (T : TypeId) (hown : w1.ownsRow w.heap.size 5 1 v l.length (l.map (Value.int .u8))) (hbel : Below w.heap.size w w1) (he : Errs w a) (hy : Byt l) :
  ∃ sa cap, v = .slice sa l.length cap ∧ Rdr (w1.alloc (.cells #[v, .int .i64 0, .int .i64 0] T)) w1.heap.size sa l.length cap 0 0 l a := by
 obtain ⟨sa, cap, rfl, hc, hm, hs⟩ := seg_own hown
 have hA : Below w1.heap.size w1 (w1.alloc (.cells #[.slice sa l.length cap, .int .i64 0, .int .i64 0] T)) := (Below.refl _ _).alloc zN _
 have he1 := he.below hbel zN
 refine ⟨sa, cap, rfl, ⟨⟨⟨?_, ?_, ?_⟩, hs.below hA zN, fun x hx hn => by have := hs.lt hn hx; omega, hy, Nat.zero_le _, he1.below hA zN, by have := he1.five; omega, fun i hi => by have := he1.lt i hi; omega⟩, ?_, ?_, hc, hm⟩⟩
 ·rw [World.cell?_alloc_at _ _ _ _ rfl]; rfl
 ·rw [World.cell?_alloc_at _ _ _ _ rfl]; rfl
 ·exact World.frozen?_alloc_at _ _ _ _ rfl
 ·rw [World.cell?_alloc_at _ _ _ _ rfl]; rfl
 ·exact World.frozen?_alloc_at _ _ _ _ rfl
theorem newReader_any (sa : Option Addr) (n cap : Nat) (l : List Int) (a : Nat → Addr) (w : World) (hs : Seg w sa n l) (hy : Byt l) (he : Errs w a) (hlen : n ≤ 140737488355328) (hnone : sa = none → n = 0) :
  Calls Tryz.prog 70 #[.slice sa n cap] w fun e w' => ∃ b sa' cap', e = .returned (.pointer (some ⟨b, 0, none⟩)) ∧ w.heap.size ≤ b ∧ Below w.heap.size w w' ∧ Rdr w' b sa' l.length cap' 0 0 l a ∧ (∀ x, sa' = some x → 0 < l.length → w.heap.size ≤ x.block) := by
 go_enter Tryz.func70, Tryz.ntmps70
 go_wp2_with fail
 refine (clone_any sa n cap l _ hs hlen hnone).mono ?_
 rintro e w1 ⟨v, rfl, hown, hbel⟩
 have hlow : ∀ x, v = .slice (some x) l.length x.off → True := fun _ _ => trivial
 clear hlow
 obtain ⟨sa', cap', rfl, hR⟩ := rdr_new 146 hown hbel he hy
 have hbase : ∀ x, sa' = some x → 0 < l.length → w.heap.size ≤ x.block := fun x hx _ => by
  subst hx; exact (hown.lt x.block rfl).1
 have B2 : Below w.heap.size w (w1.alloc (.cells #[.slice sa' l.length cap', .int .i64 0, .int .i64 0] 146)) := hbel.alloc hbel.size _
 have hsz := hbel.size
 clear hown hbel
 go_wp2
 go_ret
 exact ⟨_, _, _, rfl, hsz, B2, hR, hbase⟩
open Go.RowKit Go.Wire1
theorem scs_new {w : World} {b : Nat} {sa : Option Addr} {n cap k : Nat} {f : Int} {l : List Int} {a : Nat → Addr} (T : TypeId) (h : Rdr w b sa n cap k f l a) :
  Scs (w.alloc (.cells #[.pointer (some ⟨b, 0, none⟩), .int .i64 0] T)) w.heap.size b sa n cap l a ⟨k, f, 0⟩ := by
 have hb := h.lt
 have h5 := h.ready.five
 refine ⟨?_, ?_, World.frozen?_alloc_at _ _ _ _ rfl, h.below ((Below.refl _ w).alloc zN _) zN, by omega, fun x hx hn => by have := h.ready.seg.lt hn hx; omega, fun i hi => by have := h.ready.errs.lt i hi; omega, by omega⟩
 ·rw [World.cell?_alloc_at _ _ _ _ rfl]; rfl
 ·rw [World.cell?_alloc_at _ _ _ _ rfl]; rfl
theorem set_low {w W : World} (h : Below w.heap.size w W) (o : Nat) (u : Value) : Below w.heap.size w (W.setCell ⟨w.heap.size, o, none⟩ u) :=
 ⟨h.os, h.tape, h.output, by simpa [World.setCell] using h.size, fun i hi => (Below.heap_setCell _ _ _ _ (by show i ≠ w.heap.size; omega)).trans (h.block i hi)⟩
theorem low_on {B C : Nat} {x y z : World} (h : Below B x y) (k : Below C y z) (hC : B ≤ C) : Below B x z :=
 ⟨k.os.trans h.os, k.tape.trans h.tape, k.output.trans h.output, Nat.le_trans h.size k.size, fun i hi => (k.block i (by omega)).trans (h.block i hi)⟩
theorem low_drewN {B : Nat} {x y : World} (h : Below B x y) (q : Nat) : Below B x (y.drewN q) := ⟨h.os, h.tape, h.output, h.size, h.block⟩
theorem low_new {w W : World} (h : Below w.heap.size w W) (o : Obj) : Below w.heap.size w (W.alloc o).drew :=
 have k := h.alloc h.size o
 ⟨k.os, k.tape, k.output, k.size, k.block⟩
def decC (v : Int) (l : List Int) : Cm × Nat × Int :=
 if isVer v then (if (sCmd v (l.take 131281) ⟨0, 0, 0⟩).2.ft = 0 then ((sCmd v (l.take 131281) ⟨0, 0, 0⟩).1, (sCmd v (l.take 131281) ⟨0, 0, 0⟩).2.k, 0) else (zeroC, 0, (sCmd v (l.take 131281) ⟨0, 0, 0⟩).2.ft)) else (zeroC, 0, 2)
theorem decode_ver (sa : Option Addr) (n cap : Nat) (v : Int) (w : World) (hv : isVer v = false) :
  Calls Tryz.prog 66 #[.int .i64 v, .slice sa n cap] w fun e w' => e = .returned (.tuple #[.agg #[.int .i64 zeroC.kind, .int .i64 zeroC.client, .int .i64 zeroC.req, .string zeroC.key, .string zeroC.key2, .string zeroC.val, .string zeroC.old, .int .i64 zeroC.n], .int .i64 0, .int .i64 2]) ∧ Below w.heap.size w w' := by
 go_enter Tryz.func66, Tryz.ntmps66
 go_wp2_with fail
 refine (isVersion_any v _).mono ?_
 rintro e w1 ⟨rfl, rfl⟩
 rw [hv]
 clear hv
 go_wp2
 refine bodyPost_ret (v := .tuple #[.agg #[.int .i64 zeroC.kind, .int .i64 zeroC.client, .int .i64 zeroC.req, .string zeroC.key, .string zeroC.key2, .string zeroC.val, .string zeroC.old, .int .i64 zeroC.n], .int .i64 0, .int .i64 2]) (by simp [results, Tryz.results66, go_sem, zeroC]) rfl ⟨rfl, ?_⟩
 first
  | exact (Below.refl _ _).alloc zN _
  | (iterate 8 refine set_low ?_ _ _); exact (Below.refl _ _).alloc zN _
theorem decode_good (ad : Addr) (n cap m : Nat) (L : List Int) (a : Nat → Addr) (v : Int) (w : World) (hs : Seg w (some ad) m L) (hy : Byt L) (he : Errs w a) (hK : Knd w) (hc : n ≤ cap) (_hcm : cap ≤ 9223372036854775807) (hv : isVer v = true) (hm : Hid (m = min n 131281)) (c0 c1 c2 : Int) (c3 c4 c5 c6 : ByteArray) (c7 : Int) (s : St) (h1 : Hid ((sCmd v L ⟨0, 0, 0⟩).1 = ⟨c0, c1, c2, c3, c4, c5, c6, c7⟩)) (h2 : Hid ((sCmd v L ⟨0, 0, 0⟩).2 = s)) (h0 : s.ft = 0) :
  Calls Tryz.prog 66 #[.int .i64 v, .slice (some ad) n cap] w fun e w' => e = .returned (.tuple #[.agg #[.int .i64 c0, .int .i64 c1, .int .i64 c2, .string c3, .string c4, .string c5, .string c6, .int .i64 c7], .int .i64 (s.k : Int), .int .i64 0]) ∧ Below w.heap.size w w' := by
 have HE := hide he
 have HK := hide hK
 have HS := hide hs
 have HY := hide hy
 have hml : m ≤ 131281 := by have := hm.out; omega
 have hmt : Hid ((min (n : Int) 131281).toNat = m) := by have := hm.out; show _ = _; omega
 clear hs hK he hy
 clear hm
 go_enter Tryz.func66, Tryz.ntmps66
 go_wp2_with fail
 refine (isVersion_any v _).mono ?_
 rintro e w0 ⟨rfl, rfl⟩
 rw [hv]
 clear hv
 go_wp2_with fail
 rw [hmt.out]
 clear hmt
 refine (newReader_any (some ad) m cap L a _ (by exact HS.out.below ((Below.refl _ w).alloc zN _) zN) HY.out (HE.out.below ((Below.refl _ w).alloc zN _) zN) (by omega) (by intro q; cases q)).mono ?_
 rintro e w1 ⟨b, sa', cap', rfl, hb, B1, R1, _⟩
 have hw1 : w.heap.size < w1.heap.size := by have := B1.size; simp at this; omega
 have hwb : w.heap.size < b := by simp at hb; omega
 have hlb := R1.lt
 have HR1 := hide R1
 have HB1 := hide B1
 clear R1 B1 hb
 have S1 := hide (scs_new 132 HR1.out)
 have K1 : Hid (Knd (w1.alloc (.cells #[.pointer (some ⟨b, 0, none⟩), .int .i64 0] 132))) := ((HK.out.below ((Below.refl _ w).alloc zN _) zN).below HB1.out zN).below ((Below.refl _ w1).alloc zN _) zN
 have X1 : Hid (Bx (w1.alloc (.cells #[.pointer (some ⟨b, 0, none⟩), .int .i64 0] 132)) w.heap.size zeroC) := ((bx_new w 27 0 0 0 ⟨#[]⟩ ⟨#[]⟩ ⟨#[]⟩ ⟨#[]⟩ 0).of_block (HB1.out.block w.heap.size (by simp))).of_block (Below.block ((Below.refl w1.heap.size w1).alloc zN _) w.heap.size hw1)
 have Y1 : Hid (Below w.heap.size w (w1.alloc (.cells #[.pointer (some ⟨b, 0, none⟩), .int .i64 0] 132))) := (low_on ((Below.refl _ w).alloc zN _) HB1.out (by simp)).alloc (by omega) _
 clear HR1 HB1 HK HE HS HY
 go_wp2_with fail
 refine (command_scn w1.heap.size b _ _ _ L a v ⟨0, 0, 0⟩ _ (by exact K1.out) (by exact S1.out)).mono ?_
 rintro e w2 ⟨rfl, T2, S2⟩
 rw [h1.out]
 rw [h2.out] at S2
 have X2 := hide (X1.out.turn T2 (by omega) (by omega))
 have Y2 : Hid (Below w.heap.size w w2) := T2.below Y1.out (by omega) (by omega) Y1.out.size
 have a0 := S2.ptr
 have a1 := S2.fault
 have hl2 := S2.lt
 have HS2 := hide S2
 clear S2 T2 X1 Y1 S1 K1
 rw [h0] at a1
 clear h0
 go_wp2_with fail
 refine (err_any b _ _ _ _ _ L a _ (by exact HS2.out.rdr.below ((Below.refl _ w2).alloc zN _) zN)).mono ?_
 rintro e w3 ⟨rfl, q, hq⟩
 have hl3 : w.heap.size < w2.heap.size := by omega
 have N3 : Hid (Bx w3 w2.heap.size ⟨c0, c1, c2, c3, c4, c5, c6, c7⟩) := by rw [hq]; exact (bx_new w2 27 c0 c1 c2 c3 c4 c5 c6 c7).of_block rfl
 have X3 : Hid (Bx w3 w.heap.size zeroC) := by rw [hq]; exact X2.out.of_block (Below.block ((Below.refl w2.heap.size w2).alloc zN _) w.heap.size hl3)
 have Y3 : Hid (Below w.heap.size w w3) := by rw [hq]; exact low_drewN (Y2.out.alloc (by omega) _) q
 clear hq X2 Y2 a0 a1 HS2
 have hl4 : w2.heap.size < w3.heap.size := N3.out.lt
 have b0 : w3.cell? ⟨w2.heap.size, 0, none⟩ = some (.int .i64 c0) := N3.out.box.1
 have b1 : w3.cell? ⟨w2.heap.size, 1, none⟩ = some (.int .i64 c1) := N3.out.box.2.1
 have b2 : w3.cell? ⟨w2.heap.size, 2, none⟩ = some (.int .i64 c2) := N3.out.box.2.2.1
 have b3 : w3.cell? ⟨w2.heap.size, 3, none⟩ = some (.string c3) := N3.out.box.2.2.2.1
 have b4 : w3.cell? ⟨w2.heap.size, 4, none⟩ = some (.string c4) := N3.out.box.2.2.2.2.1
 have b5 : w3.cell? ⟨w2.heap.size, 5, none⟩ = some (.string c5) := N3.out.box.2.2.2.2.2.1
 have b6 : w3.cell? ⟨w2.heap.size, 6, none⟩ = some (.string c6) := N3.out.box.2.2.2.2.2.2.1
 have b7 : w3.cell? ⟨w2.heap.size, 7, none⟩ = some (.int .i64 c7) := N3.out.box.2.2.2.2.2.2.2
 have r0 : w3.cell? ⟨w.heap.size, 0, none⟩ = some (.int .i64 0) := X3.out.box.1
 have fr0 : w3.frozen? ⟨w.heap.size, 0, none⟩ = false := X3.out.thaw 0
 have r1 : w3.cell? ⟨w.heap.size, 1, none⟩ = some (.int .i64 0) := X3.out.box.2.1
 have fr1 : w3.frozen? ⟨w.heap.size, 1, none⟩ = false := X3.out.thaw 1
 have r2 : w3.cell? ⟨w.heap.size, 2, none⟩ = some (.int .i64 0) := X3.out.box.2.2.1
 have fr2 : w3.frozen? ⟨w.heap.size, 2, none⟩ = false := X3.out.thaw 2
 have r3 : w3.cell? ⟨w.heap.size, 3, none⟩ = some (.string ⟨#[]⟩) := X3.out.box.2.2.2.1
 have fr3 : w3.frozen? ⟨w.heap.size, 3, none⟩ = false := X3.out.thaw 3
 have r4 : w3.cell? ⟨w.heap.size, 4, none⟩ = some (.string ⟨#[]⟩) := X3.out.box.2.2.2.2.1
 have fr4 : w3.frozen? ⟨w.heap.size, 4, none⟩ = false := X3.out.thaw 4
 have r5 : w3.cell? ⟨w.heap.size, 5, none⟩ = some (.string ⟨#[]⟩) := X3.out.box.2.2.2.2.2.1
 have fr5 : w3.frozen? ⟨w.heap.size, 5, none⟩ = false := X3.out.thaw 5
 have r6 : w3.cell? ⟨w.heap.size, 6, none⟩ = some (.string ⟨#[]⟩) := X3.out.box.2.2.2.2.2.2.1
 have fr6 : w3.frozen? ⟨w.heap.size, 6, none⟩ = false := X3.out.thaw 6
 have r7 : w3.cell? ⟨w.heap.size, 7, none⟩ = some (.int .i64 0) := X3.out.box.2.2.2.2.2.2.2
 have fr7 : w3.frozen? ⟨w.heap.size, 7, none⟩ = false := X3.out.thaw 7
 go_wp2
 refine bodyPost_ret (v := .tuple #[.agg #[.int .i64 c0, .int .i64 c1, .int .i64 c2, .string c3, .string c4, .string c5, .string c6, .int .i64 c7], .int .i64 (s.k : Int), .int .i64 0]) (by simp [results, Tryz.results66, go_sem, *]) rfl ⟨rfl, ?_⟩
 iterate 8 refine set_low ?_ _ _
 exact Y3.out
theorem decode_goodN (n cap m : Nat) (L : List Int) (a : Nat → Addr) (v : Int) (w : World) (hs : Seg w none m L) (hy : Byt L) (he : Errs w a) (hK : Knd w) (hc : n ≤ cap) (hcm : cap ≤ 9223372036854775807) (hv : isVer v = true) (hm : Hid (m = min n 131281)) (hn : n = 0) (c0 c1 c2 : Int) (c3 c4 c5 c6 : ByteArray) (c7 : Int) (s : St) (h1 : Hid ((sCmd v L ⟨0, 0, 0⟩).1 = ⟨c0, c1, c2, c3, c4, c5, c6, c7⟩)) (h2 : Hid ((sCmd v L ⟨0, 0, 0⟩).2 = s)) (h0 : s.ft = 0) :
  Calls Tryz.prog 66 #[.int .i64 v, .slice none n cap] w fun e w' => e = .returned (.tuple #[.agg #[.int .i64 c0, .int .i64 c1, .int .i64 c2, .string c3, .string c4, .string c5, .string c6, .int .i64 c7], .int .i64 (s.k : Int), .int .i64 0]) ∧ Below w.heap.size w w' := by
 subst hn
 obtain rfl : m = 0 := hm.out
 have HE := hide he
 have HK := hide hK
 have HS := hide hs
 have HY := hide hy
 have hml : (0 : Nat) ≤ 131281 := by omega
 clear hs hK he hy
 go_enter Tryz.func66, Tryz.ntmps66
 go_wp2_with fail
 refine (isVersion_any v _).mono ?_
 rintro e w0 ⟨rfl, rfl⟩
 rw [hv]
 clear hv
 go_wp2_with fail
 refine (newReader_any none 0 cap L a _ (by exact HS.out.below ((Below.refl _ w).alloc zN _) zN) HY.out (HE.out.below ((Below.refl _ w).alloc zN _) zN) (by omega) (by intro _; rfl)).mono ?_
 rintro e w1 ⟨b, sa', cap', rfl, hb, B1, R1, _⟩
 have hw1 : w.heap.size < w1.heap.size := by have := B1.size; simp at this; omega
 have hwb : w.heap.size < b := by simp at hb; omega
 have hlb := R1.lt
 have HR1 := hide R1
 have HB1 := hide B1
 clear R1 B1 hb
 have S1 := hide (scs_new 132 HR1.out)
 have K1 : Hid (Knd (w1.alloc (.cells #[.pointer (some ⟨b, 0, none⟩), .int .i64 0] 132))) := ((HK.out.below ((Below.refl _ w).alloc zN _) zN).below HB1.out zN).below ((Below.refl _ w1).alloc zN _) zN
 have X1 : Hid (Bx (w1.alloc (.cells #[.pointer (some ⟨b, 0, none⟩), .int .i64 0] 132)) w.heap.size zeroC) := ((bx_new w 27 0 0 0 ⟨#[]⟩ ⟨#[]⟩ ⟨#[]⟩ ⟨#[]⟩ 0).of_block (HB1.out.block w.heap.size (by simp))).of_block (Below.block ((Below.refl w1.heap.size w1).alloc zN _) w.heap.size hw1)
 have Y1 : Hid (Below w.heap.size w (w1.alloc (.cells #[.pointer (some ⟨b, 0, none⟩), .int .i64 0] 132))) := (low_on ((Below.refl _ w).alloc zN _) HB1.out (by simp)).alloc (by omega) _
 clear HR1 HB1 HK HE HS HY
 go_wp2_with fail
 refine (command_scn w1.heap.size b _ _ _ L a v ⟨0, 0, 0⟩ _ (by exact K1.out) (by exact S1.out)).mono ?_
 rintro e w2 ⟨rfl, T2, S2⟩
 rw [h1.out]
 rw [h2.out] at S2
 have X2 := hide (X1.out.turn T2 (by omega) (by omega))
 have Y2 : Hid (Below w.heap.size w w2) := T2.below Y1.out (by omega) (by omega) Y1.out.size
 have a0 := S2.ptr
 have a1 := S2.fault
 have hl2 := S2.lt
 have HS2 := hide S2
 clear S2 T2 X1 Y1 S1 K1
 rw [h0] at a1
 clear h0
 go_wp2_with fail
 refine (err_any b _ _ _ _ _ L a _ (by exact HS2.out.rdr.below ((Below.refl _ w2).alloc zN _) zN)).mono ?_
 rintro e w3 ⟨rfl, q, hq⟩
 have hl3 : w.heap.size < w2.heap.size := by omega
 have N3 : Hid (Bx w3 w2.heap.size ⟨c0, c1, c2, c3, c4, c5, c6, c7⟩) := by rw [hq]; exact (bx_new w2 27 c0 c1 c2 c3 c4 c5 c6 c7).of_block rfl
 have X3 : Hid (Bx w3 w.heap.size zeroC) := by rw [hq]; exact X2.out.of_block (Below.block ((Below.refl w2.heap.size w2).alloc zN _) w.heap.size hl3)
 have Y3 : Hid (Below w.heap.size w w3) := by rw [hq]; exact low_drewN (Y2.out.alloc (by omega) _) q
 clear hq X2 Y2 a0 a1 HS2
 have hl4 : w2.heap.size < w3.heap.size := N3.out.lt
 have b0 : w3.cell? ⟨w2.heap.size, 0, none⟩ = some (.int .i64 c0) := N3.out.box.1
 have b1 : w3.cell? ⟨w2.heap.size, 1, none⟩ = some (.int .i64 c1) := N3.out.box.2.1
 have b2 : w3.cell? ⟨w2.heap.size, 2, none⟩ = some (.int .i64 c2) := N3.out.box.2.2.1
 have b3 : w3.cell? ⟨w2.heap.size, 3, none⟩ = some (.string c3) := N3.out.box.2.2.2.1
 have b4 : w3.cell? ⟨w2.heap.size, 4, none⟩ = some (.string c4) := N3.out.box.2.2.2.2.1
 have b5 : w3.cell? ⟨w2.heap.size, 5, none⟩ = some (.string c5) := N3.out.box.2.2.2.2.2.1
 have b6 : w3.cell? ⟨w2.heap.size, 6, none⟩ = some (.string c6) := N3.out.box.2.2.2.2.2.2.1
 have b7 : w3.cell? ⟨w2.heap.size, 7, none⟩ = some (.int .i64 c7) := N3.out.box.2.2.2.2.2.2.2
 have r0 : w3.cell? ⟨w.heap.size, 0, none⟩ = some (.int .i64 0) := X3.out.box.1
 have fr0 : w3.frozen? ⟨w.heap.size, 0, none⟩ = false := X3.out.thaw 0
 have r1 : w3.cell? ⟨w.heap.size, 1, none⟩ = some (.int .i64 0) := X3.out.box.2.1
 have fr1 : w3.frozen? ⟨w.heap.size, 1, none⟩ = false := X3.out.thaw 1
 have r2 : w3.cell? ⟨w.heap.size, 2, none⟩ = some (.int .i64 0) := X3.out.box.2.2.1
 have fr2 : w3.frozen? ⟨w.heap.size, 2, none⟩ = false := X3.out.thaw 2
 have r3 : w3.cell? ⟨w.heap.size, 3, none⟩ = some (.string ⟨#[]⟩) := X3.out.box.2.2.2.1
 have fr3 : w3.frozen? ⟨w.heap.size, 3, none⟩ = false := X3.out.thaw 3
 have r4 : w3.cell? ⟨w.heap.size, 4, none⟩ = some (.string ⟨#[]⟩) := X3.out.box.2.2.2.2.1
 have fr4 : w3.frozen? ⟨w.heap.size, 4, none⟩ = false := X3.out.thaw 4
 have r5 : w3.cell? ⟨w.heap.size, 5, none⟩ = some (.string ⟨#[]⟩) := X3.out.box.2.2.2.2.2.1
 have fr5 : w3.frozen? ⟨w.heap.size, 5, none⟩ = false := X3.out.thaw 5
 have r6 : w3.cell? ⟨w.heap.size, 6, none⟩ = some (.string ⟨#[]⟩) := X3.out.box.2.2.2.2.2.2.1
 have fr6 : w3.frozen? ⟨w.heap.size, 6, none⟩ = false := X3.out.thaw 6
 have r7 : w3.cell? ⟨w.heap.size, 7, none⟩ = some (.int .i64 0) := X3.out.box.2.2.2.2.2.2.2
 have fr7 : w3.frozen? ⟨w.heap.size, 7, none⟩ = false := X3.out.thaw 7
 go_wp2
 refine bodyPost_ret (v := .tuple #[.agg #[.int .i64 c0, .int .i64 c1, .int .i64 c2, .string c3, .string c4, .string c5, .string c6, .int .i64 c7], .int .i64 (s.k : Int), .int .i64 0]) (by simp [results, Tryz.results66, go_sem, *]) rfl ⟨rfl, ?_⟩
 iterate 8 refine set_low ?_ _ _
 exact Y3.out
theorem decode_bad (ad : Addr) (n cap m : Nat) (L : List Int) (a : Nat → Addr) (v : Int) (w : World) (hs : Seg w (some ad) m L) (hy : Byt L) (he : Errs w a) (hK : Knd w) (hc : n ≤ cap) (_hcm : cap ≤ 9223372036854775807) (hv : isVer v = true) (hm : Hid (m = min n 131281)) (c0 c1 c2 : Int) (c3 c4 c5 c6 : ByteArray) (c7 : Int) (s : St) (h1 : Hid ((sCmd v L ⟨0, 0, 0⟩).1 = ⟨c0, c1, c2, c3, c4, c5, c6, c7⟩)) (h2 : Hid ((sCmd v L ⟨0, 0, 0⟩).2 = s)) (h0 : s.ft ≠ 0) :
  Calls Tryz.prog 66 #[.int .i64 v, .slice (some ad) n cap] w fun e w' => e = .returned (.tuple #[.agg #[.int .i64 0, .int .i64 0, .int .i64 0, .string ⟨#[]⟩, .string ⟨#[]⟩, .string ⟨#[]⟩, .string ⟨#[]⟩, .int .i64 0], .int .i64 0, .int .i64 s.ft]) ∧ Below w.heap.size w w' := by
 have HE := hide he
 have HK := hide hK
 have HS := hide hs
 have HY := hide hy
 have hml : m ≤ 131281 := by have := hm.out; omega
 have hmt : Hid ((min (n : Int) 131281).toNat = m) := by have := hm.out; show _ = _; omega
 have g0 : (s.ft == 0) = false := by simpa using h0
 clear hs hK he hy
 clear hm
 go_enter Tryz.func66, Tryz.ntmps66
 go_wp2_with fail
 refine (isVersion_any v _).mono ?_
 rintro e w0 ⟨rfl, rfl⟩
 rw [hv]
 clear hv
 go_wp2_with fail
 rw [hmt.out]
 clear hmt
 refine (newReader_any (some ad) m cap L a _ (by exact HS.out.below ((Below.refl _ w).alloc zN _) zN) HY.out (HE.out.below ((Below.refl _ w).alloc zN _) zN) (by omega) (by intro q; cases q)).mono ?_
 rintro e w1 ⟨b, sa', cap', rfl, hb, B1, R1, _⟩
 have hw1 : w.heap.size < w1.heap.size := by have := B1.size; simp at this; omega
 have hwb : w.heap.size < b := by simp at hb; omega
 have hlb := R1.lt
 have HR1 := hide R1
 have HB1 := hide B1
 clear R1 B1 hb
 have S1 := hide (scs_new 132 HR1.out)
 have K1 : Hid (Knd (w1.alloc (.cells #[.pointer (some ⟨b, 0, none⟩), .int .i64 0] 132))) := ((HK.out.below ((Below.refl _ w).alloc zN _) zN).below HB1.out zN).below ((Below.refl _ w1).alloc zN _) zN
 have X1 : Hid (Bx (w1.alloc (.cells #[.pointer (some ⟨b, 0, none⟩), .int .i64 0] 132)) w.heap.size zeroC) := ((bx_new w 27 0 0 0 ⟨#[]⟩ ⟨#[]⟩ ⟨#[]⟩ ⟨#[]⟩ 0).of_block (HB1.out.block w.heap.size (by simp))).of_block (Below.block ((Below.refl w1.heap.size w1).alloc zN _) w.heap.size hw1)
 have Y1 : Hid (Below w.heap.size w (w1.alloc (.cells #[.pointer (some ⟨b, 0, none⟩), .int .i64 0] 132))) := (low_on ((Below.refl _ w).alloc zN _) HB1.out (by simp)).alloc (by omega) _
 clear HR1 HB1 HK HE HS HY
 go_wp2_with fail
 refine (command_scn w1.heap.size b _ _ _ L a v ⟨0, 0, 0⟩ _ (by exact K1.out) (by exact S1.out)).mono ?_
 rintro e w2 ⟨rfl, T2, S2⟩
 rw [h1.out]
 rw [h2.out] at S2
 have X2 := hide (X1.out.turn T2 (by omega) (by omega))
 have Y2 : Hid (Below w.heap.size w w2) := T2.below Y1.out (by omega) (by omega) Y1.out.size
 have a0 := S2.ptr
 have a1 := S2.fault
 have hl2 := S2.lt
 have HS2 := hide S2
 clear S2 T2 X1 Y1 S1 K1
 have hl3 : w.heap.size < w2.heap.size := by omega
 clear h0 HS2
 have r0 : w2.cell? ⟨w.heap.size, 0, none⟩ = some (.int .i64 0) := X2.out.box.1
 have fr0 : w2.frozen? ⟨w.heap.size, 0, none⟩ = false := X2.out.thaw 0
 have r1 : w2.cell? ⟨w.heap.size, 1, none⟩ = some (.int .i64 0) := X2.out.box.2.1
 have fr1 : w2.frozen? ⟨w.heap.size, 1, none⟩ = false := X2.out.thaw 1
 have r2 : w2.cell? ⟨w.heap.size, 2, none⟩ = some (.int .i64 0) := X2.out.box.2.2.1
 have fr2 : w2.frozen? ⟨w.heap.size, 2, none⟩ = false := X2.out.thaw 2
 have r3 : w2.cell? ⟨w.heap.size, 3, none⟩ = some (.string ⟨#[]⟩) := X2.out.box.2.2.2.1
 have fr3 : w2.frozen? ⟨w.heap.size, 3, none⟩ = false := X2.out.thaw 3
 have r4 : w2.cell? ⟨w.heap.size, 4, none⟩ = some (.string ⟨#[]⟩) := X2.out.box.2.2.2.2.1
 have fr4 : w2.frozen? ⟨w.heap.size, 4, none⟩ = false := X2.out.thaw 4
 have r5 : w2.cell? ⟨w.heap.size, 5, none⟩ = some (.string ⟨#[]⟩) := X2.out.box.2.2.2.2.2.1
 have fr5 : w2.frozen? ⟨w.heap.size, 5, none⟩ = false := X2.out.thaw 5
 have r6 : w2.cell? ⟨w.heap.size, 6, none⟩ = some (.string ⟨#[]⟩) := X2.out.box.2.2.2.2.2.2.1
 have fr6 : w2.frozen? ⟨w.heap.size, 6, none⟩ = false := X2.out.thaw 6
 have r7 : w2.cell? ⟨w.heap.size, 7, none⟩ = some (.int .i64 0) := X2.out.box.2.2.2.2.2.2.2
 have fr7 : w2.frozen? ⟨w.heap.size, 7, none⟩ = false := X2.out.thaw 7
 go_wp2
 go_region
 go_wp2
 refine bodyPost_ret (v := .tuple #[.agg #[.int .i64 0, .int .i64 0, .int .i64 0, .string ⟨#[]⟩, .string ⟨#[]⟩, .string ⟨#[]⟩, .string ⟨#[]⟩, .int .i64 0], .int .i64 0, .int .i64 s.ft]) (by simp [results, Tryz.results66, go_sem, *]) rfl ⟨rfl, ?_⟩
 refine low_new ?_ _
 iterate 8 refine set_low ?_ _ _
 exact Y2.out
theorem decode_badN (n cap m : Nat) (L : List Int) (a : Nat → Addr) (v : Int) (w : World) (hs : Seg w none m L) (hy : Byt L) (he : Errs w a) (hK : Knd w) (hc : n ≤ cap) (hcm : cap ≤ 9223372036854775807) (hv : isVer v = true) (hm : Hid (m = min n 131281)) (hn : n = 0) (c0 c1 c2 : Int) (c3 c4 c5 c6 : ByteArray) (c7 : Int) (s : St) (h1 : Hid ((sCmd v L ⟨0, 0, 0⟩).1 = ⟨c0, c1, c2, c3, c4, c5, c6, c7⟩)) (h2 : Hid ((sCmd v L ⟨0, 0, 0⟩).2 = s)) (h0 : s.ft ≠ 0) :
  Calls Tryz.prog 66 #[.int .i64 v, .slice none n cap] w fun e w' => e = .returned (.tuple #[.agg #[.int .i64 0, .int .i64 0, .int .i64 0, .string ⟨#[]⟩, .string ⟨#[]⟩, .string ⟨#[]⟩, .string ⟨#[]⟩, .int .i64 0], .int .i64 0, .int .i64 s.ft]) ∧ Below w.heap.size w w' := by
 subst hn
 obtain rfl : m = 0 := hm.out
 have HE := hide he
 have HK := hide hK
 have HS := hide hs
 have HY := hide hy
 have hml : (0 : Nat) ≤ 131281 := by omega
 have g0 : (s.ft == 0) = false := by simpa using h0
 clear hs hK he hy
 go_enter Tryz.func66, Tryz.ntmps66
 go_wp2_with fail
 refine (isVersion_any v _).mono ?_
 rintro e w0 ⟨rfl, rfl⟩
 rw [hv]
 clear hv
 go_wp2_with fail
 refine (newReader_any none 0 cap L a _ (by exact HS.out.below ((Below.refl _ w).alloc zN _) zN) HY.out (HE.out.below ((Below.refl _ w).alloc zN _) zN) (by omega) (by intro _; rfl)).mono ?_
 rintro e w1 ⟨b, sa', cap', rfl, hb, B1, R1, _⟩
 have hw1 : w.heap.size < w1.heap.size := by have := B1.size; simp at this; omega
 have hwb : w.heap.size < b := by simp at hb; omega
 have hlb := R1.lt
 have HR1 := hide R1
 have HB1 := hide B1
 clear R1 B1 hb
 have S1 := hide (scs_new 132 HR1.out)
 have K1 : Hid (Knd (w1.alloc (.cells #[.pointer (some ⟨b, 0, none⟩), .int .i64 0] 132))) := ((HK.out.below ((Below.refl _ w).alloc zN _) zN).below HB1.out zN).below ((Below.refl _ w1).alloc zN _) zN
 have X1 : Hid (Bx (w1.alloc (.cells #[.pointer (some ⟨b, 0, none⟩), .int .i64 0] 132)) w.heap.size zeroC) := ((bx_new w 27 0 0 0 ⟨#[]⟩ ⟨#[]⟩ ⟨#[]⟩ ⟨#[]⟩ 0).of_block (HB1.out.block w.heap.size (by simp))).of_block (Below.block ((Below.refl w1.heap.size w1).alloc zN _) w.heap.size hw1)
 have Y1 : Hid (Below w.heap.size w (w1.alloc (.cells #[.pointer (some ⟨b, 0, none⟩), .int .i64 0] 132))) := (low_on ((Below.refl _ w).alloc zN _) HB1.out (by simp)).alloc (by omega) _
 clear HR1 HB1 HK HE HS HY
 go_wp2_with fail
 refine (command_scn w1.heap.size b _ _ _ L a v ⟨0, 0, 0⟩ _ (by exact K1.out) (by exact S1.out)).mono ?_
 rintro e w2 ⟨rfl, T2, S2⟩
 rw [h1.out]
 rw [h2.out] at S2
 have X2 := hide (X1.out.turn T2 (by omega) (by omega))
 have Y2 : Hid (Below w.heap.size w w2) := T2.below Y1.out (by omega) (by omega) Y1.out.size
 have a0 := S2.ptr
 have a1 := S2.fault
 have hl2 := S2.lt
 have HS2 := hide S2
 clear S2 T2 X1 Y1 S1 K1
 have hl3 : w.heap.size < w2.heap.size := by omega
 clear h0 HS2
 have r0 : w2.cell? ⟨w.heap.size, 0, none⟩ = some (.int .i64 0) := X2.out.box.1
 have fr0 : w2.frozen? ⟨w.heap.size, 0, none⟩ = false := X2.out.thaw 0
 have r1 : w2.cell? ⟨w.heap.size, 1, none⟩ = some (.int .i64 0) := X2.out.box.2.1
 have fr1 : w2.frozen? ⟨w.heap.size, 1, none⟩ = false := X2.out.thaw 1
 have r2 : w2.cell? ⟨w.heap.size, 2, none⟩ = some (.int .i64 0) := X2.out.box.2.2.1
 have fr2 : w2.frozen? ⟨w.heap.size, 2, none⟩ = false := X2.out.thaw 2
 have r3 : w2.cell? ⟨w.heap.size, 3, none⟩ = some (.string ⟨#[]⟩) := X2.out.box.2.2.2.1
 have fr3 : w2.frozen? ⟨w.heap.size, 3, none⟩ = false := X2.out.thaw 3
 have r4 : w2.cell? ⟨w.heap.size, 4, none⟩ = some (.string ⟨#[]⟩) := X2.out.box.2.2.2.2.1
 have fr4 : w2.frozen? ⟨w.heap.size, 4, none⟩ = false := X2.out.thaw 4
 have r5 : w2.cell? ⟨w.heap.size, 5, none⟩ = some (.string ⟨#[]⟩) := X2.out.box.2.2.2.2.2.1
 have fr5 : w2.frozen? ⟨w.heap.size, 5, none⟩ = false := X2.out.thaw 5
 have r6 : w2.cell? ⟨w.heap.size, 6, none⟩ = some (.string ⟨#[]⟩) := X2.out.box.2.2.2.2.2.2.1
 have fr6 : w2.frozen? ⟨w.heap.size, 6, none⟩ = false := X2.out.thaw 6
 have r7 : w2.cell? ⟨w.heap.size, 7, none⟩ = some (.int .i64 0) := X2.out.box.2.2.2.2.2.2.2
 have fr7 : w2.frozen? ⟨w.heap.size, 7, none⟩ = false := X2.out.thaw 7
 go_wp2
 go_region
 go_wp2
 refine bodyPost_ret (v := .tuple #[.agg #[.int .i64 0, .int .i64 0, .int .i64 0, .string ⟨#[]⟩, .string ⟨#[]⟩, .string ⟨#[]⟩, .string ⟨#[]⟩, .int .i64 0], .int .i64 0, .int .i64 s.ft]) (by simp [results, Tryz.results66, go_sem, *]) rfl ⟨rfl, ?_⟩
 refine low_new ?_ _
 iterate 8 refine set_low ?_ _ _
 exact Y2.out
theorem decode_any (sa : Option Addr) (n cap : Nat) (l : List Int) (a : Nat → Addr) (v : Int) (w : World) (hs : Seg w sa n l) (hy : Byt l) (he : Errs w a) (hK : Knd w) (hc : n ≤ cap) (hcm : cap ≤ 9223372036854775807) (hnone : sa = none → n = 0) :
  Calls Tryz.prog 66 #[.int .i64 v, .slice sa n cap] w fun e w' => e = .returned (.tuple #[.agg #[.int .i64 (decC v l).1.kind, .int .i64 (decC v l).1.client, .int .i64 (decC v l).1.req, .string (decC v l).1.key, .string (decC v l).1.key2, .string (decC v l).1.val, .string (decC v l).1.old, .int .i64 (decC v l).1.n], .int .i64 ((decC v l).2.1 : Nat), .int .i64 (decC v l).2.2]) ∧ Below w.heap.size w w' := by
 cases hv : isVer v with
 | false =>
  have e : decC v l = (zeroC, 0, 2) := by unfold decC; rw [hv]; rfl
  rw [e]
  exact decode_ver sa n cap v w hv
 | true =>
  have hL : l.take (min n 131281) = l.take 131281 := by
   rcases Nat.le_total n 131281 with h | h
   ·rw [Nat.min_eq_left h, List.take_of_length_le (by rw [hs.1]; exact Nat.le_refl _), List.take_of_length_le (by rw [hs.1]; exact h)]
   ·rw [Nat.min_eq_right h]
  have hs' : Seg w sa (min n 131281) (l.take 131281) := by rw [← hL]; exact hs.take (Nat.min_le_left _ _)
  have hy' : Byt (l.take 131281) := fun z hz => hy z (List.mem_of_mem_take hz)
  obtain ⟨⟨c0, c1, c2, c3, c4, c5, c6, c7⟩, hc1⟩ : ∃ c, (sCmd v (l.take 131281) ⟨0, 0, 0⟩).1 = c := ⟨_, rfl⟩
  obtain ⟨s, hs1⟩ : ∃ s, (sCmd v (l.take 131281) ⟨0, 0, 0⟩).2 = s := ⟨_, rfl⟩
  by_cases h0 : s.ft = 0
  ·have e : decC v l = (⟨c0, c1, c2, c3, c4, c5, c6, c7⟩, s.k, 0) := by unfold decC; rw [hv, hc1, hs1, if_pos rfl, if_pos h0]
   rw [e]
   cases sa with
   | none => exact decode_goodN n cap _ _ a v w hs' hy' he hK hc hcm hv rfl (hnone rfl) _ _ _ _ _ _ _ _ s hc1 hs1 h0
   | some ad => exact decode_good ad n cap _ _ a v w hs' hy' he hK hc hcm hv rfl _ _ _ _ _ _ _ _ s hc1 hs1 h0
  ·have e : decC v l = (zeroC, 0, s.ft) := by unfold decC; rw [hv, hs1, if_pos rfl, if_neg h0]
   rw [e]
   cases sa with
   | none => exact decode_badN n cap _ _ a v w hs' hy' he hK hc hcm hv rfl (hnone rfl) _ _ _ _ _ _ _ _ s hc1 hs1 h0
   | some ad => exact decode_bad ad n cap _ _ a v w hs' hy' he hK hc hcm hv rfl _ _ _ _ _ _ _ _ s hc1 hs1 h0
end Go.Proofs.YtibfdoggolkljaaGreatDoor
