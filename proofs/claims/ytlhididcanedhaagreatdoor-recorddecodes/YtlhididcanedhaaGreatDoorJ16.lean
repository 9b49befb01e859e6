/- Texts of the proof, joined. -/
import Derived.Test.YtlhididcanedhaaGreatDoorJ15
/- The contract of Decode. -/
namespace Go.Proofs.YtlhididcanedhaaGreatDoor
open Go.RowKit Go.Wire1

theorem scs_new {w : World} {b : Nat} {sa : Option Addr} {n cap k : Nat} {f : Int} {l : List Int} {a : Nat → Addr} (T : TypeId) (h : Rdr w b sa n cap k f l a) :
    Scs (w.alloc (.cells #[.pointer (some ⟨b, 0, none⟩), .int .i64 0] T)) w.heap.size b sa n cap l a ⟨k, f, 0⟩ := by
  have hb := h.lt
  have h5 := h.ready.five
  refine ⟨?_, ?_, World.frozen?_alloc_at _ _ _ _ rfl, h.below ((Below.refl _ w).alloc (Nat.le_refl _) _) (Nat.le_refl _), by omega, fun x hx hn => by have := h.ready.seg.lt hn hx; omega, fun i hi => by have := h.ready.errs.lt i hi; omega, by omega⟩
  · rw [World.cell?_alloc_at _ _ _ _ rfl]; rfl
  · rw [World.cell?_alloc_at _ _ _ _ rfl]; rfl
theorem set_low {w W : World} (h : Below w.heap.size w W) (o : Nat) (u : Value) : Below w.heap.size w (W.setCell ⟨w.heap.size, o, none⟩ u) :=
  ⟨h.os, h.tape, h.output, by simpa [World.setCell] using h.size, fun i hi => (Below.heap_setCell _ _ _ _ (by show i ≠ w.heap.size; omega)).trans (h.block i hi)⟩

theorem low_on {B C : Nat} {x y z : World} (h : Below B x y) (k : Below C y z) (hC : B ≤ C) : Below B x z :=
  ⟨k.os.trans h.os, k.tape.trans h.tape, k.output.trans h.output, Nat.le_trans h.size k.size, fun i hi => (k.block i (by omega)).trans (h.block i hi)⟩
theorem low_drewN {B : Nat} {x y : World} (h : Below B x y) (q : Nat) : Below B x (y.drewN q) := ⟨h.os, h.tape, h.output, h.size, h.block⟩
theorem low_new {w W : World} (h : Below w.heap.size w W) (o : Obj) : Below w.heap.size w (W.alloc o).drew :=
  have k := h.alloc h.size o
  ⟨k.os, k.tape, k.output, k.size, k.block⟩

/-- Decode's answer. -/
def decC (v : Int) (l : List Int) : Cm × Nat × Int :=
  if isVer v then (if (sCmd v (l.take 131281) ⟨0, 0, 0⟩).2.ft = 0 then ((sCmd v (l.take 131281) ⟨0, 0, 0⟩).1, (sCmd v (l.take 131281) ⟨0, 0, 0⟩).2.k, 0) else (zeroC, 0, (sCmd v (l.take 131281) ⟨0, 0, 0⟩).2.ft)) else (zeroC, 0, 2)

set_option maxHeartbeats 400000 in
set_option maxRecDepth 100000 in
theorem decode_ver (sa : Option Addr) (n cap : Nat) (v : Int) (w : World) (hv : isVer v = false) :
    Calls Tryz.prog 89 #[.int .i64 v, .slice sa n cap] w fun e w' => e = .returned (.tuple #[.agg #[.int .i64 zeroC.kind, .int .i64 zeroC.client, .int .i64 zeroC.req, .string zeroC.key, .string zeroC.key2, .string zeroC.val, .string zeroC.old, .int .i64 zeroC.n], .int .i64 0, .int .i64 2]) ∧ Below w.heap.size w w' := by
  go_enter Tryz.func89, Tryz.ntmps89
  go_wp2_with fail
  refine (isVersion_any v _).mono ?_
  rintro e w1 ⟨rfl, rfl⟩
  rw [hv]
  clear hv
  go_wp2
  refine bodyPost_ret (v := .tuple #[.agg #[.int .i64 zeroC.kind, .int .i64 zeroC.client, .int .i64 zeroC.req, .string zeroC.key, .string zeroC.key2, .string zeroC.val, .string zeroC.old, .int .i64 zeroC.n], .int .i64 0, .int .i64 2]) (by simp [results, Tryz.results89, go_sem, zeroC]) rfl ⟨rfl, ?_⟩
  first
    | exact (Below.refl _ _).alloc (Nat.le_refl _) _
    | (iterate 8 refine set_low ?_ _ _); exact (Below.refl _ _).alloc (Nat.le_refl _) _

set_option maxHeartbeats 2000000 in
set_option maxRecDepth 100000 in
theorem decode_good (ad : Addr) (n cap m : Nat) (L : List Int) (a : Nat → Addr) (v : Int) (w : World) (hs : Seg w (some ad) m L) (hy : Byt L) (he : Errs w a) (hK : Knd w) (hc : n ≤ cap) (_hcm : cap ≤ 9223372036854775807) (hv : isVer v = true) (hm : Hid (m = min n 131281)) (c0 c1 c2 : Int) (c3 c4 c5 c6 : ByteArray) (c7 : Int) (s : St) (h1 : Hid ((sCmd v L ⟨0, 0, 0⟩).1 = ⟨c0, c1, c2, c3, c4, c5, c6, c7⟩)) (h2 : Hid ((sCmd v L ⟨0, 0, 0⟩).2 = s)) (h0 : s.ft = 0) :
    Calls Tryz.prog 89 #[.int .i64 v, .slice (some ad) n cap] w fun e w' => e = .returned (.tuple #[.agg #[.int .i64 c0, .int .i64 c1, .int .i64 c2, .string c3, .string c4, .string c5, .string c6, .int .i64 c7], .int .i64 (s.k : Int), .int .i64 0]) ∧ Below w.heap.size w w' := by
  have HE := hide he
  have HK := hide hK
  have HS := hide hs
  have HY := hide hy
  have hml : m ≤ 131281 := by have := hm.out; omega
  have hmt : Hid ((min (n : Int) 131281).toNat = m) := by have := hm.out; show _ = _; omega
  clear hs hK he hy
  clear hm
  go_enter Tryz.func89, Tryz.ntmps89
  go_wp2_with fail
  refine (isVersion_any v _).mono ?_
  rintro e w0 ⟨rfl, rfl⟩
  rw [hv]
  clear hv
  go_wp2_with fail
  rw [hmt.out]
  clear hmt
  refine (newReader_any (some ad) m cap L a _ (by exact HS.out.below ((Below.refl _ w).alloc (Nat.le_refl _) _) (Nat.le_refl _)) HY.out (HE.out.below ((Below.refl _ w).alloc (Nat.le_refl _) _) (Nat.le_refl _)) (by omega) (by intro q; cases q)).mono ?_
  rintro e w1 ⟨b, sa', cap', rfl, hb, B1, R1, _⟩
  have hw1 : w.heap.size < w1.heap.size := by have := B1.size; simp at this; omega
  have hwb : w.heap.size < b := by simp at hb; omega
  have hlb := R1.lt
  have HR1 := hide R1
  have HB1 := hide B1
  clear R1 B1 hb
  have S1 := hide (scs_new 145 HR1.out)
  have K1 : Hid (Knd (w1.alloc (.cells #[.pointer (some ⟨b, 0, none⟩), .int .i64 0] 145))) := ((HK.out.below ((Below.refl _ w).alloc (Nat.le_refl _) _) (Nat.le_refl _)).below HB1.out (Nat.le_refl _)).below ((Below.refl _ w1).alloc (Nat.le_refl _) _) (Nat.le_refl _)
  have X1 : Hid (Bx (w1.alloc (.cells #[.pointer (some ⟨b, 0, none⟩), .int .i64 0] 145)) w.heap.size zeroC) := ((bx_new w 27 0 0 0 ⟨#[]⟩ ⟨#[]⟩ ⟨#[]⟩ ⟨#[]⟩ 0).of_block (HB1.out.block w.heap.size (by simp))).of_block (Below.block ((Below.refl w1.heap.size w1).alloc (Nat.le_refl _) _) w.heap.size hw1)
  have Y1 : Hid (Below w.heap.size w (w1.alloc (.cells #[.pointer (some ⟨b, 0, none⟩), .int .i64 0] 145))) := (low_on ((Below.refl _ w).alloc (Nat.le_refl _) _) HB1.out (by simp)).alloc (by omega) _
  clear HR1 HB1 HK HE HS HY
  go_wp2_with fail
  refine (command_scn w1.heap.size b _ _ _ L a v ⟨0, 0, 0⟩ _ (by exact K1.out) (by exact S1.out)).mono ?_
  rintro e w2 ⟨rfl, T2, S2⟩
  rw [h1.out]
  rw [h2.out] at S2
  have X2 := hide (X1.out.turn T2 (by omega) (by omega))
  have Y2 : Hid (Below w.heap.size w w2) := T2.below Y1.out (by omega) (by omega) Y1.out.size
  have a0 := S2.ptr
  have a1 := S2.fault
  have hl2 := S2.lt
  have HS2 := hide S2
  clear S2 T2 X1 Y1 S1 K1
  rw [h0] at a1
  clear h0
  go_wp2_with fail
  refine (err_any b _ _ _ _ _ L a _ (by exact HS2.out.rdr.below ((Below.refl _ w2).alloc (Nat.le_refl _) _) (Nat.le_refl _))).mono ?_
  rintro e w3 ⟨rfl, q, hq⟩
  have hl3 : w.heap.size < w2.heap.size := by omega
  have N3 : Hid (Bx w3 w2.heap.size ⟨c0, c1, c2, c3, c4, c5, c6, c7⟩) := by rw [hq]; exact (bx_new w2 27 c0 c1 c2 c3 c4 c5 c6 c7).of_block rfl
  have X3 : Hid (Bx w3 w.heap.size zeroC) := by rw [hq]; exact X2.out.of_block (Below.block ((Below.refl w2.heap.size w2).alloc (Nat.le_refl _) _) w.heap.size hl3)
  have Y3 : Hid (Below w.heap.size w w3) := by rw [hq]; exact low_drewN (Y2.out.alloc (by omega) _) q
  clear hq X2 Y2 a0 a1 HS2
  have hl4 : w2.heap.size < w3.heap.size := N3.out.lt
  have b0 : w3.cell? ⟨w2.heap.size, 0, none⟩ = some (.int .i64 c0) := N3.out.box.1
  have b1 : w3.cell? ⟨w2.heap.size, 1, none⟩ = some (.int .i64 c1) := N3.out.box.2.1
  have b2 : w3.cell? ⟨w2.heap.size, 2, none⟩ = some (.int .i64 c2) := N3.out.box.2.2.1
  have b3 : w3.cell? ⟨w2.heap.size, 3, none⟩ = some (.string c3) := N3.out.box.2.2.2.1
  have b4 : w3.cell? ⟨w2.heap.size, 4, none⟩ = some (.string c4) := N3.out.box.2.2.2.2.1
  have b5 : w3.cell? ⟨w2.heap.size, 5, none⟩ = some (.string c5) := N3.out.box.2.2.2.2.2.1
  have b6 : w3.cell? ⟨w2.heap.size, 6, none⟩ = some (.string c6) := N3.out.box.2.2.2.2.2.2.1
  have b7 : w3.cell? ⟨w2.heap.size, 7, none⟩ = some (.int .i64 c7) := N3.out.box.2.2.2.2.2.2.2
  have r0 : w3.cell? ⟨w.heap.size, 0, none⟩ = some (.int .i64 0) := X3.out.box.1
  have fr0 : w3.frozen? ⟨w.heap.size, 0, none⟩ = false := X3.out.thaw 0
  have r1 : w3.cell? ⟨w.heap.size, 1, none⟩ = some (.int .i64 0) := X3.out.box.2.1
  have fr1 : w3.frozen? ⟨w.heap.size, 1, none⟩ = false := X3.out.thaw 1
  have r2 : w3.cell? ⟨w.heap.size, 2, none⟩ = some (.int .i64 0) := X3.out.box.2.2.1
  have fr2 : w3.frozen? ⟨w.heap.size, 2, none⟩ = false := X3.out.thaw 2
  have r3 : w3.cell? ⟨w.heap.size, 3, none⟩ = some (.string ⟨#[]⟩) := X3.out.box.2.2.2.1
  have fr3 : w3.frozen? ⟨w.heap.size, 3, none⟩ = false := X3.out.thaw 3
  have r4 : w3.cell? ⟨w.heap.size, 4, none⟩ = some (.string ⟨#[]⟩) := X3.out.box.2.2.2.2.1
  have fr4 : w3.frozen? ⟨w.heap.size, 4, none⟩ = false := X3.out.thaw 4
  have r5 : w3.cell? ⟨w.heap.size, 5, none⟩ = some (.string ⟨#[]⟩) := X3.out.box.2.2.2.2.2.1
  have fr5 : w3.frozen? ⟨w.heap.size, 5, none⟩ = false := X3.out.thaw 5
  have r6 : w3.cell? ⟨w.heap.size, 6, none⟩ = some (.string ⟨#[]⟩) := X3.out.box.2.2.2.2.2.2.1
  have fr6 : w3.frozen? ⟨w.heap.size, 6, none⟩ = false := X3.out.thaw 6
  have r7 : w3.cell? ⟨w.heap.size, 7, none⟩ = some (.int .i64 0) := X3.out.box.2.2.2.2.2.2.2
  have fr7 : w3.frozen? ⟨w.heap.size, 7, none⟩ = false := X3.out.thaw 7
  go_wp2
  refine bodyPost_ret (v := .tuple #[.agg #[.int .i64 c0, .int .i64 c1, .int .i64 c2, .string c3, .string c4, .string c5, .string c6, .int .i64 c7], .int .i64 (s.k : Int), .int .i64 0]) (by simp [results, Tryz.results89, go_sem, *]) rfl ⟨rfl, ?_⟩
  iterate 8 refine set_low ?_ _ _
  exact Y3.out

set_option maxHeartbeats 2000000 in
set_option maxRecDepth 100000 in
theorem decode_goodN (n cap m : Nat) (L : List Int) (a : Nat → Addr) (v : Int) (w : World) (hs : Seg w none m L) (hy : Byt L) (he : Errs w a) (hK : Knd w) (hc : n ≤ cap) (hcm : cap ≤ 9223372036854775807) (hv : isVer v = true) (hm : Hid (m = min n 131281)) (hn : n = 0) (c0 c1 c2 : Int) (c3 c4 c5 c6 : ByteArray) (c7 : Int) (s : St) (h1 : Hid ((sCmd v L ⟨0, 0, 0⟩).1 = ⟨c0, c1, c2, c3, c4, c5, c6, c7⟩)) (h2 : Hid ((sCmd v L ⟨0, 0, 0⟩).2 = s)) (h0 : s.ft = 0) :
    Calls Tryz.prog 89 #[.int .i64 v, .slice none n cap] w fun e w' => e = .returned (.tuple #[.agg #[.int .i64 c0, .int .i64 c1, .int .i64 c2, .string c3, .string c4, .string c5, .string c6, .int .i64 c7], .int .i64 (s.k : Int), .int .i64 0]) ∧ Below w.heap.size w w' := by
  subst hn
  obtain rfl : m = 0 := hm.out
  have HE := hide he
  have HK := hide hK
  have HS := hide hs
  have HY := hide hy
  have hml : (0 : Nat) ≤ 131281 := by omega
  clear hs hK he hy
  go_enter Tryz.func89, Tryz.ntmps89
  go_wp2_with fail
  refine (isVersion_any v _).mono ?_
  rintro e w0 ⟨rfl, rfl⟩
  rw [hv]
  clear hv
  go_wp2_with fail
  refine (newReader_any none 0 cap L a _ (by exact HS.out.below ((Below.refl _ w).alloc (Nat.le_refl _) _) (Nat.le_refl _)) HY.out (HE.out.below ((Below.refl _ w).alloc (Nat.le_refl _) _) (Nat.le_refl _)) (by omega) (by intro _; rfl)).mono ?_
  rintro e w1 ⟨b, sa', cap', rfl, hb, B1, R1, _⟩
  have hw1 : w.heap.size < w1.heap.size := by have := B1.size; simp at this; omega
  have hwb : w.heap.size < b := by simp at hb; omega
  have hlb := R1.lt
  have HR1 := hide R1
  have HB1 := hide B1
  clear R1 B1 hb
  have S1 := hide (scs_new 145 HR1.out)
  have K1 : Hid (Knd (w1.alloc (.cells #[.pointer (some ⟨b, 0, none⟩), .int .i64 0] 145))) := ((HK.out.below ((Below.refl _ w).alloc (Nat.le_refl _) _) (Nat.le_refl _)).below HB1.out (Nat.le_refl _)).below ((Below.refl _ w1).alloc (Nat.le_refl _) _) (Nat.le_refl _)
  have X1 : Hid (Bx (w1.alloc (.cells #[.pointer (some ⟨b, 0, none⟩), .int .i64 0] 145)) w.heap.size zeroC) := ((bx_new w 27 0 0 0 ⟨#[]⟩ ⟨#[]⟩ ⟨#[]⟩ ⟨#[]⟩ 0).of_block (HB1.out.block w.heap.size (by simp))).of_block (Below.block ((Below.refl w1.heap.size w1).alloc (Nat.le_refl _) _) w.heap.size hw1)
  have Y1 : Hid (Below w.heap.size w (w1.alloc (.cells #[.pointer (some ⟨b, 0, none⟩), .int .i64 0] 145))) := (low_on ((Below.refl _ w).alloc (Nat.le_refl _) _) HB1.out (by simp)).alloc (by omega) _
  clear HR1 HB1 HK HE HS HY
  go_wp2_with fail
  refine (command_scn w1.heap.size b _ _ _ L a v ⟨0, 0, 0⟩ _ (by exact K1.out) (by exact S1.out)).mono ?_
  rintro e w2 ⟨rfl, T2, S2⟩
  rw [h1.out]
  rw [h2.out] at S2
  have X2 := hide (X1.out.turn T2 (by omega) (by omega))
  have Y2 : Hid (Below w.heap.size w w2) := T2.below Y1.out (by omega) (by omega) Y1.out.size
  have a0 := S2.ptr
  have a1 := S2.fault
  have hl2 := S2.lt
  have HS2 := hide S2
  clear S2 T2 X1 Y1 S1 K1
  rw [h0] at a1
  clear h0
  go_wp2_with fail
  refine (err_any b _ _ _ _ _ L a _ (by exact HS2.out.rdr.below ((Below.refl _ w2).alloc (Nat.le_refl _) _) (Nat.le_refl _))).mono ?_
  rintro e w3 ⟨rfl, q, hq⟩
  have hl3 : w.heap.size < w2.heap.size := by omega
  have N3 : Hid (Bx w3 w2.heap.size ⟨c0, c1, c2, c3, c4, c5, c6, c7⟩) := by rw [hq]; exact (bx_new w2 27 c0 c1 c2 c3 c4 c5 c6 c7).of_block rfl
  have X3 : Hid (Bx w3 w.heap.size zeroC) := by rw [hq]; exact X2.out.of_block (Below.block ((Below.refl w2.heap.size w2).alloc (Nat.le_refl _) _) w.heap.size hl3)
  have Y3 : Hid (Below w.heap.size w w3) := by rw [hq]; exact low_drewN (Y2.out.alloc (by omega) _) q
  clear hq X2 Y2 a0 a1 HS2
  have hl4 : w2.heap.size < w3.heap.size := N3.out.lt
  have b0 : w3.cell? ⟨w2.heap.size, 0, none⟩ = some (.int .i64 c0) := N3.out.box.1
  have b1 : w3.cell? ⟨w2.heap.size, 1, none⟩ = some (.int .i64 c1) := N3.out.box.2.1
  have b2 : w3.cell? ⟨w2.heap.size, 2, none⟩ = some (.int .i64 c2) := N3.out.box.2.2.1
  have b3 : w3.cell? ⟨w2.heap.size, 3, none⟩ = some (.string c3) := N3.out.box.2.2.2.1
  have b4 : w3.cell? ⟨w2.heap.size, 4, none⟩ = some (.string c4) := N3.out.box.2.2.2.2.1
  have b5 : w3.cell? ⟨w2.heap.size, 5, none⟩ = some (.string c5) := N3.out.box.2.2.2.2.2.1
  have b6 : w3.cell? ⟨w2.heap.size, 6, none⟩ = some (.string c6) := N3.out.box.2.2.2.2.2.2.1
  have b7 : w3.cell? ⟨w2.heap.size, 7, none⟩ = some (.int .i64 c7) := N3.out.box.2.2.2.2.2.2.2
  have r0 : w3.cell? ⟨w.heap.size, 0, none⟩ = some (.int .i64 0) := X3.out.box.1
  have fr0 : w3.frozen? ⟨w.heap.size, 0, none⟩ = false := X3.out.thaw 0
  have r1 : w3.cell? ⟨w.heap.size, 1, none⟩ = some (.int .i64 0) := X3.out.box.2.1
  have fr1 : w3.frozen? ⟨w.heap.size, 1, none⟩ = false := X3.out.thaw 1
  have r2 : w3.cell? ⟨w.heap.size, 2, none⟩ = some (.int .i64 0) := X3.out.box.2.2.1
  have fr2 : w3.frozen? ⟨w.heap.size, 2, none⟩ = false := X3.out.thaw 2
  have r3 : w3.cell? ⟨w.heap.size, 3, none⟩ = some (.string ⟨#[]⟩) := X3.out.box.2.2.2.1
  have fr3 : w3.frozen? ⟨w.heap.size, 3, none⟩ = false := X3.out.thaw 3
  have r4 : w3.cell? ⟨w.heap.size, 4, none⟩ = some (.string ⟨#[]⟩) := X3.out.box.2.2.2.2.1
  have fr4 : w3.frozen? ⟨w.heap.size, 4, none⟩ = false := X3.out.thaw 4
  have r5 : w3.cell? ⟨w.heap.size, 5, none⟩ = some (.string ⟨#[]⟩) := X3.out.box.2.2.2.2.2.1
  have fr5 : w3.frozen? ⟨w.heap.size, 5, none⟩ = false := X3.out.thaw 5
  have r6 : w3.cell? ⟨w.heap.size, 6, none⟩ = some (.string ⟨#[]⟩) := X3.out.box.2.2.2.2.2.2.1
  have fr6 : w3.frozen? ⟨w.heap.size, 6, none⟩ = false := X3.out.thaw 6
  have r7 : w3.cell? ⟨w.heap.size, 7, none⟩ = some (.int .i64 0) := X3.out.box.2.2.2.2.2.2.2
  have fr7 : w3.frozen? ⟨w.heap.size, 7, none⟩ = false := X3.out.thaw 7
  go_wp2
  refine bodyPost_ret (v := .tuple #[.agg #[.int .i64 c0, .int .i64 c1, .int .i64 c2, .string c3, .string c4, .string c5, .string c6, .int .i64 c7], .int .i64 (s.k : Int), .int .i64 0]) (by simp [results, Tryz.results89, go_sem, *]) rfl ⟨rfl, ?_⟩
  iterate 8 refine set_low ?_ _ _
  exact Y3.out

set_option maxHeartbeats 2000000 in
set_option maxRecDepth 100000 in
theorem decode_bad (ad : Addr) (n cap m : Nat) (L : List Int) (a : Nat → Addr) (v : Int) (w : World) (hs : Seg w (some ad) m L) (hy : Byt L) (he : Errs w a) (hK : Knd w) (hc : n ≤ cap) (_hcm : cap ≤ 9223372036854775807) (hv : isVer v = true) (hm : Hid (m = min n 131281)) (c0 c1 c2 : Int) (c3 c4 c5 c6 : ByteArray) (c7 : Int) (s : St) (h1 : Hid ((sCmd v L ⟨0, 0, 0⟩).1 = ⟨c0, c1, c2, c3, c4, c5, c6, c7⟩)) (h2 : Hid ((sCmd v L ⟨0, 0, 0⟩).2 = s)) (h0 : s.ft ≠ 0) :
    Calls Tryz.prog 89 #[.int .i64 v, .slice (some ad) n cap] w fun e w' => e = .returned (.tuple #[.agg #[.int .i64 0, .int .i64 0, .int .i64 0, .string ⟨#[]⟩, .string ⟨#[]⟩, .string ⟨#[]⟩, .string ⟨#[]⟩, .int .i64 0], .int .i64 0, .int .i64 s.ft]) ∧ Below w.heap.size w w' := by
  have HE := hide he
  have HK := hide hK
  have HS := hide hs
  have HY := hide hy
  have hml : m ≤ 131281 := by have := hm.out; omega
  have hmt : Hid ((min (n : Int) 131281).toNat = m) := by have := hm.out; show _ = _; omega
  have g0 : (s.ft == 0) = false := by simpa using h0
  clear hs hK he hy
  clear hm
  go_enter Tryz.func89, Tryz.ntmps89
  go_wp2_with fail
  refine (isVersion_any v _).mono ?_
  rintro e w0 ⟨rfl, rfl⟩
  rw [hv]
  clear hv
  go_wp2_with fail
  rw [hmt.out]
  clear hmt
  refine (newReader_any (some ad) m cap L a _ (by exact HS.out.below ((Below.refl _ w).alloc (Nat.le_refl _) _) (Nat.le_refl _)) HY.out (HE.out.below ((Below.refl _ w).alloc (Nat.le_refl _) _) (Nat.le_refl _)) (by omega) (by intro q; cases q)).mono ?_
  rintro e w1 ⟨b, sa', cap', rfl, hb, B1, R1, _⟩
  have hw1 : w.heap.size < w1.heap.size := by have := B1.size; simp at this; omega
  have hwb : w.heap.size < b := by simp at hb; omega
  have hlb := R1.lt
  have HR1 := hide R1
  have HB1 := hide B1
  clear R1 B1 hb
  have S1 := hide (scs_new 145 HR1.out)
  have K1 : Hid (Knd (w1.alloc (.cells #[.pointer (some ⟨b, 0, none⟩), .int .i64 0] 145))) := ((HK.out.below ((Below.refl _ w).alloc (Nat.le_refl _) _) (Nat.le_refl _)).below HB1.out (Nat.le_refl _)).below ((Below.refl _ w1).alloc (Nat.le_refl _) _) (Nat.le_refl _)
  have X1 : Hid (Bx (w1.alloc (.cells #[.pointer (some ⟨b, 0, none⟩), .int .i64 0] 145)) w.heap.size zeroC) := ((bx_new w 27 0 0 0 ⟨#[]⟩ ⟨#[]⟩ ⟨#[]⟩ ⟨#[]⟩ 0).of_block (HB1.out.block w.heap.size (by simp))).of_block (Below.block ((Below.refl w1.heap.size w1).alloc (Nat.le_refl _) _) w.heap.size hw1)
  have Y1 : Hid (Below w.heap.size w (w1.alloc (.cells #[.pointer (some ⟨b, 0, none⟩), .int .i64 0] 145))) := (low_on ((Below.refl _ w).alloc (Nat.le_refl _) _) HB1.out (by simp)).alloc (by omega) _
  clear HR1 HB1 HK HE HS HY
  go_wp2_with fail
  refine (command_scn w1.heap.size b _ _ _ L a v ⟨0, 0, 0⟩ _ (by exact K1.out) (by exact S1.out)).mono ?_
  rintro e w2 ⟨rfl, T2, S2⟩
  rw [h1.out]
  rw [h2.out] at S2
  have X2 := hide (X1.out.turn T2 (by omega) (by omega))
  have Y2 : Hid (Below w.heap.size w w2) := T2.below Y1.out (by omega) (by omega) Y1.out.size
  have a0 := S2.ptr
  have a1 := S2.fault
  have hl2 := S2.lt
  have HS2 := hide S2
  clear S2 T2 X1 Y1 S1 K1
  have hl3 : w.heap.size < w2.heap.size := by omega
  clear h0 HS2
  have r0 : w2.cell? ⟨w.heap.size, 0, none⟩ = some (.int .i64 0) := X2.out.box.1
  have fr0 : w2.frozen? ⟨w.heap.size, 0, none⟩ = false := X2.out.thaw 0
  have r1 : w2.cell? ⟨w.heap.size, 1, none⟩ = some (.int .i64 0) := X2.out.box.2.1
  have fr1 : w2.frozen? ⟨w.heap.size, 1, none⟩ = false := X2.out.thaw 1
  have r2 : w2.cell? ⟨w.heap.size, 2, none⟩ = some (.int .i64 0) := X2.out.box.2.2.1
  have fr2 : w2.frozen? ⟨w.heap.size, 2, none⟩ = false := X2.out.thaw 2
  have r3 : w2.cell? ⟨w.heap.size, 3, none⟩ = some (.string ⟨#[]⟩) := X2.out.box.2.2.2.1
  have fr3 : w2.frozen? ⟨w.heap.size, 3, none⟩ = false := X2.out.thaw 3
  have r4 : w2.cell? ⟨w.heap.size, 4, none⟩ = some (.string ⟨#[]⟩) := X2.out.box.2.2.2.2.1
  have fr4 : w2.frozen? ⟨w.heap.size, 4, none⟩ = false := X2.out.thaw 4
  have r5 : w2.cell? ⟨w.heap.size, 5, none⟩ = some (.string ⟨#[]⟩) := X2.out.box.2.2.2.2.2.1
  have fr5 : w2.frozen? ⟨w.heap.size, 5, none⟩ = false := X2.out.thaw 5
  have r6 : w2.cell? ⟨w.heap.size, 6, none⟩ = some (.string ⟨#[]⟩) := X2.out.box.2.2.2.2.2.2.1
  have fr6 : w2.frozen? ⟨w.heap.size, 6, none⟩ = false := X2.out.thaw 6
  have r7 : w2.cell? ⟨w.heap.size, 7, none⟩ = some (.int .i64 0) := X2.out.box.2.2.2.2.2.2.2
  have fr7 : w2.frozen? ⟨w.heap.size, 7, none⟩ = false := X2.out.thaw 7
  go_wp2
  go_region
  go_wp2
  refine bodyPost_ret (v := .tuple #[.agg #[.int .i64 0, .int .i64 0, .int .i64 0, .string ⟨#[]⟩, .string ⟨#[]⟩, .string ⟨#[]⟩, .string ⟨#[]⟩, .int .i64 0], .int .i64 0, .int .i64 s.ft]) (by simp [results, Tryz.results89, go_sem, *]) rfl ⟨rfl, ?_⟩
  refine low_new ?_ _
  iterate 8 refine set_low ?_ _ _
  exact Y2.out

set_option maxHeartbeats 2000000 in
set_option maxRecDepth 100000 in
theorem decode_badN (n cap m : Nat) (L : List Int) (a : Nat → Addr) (v : Int) (w : World) (hs : Seg w none m L) (hy : Byt L) (he : Errs w a) (hK : Knd w) (hc : n ≤ cap) (hcm : cap ≤ 9223372036854775807) (hv : isVer v = true) (hm : Hid (m = min n 131281)) (hn : n = 0) (c0 c1 c2 : Int) (c3 c4 c5 c6 : ByteArray) (c7 : Int) (s : St) (h1 : Hid ((sCmd v L ⟨0, 0, 0⟩).1 = ⟨c0, c1, c2, c3, c4, c5, c6, c7⟩)) (h2 : Hid ((sCmd v L ⟨0, 0, 0⟩).2 = s)) (h0 : s.ft ≠ 0) :
    Calls Tryz.prog 89 #[.int .i64 v, .slice none n cap] w fun e w' => e = .returned (.tuple #[.agg #[.int .i64 0, .int .i64 0, .int .i64 0, .string ⟨#[]⟩, .string ⟨#[]⟩, .string ⟨#[]⟩, .string ⟨#[]⟩, .int .i64 0], .int .i64 0, .int .i64 s.ft]) ∧ Below w.heap.size w w' := by
  subst hn
  obtain rfl : m = 0 := hm.out
  have HE := hide he
  have HK := hide hK
  have HS := hide hs
  have HY := hide hy
  have hml : (0 : Nat) ≤ 131281 := by omega
  have g0 : (s.ft == 0) = false := by simpa using h0
  clear hs hK he hy
  go_enter Tryz.func89, Tryz.ntmps89
  go_wp2_with fail
  refine (isVersion_any v _).mono ?_
  rintro e w0 ⟨rfl, rfl⟩
  rw [hv]
  clear hv
  go_wp2_with fail
  refine (newReader_any none 0 cap L a _ (by exact HS.out.below ((Below.refl _ w).alloc (Nat.le_refl _) _) (Nat.le_refl _)) HY.out (HE.out.below ((Below.refl _ w).alloc (Nat.le_refl _) _) (Nat.le_refl _)) (by omega) (by intro _; rfl)).mono ?_
  rintro e w1 ⟨b, sa', cap', rfl, hb, B1, R1, _⟩
  have hw1 : w.heap.size < w1.heap.size := by have := B1.size; simp at this; omega
  have hwb : w.heap.size < b := by simp at hb; omega
  have hlb := R1.lt
  have HR1 := hide R1
  have HB1 := hide B1
  clear R1 B1 hb
  have S1 := hide (scs_new 145 HR1.out)
  have K1 : Hid (Knd (w1.alloc (.cells #[.pointer (some ⟨b, 0, none⟩), .int .i64 0] 145))) := ((HK.out.below ((Below.refl _ w).alloc (Nat.le_refl _) _) (Nat.le_refl _)).below HB1.out (Nat.le_refl _)).below ((Below.refl _ w1).alloc (Nat.le_refl _) _) (Nat.le_refl _)
  have X1 : Hid (Bx (w1.alloc (.cells #[.pointer (some ⟨b, 0, none⟩), .int .i64 0] 145)) w.heap.size zeroC) := ((bx_new w 27 0 0 0 ⟨#[]⟩ ⟨#[]⟩ ⟨#[]⟩ ⟨#[]⟩ 0).of_block (HB1.out.block w.heap.size (by simp))).of_block (Below.block ((Below.refl w1.heap.size w1).alloc (Nat.le_refl _) _) w.heap.size hw1)
  have Y1 : Hid (Below w.heap.size w (w1.alloc (.cells #[.pointer (some ⟨b, 0, none⟩), .int .i64 0] 145))) := (low_on ((Below.refl _ w).alloc (Nat.le_refl _) _) HB1.out (by simp)).alloc (by omega) _
  clear HR1 HB1 HK HE HS HY
  go_wp2_with fail
  refine (command_scn w1.heap.size b _ _ _ L a v ⟨0, 0, 0⟩ _ (by exact K1.out) (by exact S1.out)).mono ?_
  rintro e w2 ⟨rfl, T2, S2⟩
  rw [h1.out]
  rw [h2.out] at S2
  have X2 := hide (X1.out.turn T2 (by omega) (by omega))
  have Y2 : Hid (Below w.heap.size w w2) := T2.below Y1.out (by omega) (by omega) Y1.out.size
  have a0 := S2.ptr
  have a1 := S2.fault
  have hl2 := S2.lt
  have HS2 := hide S2
  clear S2 T2 X1 Y1 S1 K1
  have hl3 : w.heap.size < w2.heap.size := by omega
  clear h0 HS2
  have r0 : w2.cell? ⟨w.heap.size, 0, none⟩ = some (.int .i64 0) := X2.out.box.1
  have fr0 : w2.frozen? ⟨w.heap.size, 0, none⟩ = false := X2.out.thaw 0
  have r1 : w2.cell? ⟨w.heap.size, 1, none⟩ = some (.int .i64 0) := X2.out.box.2.1
  have fr1 : w2.frozen? ⟨w.heap.size, 1, none⟩ = false := X2.out.thaw 1
  have r2 : w2.cell? ⟨w.heap.size, 2, none⟩ = some (.int .i64 0) := X2.out.box.2.2.1
  have fr2 : w2.frozen? ⟨w.heap.size, 2, none⟩ = false := X2.out.thaw 2
  have r3 : w2.cell? ⟨w.heap.size, 3, none⟩ = some (.string ⟨#[]⟩) := X2.out.box.2.2.2.1
  have fr3 : w2.frozen? ⟨w.heap.size, 3, none⟩ = false := X2.out.thaw 3
  have r4 : w2.cell? ⟨w.heap.size, 4, none⟩ = some (.string ⟨#[]⟩) := X2.out.box.2.2.2.2.1
  have fr4 : w2.frozen? ⟨w.heap.size, 4, none⟩ = false := X2.out.thaw 4
  have r5 : w2.cell? ⟨w.heap.size, 5, none⟩ = some (.string ⟨#[]⟩) := X2.out.box.2.2.2.2.2.1
  have fr5 : w2.frozen? ⟨w.heap.size, 5, none⟩ = false := X2.out.thaw 5
  have r6 : w2.cell? ⟨w.heap.size, 6, none⟩ = some (.string ⟨#[]⟩) := X2.out.box.2.2.2.2.2.2.1
  have fr6 : w2.frozen? ⟨w.heap.size, 6, none⟩ = false := X2.out.thaw 6
  have r7 : w2.cell? ⟨w.heap.size, 7, none⟩ = some (.int .i64 0) := X2.out.box.2.2.2.2.2.2.2
  have fr7 : w2.frozen? ⟨w.heap.size, 7, none⟩ = false := X2.out.thaw 7
  go_wp2
  go_region
  go_wp2
  refine bodyPost_ret (v := .tuple #[.agg #[.int .i64 0, .int .i64 0, .int .i64 0, .string ⟨#[]⟩, .string ⟨#[]⟩, .string ⟨#[]⟩, .string ⟨#[]⟩, .int .i64 0], .int .i64 0, .int .i64 s.ft]) (by simp [results, Tryz.results89, go_sem, *]) rfl ⟨rfl, ?_⟩
  refine low_new ?_ _
  iterate 8 refine set_low ?_ _ _
  exact Y2.out

/-- Decode, at every input. -/
theorem decode_any (sa : Option Addr) (n cap : Nat) (l : List Int) (a : Nat → Addr) (v : Int) (w : World) (hs : Seg w sa n l) (hy : Byt l) (he : Errs w a) (hK : Knd w) (hc : n ≤ cap) (hcm : cap ≤ 9223372036854775807) (hnone : sa = none → n = 0) :
    Calls Tryz.prog 89 #[.int .i64 v, .slice sa n cap] w fun e w' => e = .returned (.tuple #[.agg #[.int .i64 (decC v l).1.kind, .int .i64 (decC v l).1.client, .int .i64 (decC v l).1.req, .string (decC v l).1.key, .string (decC v l).1.key2, .string (decC v l).1.val, .string (decC v l).1.old, .int .i64 (decC v l).1.n], .int .i64 ((decC v l).2.1 : Nat), .int .i64 (decC v l).2.2]) ∧ Below w.heap.size w w' := by
  cases hv : isVer v with
  | false =>
    have e : decC v l = (zeroC, 0, 2) := by unfold decC; rw [hv]; rfl
    rw [e]
    exact decode_ver sa n cap v w hv
  | true =>
    have hL : l.take (min n 131281) = l.take 131281 := by
      rcases Nat.le_total n 131281 with h | h
      · rw [Nat.min_eq_left h, List.take_of_length_le (by rw [hs.1]; exact Nat.le_refl _), List.take_of_length_le (by rw [hs.1]; exact h)]
      · rw [Nat.min_eq_right h]
    have hs' : Seg w sa (min n 131281) (l.take 131281) := by rw [← hL]; exact hs.take (Nat.min_le_left _ _)
    have hy' : Byt (l.take 131281) := fun z hz => hy z (List.mem_of_mem_take hz)
    obtain ⟨⟨c0, c1, c2, c3, c4, c5, c6, c7⟩, hc1⟩ : ∃ c, (sCmd v (l.take 131281) ⟨0, 0, 0⟩).1 = c := ⟨_, rfl⟩
    obtain ⟨s, hs1⟩ : ∃ s, (sCmd v (l.take 131281) ⟨0, 0, 0⟩).2 = s := ⟨_, rfl⟩
    by_cases h0 : s.ft = 0
    · have e : decC v l = (⟨c0, c1, c2, c3, c4, c5, c6, c7⟩, s.k, 0) := by unfold decC; rw [hv, hc1, hs1, if_pos rfl, if_pos h0]
      rw [e]
      cases sa with
      | none => exact decode_goodN n cap _ _ a v w hs' hy' he hK hc hcm hv rfl (hnone rfl) _ _ _ _ _ _ _ _ s hc1 hs1 h0
      | some ad => exact decode_good ad n cap _ _ a v w hs' hy' he hK hc hcm hv rfl _ _ _ _ _ _ _ _ s hc1 hs1 h0
    · have e : decC v l = (zeroC, 0, s.ft) := by unfold decC; rw [hv, hs1, if_pos rfl, if_neg h0]
      rw [e]
      cases sa with
      | none => exact decode_badN n cap _ _ a v w hs' hy' he hK hc hcm hv rfl (hnone rfl) _ _ _ _ _ _ _ _ s hc1 hs1 h0
      | some ad => exact decode_bad ad n cap _ _ a v w hs' hy' he hK hc hcm hv rfl _ _ _ _ _ _ _ _ s hc1 hs1 h0
end Go.Proofs.YtlhididcanedhaaGreatDoor
