/- Texts of the proof, joined. -/
import Derived.Test.YtpjdgbhjjknopaaDoorJ07
import Derived.Test.YtpjdgbhjjknopaaDoorJ09
import Derived.Defers
import Derived.Recover
import Derived.RegionTactic
import Derived.ChangeAlike
/- The reader in memory, and the contracts of giveUp, Err, Left and Close. -/
namespace Go.Proofs.YtpjdgbhjjknopaaDoor
open Go.RowKit Go.Wire1

/-- A reader: its cursor, its fault. -/
structure Rdr (w : World) (b : Nat) (sa : Option Addr) (n cap k : Nat) (f : Int) (l : List Int) (a : Nat → Addr) : Prop where
  ready : Ready w b 0 sa n cap k l a
  fault : w.cell? ⟨b, 2, none⟩ = some (.int .i64 f)
  thaw : w.frozen? ⟨b, 2, none⟩ = false
  capLe : n ≤ cap
  capMax : cap ≤ maxLen

/-- Of what was there nothing but block b has turned. -/
structure Touch (b : Nat) (w w' : World) : Prop where
  os : w'.os = w.os
  tape : w'.tape = w.tape
  output : w'.output = w.output
  size : w.heap.size ≤ w'.heap.size
  block : ∀ k, k < w.heap.size → k ≠ b → w'.heap[k]? = w.heap[k]?

theorem Touch.refl (b : Nat) (w : World) : Touch b w w := ⟨rfl, rfl, rfl, Nat.le_refl _, fun _ _ _ => rfl⟩
theorem Touch.trans {b : Nat} {x y z : World} (h : Touch b x y) (k : Touch b y z) : Touch b x z :=
  ⟨k.os.trans h.os, k.tape.trans h.tape, k.output.trans h.output, Nat.le_trans h.size k.size, fun i hi hb => (k.block i (Nat.lt_of_lt_of_le hi h.size) hb).trans (h.block i hi hb)⟩
theorem Touch.ofBelow {b : Nat} {x y : World} (h : Below x.heap.size x y) : Touch b x y := ⟨h.os, h.tape, h.output, h.size, fun i hi _ => h.block i hi⟩
theorem Touch.ofOnly {b p : Nat} {x y : World} (h : Only b p x y) : Touch b x y := ⟨h.os, h.tape, h.output, by rw [h.size]; exact Nat.le_refl _, fun i _ hb => h.block i hb⟩
theorem Touch.drewN {b : Nat} {x y : World} (h : Touch b x y) (q : Nat) : Touch b x (y.drewN q) := ⟨h.os, h.tape, h.output, h.size, h.block⟩
theorem Touch.below {b : Nat} {w0 x y : World} (h : Touch b x y) (hB : w0.heap.size ≤ b) (h0 : Below w0.heap.size w0 x) : Below w0.heap.size w0 y :=
  ⟨h.os.trans h0.os, h.tape.trans h0.tape, h.output.trans h0.output, Nat.le_trans h0.size h.size, fun i hi => (h.block i (Nat.lt_of_lt_of_le hi h0.size) (by omega)).trans (h0.block i hi)⟩
theorem Touch.setNew {b c o : Nat} {x y : World} (h : Touch b x y) (v : Value) (hc : x.heap.size ≤ c) : Touch b x (y.setCell ⟨c, o, none⟩ v) :=
  ⟨h.os, h.tape, h.output, by simpa [World.setCell] using h.size, fun i hi hb => (Below.heap_setCell _ _ _ _ (by show i ≠ c; omega)).trans (h.block i hi hb)⟩
theorem Touch.setB {b o : Nat} {x y : World} (h : Touch b x y) (v : Value) : Touch b x (y.setCell ⟨b, o, none⟩ v) :=
  ⟨h.os, h.tape, h.output, by simpa [World.setCell] using h.size, fun i hi hb => (Below.heap_setCell _ _ _ _ hb).trans (h.block i hi hb)⟩
theorem Touch.seg {b : Nat} {w w' : World} (h : Touch b w w') {a : Option Addr} {n : Nat} {l : List Int} (hs : Seg w a n l) (hsep : ∀ x, a = some x → 0 < n → x.block ≠ b) : Seg w' a n l := by
  refine ⟨hs.1, hs.2.1, fun hn => ?_⟩
  obtain ⟨c, off, rfl, hc⟩ := hs.2.2 hn
  exact ⟨c, off, rfl, fun j hj => by rw [World.cell?_of_block (w := w) (h.block c (cell_lt (hc j hj)) (hsep _ rfl hn))]; exact hc j hj⟩
theorem Touch.errs {b : Nat} {w w' : World} {a : Nat → Addr} (h : Touch b w w') (he : Errs w a) (h5 : 6 ≤ b) (hs : ∀ i, i < 5 → (a i).block ≠ b) : Errs w' a := by
  have h5' := he.five
  have key : ∀ g, g < 6 → w'.cell? ⟨g, 0, none⟩ = w.cell? ⟨g, 0, none⟩ := fun g hg => World.cell?_of_block (w := w) (h.block g (by omega) (by omega))
  exact ⟨(key _ (by decide)).trans he.s0, (key _ (by decide)).trans he.s1, (key _ (by decide)).trans he.s2, (key _ (by decide)).trans he.s3, (key _ (by decide)).trans he.s4, fun i hi => by
    obtain ⟨c, t, e⟩ := he.blk i hi; exact ⟨c, t, (h.block _ (he.lt i hi) (hs i hi)).trans e⟩, he.ne, Nat.le_trans he.room h.size⟩

theorem Rdr.lt {w : World} {b : Nat} {sa : Option Addr} {n cap k : Nat} {f : Int} {l : List Int} {a : Nat → Addr} (h : Rdr w b sa n cap k f l a) : b < w.heap.size := cell_lt h.fault

/-- A reader in a world that has other new blocks, and other cells of its own. -/
theorem Rdr.moved {w w' : World} {b : Nat} {sa : Option Addr} {n cap k k' : Nat} {f f' : Int} {l : List Int} {a : Nat → Addr} (h : Rdr w b sa n cap k f l a) (ht : Touch b w w')
    (c0 : w'.cell? ⟨b, 0, none⟩ = some (.slice sa n cap)) (c1 : w'.cell? ⟨b, 1, none⟩ = some (.int .i64 (k' : Int))) (f1 : w'.frozen? ⟨b, 1, none⟩ = false)
    (c2 : w'.cell? ⟨b, 2, none⟩ = some (.int .i64 f')) (f2 : w'.frozen? ⟨b, 2, none⟩ = false) (hk : k' ≤ n) : Rdr w' b sa n cap k' f' l a :=
  ⟨⟨⟨c0, c1, f1⟩, ht.seg h.ready.seg h.ready.sep, h.ready.sep, h.ready.byt, hk, ht.errs h.ready.errs h.ready.five h.ready.apart, h.ready.five, h.ready.apart⟩, c2, f2, h.capLe, h.capMax⟩
theorem Rdr.below {w w' : World} {b : Nat} {sa : Option Addr} {n cap k : Nat} {f : Int} {l : List Int} {a : Nat → Addr} {C : Nat} (h : Rdr w b sa n cap k f l a) (hb : Below C w w') (hC : w.heap.size ≤ C) : Rdr w' b sa n cap k f l a := by
  have hlt := h.lt
  have e : w'.heap[b]? = w.heap[b]? := hb.block b (by omega)
  exact ⟨⟨⟨(World.cell?_of_block (a := ⟨b, 0, none⟩) e).trans h.ready.cur.1, (World.cell?_of_block (a := ⟨b, 0 + 1, none⟩) e).trans h.ready.cur.2.1, (World.frozen?_of_block (a := ⟨b, 0 + 1, none⟩) e).trans h.ready.cur.2.2⟩, h.ready.seg.below hb hC, h.ready.sep, h.ready.byt, h.ready.le, h.ready.errs.below hb hC, h.ready.five, h.ready.apart⟩,
    (World.cell?_of_block (a := ⟨b, 2, none⟩) e).trans h.fault, (World.frozen?_of_block (a := ⟨b, 2, none⟩) e).trans h.thaw, h.capLe, h.capMax⟩
theorem Rdr.drewN {w : World} {b : Nat} {sa : Option Addr} {n cap k : Nat} {f : Int} {l : List Int} {a : Nat → Addr} (h : Rdr w b sa n cap k f l a) (q : Nat) : Rdr (w.drewN q) b sa n cap k f l a :=
  ⟨⟨h.ready.cur, h.ready.seg, h.ready.sep, h.ready.byt, h.ready.le, h.ready.errs.drewN q, h.ready.five, h.ready.apart⟩, h.fault, h.thaw, h.capLe, h.capMax⟩
/-- A reader beside another one that is touched. -/
theorem Rdr.beside {w w' : World} {b c : Nat} {sa : Option Addr} {n cap k : Nat} {f : Int} {l : List Int} {a : Nat → Addr} (h : Rdr w b sa n cap k f l a) (ht : Touch c w w') (hbc : b ≠ c) (hsc : ∀ x, sa = some x → 0 < n → x.block ≠ c) (h5 : 6 ≤ c) (hac : ∀ i, i < 5 → (a i).block ≠ c) : Rdr w' b sa n cap k f l a := by
  have e : w'.heap[b]? = w.heap[b]? := ht.block b h.lt hbc
  exact ⟨⟨⟨(World.cell?_of_block (a := ⟨b, 0, none⟩) e).trans h.ready.cur.1, (World.cell?_of_block (a := ⟨b, 0 + 1, none⟩) e).trans h.ready.cur.2.1, (World.frozen?_of_block (a := ⟨b, 0 + 1, none⟩) e).trans h.ready.cur.2.2⟩, ht.seg h.ready.seg hsc, h.ready.sep, h.ready.byt, h.ready.le, ht.errs h.ready.errs h5 hac, h.ready.five, h.ready.apart⟩,
    (World.cell?_of_block (a := ⟨b, 2, none⟩) e).trans h.fault, (World.frozen?_of_block (a := ⟨b, 2, none⟩) e).trans h.thaw, h.capLe, h.capMax⟩

set_option maxHeartbeats 400000 in
set_option maxRecDepth 100000 in
theorem err_any (b n cap k : Nat) (f : Int) (sa : Option Addr) (l : List Int) (a : Nat → Addr) (w : World) (h : Rdr w b sa n cap k f l a) :
    Calls Tryd.prog 15 #[.pointer (some ⟨b, 0, none⟩)] w fun e w' => e = .returned (.tuple #[.int .i64 f, .int .i64 (k : Int)]) ∧ ∃ q, w' = w.drewN q := by
  have c1 : w.cell? ⟨b, 1, none⟩ = _ := h.ready.cur.2.1
  have c2 := h.fault
  go_enter Tryd.func15, Tryd.ntmps15
  go_wp2
  go_quiet (fail)
  go_wp2
  go_ret2
  exact ⟨rfl, _, rfl⟩

end Go.Proofs.YtpjdgbhjjknopaaDoor
