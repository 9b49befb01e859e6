/- Texts of the proof, joined. -/
import Derived.Test.YtdokagebfeejbaaGreatDoorJ04
import Derived.Test.YtdokagebfeejbaaGreatDoorJ02
import Derived.Defers
import Derived.Recover
import Derived.RegionTactic
import Derived.ChangeAlike
/- The reader in memory, and the contracts of giveUp, Err, Left and Close. -/
namespace Go.Proofs.YtdokagebfeejbaaGreatDoor
open Go.RowKit Go.Wire1

/-- A reader: its cursor, its fault. -/
structure Rdr (w : World) (b : Nat) (sa : Option Addr) (n cap k : Nat) (f : Int) (l : List Int) (a : Nat → Addr) : Prop where
  ready : Ready w b 0 sa n cap k l a
  fault : w.cell? ⟨b, 2, none⟩ = some (.int .i64 f)
  thaw : w.frozen? ⟨b, 2, none⟩ = false
  capLe : n ≤ cap
  capMax : cap ≤ maxLen

/-- Of what was there nothing but block b has turned. -/
structure Touch (b : Nat) (w w' : World) : Prop where
  os : w'.os = w.os
  tape : w'.tape = w.tape
  output : w'.output = w.output
  size : w.heap.size ≤ w'.heap.size
  block : ∀ k, k < w.heap.size → k ≠ b → w'.heap[k]? = w.heap[k]?

theorem Touch.refl (b : Nat) (w : World) : Touch b w w := ⟨rfl, rfl, rfl, Nat.le_refl _, fun _ _ _ => rfl⟩
theorem Touch.trans {b : Nat} {x y z : World} (h : Touch b x y) (k : Touch b y z) : Touch b x z :=
  ⟨k.os.trans h.os, k.tape.trans h.tape, k.output.trans h.output, Nat.le_trans h.size k.size, fun i hi hb => (k.block i (Nat.lt_of_lt_of_le hi h.size) hb).trans (h.block i hi hb)⟩
theorem Touch.ofBelow {b : Nat} {x y : World} (h : Below x.heap.size x y) : Touch b x y := ⟨h.os, h.tape, h.output, h.size, fun i hi _ => h.block i hi⟩
theorem Touch.ofOnly {b p : Nat} {x y : World} (h : Only b p x y) : Touch b x y := ⟨h.os, h.tape, h.output, by rw [h.size]; exact Nat.le_refl _, fun i _ hb => h.block i hb⟩
theorem Touch.drewN {b : Nat} {x y : World} (h : Touch b x y) (q : Nat) : Touch b x (y.drewN q) := ⟨h.os, h.tape, h.output, h.size, h.block⟩
theorem Touch.below {b : Nat} {w0 x y : World} (h : Touch b x y) (hB : w0.heap.size ≤ b) (h0 : Below w0.heap.size w0 x) : Below w0.heap.size w0 y :=
  ⟨h.os.trans h0.os, h.tape.trans h0.tape, h.output.trans h0.output, Nat.le_trans h0.size h.size, fun i hi => (h.block i (Nat.lt_of_lt_of_le hi h0.size) (by omega)).trans (h0.block i hi)⟩
theorem Touch.setNew {b c o : Nat} {x y : World} (h : Touch b x y) (v : Value) (hc : x.heap.size ≤ c) : Touch b x (y.setCell ⟨c, o, none⟩ v) :=
  ⟨h.os, h.tape, h.output, by simpa [World.setCell] using h.size, fun i hi hb => (Below.heap_setCell _ _ _ _ (by show i ≠ c; omega)).trans (h.block i hi hb)⟩
theorem Touch.setB {b o : Nat} {x y : World} (h : Touch b x y) (v : Value) : Touch b x (y.setCell ⟨b, o, none⟩ v) :=
  ⟨h.os, h.tape, h.output, by simpa [World.setCell] using h.size, fun i hi hb => (Below.heap_setCell _ _ _ _ hb).trans (h.block i hi hb)⟩
theorem Touch.seg {b : Nat} {w w' : World} (h : Touch b w w') {a : Option Addr} {n : Nat} {l : List Int} (hs : Seg w a n l) (hsep : ∀ x, a = some x → 0 < n → x.block ≠ b) : Seg w' a n l := by
  refine ⟨hs.1, hs.2.1, fun hn => ?_⟩
  obtain ⟨c, off, rfl, hc⟩ := hs.2.2 hn
  exact ⟨c, off, rfl, fun j hj => by rw [World.cell?_of_block (w := w) (h.block c (cell_lt (hc j hj)) (hsep _ rfl hn))]; exact hc j hj⟩
theorem Touch.errs {b : Nat} {w w' : World} {a : Nat → Addr} (h : Touch b w w') (he : Errs w a) (h5 : 7 ≤ b) (hs : ∀ i, i < 5 → (a i).block ≠ b) : Errs w' a := by
  have h5' := he.five
  have key : ∀ g, g < 7 → w'.cell? ⟨g, 0, none⟩ = w.cell? ⟨g, 0, none⟩ := fun g hg => World.cell?_of_block (w := w) (h.block g (by omega) (by omega))
  exact ⟨(key _ (by decide)).trans he.s0, (key _ (by decide)).trans he.s1, (key _ (by decide)).trans he.s2, (key _ (by decide)).trans he.s3, (key _ (by decide)).trans he.s4, fun i hi => by
    obtain ⟨c, t, e⟩ := he.blk i hi; exact ⟨c, t, (h.block _ (he.lt i hi) (hs i hi)).trans e⟩, he.ne, Nat.le_trans he.room h.size⟩

theorem Rdr.lt {w : World} {b : Nat} {sa : Option Addr} {n cap k : Nat} {f : Int} {l : List Int} {a : Nat → Addr} (h : Rdr w b sa n cap k f l a) : b < w.heap.size := cell_lt h.fault

/-- A reader in a world that has other new blocks, and other cells of its own. -/
theorem Rdr.moved {w w' : World} {b : Nat} {sa : Option Addr} {n cap k k' : Nat} {f f' : Int} {l : List Int} {a : Nat → Addr} (h : Rdr w b sa n cap k f l a) (ht : Touch b w w')
    (c0 : w'.cell? ⟨b, 0, none⟩ = some (.slice sa n cap)) (c1 : w'.cell? ⟨b, 1, none⟩ = some (.int .i64 (k' : Int))) (f1 : w'.frozen? ⟨b, 1, none⟩ = false)
    (c2 : w'.cell? ⟨b, 2, none⟩ = some (.int .i64 f')) (f2 : w'.frozen? ⟨b, 2, none⟩ = false) (hk : k' ≤ n) : Rdr w' b sa n cap k' f' l a :=
  ⟨⟨⟨c0, c1, f1⟩, ht.seg h.ready.seg h.ready.sep, h.ready.sep, h.ready.byt, hk, ht.errs h.ready.errs h.ready.five h.ready.apart, h.ready.five, h.ready.apart⟩, c2, f2, h.capLe, h.capMax⟩
theorem Rdr.below {w w' : World} {b : Nat} {sa : Option Addr} {n cap k : Nat} {f : Int} {l : List Int} {a : Nat → Addr} {C : Nat} (h : Rdr w b sa n cap k f l a) (hb : Below C w w') (hC : w.heap.size ≤ C) : Rdr w' b sa n cap k f l a := by
  have hlt := h.lt
  have e : w'.heap[b]? = w.heap[b]? := hb.block b (by omega)
  exact ⟨⟨⟨(World.cell?_of_block (a := ⟨b, 0, none⟩) e).trans h.ready.cur.1, (World.cell?_of_block (a := ⟨b, 0 + 1, none⟩) e).trans h.ready.cur.2.1, (World.frozen?_of_block (a := ⟨b, 0 + 1, none⟩) e).trans h.ready.cur.2.2⟩, h.ready.seg.below hb hC, h.ready.sep, h.ready.byt, h.ready.le, h.ready.errs.below hb hC, h.ready.five, h.ready.apart⟩,
    (World.cell?_of_block (a := ⟨b, 2, none⟩) e).trans h.fault, (World.frozen?_of_block (a := ⟨b, 2, none⟩) e).trans h.thaw, h.capLe, h.capMax⟩
theorem Rdr.drewN {w : World} {b : Nat} {sa : Option Addr} {n cap k : Nat} {f : Int} {l : List Int} {a : Nat → Addr} (h : Rdr w b sa n cap k f l a) (q : Nat) : Rdr (w.drewN q) b sa n cap k f l a :=
  ⟨⟨h.ready.cur, h.ready.seg, h.ready.sep, h.ready.byt, h.ready.le, h.ready.errs.drewN q, h.ready.five, h.ready.apart⟩, h.fault, h.thaw, h.capLe, h.capMax⟩
/-- A reader beside another one that is touched. -/
theorem Rdr.beside {w w' : World} {b c : Nat} {sa : Option Addr} {n cap k : Nat} {f : Int} {l : List Int} {a : Nat → Addr} (h : Rdr w b sa n cap k f l a) (ht : Touch c w w') (hbc : b ≠ c) (hsc : ∀ x, sa = some x → 0 < n → x.block ≠ c) (h5 : 7 ≤ c) (hac : ∀ i, i < 5 → (a i).block ≠ c) : Rdr w' b sa n cap k f l a := by
  have e : w'.heap[b]? = w.heap[b]? := ht.block b h.lt hbc
  exact ⟨⟨⟨(World.cell?_of_block (a := ⟨b, 0, none⟩) e).trans h.ready.cur.1, (World.cell?_of_block (a := ⟨b, 0 + 1, none⟩) e).trans h.ready.cur.2.1, (World.frozen?_of_block (a := ⟨b, 0 + 1, none⟩) e).trans h.ready.cur.2.2⟩, ht.seg h.ready.seg hsc, h.ready.sep, h.ready.byt, h.ready.le, ht.errs h.ready.errs h5 hac, h.ready.five, h.ready.apart⟩,
    (World.cell?_of_block (a := ⟨b, 2, none⟩) e).trans h.fault, (World.frozen?_of_block (a := ⟨b, 2, none⟩) e).trans h.thaw, h.capLe, h.capMax⟩

end Go.Proofs.YtdokagebfeejbaaGreatDoor
/- The contract of giveUp, and what the reading methods share. -/
namespace Go.Proofs.YtdokagebfeejbaaGreatDoor
open Go.RowKit Go.Wire1

set_option maxHeartbeats 400000 in
set_option maxRecDepth 100000 in
theorem giveUp_any (b : Nat) (k x f : Int) (i : Nat) (hi : i < 5) (a : Nat → Addr) (w : World) (he : Errs w a) (h5 : 7 ≤ b) (hab : ∀ i, i < 5 → (a i).block ≠ b)
    (c1 : w.cell? ⟨b, 1, none⟩ = some (.int .i64 x)) (f1 : w.frozen? ⟨b, 1, none⟩ = false) (c2 : w.cell? ⟨b, 2, none⟩ = some (.int .i64 f)) (f2 : w.frozen? ⟨b, 2, none⟩ = false) :
    Calls Tryz.prog 134 #[.pointer (some ⟨b, 0, none⟩), .int .i64 k, errV (a i)] w fun e w' => e = .returned (.tuple #[]) ∧ w' = (w.setCell ⟨b, 1, none⟩ (.int .i64 k)).setCell ⟨b, 2, none⟩ (.int .i64 (11 + (i : Int))) := by
  have he' : Errs (w.setCell ⟨b, 1, none⟩ (.int .i64 k)) a := he.only ((Only.refl b 1 w).setCell _) h5 hab
  go_enter Tryz.func134, Tryz.ntmps134
  go_wp2_with fail
  refine (errno_any i hi a _ he').mono ?_
  rintro e w1 ⟨rfl, rfl⟩
  go_wp2
  go_end0
  exact ⟨rfl, rfl⟩

/-- What a reading method answers, and what it leaves: Z where it answers nothing. -/
def Meth (Z : Value) (r : Except Nat (Value × Nat)) (k : Nat) (f : Int) : Value × Nat × Int :=
  if f = 0 then (match r with | .ok (v, m) => (v, k + m, 0) | .error i => (Z, k, 11 + (i : Int))) else (Z, k, f)

theorem meth_broken {Z : Value} {r : Except Nat (Value × Nat)} {k : Nat} {f : Int} (h : ¬ f = 0) : Meth Z r k f = (Z, k, f) := by unfold Meth; rw [if_neg h]
theorem meth_ok {Z : Value} {r : Except Nat (Value × Nat)} {k m : Nat} {v : Value} (h : r = .ok (v, m)) : Meth Z r k 0 = (v, k + m, 0) := by unfold Meth; rw [if_pos rfl, h]
theorem meth_err {Z : Value} {r : Except Nat (Value × Nat)} {k i : Nat} (h : r = .error i) : Meth Z r k 0 = (Z, k, 11 + (i : Int)) := by unfold Meth; rw [if_pos rfl, h]

/-- The three blocks that a reading method makes: the receiver's variable, the result's, the start's. -/
theorem new3 (w : World) (v0 v1 v2 : Value) (t0 t1 t2 : TypeId) :
    Below w.heap.size w (((w.alloc (.cells #[v0] t0)).alloc (.cells #[v1] t1)).alloc (.cells #[v2] t2)) ∧
    (((w.alloc (.cells #[v0] t0)).alloc (.cells #[v1] t1)).alloc (.cells #[v2] t2)).cell? ⟨w.heap.size, 0, none⟩ = some v0 ∧
    (((w.alloc (.cells #[v0] t0)).alloc (.cells #[v1] t1)).alloc (.cells #[v2] t2)).cell? ⟨w.heap.size + 1, 0, none⟩ = some v1 ∧
    (((w.alloc (.cells #[v0] t0)).alloc (.cells #[v1] t1)).alloc (.cells #[v2] t2)).cell? ⟨w.heap.size + 1 + 1, 0, none⟩ = some v2 ∧
    (((w.alloc (.cells #[v0] t0)).alloc (.cells #[v1] t1)).alloc (.cells #[v2] t2)).frozen? ⟨w.heap.size + 1, 0, none⟩ = false := by
  refine ⟨?_, ?_, ?_, ?_, ?_⟩
  · exact (((Below.refl _ _).alloc (Nat.le_refl _) _).alloc (by simp) _).alloc (by simp; omega) _
  · rw [World.cell?_alloc_past _ _ _ (by simp; omega), World.cell?_alloc_past _ _ _ (by simp), World.cell?_alloc_at _ _ _ _ rfl]; rfl
  · rw [World.cell?_alloc_past _ _ _ (by simp), World.cell?_alloc_at _ _ _ _ (by simp)]; rfl
  · rw [World.cell?_alloc_at _ _ _ _ (by simp)]; rfl
  · rw [World.frozen?_alloc_past _ _ _ (by simp)]; exact World.frozen?_alloc_at _ _ _ _ (by simp)

end Go.Proofs.YtdokagebfeejbaaGreatDoor
/- The contract of the reader's method Uint. -/
namespace Go.Proofs.YtdokagebfeejbaaGreatDoor
open Go.RowKit Go.Wire1
namespace mUint

theorem rU_err {most : Nat} {l : List Int} {k i : Nat} (h : rU most l k = .error i) : i < 5 := by
  unfold rU at h
  cases hd : dec (l.drop k) with
  | error j => rw [hd] at h; have := dec_err hd; simp at h; omega
  | ok p => rw [hd] at h; simp only at h; split at h <;> simp at h; omega
theorem rU_val {most : Nat} {l : List Int} {k m : Nat} {v : Value} (h : rU most l k = .ok (v, m)) : ∃ z : Int, v = .int .u64 z := by
  unfold rU at h
  cases hd : dec (l.drop k) with
  | error j => rw [hd] at h; simp at h
  | ok p => rw [hd] at h; simp only at h; split at h <;> simp at h; exact ⟨_, h.1.symm⟩

set_option maxHeartbeats 1000000 in
set_option maxRecDepth 100000 in
theorem catching (b B0 B1 B2 : Nat) (n1 : ¬ b = B1) (n2 : ¬ B0 = B1) (n3 : ¬ B2 = B1) (i : Nat) (hi : i < 5) (a : Nat → Addr) (w : World) (he : Errs w a) (h5 : 7 ≤ b) (hab : ∀ i, i < 5 → (a i).block ≠ b) (h5' : 7 ≤ B1) (hab' : ∀ i, i < 5 → (a i).block ≠ B1) (z : Int) (k x f : Int)
    (d0 : w.cell? ⟨B0, 0, none⟩ = some (.pointer (some ⟨b, 0, none⟩))) (d1 : w.cell? ⟨B1, 0, none⟩ = some (.int .u64 z)) (d2 : w.cell? ⟨B2, 0, none⟩ = some (.int .i64 k)) (g1 : w.frozen? ⟨B1, 0, none⟩ = false)
    (c1 : w.cell? ⟨b, 1, none⟩ = some (.int .i64 x)) (f1 : w.frozen? ⟨b, 1, none⟩ = false) (c2 : w.cell? ⟨b, 2, none⟩ = some (.int .i64 f)) (f2 : w.frozen? ⟨b, 2, none⟩ = false) :
    CallsD Tryz.prog 136 #[.pointer (some ⟨B1, 0, none⟩), .pointer (some ⟨B0, 0, none⟩), .pointer (some ⟨B2, 0, none⟩)] (.panicking [{ v := errV (a i), recovered := false }]) w fun e u' w' =>
      e = .returned (.tuple #[]) ∧ u' = .panicking [{ v := errV (a i), recovered := true }] ∧ w' = ((w.setCell ⟨B1, 0, none⟩ (.int .u64 0)).setCell ⟨b, 1, none⟩ (.int .i64 k)).setCell ⟨b, 2, none⟩ (.int .i64 (11 + (i : Int))) := by
  have he' : Errs (w.setCell ⟨B1, 0, none⟩ (.int .u64 0)) a := he.only ((Only.refl B1 0 w).setCell _) h5' hab'
  have nn : ¬ B1 = b := fun e => n1 e.symm
  have q1 : (w.setCell ⟨B1, 0, none⟩ (.int .u64 0)).cell? ⟨b, 1, none⟩ = some (.int .i64 x) := (World.cell?_setCell_other _ _ _ _ (by simp)).trans c1
  have q2 : (w.setCell ⟨B1, 0, none⟩ (.int .u64 0)).cell? ⟨b, 2, none⟩ = some (.int .i64 f) := (World.cell?_setCell_other _ _ _ _ (by simp)).trans c2
  have p1 : (w.setCell ⟨B1, 0, none⟩ (.int .u64 0)).frozen? ⟨b, 1, none⟩ = false := (World.frozen?_setCell _ _ _ _).trans f1
  have p2 : (w.setCell ⟨B1, 0, none⟩ (.int .u64 0)).frozen? ⟨b, 2, none⟩ = false := (World.frozen?_setCell _ _ _ _).trans f2
  refine callsD_of_wpS Tryz.func136 rfl fun c₀ cs hu => ?_
  apply wpS_seq
  apply wpS_region
  simp [wpOpsS, go_sem, recoverD, hu, Tryz.ntmps136, Exit.thenS]
  refine wpS_of_wp ?_
  go_wp2_with fail
  refine (giveUp_any b k x f i hi a _ he' h5 hab q1 p1 q2 p2).mono ?_
  rintro e w1 ⟨rfl, rfl⟩
  go_wp2
  simp [bodyPostS, results, Tryz.results136]

set_option maxHeartbeats 1000000 in
set_option maxRecDepth 100000 in
theorem idle (B0 B1 B2 : Nat) (w : World) :
    CallsD Tryz.prog 136 #[.pointer (some ⟨B1, 0, none⟩), .pointer (some ⟨B0, 0, none⟩), .pointer (some ⟨B2, 0, none⟩)] .returning w fun e u' w' => e = .returned (.tuple #[]) ∧ u' = .returning ∧ w' = w := by
  refine callsD_of_wpS Tryz.func136 rfl fun c₀ cs hu => ?_
  apply wpS_seq
  apply wpS_region
  simp [wpOpsS, go_sem, recoverD, hu, Tryz.ntmps136, Exit.thenS]
  refine wpS_of_wp ?_
  go_wp2
  cases c₀
  simp_all [bodyPostS, results, Tryz.results136]

set_option maxHeartbeats 2000000 in
set_option maxRecDepth 100000 in
theorem any (most : Nat) (b n cap k : Nat) (f : Int) (sa : Option Addr) (l : List Int) (a : Nat → Addr) (w : World) (h : Rdr w b sa n cap k f l a) :
    Calls Tryz.prog 124 #[.pointer (some ⟨b, 0, none⟩), .int .u64 (most : Int)] w fun e w' => e = .returned (Meth (.int .u64 0) (rU most l k) k f).1 ∧ Touch b w w' ∧ Rdr w' b sa n cap (Meth (.int .u64 0) (rU most l k) k f).2.1 (Meth (.int .u64 0) (rU most l k) k f).2.2 l a := by
  have hmf : ∀ (fn : Fn) (first cap : Array Value) (w : World), (Instr.makeFunc fn first cap).run Tryz.prog w = .ok (.func fn first cap) w := fun _ _ _ _ => rfl
  have hlt := h.lt
  have c2 := h.fault
  have c1 : w.cell? ⟨b, 1, none⟩ = some (.int .i64 (k : Int)) := h.ready.cur.2.1
  by_cases hf : f = 0
  · subst hf
    obtain ⟨hbel, d0, d1, d2, g1⟩ := new3 w (.pointer (some ⟨b, 0, none⟩)) (.int .u64 0) (.int .i64 (k : Int)) 147 132 3
    have hR := h.below hbel (Nat.le_refl _)
    have HC := hide (numberTo_any most b 0 n cap sa l k a _ hR.ready)
    go_enter_defers Tryz.func124, Tryz.ntmps124
    go_wp2_with fail
    refine (unhide HC).mono ?_
    rintro e w1 ⟨ho, k', hc1, hk', hout⟩
    have hle := h.ready.le
    have HT : Hid (Touch b w w1) := (Touch.ofBelow hbel).trans (Touch.ofOnly ho)
    have d0' := (World.cell?_of_block (a := ⟨w.heap.size, 0, none⟩) (ho.block w.heap.size (by omega))).trans d0
    have d1' := (World.cell?_of_block (a := ⟨w.heap.size + 1, 0, none⟩) (ho.block (w.heap.size + 1) (by omega))).trans d1
    have d2' := (World.cell?_of_block (a := ⟨w.heap.size + 1 + 1, 0, none⟩) (ho.block (w.heap.size + 1 + 1) (by omega))).trans d2
    have g1' := (World.frozen?_of_block (a := ⟨w.heap.size + 1, 0, none⟩) (ho.block (w.heap.size + 1) (by omega))).trans g1
    have c0' : w1.cell? ⟨b, 0, none⟩ = some (.slice sa n cap) := hc1.1
    have c1' : w1.cell? ⟨b, 1, none⟩ = some (.int .i64 (k' : Int)) := hc1.2.1
    have f1' : w1.frozen? ⟨b, 1, none⟩ = false := hc1.2.2
    have c2' := (ho.cell 2 (by decide)).trans hR.fault
    have f2' := (ho.frz 2).trans hR.thaw
    have HE := hide (hR.ready.errs.only ho hR.ready.five hR.ready.apart)
    have H5 := hide h.ready.five
    have HAB := hide h.ready.apart
    have HLT : Hid (∀ i, i < 5 → (a i).block < w.heap.size) := fun i hi => h.ready.errs.lt i hi
    have HR := hide h
    clear d0 d1 d2 g1 ho hc1 HC hR hbel c1 c2 h
    generalize hB1 : w.heap.size + 1 = B1 at *
    generalize hB2 : B1 + 1 = B2 at *
    generalize hB0 : w.heap.size = B0 at *
    have n1 : ¬ b = B1 := by omega
    have n2 : ¬ B0 = B1 := by omega
    have n3 : ¬ B2 = B1 := by omega
    have n4 : ¬ B1 = b := by omega
    have HZ : Hid (w.heap.size = B0 ∧ B0 < B1) := ⟨hB0, by omega⟩
    clear hB1 hB2 hB0
    cases hd : rU most l k with
    | error i =>
      have HQ := hide (meth_err (Z := .int .u64 0) (k := k) hd)
      rw [hd] at hout
      obtain rfl : e = _ := hout
      have hi : i < 5 := rU_err hd
      clear hd
      go_wp2
      refine leaves_cons (f := 136) (args := #[.pointer (some ⟨B1, 0, none⟩), .pointer (some ⟨B0, 0, none⟩), .pointer (some ⟨B2, 0, none⟩)]) (by simp) (by simp [go_sem]) ?_
      refine (catching b B0 B1 B2 n1 n2 n3 i hi a w1 HE.out H5.out HAB.out (by have := HZ.out; have := H5.out; omega) (fun j hj => by have := HLT.out j hj; have := HZ.out; omega) 0 (k : Int) (k' : Int) 0 d0' d1' d2' g1' c1' f1' c2' f2').mono ?_
      rintro e u' w'' ⟨rfl, rfl, rfl⟩
      have x1 : (((w1.setCell ⟨B1, 0, none⟩ (.int .u64 0)).setCell ⟨b, 1, none⟩ (.int .i64 (k : Int))).setCell ⟨b, 2, none⟩ (.int .i64 (11 + (i : Int)))).cell? ⟨B1, 0, none⟩ = some (.int .u64 0) := by
        rw [World.cell?_setCell_other _ _ _ _ (by simp), World.cell?_setCell_other _ _ _ _ (by simp)]; exact World.cell?_setCell_same w1 ⟨B1, 0, none⟩ _ d1'
      have y0 : (w1.setCell ⟨B1, 0, none⟩ (.int .u64 0)).cell? ⟨b, 1, none⟩ = some (.int .i64 (k' : Int)) := (World.cell?_setCell_other _ _ _ _ (by simp)).trans c1'
      have y1 : ((w1.setCell ⟨B1, 0, none⟩ (.int .u64 0)).setCell ⟨b, 1, none⟩ (.int .i64 (k : Int))).cell? ⟨b, 2, none⟩ = some (.int .i64 0) := (World.cell?_setCell_other _ _ _ _ (by simp)).trans ((World.cell?_setCell_other _ _ _ _ (by simp)).trans c2')
      have hT : Touch b w (((w1.setCell ⟨B1, 0, none⟩ (.int .u64 0)).setCell ⟨b, 1, none⟩ (.int .i64 (k : Int))).setCell ⟨b, 2, none⟩ (.int .i64 (11 + (i : Int)))) := ((HT.out.setNew _ (by have := HZ.out; omega)).setB _).setB _
      have hRR : Rdr (((w1.setCell ⟨B1, 0, none⟩ (.int .u64 0)).setCell ⟨b, 1, none⟩ (.int .i64 (k : Int))).setCell ⟨b, 2, none⟩ (.int .i64 (11 + (i : Int)))) b sa n cap k (11 + (i : Int)) l a := by
        refine HR.out.moved hT ?_ ?_ ?_ ?_ ?_ hle
        · rw [World.cell?_setCell_other _ _ _ _ (by simp), World.cell?_setCell_other _ _ _ _ (by simp), World.cell?_setCell_other _ _ _ _ (by simp)]; exact c0'
        · rw [World.cell?_setCell_other _ _ _ _ (by simp)]; exact World.cell?_setCell_same _ ⟨b, 1, none⟩ _ y0
        · rw [World.frozen?_setCell, World.frozen?_setCell, World.frozen?_setCell]; exact f1'
        · exact World.cell?_setCell_same _ ⟨b, 2, none⟩ _ y1
        · rw [World.frozen?_setCell, World.frozen?_setCell, World.frozen?_setCell]; exact f2'
      simp [Leaves, settle, results, Tryz.results124, go_sem, x1]
      rw [HQ.out]
      exact ⟨rfl, hT, hRR⟩
    | ok p =>
      obtain ⟨v, m⟩ := p
      have HQ := hide (meth_ok (Z := .int .u64 0) (k := k) hd)
      obtain ⟨z, rfl⟩ := rU_val hd
      rw [hd] at hout
      obtain ⟨rfl, hkk⟩ := hout
      subst hkk
      clear hd
      go_wp2
      refine leaves_cons (f := 136) (args := #[.pointer (some ⟨B1, 0, none⟩), .pointer (some ⟨B0, 0, none⟩), .pointer (some ⟨B2, 0, none⟩)]) (by simp) (by simp [go_sem]) ?_
      refine (idle B0 B1 B2 _).mono ?_
      rintro e u' w'' ⟨rfl, rfl, rfl⟩
      have x1 : (w1.setCell ⟨B1, 0, none⟩ (.int .u64 z)).cell? ⟨B1, 0, none⟩ = some (.int .u64 z) := World.cell?_setCell_same w1 ⟨B1, 0, none⟩ _ d1'
      have hT : Touch b w (w1.setCell ⟨B1, 0, none⟩ (.int .u64 z)) := HT.out.setNew _ (by have := HZ.out; omega)
      have hRR : Rdr (w1.setCell ⟨B1, 0, none⟩ (.int .u64 z)) b sa n cap (k + m) 0 l a := by
        refine HR.out.moved hT ?_ ?_ ?_ ?_ ?_ hk'
        · rw [World.cell?_setCell_other _ _ _ _ (by simp)]; exact c0'
        · rw [World.cell?_setCell_other _ _ _ _ (by simp)]; exact c1'
        · rw [World.frozen?_setCell]; exact f1'
        · rw [World.cell?_setCell_other _ _ _ _ (by simp)]; exact c2'
        · rw [World.frozen?_setCell]; exact f2'
      simp only [Leaves, settle]
      simp [results, Tryz.results124, go_sem, x1]
      rw [HQ.out]
      exact ⟨rfl, hT, hRR⟩
  · have HQ := hide (meth_broken (Z := .int .u64 0) (r := rU most l k) (k := k) hf)
    have hb : (f != 0) = true := by rw [bne_iff_ne]; exact hf
    have HB : Hid (Below w.heap.size w ((w.alloc (.cells #[.pointer (some ⟨b, 0, none⟩)] 147)).alloc (.cells #[.int .u64 0] 132))) := ((Below.refl _ _).alloc (Nat.le_refl _) _).alloc (by simp) _
    clear hf
    go_enter_defers Tryz.func124, Tryz.ntmps124
    go_wp2
    simp only [bodyPostD, Leaves]
    simp [results, Tryz.results124, go_sem]
    rw [HQ.out]
    exact ⟨rfl, Touch.ofBelow HB.out, h.below HB.out (Nat.le_refl _)⟩
end mUint
end Go.Proofs.YtdokagebfeejbaaGreatDoor
