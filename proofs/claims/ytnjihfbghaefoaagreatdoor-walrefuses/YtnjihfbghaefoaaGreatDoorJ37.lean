/- Texts of the proof, joined. -/
import Derived.Test.YtnjihfbghaefoaaGreatDoorRows
import Derived.Test.YtnjihfbghaefoaaGreatDoorJ01
import Derived.Test.YtnjihfbghaefoaaGreatDoorJ34
import Derived.WalkKit
import Derived.Deep.QuietTactic
import Derived.BigQuiet
import Derived.Lib.SlBytesConst
import Derived.WalkSpells
import Derived.Test.YtnjihfbghaefoaaGreatDoorJ20
import Derived.Test.YtnjihfbghaefoaaGreatDoorJ22
import Derived.Defers
import Derived.Recover
import Derived.RegionTactic
import Derived.ChangeAlike
import Derived.Test.YtnjihfbghaefoaaGreatDoorJ36
import Derived.Test.YtnjihfbghaefoaaGreatDoorJ02
import Derived.Deep.RegionHeld3
import Derived.Lib.AppendZerosOnto
import Derived.Laws.CopyOwn
import Derived.Lib.SliceRun
import Derived.Deep.Cut
import Derived.WalkMore
/- The contracts of package crc's functions: a byte is taken in by two looks into the table of sixteen. -/
namespace Go.Proofs.YtnjihfbghaefoaaGreatDoor
open Go.RowKit Go.Wire1 Go.Crc2

/-- The table lies in memory. -/
def Hal (w : World) : Prop := ∀ i : Nat, i < 16 → w.cell? ⟨4, i, none⟩ = some (.int .u32 ((halves.getD i 0 : Nat) : Int))

theorem Hal.later {w w' : World} (h : Hal w) (hb : Below w.heap.size w w') : Hal w' := fun i hi => cell_later hb (h i hi)
theorem Hal.alloc {w : World} (h : Hal w) (o : Obj) : Hal (w.alloc o) := fun i hi => Lib.cell?_alloc_marked o (h i hi)
theorem Hal.set {w : World} (h : Hal w) {b off : Nat} {v : Value} (hb : 4 ≠ b) : Hal (w.setCell ⟨b, off, none⟩ v) := fun i hi => by
  rw [World.cell?_setCell_other _ _ _ _ (by intro e; injection e with e1; omega)]; exact h i hi
theorem Hal.lt {w : World} (h : Hal w) : 4 < w.heap.size := by
  have := h 0 (by decide)
  rcases Nat.lt_or_ge 4 w.heap.size with h' | h'
  · exact h'
  · simp [World.cell?, Array.getElem?_eq_none h'] at this
theorem Hal.drewN {w : World} (h : Hal w) (q : Nat) : Hal (w.drewN q) := h

/-- A register, as the machine's number. -/
abbrev nr (r : R) : Value := .int .u32 ((r.toNat : Nat) : Int)
theorem r_lt (r : R) : r.toNat < 4294967296 := r.isLt
theorem x_xorN (a : R) (n : Nat) (h : n < 4294967296) : bits .xor .u32 (a.toNat : Int) (n : Int) = ((a ^^^ BitVec.ofNat 32 n).toNat : Int) := by
  rw [u32_xor_nat _ _ a.isLt h, BitVec.toNat_xor, BitVec.toNat_ofNat, Nat.mod_eq_of_lt h]
theorem x_and15 (a : R) : bits .and .u32 (a.toNat : Int) 15 = ((a.toNat % 16 : Nat) : Int) := by
  have := u32_and_nat a.toNat 15 a.isLt (by decide)
  rw [show (15 : Nat) = 2 ^ 4 - 1 by decide, Nat.and_two_pow_sub_one_eq_mod] at this
  exact this
theorem x_shr4 (a : R) : Int.ofNat a.toNat / (16 : Int) = Int.ofNat (a >>> 4).toNat := by
  rw [BitVec.toNat_ushiftRight, Nat.shiftRight_eq_div_pow]; simp only [Int.ofNat_eq_natCast]; omega
theorem halves_lt : ∀ i : Fin 16, halves.getD i.val 0 < 4294967296 := by decide
theorem nib_val (r : R) : bits .xor .u32 ((halves.getD (r.toNat % 16) 0 : Nat) : Int) (Int.ofNat r.toNat / (16 : Int)) = ((steps 4 r).toNat : Int) := by
  rw [x_shr4, Int.ofNat_eq_natCast]
  have h := halves_lt ⟨r.toNat % 16, Nat.mod_lt _ (by decide)⟩
  rw [u32_xor_nat _ _ h (r >>> 4).isLt, nib, BitVec.toNat_xor, BitVec.toNat_ofNat, Nat.mod_eq_of_lt h]

set_option maxHeartbeats 400000 in
set_option maxRecDepth 100000 in
theorem takeByte_any (r : R) (x : Int) (w : World) (h0 : 0 ≤ x) (h1 : x < 256) (hH : Hal w) :
    Calls Tryz.prog 138 #[nr r, .int .u8 x] w fun e w' => e = .returned (nr (take r x)) ∧ w' = w := by
  obtain ⟨n, rfl⟩ := Int.eq_ofNat_of_zero_le h0
  have e1 := x_xorN r n (by omega)
  have hT : Hid (take r (n : Int) = steps 4 (steps 4 (r ^^^ BitVec.ofNat 32 n))) := by show take _ _ = _; rw [← steps_add]; rfl
  generalize r ^^^ BitVec.ofNat 32 n = r1 at *
  have e2 := x_and15 r1
  have l1 : r1.toNat % 16 < 16 := Nat.mod_lt _ (by decide)
  have c1 := hH _ l1
  have e4 := nib_val r1
  generalize steps 4 r1 = r2 at *
  have f2 := x_and15 r2
  have l2 : r2.toNat % 16 < 16 := Nat.mod_lt _ (by decide)
  have c2 := hH _ l2
  have f4 := nib_val r2
  rw [hT.out]
  clear hH hT
  simp only [nr, Int.ofNat_eq_natCast] at *
  generalize halves.getD (r1.toNat % 16) 0 = d1 at *
  generalize halves.getD (r2.toNat % 16) 0 = d2 at *
  generalize steps 4 r2 = r3 at *
  generalize r1.toNat % 16 = i1 at *
  generalize r2.toNat % 16 = i2 at *
  have b0 := r_lt r
  have b1 := r_lt r1
  have b2 := r_lt r2
  have b3 := r_lt r3
  generalize r.toNat = k0 at *
  generalize r1.toNat = k1 at *
  generalize r2.toNat = k2 at *
  generalize r3.toNat = k3 at *
  go_enter Tryz.func138, Tryz.ntmps138
  go_wp2
  go_ret
  exact ⟨rfl, rfl⟩

theorem x_not (a : R) : bits .xor .u32 IntKind.u32.max (a.toNat : Int) = ((~~~ a).toNat : Int) := by
  have := u32_xor_nat 4294967295 a.toNat (by decide) a.isLt
  rw [show IntKind.u32.max = ((4294967295 : Nat) : Int) by decide, this, Nat.xor_comm]
  have h2 : (BitVec.allOnes 32 ^^^ a).toNat = a.toNat ^^^ 4294967295 := by rw [BitVec.toNat_xor, Nat.xor_comm]; rfl
  rw [← h2, BitVec.allOnes_xor]

theorem take_step' {l : List Int} {k : Nat} (r : R) (h : k < l.length) : takes r (l.take (k + 1)) = take (takes r (l.take k)) (l.getD k 0) := by
  rw [take_next h, takes_append]; rfl

set_option maxHeartbeats 400000 in
set_option maxRecDepth 100000 in
theorem update_any (c : R) (a : Option Addr) (n cap : Nat) (l : List Int) (w : World) (hs : Seg w a n l) (hb : Byt l) (hH : Hal w) :
    Calls Tryz.prog 104 #[nr c, .slice a n cap] w fun e w' => e = .returned (nr (upd c l)) ∧ w' = w := by
  have HH : Hid (Hal w) := hH
  have HS : Hid (Seg w a n l) := hs
  have HB : Hid (Byt l) := hb
  have hl : Hid (l.length = n) := hs.1
  have hn : n ≤ maxLen := hs.2.1
  unfold maxLen at hn
  clear hH hs hb
  have e0 := x_not c
  have eU : Hid (upd c l = ~~~ (takes (~~~ c) l)) := rfl
  rw [eU.out]
  generalize ~~~ c = c1 at *
  clear eU
  obtain ⟨fin, hfin⟩ : ∃ fin, Hid (~~~ (takes c1 l) = fin) := ⟨_, rfl⟩
  rw [hfin.out]
  simp only [nr]
  go_enter Tryz.func104, Tryz.ntmps104
  go_wp2
  go_loop [5, 12] (fun v i => ∃ k : Nat, i = .int .i64 (k : Int) ∧ k ≤ n ∧ v = nr (takes c1 (l.take k))) (fun _ i => n - (intOf i).toNat)
  case atStart => exact ⟨0, rfl, Nat.zero_le _, rfl⟩
  case round =>
    obtain ⟨k, rfl, hk, rfl⟩ := hrel
    by_cases hlt : k < n
    · obtain ⟨ba, oa, rfl, hca⟩ := HS.out.2.2 (by omega)
      have ca : w.cell? ⟨ba, oa + k, none⟩ = some (.int .u8 (l.getD k 0)) := hca k hlt
      have hz := byt_at HB.out k
      have HT : Hid (takes c1 (l.take (k + 1)) = take (takes c1 (l.take k)) (l.getD k 0)) := take_step' c1 (by have := hl.out; omega)
      clear hca
      generalize l.getD k 0 = z at *
      generalize takes c1 (l.take k) = r at *
      go_wp2_with fail
      refine (takeByte_any r z _ hz.1 hz.2 HH.out).mono ?_
      rintro e w' ⟨rfl, rfl⟩
      go_wp2
      go_round
      case rel => exact ⟨k + 1, by go_num, by omega, by rw [HT.out]⟩
      case measure => simp [intOf]; omega
    · have HT : Hid (l.take k = l) := List.take_of_length_le (by have := hl.out; omega)
      rw [HT.out]
      have e1 := x_not (takes c1 l)
      rw [hfin.out] at e1
      generalize takes c1 l = r at *
      simp only [nr]
      go_wp2
      go_ret
      exact ⟨rfl, rfl⟩

set_option maxHeartbeats 400000 in
set_option maxRecDepth 100000 in
theorem sum_any (a : Option Addr) (n cap : Nat) (l : List Int) (w : World) (hs : Seg w a n l) (hb : Byt l) (hH : Hal w) :
    Calls Tryz.prog 67 #[.slice a n cap] w fun e w' => e = .returned (nr (upd 0#32 l)) ∧ w' = w := by
  obtain ⟨fin, hfin⟩ : ∃ fin, Hid (upd 0#32 l = fin) := ⟨_, rfl⟩
  rw [hfin.out]
  go_enter Tryz.func67, Tryz.ntmps67
  go_wp2_with fail
  refine (update_any 0#32 a n cap l _ hs hb hH).mono ?_
  rintro e w' ⟨rfl, rfl⟩
  rw [hfin.out]
  go_wp2
  go_ret
  exact ⟨rfl, rfl⟩

end Go.Proofs.YtnjihfbghaefoaaGreatDoor
/- The contract of GetUint: the number, its bytes, the fault's number; it writes nothing that was there. -/
namespace Go.Proofs.YtnjihfbghaefoaaGreatDoor
open Go.RowKit Go.Wire1

/-- What GetUint answers. -/
def GotU (r : Except Nat (Nat × Nat)) (e : Ending) : Prop :=
  match r with
  | .ok (x, m) => e = .returned (.tuple #[.int .u64 (x : Int), .int .i64 (m : Int), .int .i64 0])
  | .error i => e = .returned (.tuple #[.int .u64 0, .int .i64 0, .int .i64 (11 + (i : Int))])

end Go.Proofs.YtnjihfbghaefoaaGreatDoor
/- A stream in memory: its block, its payload's row of our own, what may turn; the contracts of breakWith, keep, takeMagic, takeVersion, takeSum, State, isVersion. -/
namespace Go.Proofs.YtnjihfbghaefoaaGreatDoor
open Go.RowKit Go.Wire1 Go.Crc2 Go.Frm

def cellsS (s : Sm) (pv : Value) : List Value := [.int .i64 (s.v : Int), .int .i64 (s.fault : Int), .int .i64 (s.place : Int), .int .i64 (s.held : Int), .int .i64 (s.part : Int), .int .i64 (s.left : Int)] ++ (s.head.map (Value.int .u8) ++ [pv, nr s.sum])

/-- A stream in memory. -/
structure Str (w : World) (b : Nat) (s : Sm) (pv : Value) (E0 : Nat) : Prop where
  box : Blk w b (cellsS s pv)
  own : w.ownsRow E0 5 1 pv s.pay.length (s.pay.map (Value.int .u8))
  far : pv.ownBlock ≠ some b
  six : s.head.length = 6
  low : E0 ≤ b
  nil_ : s.pay = [] → pv = .slice none 0 0
/-- What lies in memory from the start on. -/
structure Env (w : World) (a : Nat → Addr) (E0 : Nat) : Prop where
  hal : Hal w
  errs : Errs w a
  low : ∀ i, i < 5 → (a i).block < E0
  five : 10 ≤ E0
/-- What a step leaves. -/
structure Stp (w w' : World) (b : Nat) (s' : Sm) (pv pv' : Value) (E0 : Nat) : Prop where
  str : Str w' b s' pv' E0
  tch : Tch b pv.ownBlock w w'
  lat : Lat pv.ownBlock pv'.ownBlock w

theorem Stp.trans {w w1 w2 : World} {b : Nat} {s1 s2 : Sm} {pv pv1 pv2 : Value} {E0 : Nat} (h : Stp w w1 b s1 pv pv1 E0) (k : Stp w1 w2 b s2 pv1 pv2 E0) : Stp w w2 b s2 pv pv2 E0 :=
  ⟨k.str, h.tch.trans k.tch h.lat, h.lat.trans k.lat h.tch.size⟩
theorem Env.below {w w' : World} {a : Nat → Addr} {E0 : Nat} (h : Env w a E0) (hb : Below E0 w w') : Env w' a E0 := by
  have h5 := h.five
  have key : ∀ g o, g < 10 → w'.cell? ⟨g, o, none⟩ = w.cell? ⟨g, o, none⟩ := fun g o hg => hb.cell (p := ⟨g, o, none⟩) (by show g < E0; omega)
  refine ⟨fun i hi => (key _ _ (by decide)).trans (h.hal i hi), ?_, h.low, h.five⟩
  refine ⟨(key _ _ (by decide)).trans h.errs.s0, (key _ _ (by decide)).trans h.errs.s1, (key _ _ (by decide)).trans h.errs.s2, (key _ _ (by decide)).trans h.errs.s3, (key _ _ (by decide)).trans h.errs.s4, fun i hi => ?_, h.errs.ne, Nat.le_trans h.errs.room hb.size⟩
  obtain ⟨c, t, e⟩ := h.errs.blk i hi
  exact ⟨c, t, (hb.block _ (h.low i hi)).trans e⟩
theorem Env.drewN {w : World} {a : Nat → Addr} {E0 : Nat} (h : Env w a E0) (q : Nat) : Env (w.drewN q) a E0 := ⟨h.hal.drewN q, h.errs.drewN q, h.low, h.five⟩
theorem Str.ownLow {w : World} {b : Nat} {s : Sm} {pv : Value} {E0 : Nat} (h : Str w b s pv E0) : ∀ k, pv.ownBlock = some k → E0 ≤ k := fun k hk => (h.own.lt k hk).1
theorem Stp.below {w w' : World} {b : Nat} {s s' : Sm} {pv pv' : Value} {E0 : Nat} (h : Stp w w' b s' pv pv' E0) (k : Str w b s pv E0) : Below E0 w w' :=
  h.tch.below k.low k.ownLow (Nat.le_trans k.low (Nat.le_of_lt k.box.lt))
theorem Str.drewN {w : World} {b : Nat} {s : Sm} {pv : Value} {E0 : Nat} (h : Str w b s pv E0) (q : Nat) : Str (w.drewN q) b s pv E0 := ⟨⟨h.box.cell, h.box.thaw, h.box.lt⟩, h.own, h.far, h.six, h.low, h.nil_⟩
theorem Stp.drewN {w w' : World} {b : Nat} {s : Sm} {pv pv' : Value} {E0 : Nat} (h : Stp w w' b s pv pv' E0) (q : Nat) : Stp w (w'.drewN q) b s pv pv' E0 := ⟨h.str.drewN q, h.tch.drewN q, h.lat⟩

section
variable {w : World} {b : Nat} {s : Sm} {pv : Value} {E0 : Nat}
theorem Str.c12 (h : Str w b s pv E0) : w.cell? ⟨b, 12, none⟩ = some pv := h.box.cell 12 _ (by simp [cellsS, h.six])
theorem Str.c13 (h : Str w b s pv E0) : w.cell? ⟨b, 13, none⟩ = some (nr s.sum) := h.box.cell 13 _ (by simp [cellsS, h.six])
/-- A cell of the box is written. -/
theorem Str.put (h : Str w b s pv E0) (j : Nat) (v : Value) (s' : Sm) (hr : (cellsS s pv).set j v = cellsS s' pv) (hp : s'.pay = s.pay) (h6 : s'.head.length = 6) : Stp w (w.setCell ⟨b, j, none⟩ v) b s' pv pv E0 := by
  refine ⟨⟨by rw [← hr]; exact h.box.setAt j v, ?_, h.far, h6, h.low, by rw [hp]; exact h.nil_⟩, (Tch.refl _ _ _).setB v, Lat.refl _ _⟩
  rw [hp]
  exact own_other h.own fun k hk => Below.heap_setCell _ _ _ _ (fun e => h.far (by rw [hk, e]))
end

end Go.Proofs.YtnjihfbghaefoaaGreatDoor
/- The contracts of a stream's takeMagic, takeVersion, takeSum, State, of isVersion and NewStream. -/
namespace Go.Proofs.YtnjihfbghaefoaaGreatDoor
open Go.RowKit Go.Wire1 Go.Crc2 Go.Frm

def verB (v : Int) : Bool := decide (0 ≤ v ∧ v ≤ 2)
set_option maxHeartbeats 2000000 in
set_option maxRecDepth 100000 in
theorem frVersion_any (v : Int) (w : World) : Calls Tryz.prog 64 #[.int .i64 v] w fun r w' => r = .returned (.bool (verB v)) ∧ w = w' := by
  by_cases h0 : 0 ≤ v
  · by_cases h2 : v ≤ 2
    · have E : Hid (verB v = true) := by show _ = _; unfold verB; simp [h0, h2]
      go_enter Tryz.func64, Tryz.ntmps64
      go_wp2
      go_ret
      exact ⟨by rw [E.out]; rfl, rfl⟩
    · have E : Hid (verB v = false) := by show _ = _; unfold verB; simp [h2]
      go_enter Tryz.func64, Tryz.ntmps64
      go_wp2
      go_ret
      exact ⟨by rw [E.out]; rfl, rfl⟩
  · have E : Hid (verB v = false) := by show _ = _; unfold verB; simp [h0]
    go_enter Tryz.func64, Tryz.ntmps64
    go_wp2
    go_ret
    exact ⟨by rw [E.out]; rfl, rfl⟩

end Go.Proofs.YtnjihfbghaefoaaGreatDoor
/- The contract of a stream's takeLength. -/
namespace Go.Proofs.YtnjihfbghaefoaaGreatDoor
open Go.RowKit Go.Wire1 Go.Crc2 Go.Frm

theorem Str.on {w w' : World} {b : Nat} {s : Sm} {pv : Value} {E0 : Nat} (h : Str w b s pv E0) (hb : Below w.heap.size w w') : Str w' b s pv E0 :=
  ⟨h.box.on hb, own_other h.own (fun k hk => hb.block k (h.own.lt k hk).2), h.far, h.six, h.low, h.nil_⟩
theorem Stp.on {w w1 w' : World} {b : Nat} {s : Sm} {pv pv' : Value} {E0 : Nat} (h : Stp w w1 b s pv pv' E0) (hb : Below w1.heap.size w1 w') : Stp w w' b s pv pv' E0 :=
  ⟨h.str.on hb, h.tch.trans (Tch.ofBelow (r := pv'.ownBlock) hb) h.lat, h.lat⟩

end Go.Proofs.YtnjihfbghaefoaaGreatDoor
/- The contracts of slices.Grow (on bytes), of a stream's gather and takePayload. -/
namespace Go.Proofs.YtnjihfbghaefoaaGreatDoor
open Go.RowKit Go.Wire1 Go.Crc2 Go.Frm

/-- What Grow leaves where there was no room. -/
def Grew (w : World) (l n c : Nat) (cs : List Value) (e : Ending) (w' : World) : Prop := ∃ (G : Nat) (zs : List Value), l + n ≤ G ∧ G ≤ maxLen ∧ zs.length = G - c ∧ e = .returned (.slice (some ⟨w.heap.size, 0, none⟩) l G) ∧ w' = w.drew.alloc (.cells (cs ++ zs).toArray 5)

/-- What Grow answers on a row of our own: a block with room for n more, the row at its beginning. -/
def GrewAny (w : World) (pv : Value) (E0 n m : Nat) (xs : List Value) (e : Ending) (w' : World) : Prop := ∃ (g cap : Nat) (cur : List Value), e = .returned (.slice (some ⟨g, 0, none⟩) n cap) ∧ n + m ≤ cap ∧ cap ≤ maxLen ∧ cur.length = cap ∧ cur.take n = xs ∧ E0 ≤ g ∧
      w'.heap[g]? = some (.cells cur.toArray 5 (0, 0)) ∧ Below w.heap.size w w' ∧ (pv.ownBlock = some g ∨ g = w.heap.size)
def _root_.Go.Frm.Sm.more (s : Sm) (run : List Int) : Sm := { s with pay := s.pay ++ run }
end Go.Proofs.YtnjihfbghaefoaaGreatDoor
/- The contract of a stream's takePayload. -/
namespace Go.Proofs.YtnjihfbghaefoaaGreatDoor
open Go.RowKit Go.Wire1 Go.Crc2 Go.Frm

/-- Behind gather. -/
def _root_.Go.Frm.Sm.mid (s : Sm) (run : List Int) : Sm := { s with pay := s.pay ++ run, sum := upd s.sum run }

end Go.Proofs.YtnjihfbghaefoaaGreatDoor
/- The contract of a stream's Feed. -/
namespace Go.Proofs.YtnjihfbghaefoaaGreatDoor
open Go.RowKit Go.Wire1 Go.Crc2 Go.Frm

def slen : Value → Nat
  | .slice _ n _ => n
  | _ => 0
def pay3 : Option Value → Nat
  | some (.int _ z) => if z = 3 then 1 else 0
  | _ => 0
def inPay (w : World) (b : Nat) : Nat := pay3 (w.cell? ⟨b, 4, none⟩)
/-- What Feed has come to behind k bytes of the chunk. -/
structure Fd (w wr : World) (b v pl : Nat) (h l : List Int) (pv : Value) (E0 k : Nat) (s1 : Sm) (pv1 : Value) : Prop where
  le : k ≤ l.length
  came : Came v pl (h ++ l.take k) s1
  stp : Stp w wr b s1 pv pv1 E0
theorem take_add {l : List Int} (k m : Nat) : l.take (k + m) = l.take k ++ (l.drop k).take m := List.take_add
theorem Fd.next {w wr w2 : World} {b v pl : Nat} {h l : List Int} {pv : Value} {E0 k m : Nat} {s1 s2 : Sm} {pv1 pv2 : Value} (F : Fd w wr b v pl h l pv E0 k s1 pv1) (hm : k + m ≤ l.length) (hc : Came v pl ((h ++ l.take k) ++ (l.drop k).take m) s2) (hs : Stp wr w2 b s2 pv1 pv2 E0) :
    Fd w w2 b v pl h l pv E0 (k + m) s2 pv2 := ⟨hm, by rw [take_add, ← List.append_assoc]; exact hc, F.stp.trans hs⟩
end Go.Proofs.YtnjihfbghaefoaaGreatDoor
