/- The contracts of package crc's functions: a byte is taken in by two looks into the table of sixteen. -/
import Derived.Test.YtiajkdjljilndaaDoorRows
import Derived.Test.YtiajkdjljilndaaDoorMath
import Derived.Test.YtiajkdjljilndaaDoorCMath
import Derived.WalkKit
import Derived.Deep.QuietTactic
import Derived.BigQuiet
import Derived.Lib.SlBytesConst
import Derived.WalkSpells
namespace Go.Proofs.YtiajkdjljilndaaDoor
open Go.RowKit Go.Wire1 Go.Crc2

/-- The table lies in memory. -/
def Hal (w : World) : Prop := ∀ i : Nat, i < 16 → w.cell? ⟨0, i, none⟩ = some (.int .u32 ((halves.getD i 0 : Nat) : Int))

theorem Hal.later {w w' : World} (h : Hal w) (hb : Below w.heap.size w w') : Hal w' := fun i hi => cell_later hb (h i hi)
theorem Hal.alloc {w : World} (h : Hal w) (o : Obj) : Hal (w.alloc o) := fun i hi => Lib.cell?_alloc_marked o (h i hi)
theorem Hal.set {w : World} (h : Hal w) {b off : Nat} {v : Value} (hb : 0 ≠ b) : Hal (w.setCell ⟨b, off, none⟩ v) := fun i hi => by
  rw [World.cell?_setCell_other _ _ _ _ (by intro e; injection e with e1; omega)]; exact h i hi
theorem Hal.lt {w : World} (h : Hal w) : 0 < w.heap.size := by
  have := h 0 (by decide)
  rcases Nat.lt_or_ge 0 w.heap.size with h' | h'
  · exact h'
  · simp [World.cell?, Array.getElem?_eq_none h'] at this
theorem Hal.drewN {w : World} (h : Hal w) (q : Nat) : Hal (w.drewN q) := h

/-- A register, as the machine's number. -/
abbrev nr (r : R) : Value := .int .u32 ((r.toNat : Nat) : Int)
theorem r_lt (r : R) : r.toNat < 4294967296 := r.isLt
theorem x_xor (a b : R) : bits .xor .u32 (a.toNat : Int) (b.toNat : Int) = ((a ^^^ b).toNat : Int) := by
  rw [u32_xor_nat _ _ a.isLt b.isLt, BitVec.toNat_xor]
theorem x_xorN (a : R) (n : Nat) (h : n < 4294967296) : bits .xor .u32 (a.toNat : Int) (n : Int) = ((a ^^^ BitVec.ofNat 32 n).toNat : Int) := by
  rw [u32_xor_nat _ _ a.isLt h, BitVec.toNat_xor, BitVec.toNat_ofNat, Nat.mod_eq_of_lt h]
theorem x_and15 (a : R) : bits .and .u32 (a.toNat : Int) 15 = ((a.toNat % 16 : Nat) : Int) := by
  have := u32_and_nat a.toNat 15 a.isLt (by decide)
  rw [show (15 : Nat) = 2 ^ 4 - 1 by decide, Nat.and_two_pow_sub_one_eq_mod] at this
  exact this
theorem x_shr4 (a : R) : Int.ofNat a.toNat / (16 : Int) = Int.ofNat (a >>> 4).toNat := by
  rw [BitVec.toNat_ushiftRight, Nat.shiftRight_eq_div_pow]; simp only [Int.ofNat_eq_natCast]; omega
theorem halves_lt : ∀ i : Fin 16, halves.getD i.val 0 < 4294967296 := by decide
theorem nib_val (r : R) : bits .xor .u32 ((halves.getD (r.toNat % 16) 0 : Nat) : Int) (Int.ofNat r.toNat / (16 : Int)) = ((steps 4 r).toNat : Int) := by
  rw [x_shr4, Int.ofNat_eq_natCast]
  have h := halves_lt ⟨r.toNat % 16, Nat.mod_lt _ (by decide)⟩
  rw [u32_xor_nat _ _ h (r >>> 4).isLt, nib, BitVec.toNat_xor, BitVec.toNat_ofNat, Nat.mod_eq_of_lt h]

set_option maxHeartbeats 400000 in
set_option maxRecDepth 100000 in
theorem takeByte_any (r : R) (x : Int) (w : World) (h0 : 0 ≤ x) (h1 : x < 256) (hH : Hal w) :
    Calls Tryd.prog 48 #[nr r, .int .u8 x] w fun e w' => e = .returned (nr (take r x)) ∧ w' = w := by
  obtain ⟨n, rfl⟩ := Int.eq_ofNat_of_zero_le h0
  have e1 := x_xorN r n (by omega)
  have hT : Hid (take r (n : Int) = steps 4 (steps 4 (r ^^^ BitVec.ofNat 32 n))) := by show take _ _ = _; rw [← steps_add]; rfl
  generalize r ^^^ BitVec.ofNat 32 n = r1 at *
  have e2 := x_and15 r1
  have l1 : r1.toNat % 16 < 16 := Nat.mod_lt _ (by decide)
  have c1 := hH _ l1
  have e4 := nib_val r1
  generalize steps 4 r1 = r2 at *
  have f2 := x_and15 r2
  have l2 : r2.toNat % 16 < 16 := Nat.mod_lt _ (by decide)
  have c2 := hH _ l2
  have f4 := nib_val r2
  rw [hT.out]
  clear hH hT
  simp only [nr, Int.ofNat_eq_natCast] at *
  generalize halves.getD (r1.toNat % 16) 0 = d1 at *
  generalize halves.getD (r2.toNat % 16) 0 = d2 at *
  generalize steps 4 r2 = r3 at *
  generalize r1.toNat % 16 = i1 at *
  generalize r2.toNat % 16 = i2 at *
  have b0 := r_lt r
  have b1 := r_lt r1
  have b2 := r_lt r2
  have b3 := r_lt r3
  generalize r.toNat = k0 at *
  generalize r1.toNat = k1 at *
  generalize r2.toNat = k2 at *
  generalize r3.toNat = k3 at *
  go_enter Tryd.func48, Tryd.ntmps48
  go_wp2
  go_ret
  exact ⟨rfl, rfl⟩

theorem x_not (a : R) : bits .xor .u32 IntKind.u32.max (a.toNat : Int) = ((~~~ a).toNat : Int) := by
  have := u32_xor_nat 4294967295 a.toNat (by decide) a.isLt
  rw [show IntKind.u32.max = ((4294967295 : Nat) : Int) by decide, this, Nat.xor_comm]
  have h2 : (BitVec.allOnes 32 ^^^ a).toNat = a.toNat ^^^ 4294967295 := by rw [BitVec.toNat_xor, Nat.xor_comm]; rfl
  rw [← h2, BitVec.allOnes_xor]

theorem take_step' {l : List Int} {k : Nat} (r : R) (h : k < l.length) : takes r (l.take (k + 1)) = take (takes r (l.take k)) (l.getD k 0) := by
  rw [take_next h, takes_append]; rfl

set_option maxHeartbeats 400000 in
set_option maxRecDepth 100000 in
theorem update_any (c : R) (a : Option Addr) (n cap : Nat) (l : List Int) (w : World) (hs : Seg w a n l) (hb : Byt l) (hH : Hal w) :
    Calls Tryd.prog 42 #[nr c, .slice a n cap] w fun e w' => e = .returned (nr (upd c l)) ∧ w' = w := by
  have HH : Hid (Hal w) := hH
  have HS : Hid (Seg w a n l) := hs
  have HB : Hid (Byt l) := hb
  have hl : Hid (l.length = n) := hs.1
  have hn : n ≤ maxLen := hs.2.1
  unfold maxLen at hn
  clear hH hs hb
  have e0 := x_not c
  have eU : Hid (upd c l = ~~~ (takes (~~~ c) l)) := rfl
  rw [eU.out]
  generalize ~~~ c = c1 at *
  clear eU
  obtain ⟨fin, hfin⟩ : ∃ fin, Hid (~~~ (takes c1 l) = fin) := ⟨_, rfl⟩
  rw [hfin.out]
  simp only [nr]
  go_enter Tryd.func42, Tryd.ntmps42
  go_wp2
  go_loop [5, 12] (fun v i => ∃ k : Nat, i = .int .i64 (k : Int) ∧ k ≤ n ∧ v = nr (takes c1 (l.take k))) (fun _ i => n - (intOf i).toNat)
  case atStart => exact ⟨0, rfl, Nat.zero_le _, rfl⟩
  case round =>
    obtain ⟨k, rfl, hk, rfl⟩ := hrel
    by_cases hlt : k < n
    · obtain ⟨ba, oa, rfl, hca⟩ := HS.out.2.2 (by omega)
      have ca : w.cell? ⟨ba, oa + k, none⟩ = some (.int .u8 (l.getD k 0)) := hca k hlt
      have hz := byt_at HB.out k
      have HT : Hid (takes c1 (l.take (k + 1)) = take (takes c1 (l.take k)) (l.getD k 0)) := take_step' c1 (by have := hl.out; omega)
      clear hca
      generalize l.getD k 0 = z at *
      generalize takes c1 (l.take k) = r at *
      go_wp2_with fail
      refine (takeByte_any r z _ hz.1 hz.2 HH.out).mono ?_
      rintro e w' ⟨rfl, rfl⟩
      go_wp2
      go_round
      case rel => exact ⟨k + 1, by go_num, by omega, by rw [HT.out]⟩
      case measure => simp [intOf]; omega
    · have HT : Hid (l.take k = l) := List.take_of_length_le (by have := hl.out; omega)
      rw [HT.out]
      have e1 := x_not (takes c1 l)
      rw [hfin.out] at e1
      generalize takes c1 l = r at *
      simp only [nr]
      go_wp2
      go_ret
      exact ⟨rfl, rfl⟩

set_option maxHeartbeats 400000 in
set_option maxRecDepth 100000 in
theorem sum_any (a : Option Addr) (n cap : Nat) (l : List Int) (w : World) (hs : Seg w a n l) (hb : Byt l) (hH : Hal w) :
    Calls Tryd.prog 31 #[.slice a n cap] w fun e w' => e = .returned (nr (upd 0#32 l)) ∧ w' = w := by
  obtain ⟨fin, hfin⟩ : ∃ fin, Hid (upd 0#32 l = fin) := ⟨_, rfl⟩
  rw [hfin.out]
  go_enter Tryd.func31, Tryd.ntmps31
  go_wp2_with fail
  refine (update_any 0#32 a n cap l _ hs hb hH).mono ?_
  rintro e w' ⟨rfl, rfl⟩
  rw [hfin.out]
  go_wp2
  go_ret
  exact ⟨rfl, rfl⟩

end Go.Proofs.YtiajkdjljilndaaDoor
