/- The contract of the document's own length. -/
import Derived.Test.YtnlohbfolphafaaDoorFrSlA
namespace Go.Proofs.YtnlohbfolphafaaDoor
open Go.RowKit Go.Wire1 Go.Crc2 Go.Frm

/-- What the document's own length answers. -/
def lnT (t : List Int) : Nat × Nat × Nat := match len3 t with | .short => (0, 0, 11) | .bad k e => (0, k, e) | .ok n k => (n, k, 0)
theorem seg_cell {w : World} {b off n : Nat} {l : List Int} (h : Seg w (some ⟨b, off, none⟩) n l) (j : Nat) (hj : j < n) : w.cell? ⟨b, off + j, none⟩ = some (.int .u8 (l.getD j 0)) := by
  obtain ⟨_, _, e, hc⟩ := h.2.2 (by omega)
  cases e
  exact hc j hj

set_option maxHeartbeats 2000000 in
set_option maxRecDepth 100000 in
theorem rlen1 (b off n cap : Nat) (w : World) (hn : n ≤ 9223372036854775807) (x : Nat) (hx : x < 256) (cx : w.cell? ⟨b, off, none⟩ = some (.int .u8 (x : Int))) (h1 : 1 ≤ n) (hx1 : x < 128) :
    Calls Tryd.prog 49 #[.slice (some ⟨b, off, none⟩) n cap] w fun e w' => e = .returned (.tuple #[.int .i64 (x : Int), .int .i64 1, .int .i64 0]) ∧ w = w' := by
  have e : (x : Int) % 128 = (x : Int) := by omega
  have et : Int.tmod (x : Int) 128 = (x : Int) := by rw [Int.tmod_eq_emod_of_nonneg (by omega)]; exact e
  have q : (x : Int) < 128 := by omega
  have n0 : ((n : Int) == 0) = false := by simp; omega
  go_enter Tryd.func49, Tryd.ntmps49
  go_wp2
  go_ret3
  exact ⟨rfl, rfl⟩

set_option maxHeartbeats 2000000 in
set_option maxRecDepth 100000 in
theorem rlen2 (b off n cap : Nat) (w : World) (hn : n ≤ 9223372036854775807) (x : Nat) (hx : x < 256) (cx : w.cell? ⟨b, off, none⟩ = some (.int .u8 (x : Int))) (h1 : n = 1) (hx1 : 128 ≤ x) :
    Calls Tryd.prog 49 #[.slice (some ⟨b, off, none⟩) n cap] w fun e w' => e = .returned (.tuple #[.int .i64 0, .int .i64 0, .int .i64 11]) ∧ w = w' := by
  subst h1
  have e : (x : Int) % 128 = ((x % 128 : Nat) : Int) := by omega
  have et : Int.tmod (x : Int) 128 = ((x % 128 : Nat) : Int) := by rw [Int.tmod_eq_emod_of_nonneg (by omega)]; exact e
  have q : ¬ ((x : Int) < 128) := by omega
  generalize x % 128 = xm at *
  go_enter Tryd.func49, Tryd.ntmps49
  go_wp2
  go_ret3
  exact ⟨rfl, rfl⟩

set_option maxHeartbeats 2000000 in
set_option maxRecDepth 100000 in
theorem rlen3 (b off n cap : Nat) (w : World) (hn : n ≤ 9223372036854775807) (x : Nat) (y : Nat) (hx : x < 256) (cx : w.cell? ⟨b, off, none⟩ = some (.int .u8 (x : Int))) (hy : y < 256) (cy : w.cell? ⟨b, off + 1, none⟩ = some (.int .u8 (y : Int))) (h1 : 2 ≤ n) (hx1 : 128 ≤ x) (hy1 : y = 0) :
    Calls Tryd.prog 49 #[.slice (some ⟨b, off, none⟩) n cap] w fun e w' => e = .returned (.tuple #[.int .i64 0, .int .i64 2, .int .i64 13]) ∧ w = w' := by
  subst hy1
  have e : (x : Int) % 128 = ((x % 128 : Nat) : Int) := by omega
  have et : Int.tmod (x : Int) 128 = ((x % 128 : Nat) : Int) := by rw [Int.tmod_eq_emod_of_nonneg (by omega)]; exact e
  have q : ¬ ((x : Int) < 128) := by omega
  have n0 : ((n : Int) == 0) = false := by simp; omega
  have n1 : ((n : Int) == 1) = false := by simp; omega
  have m1 : x % 128 < 128 := by omega
  generalize x % 128 = xm at *
  go_enter Tryd.func49, Tryd.ntmps49
  go_wp2
  go_ret3
  exact ⟨rfl, rfl⟩

set_option maxHeartbeats 2000000 in
set_option maxRecDepth 100000 in
theorem rlen4 (xm : Nat) (b off n cap : Nat) (w : World) (hn : n ≤ 9223372036854775807) (x : Nat) (y : Nat) (hx : x < 256) (cx : w.cell? ⟨b, off, none⟩ = some (.int .u8 (x : Int))) (hy : y < 256) (cy : w.cell? ⟨b, off + 1, none⟩ = some (.int .u8 (y : Int))) (h1 : 2 ≤ n) (hx1 : 128 ≤ x) (hy1 : 0 < y) (hy2 : y < 128) (hxm : x % 128 = xm) :
    Calls Tryd.prog 49 #[.slice (some ⟨b, off, none⟩) n cap] w fun e w' => e = .returned (.tuple #[.int .i64 ((xm : Int) + 128 * (y : Int)), .int .i64 2, .int .i64 0]) ∧ w = w' := by
  have e : (x : Int) % 128 = ((x % 128 : Nat) : Int) := by omega
  have et : Int.tmod (x : Int) 128 = ((x % 128 : Nat) : Int) := by rw [Int.tmod_eq_emod_of_nonneg (by omega)]; exact e
  have q : ¬ ((x : Int) < 128) := by omega
  have n0 : ((n : Int) == 0) = false := by simp; omega
  have n1 : ((n : Int) == 1) = false := by simp; omega
  have m1 : x % 128 < 128 := by omega
  rw [hxm] at e et m1
  have f : (y : Int) % 128 = ((y % 128 : Nat) : Int) := by omega
  have ft : Int.tmod (y : Int) 128 = ((y % 128 : Nat) : Int) := by rw [Int.tmod_eq_emod_of_nonneg (by omega)]; exact f
  have y0 : ((y : Int) == 0) = false := by simp; omega
  have m2 : y % 128 < 128 := by omega
  have r : (y : Int) < 128 := by omega
  have yy : y % 128 = y := by omega
  rw [yy] at f ft
  clear yy m2
  go_enter Tryd.func49, Tryd.ntmps49
  go_wp2
  go_ret3
  exact ⟨rfl, rfl⟩

set_option maxHeartbeats 2000000 in
set_option maxRecDepth 100000 in
theorem rlen5 (b off n cap : Nat) (w : World) (hn : n ≤ 9223372036854775807) (x : Nat) (y : Nat) (hx : x < 256) (cx : w.cell? ⟨b, off, none⟩ = some (.int .u8 (x : Int))) (hy : y < 256) (cy : w.cell? ⟨b, off + 1, none⟩ = some (.int .u8 (y : Int))) (h1 : n = 2) (hx1 : 128 ≤ x) (hy1 : 128 ≤ y) :
    Calls Tryd.prog 49 #[.slice (some ⟨b, off, none⟩) n cap] w fun e w' => e = .returned (.tuple #[.int .i64 0, .int .i64 0, .int .i64 11]) ∧ w = w' := by
  have i1 : 2 ≤ n := by omega
  have e : (x : Int) % 128 = ((x % 128 : Nat) : Int) := by omega
  have et : Int.tmod (x : Int) 128 = ((x % 128 : Nat) : Int) := by rw [Int.tmod_eq_emod_of_nonneg (by omega)]; exact e
  have q : ¬ ((x : Int) < 128) := by omega
  have n0 : ((n : Int) == 0) = false := by simp; omega
  have n1 : ((n : Int) == 1) = false := by simp; omega
  have m1 : x % 128 < 128 := by omega
  generalize x % 128 = xm at *
  have f : (y : Int) % 128 = ((y % 128 : Nat) : Int) := by omega
  have ft : Int.tmod (y : Int) 128 = ((y % 128 : Nat) : Int) := by rw [Int.tmod_eq_emod_of_nonneg (by omega)]; exact f
  have y0 : ((y : Int) == 0) = false := by simp; omega
  have m2 : y % 128 < 128 := by omega
  have r : ¬ ((y : Int) < 128) := by omega
  have n2 : ((n : Int) == 2) = true := by simp; omega
  generalize y % 128 = ym at *
  clear h1
  go_enter Tryd.func49, Tryd.ntmps49
  go_wp2
  go_ret3
  exact ⟨rfl, rfl⟩

set_option maxHeartbeats 2000000 in
set_option maxRecDepth 100000 in
theorem rlen6 (b off n cap : Nat) (w : World) (hn : n ≤ 9223372036854775807) (x : Nat) (y : Nat) (z : Nat) (hx : x < 256) (cx : w.cell? ⟨b, off, none⟩ = some (.int .u8 (x : Int))) (hy : y < 256) (cy : w.cell? ⟨b, off + 1, none⟩ = some (.int .u8 (y : Int))) (hz : z < 256) (cz : w.cell? ⟨b, off + 2, none⟩ = some (.int .u8 (z : Int))) (h1 : 3 ≤ n) (hx1 : 128 ≤ x) (hy1 : 128 ≤ y) (hz1 : z = 0) :
    Calls Tryd.prog 49 #[.slice (some ⟨b, off, none⟩) n cap] w fun e w' => e = .returned (.tuple #[.int .i64 0, .int .i64 3, .int .i64 13]) ∧ w = w' := by
  subst hz1
  have e : (x : Int) % 128 = ((x % 128 : Nat) : Int) := by omega
  have et : Int.tmod (x : Int) 128 = ((x % 128 : Nat) : Int) := by rw [Int.tmod_eq_emod_of_nonneg (by omega)]; exact e
  have q : ¬ ((x : Int) < 128) := by omega
  have n0 : ((n : Int) == 0) = false := by simp; omega
  have n1 : ((n : Int) == 1) = false := by simp; omega
  have m1 : x % 128 < 128 := by omega
  generalize x % 128 = xm at *
  have f : (y : Int) % 128 = ((y % 128 : Nat) : Int) := by omega
  have ft : Int.tmod (y : Int) 128 = ((y % 128 : Nat) : Int) := by rw [Int.tmod_eq_emod_of_nonneg (by omega)]; exact f
  have y0 : ((y : Int) == 0) = false := by simp; omega
  have m2 : y % 128 < 128 := by omega
  have r : ¬ ((y : Int) < 128) := by omega
  have n2 : ((n : Int) == 2) = false := by simp; omega
  generalize y % 128 = ym at *
  go_enter Tryd.func49, Tryd.ntmps49
  go_wp2
  go_ret3
  exact ⟨rfl, rfl⟩

set_option maxHeartbeats 2000000 in
set_option maxRecDepth 100000 in
theorem rlen7 (b off n cap : Nat) (w : World) (hn : n ≤ 9223372036854775807) (x : Nat) (y : Nat) (z : Nat) (hx : x < 256) (cx : w.cell? ⟨b, off, none⟩ = some (.int .u8 (x : Int))) (hy : y < 256) (cy : w.cell? ⟨b, off + 1, none⟩ = some (.int .u8 (y : Int))) (hz : z < 256) (cz : w.cell? ⟨b, off + 2, none⟩ = some (.int .u8 (z : Int))) (h1 : 3 ≤ n) (hx1 : 128 ≤ x) (hy1 : 128 ≤ y) (hz1 : 128 ≤ z) :
    Calls Tryd.prog 49 #[.slice (some ⟨b, off, none⟩) n cap] w fun e w' => e = .returned (.tuple #[.int .i64 0, .int .i64 3, .int .i64 73]) ∧ w = w' := by
  have e : (x : Int) % 128 = ((x % 128 : Nat) : Int) := by omega
  have et : Int.tmod (x : Int) 128 = ((x % 128 : Nat) : Int) := by rw [Int.tmod_eq_emod_of_nonneg (by omega)]; exact e
  have q : ¬ ((x : Int) < 128) := by omega
  have n0 : ((n : Int) == 0) = false := by simp; omega
  have n1 : ((n : Int) == 1) = false := by simp; omega
  have m1 : x % 128 < 128 := by omega
  generalize x % 128 = xm at *
  have f : (y : Int) % 128 = ((y % 128 : Nat) : Int) := by omega
  have ft : Int.tmod (y : Int) 128 = ((y % 128 : Nat) : Int) := by rw [Int.tmod_eq_emod_of_nonneg (by omega)]; exact f
  have y0 : ((y : Int) == 0) = false := by simp; omega
  have m2 : y % 128 < 128 := by omega
  have r : ¬ ((y : Int) < 128) := by omega
  have n2 : ((n : Int) == 2) = false := by simp; omega
  have g : (z : Int) % 128 = ((z % 128 : Nat) : Int) := by omega
  have gt : Int.tmod (z : Int) 128 = ((z % 128 : Nat) : Int) := by rw [Int.tmod_eq_emod_of_nonneg (by omega)]; exact g
  have z0 : ((z : Int) == 0) = false := by simp; omega
  have m3 : z % 128 < 128 := by omega
  have s1 : (128 : Int) ≤ (z : Int) := by omega
  generalize y % 128 = ym at *
  generalize z % 128 = zm at *
  go_enter Tryd.func49, Tryd.ntmps49
  go_wp2
  go_ret3
  exact ⟨rfl, rfl⟩

set_option maxHeartbeats 2000000 in
set_option maxRecDepth 100000 in
theorem rlen8 (b off n cap : Nat) (w : World) (hn : n ≤ 9223372036854775807) (x : Nat) (y : Nat) (z : Nat) (hx : x < 256) (cx : w.cell? ⟨b, off, none⟩ = some (.int .u8 (x : Int))) (hy : y < 256) (cy : w.cell? ⟨b, off + 1, none⟩ = some (.int .u8 (y : Int))) (hz : z < 256) (cz : w.cell? ⟨b, off + 2, none⟩ = some (.int .u8 (z : Int))) (h1 : 3 ≤ n) (hx1 : 128 ≤ x) (hy1 : 128 ≤ y) (hz1 : 0 < z) (hz2 : z < 128) (hbig : 1048576 < x % 128 + 128 * (y % 128) + 16384 * z) :
    Calls Tryd.prog 49 #[.slice (some ⟨b, off, none⟩) n cap] w fun e w' => e = .returned (.tuple #[.int .i64 0, .int .i64 3, .int .i64 73]) ∧ w = w' := by
  have hb : (1048576 : Int) < ((x % 128 : Nat) : Int) + 128 * ((y % 128 : Nat) : Int) + 16384 * ((z % 128 : Nat) : Int) := by omega
  have e : (x : Int) % 128 = ((x % 128 : Nat) : Int) := by omega
  have et : Int.tmod (x : Int) 128 = ((x % 128 : Nat) : Int) := by rw [Int.tmod_eq_emod_of_nonneg (by omega)]; exact e
  have q : ¬ ((x : Int) < 128) := by omega
  have n0 : ((n : Int) == 0) = false := by simp; omega
  have n1 : ((n : Int) == 1) = false := by simp; omega
  have m1 : x % 128 < 128 := by omega
  generalize x % 128 = xm at *
  have f : (y : Int) % 128 = ((y % 128 : Nat) : Int) := by omega
  have ft : Int.tmod (y : Int) 128 = ((y % 128 : Nat) : Int) := by rw [Int.tmod_eq_emod_of_nonneg (by omega)]; exact f
  have y0 : ((y : Int) == 0) = false := by simp; omega
  have m2 : y % 128 < 128 := by omega
  have r : ¬ ((y : Int) < 128) := by omega
  have n2 : ((n : Int) == 2) = false := by simp; omega
  have g : (z : Int) % 128 = ((z % 128 : Nat) : Int) := by omega
  have gt : Int.tmod (z : Int) 128 = ((z % 128 : Nat) : Int) := by rw [Int.tmod_eq_emod_of_nonneg (by omega)]; exact g
  have z0 : ((z : Int) == 0) = false := by simp; omega
  have m3 : z % 128 < 128 := by omega
  have s1 : ¬ ((128 : Int) ≤ (z : Int)) := by omega
  generalize y % 128 = ym at *
  generalize z % 128 = zm at *
  go_enter Tryd.func49, Tryd.ntmps49
  go_wp2
  go_ret3
  exact ⟨rfl, rfl⟩

set_option maxHeartbeats 2000000 in
set_option maxRecDepth 100000 in
theorem rlen9 (b off n cap : Nat) (w : World) (hn : n ≤ 9223372036854775807) (x : Nat) (y : Nat) (z : Nat) (hx : x < 256) (cx : w.cell? ⟨b, off, none⟩ = some (.int .u8 (x : Int))) (hy : y < 256) (cy : w.cell? ⟨b, off + 1, none⟩ = some (.int .u8 (y : Int))) (hz : z < 256) (cz : w.cell? ⟨b, off + 2, none⟩ = some (.int .u8 (z : Int))) (h1 : 3 ≤ n) (hx1 : 128 ≤ x) (hy1 : 128 ≤ y) (hz1 : 0 < z) (hz2 : z < 128) (hbig : ¬ 1048576 < x % 128 + 128 * (y % 128) + 16384 * z) :
    Calls Tryd.prog 49 #[.slice (some ⟨b, off, none⟩) n cap] w fun e w' => e = .returned (.tuple #[.int .i64 (((x % 128 : Nat) : Int) + 128 * ((y % 128 : Nat) : Int) + 16384 * (z : Int)), .int .i64 3, .int .i64 0]) ∧ w = w' := by
  have hb : ¬ ((1048576 : Int) < ((x % 128 : Nat) : Int) + 128 * ((y % 128 : Nat) : Int) + 16384 * ((z % 128 : Nat) : Int)) := by omega
  have zz : z % 128 = z := by omega
  rw [zz] at hb
  have e : (x : Int) % 128 = ((x % 128 : Nat) : Int) := by omega
  have et : Int.tmod (x : Int) 128 = ((x % 128 : Nat) : Int) := by rw [Int.tmod_eq_emod_of_nonneg (by omega)]; exact e
  have q : ¬ ((x : Int) < 128) := by omega
  have n0 : ((n : Int) == 0) = false := by simp; omega
  have n1 : ((n : Int) == 1) = false := by simp; omega
  have m1 : x % 128 < 128 := by omega
  have f : (y : Int) % 128 = ((y % 128 : Nat) : Int) := by omega
  have ft : Int.tmod (y : Int) 128 = ((y % 128 : Nat) : Int) := by rw [Int.tmod_eq_emod_of_nonneg (by omega)]; exact f
  have y0 : ((y : Int) == 0) = false := by simp; omega
  have m2 : y % 128 < 128 := by omega
  have r : ¬ ((y : Int) < 128) := by omega
  have n2 : ((n : Int) == 2) = false := by simp; omega
  have g : (z : Int) % 128 = ((z % 128 : Nat) : Int) := by omega
  have gt : Int.tmod (z : Int) 128 = ((z % 128 : Nat) : Int) := by rw [Int.tmod_eq_emod_of_nonneg (by omega)]; exact g
  have z0 : ((z : Int) == 0) = false := by simp; omega
  have m3 : z % 128 < 128 := by omega
  rw [zz] at g gt
  have s1 : ¬ ((128 : Int) ≤ (z : Int)) := by omega
  obtain ⟨ym, hym⟩ : ∃ ym, y % 128 = ym := ⟨_, rfl⟩
  obtain ⟨xm, hxm⟩ : ∃ xm, x % 128 = xm := ⟨_, rfl⟩
  rw [hxm] at e et m1 hb ⊢
  rw [hym] at f ft m2 hb ⊢
  clear zz m3 hbig hxm hym
  go_enter Tryd.func49, Tryd.ntmps49
  go_wp2
  go_ret3
  exact ⟨rfl, rfl⟩

set_option maxHeartbeats 2000000 in
set_option maxRecDepth 100000 in
theorem rlen0 (sa : Option Addr) (cap : Nat) (w : World) : Calls Tryd.prog 49 #[.slice sa 0 cap] w fun e w' => e = .returned (.tuple #[.int .i64 0, .int .i64 0, .int .i64 11]) ∧ w = w' := by
  go_enter Tryd.func49, Tryd.ntmps49
  go_wp2
  go_ret3
  exact ⟨rfl, rfl⟩

theorem rlen_any (sa : Option Addr) (n cap : Nat) (l : List Int) (w : World) (hs : Seg w sa n l) (hy : Byt l) :
    Calls Tryd.prog 49 #[.slice sa n cap] w fun e w' => e = .returned (.tuple #[.int .i64 ((lnT l).1 : Int), .int .i64 ((lnT l).2.1 : Int), .int .i64 ((lnT l).2.2 : Int)]) ∧ w = w' := by
  have hl := hs.1
  have hn : n ≤ 9223372036854775807 := by have := hs.2.1; unfold maxLen at this; omega
  match l, hl with
  | [], hl => obtain rfl : n = 0 := hl.symm; exact rlen0 sa cap w
  | x0 :: l1, hl =>
    obtain ⟨b, off, rfl, _⟩ := hs.2.2 (by rw [← hl]; simp)
    have hx0 := hy x0 (by simp)
    obtain ⟨x, rfl⟩ := Int.eq_ofNat_of_zero_le hx0.1
    have cx := seg_cell hs 0 (by rw [← hl]; simp)
    simp only [Nat.add_zero, List.getD_cons_zero] at cx
    by_cases h1 : x < 128
    · have e : lnT ((x : Int) :: l1) = (x, 1, 0) := by have q : (x : Int) < 128 := by omega
                                                       simp [lnT, len3, q]
      rw [e]
      exact rlen1 b off n cap w hn x (by omega) cx (by rw [← hl]; simp) h1
    · have q1 : ¬ ((x : Int) < 128) := by omega
      match l1, hl with
      | [], hl =>
        have e : lnT [(x : Int)] = (0, 0, 11) := by simp [lnT, len3, q1]
        rw [e]
        exact rlen2 b off n cap w hn x (by omega) cx hl.symm (by omega)
      | y0 :: l2, hl =>
        have hy0 := hy y0 (by simp)
        obtain ⟨y, rfl⟩ := Int.eq_ofNat_of_zero_le hy0.1
        have cy := seg_cell hs 1 (by rw [← hl]; simp)
        simp only [List.getD_cons_succ, List.getD_cons_zero] at cy
        have h2n : 2 ≤ n := by rw [← hl]; simp
        by_cases hz : y = 0
        · have e : lnT ((x : Int) :: (y : Int) :: l2) = (0, 2, 13) := by subst hz; simp [lnT, len3, q1]
          rw [e]
          exact rlen3 b off n cap w hn x y (by omega) cx (by omega) cy h2n (by omega) hz
        · have q2 : ¬ ((y : Int) = 0) := by omega
          by_cases hy1 : y < 128
          · have q3 : (y : Int) < 128 := by omega
            have e : lnT ((x : Int) :: (y : Int) :: l2) = (x % 128 + 128 * y, 2, 0) := by simp only [lnT, len3, if_neg q1, if_neg q2, if_pos q3, Int.toNat_natCast]
            rw [e]
            have := rlen4 (x % 128) b off n cap w hn x y (by omega) cx (by omega) cy h2n (by omega) (by omega) hy1 rfl
            simpa using this
          · have q3 : ¬ ((y : Int) < 128) := by omega
            match l2, hl with
            | [], hl =>
              have e : lnT [(x : Int), (y : Int)] = (0, 0, 11) := by simp only [lnT, len3, if_neg q1, if_neg q2, if_neg q3]
              rw [e]
              exact rlen5 b off n cap w hn x y (by omega) cx (by omega) cy hl.symm (by omega) (by omega)
            | z0 :: l3, hl =>
              have hz0 := hy z0 (by simp)
              obtain ⟨z, rfl⟩ := Int.eq_ofNat_of_zero_le hz0.1
              have cz := seg_cell hs 2 (by rw [← hl]; simp)
              simp only [List.getD_cons_succ, List.getD_cons_zero] at cz
              have h3n : 3 ≤ n := by rw [← hl]; simp
              by_cases hzz : z = 0
              · have q40 : (z : Int) = 0 := by omega
                have e : lnT ((x : Int) :: (y : Int) :: (z : Int) :: l3) = (0, 3, 13) := by simp only [lnT, len3, if_neg q1, if_neg q2, if_neg q3, if_pos q40]
                rw [e]
                exact rlen6 b off n cap w hn x y z (by omega) cx (by omega) cy (by omega) cz h3n (by omega) (by omega) hzz
              · have q4 : ¬ ((z : Int) = 0) := by omega
                by_cases hz1 : 128 ≤ z
                · have q5 : 128 ≤ (z : Int) ∨ 1048576 < (x : Int).toNat % 128 + 128 * ((y : Int).toNat % 128) + 16384 * (z : Int).toNat := .inl (by omega)
                  have e : lnT ((x : Int) :: (y : Int) :: (z : Int) :: l3) = (0, 3, 73) := by simp only [lnT, len3, if_neg q1, if_neg q2, if_neg q3, if_neg q4, if_pos q5]
                  rw [e]
                  exact rlen7 b off n cap w hn x y z (by omega) cx (by omega) cy (by omega) cz h3n (by omega) (by omega) hz1
                · by_cases hbg : 1048576 < x % 128 + 128 * (y % 128) + 16384 * z
                  · have q5 : 128 ≤ (z : Int) ∨ 1048576 < (x : Int).toNat % 128 + 128 * ((y : Int).toNat % 128) + 16384 * (z : Int).toNat := .inr (by simpa using hbg)
                    have e : lnT ((x : Int) :: (y : Int) :: (z : Int) :: l3) = (0, 3, 73) := by simp only [lnT, len3, if_neg q1, if_neg q2, if_neg q3, if_neg q4, if_pos q5]
                    rw [e]
                    exact rlen8 b off n cap w hn x y z (by omega) cx (by omega) cy (by omega) cz h3n (by omega) (by omega) (by omega) (by omega) hbg
                  · have q5 : ¬ (128 ≤ (z : Int) ∨ 1048576 < x % 128 + 128 * (y % 128) + 16384 * z) := by omega
                    have e : lnT ((x : Int) :: (y : Int) :: (z : Int) :: l3) = (x % 128 + 128 * (y % 128) + 16384 * z, 3, 0) := by simp only [lnT, len3, if_neg q1, if_neg q2, if_neg q3, if_neg q4, if_neg q5, Int.toNat_natCast]
                    rw [e]
                    have := rlen9 b off n cap w hn x y z (by omega) cx (by omega) cy (by omega) cz h3n (by omega) (by omega) (by omega) (by omega) hbg
                    simpa using this
end Go.Proofs.YtnlohbfolphafaaDoor
