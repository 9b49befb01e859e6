/- The contract of the statements' helper flipped: a new list with one bit turned. -/
import Derived.Test.YtibdgnegdnapoabDoorCBytes
import Derived.Test.YtibdgnegdnapoabDoorCMath2
import Derived.Test.YtibdgnegdnapoabDoorStep
import Derived.WalkSpells
import Derived.Test.YtibdgnegdnapoabDoorMine
import Derived.BigRegion
namespace Go.Proofs.YtibdgnegdnapoabDoor
open Go.RowKit Go.Wire1 Go.Crc2

theorem x8 {x y : Int} (hx : 0 ≤ x ∧ x < 256) (hy : 0 ≤ y ∧ y < 256) : bits .xor .u8 x y = bx x y := u8_xor x y hx.1 hx.2 hy.1 hy.2

set_option maxHeartbeats 1000000 in
set_option maxRecDepth 100000 in
theorem flipped_in (a : Option Addr) (n cap k : Nat) (l : List Int) (w : World) (ha : Seg w a n l) (hy : Byt l) (hlen : n ≤ 140737488355328) (hk : k < 8 * n) :
    Calls Tryd.prog 17 #[.slice a n cap, .int .i64 (k : Int)] w fun e w' => ∃ v, e = .returned v ∧ w'.ownsRow w.heap.size 5 1 v n ((flip l k).map (Value.int .u8)) ∧ Below w.heap.size w w' := by
  have hl : l.length = n := ha.1
  have HA : Hid (Seg w a n l) := ha
  have HF : Hid (flip l k = l.set (k / 8) (bx (l.getD (k / 8) 0) ((2 ^ (k % 8) : Nat) : Int))) := rfl
  have hz := byt_at hy (k / 8)
  have hp := pow8 k
  have ex : bits .xor .u8 (l.getD (k / 8) 0) ((2 : Int) ^ (k % 8) % 256) = bx (l.getD (k / 8) 0) ((2 ^ (k % 8) : Nat) : Int) := by
    have e : (2 : Int) ^ (k % 8) % 256 = ((2 ^ (k % 8) : Nat) : Int) := by
      rw [Int.emod_eq_of_lt] <;> simp at hp ⊢ <;> omega
    rw [e]
    exact x8 hz hp
  have e1 : Int.ofNat k / (8 : Int) = ((k / 8 : Nat) : Int) := by simp only [Int.ofNat_eq_natCast]; omega
  have e2 : Int.ofNat k % (8 : Int) = ((k % 8 : Nat) : Int) := by simp only [Int.ofNat_eq_natCast]; omega
  have hq : k / 8 < n := by omega
  have hj : k % 8 < 8 := by omega
  have hk' : k < 1125899906842624 := by omega
  rw [HF.out]
  clear ha hk HF hy
  simp only [Int.ofNat_eq_natCast] at e1 e2
  generalize k / 8 = q at *
  generalize k % 8 = j at *
  have hd : decide ((q : Int) < (n : Int)) = true := by simp; omega
  obtain ⟨l', hl'⟩ : ∃ l', Hid (l.set q (bx (l.getD q 0) ((2 ^ j : Nat) : Int)) = l') := ⟨_, rfl⟩
  rw [hl'.out]
  go_enter Tryd.func17, Tryd.ntmps17
  go_wp2_with fail
  refine (bytes_any a n cap l _ HA.out hlen).mono ?_
  rintro e w1 ⟨v, rfl, hown, hbel⟩
  obtain ⟨g, gc, rfl, hm⟩ := mine_of hown (by omega)
  rw [hl] at hm
  have HM := hm.store q (bx (l.getD q 0) ((2 ^ j : Nat) : Int))
  rw [hl'.out] at HM
  obtain ⟨b', o', e', hc'⟩ := hm.seg.2.2 (by omega)
  cases e'
  have hck := hc' q (by omega)
  rw [Nat.zero_add] at hck
  have hfr := hm.1.frozenAt q
  have hB := hm.2.2.2.2
  clear hc' hm hown
  simp only [hl]
  generalize l.getD q 0 = z at *
  generalize bx z ((2 ^ j : Nat) : Int) = y at *
  have HM' := hide HM
  have HB := hide (hbel.setCell (p := ⟨g, q, none⟩) hB (.int .u8 y))
  clear HM hbel
  go_wp2_with fail
  go_region
  go_wp2
  go_ret
  exact ⟨_, rfl, HM'.out.1, HB.out.drew⟩

set_option maxHeartbeats 1000000 in
set_option maxRecDepth 100000 in
theorem flipped_out (a : Option Addr) (n cap : Nat) (k : Int) (l : List Int) (w : World) (ha : Seg w a n l) (hlen : n ≤ 140737488355328) (h1 : -9223372036854775808 ≤ k) (h2 : k ≤ 9223372036854775807) (hk : k < 0 ∨ 8 * (n : Int) ≤ k) :
    Calls Tryd.prog 17 #[.slice a n cap, .int .i64 k] w fun e w' => ∃ v, e = .returned v ∧ w'.ownsRow w.heap.size 5 1 v n (l.map (Value.int .u8)) ∧ Below w.heap.size w w' := by
  have hl : l.length = n := ha.1
  have HA : Hid (Seg w a n l) := ha
  clear ha
  rcases hk with hk | hk
  · go_enter Tryd.func17, Tryd.ntmps17
    go_wp2_with fail
    refine (bytes_any a n cap l _ HA.out hlen).mono ?_
    rintro e w1 ⟨v, rfl, hown, hbel⟩
    rw [hl] at hown
    have HO := hide hown
    have HB := hide hbel
    obtain ⟨sa, sc, rfl⟩ := own_shape hown
    clear hown hbel
    go_wp2
    go_ret
    exact ⟨_, rfl, HO.out, HB.out⟩
  · have e1 : decide (k / 8 < (n : Int)) = false := by simp; omega
    have hk0 : 0 ≤ k := by omega
    go_enter Tryd.func17, Tryd.ntmps17
    go_wp2_with fail
    refine (bytes_any a n cap l _ HA.out hlen).mono ?_
    rintro e w1 ⟨v, rfl, hown, hbel⟩
    rw [hl] at hown
    have HO := hide hown
    have HB := hide hbel
    obtain ⟨sa, sc, rfl⟩ := own_shape hown
    clear hown hbel
    go_wp2
    go_ret
    exact ⟨_, rfl, HO.out, HB.out⟩
end Go.Proofs.YtibdgnegdnapoabDoor
