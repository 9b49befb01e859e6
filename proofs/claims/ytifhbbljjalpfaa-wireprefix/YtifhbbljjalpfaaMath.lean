/- The plain mathematics of the wire's numbers (the groups of seven bits of a number, as a list), and two steps of an owned row of bytes; nothing of the program is named here. -/
import Derived.WalkKit
import Derived.Deep.Draws
namespace Go.Wire1
open Go.RowKit

/-- The form of a number in at most f bytes: groups of seven bits, the low ones first, 128 more on all but the last. -/
def encF : Nat → Nat → List Int
  | 0, _ => []
  | f + 1, x => if x < 128 then [(x : Int)] else ((x % 128 + 128 : Nat) : Int) :: encF f (x / 128)

def enc (x : Nat) : List Int := encF 10 x

theorem encF_small (f x : Nat) (h : x < 128) : encF (f + 1) x = [(x : Int)] := by simp [encF, h]
theorem encF_big (f x : Nat) (h : 128 ≤ x) : encF (f + 1) x = ((x % 128 + 128 : Nat) : Int) :: encF f (x / 128) := by
  have : ¬ x < 128 := by omega
  simp [encF, this]

theorem or128 (y : Nat) : (y % 256) ||| 128 = y % 128 + 128 := by
  have h : ∀ z : Fin 256, (z.val ||| 128) = z.val % 128 + 128 := by decide +kernel
  have := h ⟨y % 256, Nat.mod_lt _ (by decide)⟩
  simp only at this
  rw [this]; omega

theorem bits_or128 (y : Nat) : bits .or .u8 ((y : Int) % 256) 128 = ((y % 128 + 128 : Nat) : Int) := by
  have h := u8_or_nat (y % 256) 128 (Nat.mod_lt _ (by decide)) (by decide)
  rw [or128] at h
  rw [← h]; rfl

/-- What a slice of bytes that the call owns is. -/
def Bytes (w : World) (B : Nat) (v : Value) (l : List Int) : Prop := w.ownsRow B 5 1 v l.length (l.map (Value.int .u8))

theorem push {B : Nat} {w wr w1 : World} {v v' : Value} {o : Obj} {pre : List Int} {z : Int} (hB : B ≤ wr.heap.size) (hown : wr.ownsRow B 5 1 v pre.length (pre.map (Value.int .u8))) (hbel : Below B w wr)
    (hown' : w1.ownsRow B 5 1 v' (pre.length + 1) (pre.map (Value.int .u8) ++ [.int .u8 z])) (hgrow : (wr.alloc o).grownBy w1 v.ownBlock) :
    w1.ownsRow B 5 1 v' (pre ++ [z]).length ((pre ++ [z]).map (Value.int .u8)) ∧ Below B w w1 :=
  ⟨by simpa using hown', (hbel.alloc hB o).grown hgrow (by simp; omega) (fun j hj => (hown.lt j hj).1)⟩

theorem pow128 (f : Nat) (y : Nat) (h : y < 128 ^ (f + 1)) (hc : 128 ≤ y) : ∃ g, f = g + 1 ∧ y / 128 < 128 ^ (g + 1) := by
  cases f with
  | zero => simp at h; omega
  | succ g => exact ⟨g, rfl, by rw [Nat.div_lt_iff_lt_mul (by decide)]; rw [Nat.pow_succ] at h; exact h⟩

theorem pow10 (x : Nat) (h : x < 18446744073709551616) : x < 128 ^ (9 + 1) := by
  have : (128 : Nat) ^ (9 + 1) = 1180591620717411303424 := by decide
  omega

/-- The signed numbers laid onto the others. -/
def zig (x : Int) : Nat := if 0 ≤ x then (2 * x).toNat else (-2 * x - 1).toNat

theorem xor_ones (a : Nat) (h : a < 18446744073709551616) : a ^^^ 18446744073709551615 = 18446744073709551615 - a := by
  have h1 : (BitVec.ofNat 64 a ^^^ BitVec.allOnes 64).toNat = a ^^^ 18446744073709551615 := by
    rw [BitVec.toNat_xor, BitVec.toNat_allOnes, BitVec.toNat_ofNat, Nat.mod_eq_of_lt (by simpa using h)]
  rw [BitVec.xor_allOnes, BitVec.toNat_not, BitVec.toNat_ofNat, Nat.mod_eq_of_lt (by simpa using h)] at h1
  rw [← h1]

theorem zig_pos (x : Int) (h : 0 ≤ x) (h2 : x ≤ 9223372036854775807) : bits .xor .u64 (x * 2) (x / 9223372036854775808) = ((zig x : Nat) : Int) := by
  have e : x / 9223372036854775808 = 0 := by omega
  rw [e, u64_xor (x * 2) 0 (by omega) (by omega) (by omega) (by omega)]
  simp only [zig, if_pos h, Int.toNat_zero, Nat.xor_zero]
  omega

theorem zig_neg (x : Int) (h : x < 0) (h1 : -9223372036854775808 ≤ x) : bits .xor .u64 (IntKind.u64.wrap (IntKind.u64.wrap x * 2)) (IntKind.u64.wrap (x / 9223372036854775808)) = ((zig x : Nat) : Int) := by
  have e : x / 9223372036854775808 = -1 := by omega
  have e1 : IntKind.u64.wrap x = x + 18446744073709551616 := by simp only [IntKind.wrap_u64]; omega
  have e2 : IntKind.u64.wrap ((x + 18446744073709551616) * 2) = 2 * x + 18446744073709551616 := by simp only [IntKind.wrap_u64]; omega
  have e3 : IntKind.u64.wrap (-1) = 18446744073709551615 := by simp only [IntKind.wrap_u64]; omega
  rw [e, e1, e2, e3, u64_xor _ _ (by omega) (by omega) (by omega) (by omega)]
  have e4 : (18446744073709551615 : Int).toNat = 18446744073709551615 := by omega
  rw [e4, xor_ones _ (by omega)]
  have hn : ¬ 0 ≤ x := by omega
  simp only [zig, if_neg hn]
  omega

theorem zig_lt (x : Int) (h1 : -9223372036854775808 ≤ x) (h2 : x ≤ 9223372036854775807) : zig x < 18446744073709551616 := by
  unfold zig; split <;> omega

theorem ret_int {k : IntKind} {a b : Int} (h : a = b) : Ending.returned (.int k a) = .returned (.int k b) := by rw [h]

/-- How many digits to the base 128 a number has. -/
def cnt : Nat → Nat → Nat
  | 0, _ => 0
  | f + 1, z => if z = 0 then 0 else 1 + cnt f (z / 128)

theorem cnt_zero (f : Nat) : cnt f 0 = 0 := by cases f <;> simp [cnt]
theorem cnt_pos (f z : Nat) (h : 0 < z) : cnt (f + 1) z = 1 + cnt f (z / 128) := by
  have : ¬ z = 0 := by omega
  simp [cnt, this]

theorem encF_length (f : Nat) : ∀ x, x < 128 ^ (f + 1) → (encF (f + 1) x).length = 1 + cnt f (x / 128) := by
  induction f with
  | zero =>
    intro x h
    have h : x < 128 := by simpa using h
    simp [encF_small 0 x h, cnt]
  | succ g ih =>
    intro x h
    by_cases hc : x < 128
    · have e : x / 128 = 0 := by omega
      simp [encF_small _ x hc, e, cnt_zero]
    · obtain ⟨g', hg, hlt⟩ := pow128 (g + 1) x h (by omega)
      obtain rfl : g = g' := by omega
      rw [encF_big _ x (by omega), List.length_cons, ih _ hlt, cnt_pos _ _ (by omega)]
      omega

theorem pow128' (f z : Nat) (h : z < 128 ^ f) (hc : 0 < z) : ∃ g, f = g + 1 ∧ z / 128 < 128 ^ g := by
  cases f with
  | zero => simp at h; omega
  | succ g => exact ⟨g, rfl, by rw [Nat.div_lt_iff_lt_mul (by decide)]; rw [Nat.pow_succ] at h; exact h⟩

theorem pow9 (x : Nat) (h : x < 18446744073709551616) : x / 128 < 128 ^ 9 := by
  have : (128 : Nat) ^ 9 = 9223372036854775808 := by decide
  omega

theorem enc_len (x : Nat) (h : x < 18446744073709551616) : (enc x).length = 1 + cnt 9 (x / 128) := encF_length 9 x (pow10 x h)

theorem cnt_le (f : Nat) : ∀ z, cnt f z ≤ f := by
  induction f with
  | zero => intro z; simp [cnt]
  | succ g ih => intro z; have := ih (z / 128); simp only [cnt]; split <;> omega

theorem enc_le (x : Nat) (h : x < 18446744073709551616) : 1 ≤ (enc x).length ∧ (enc x).length ≤ 10 := by
  have := cnt_le 9 (x / 128); rw [enc_len x h]; omega

theorem own_shape {w : World} {B : Nat} {e : TypeId} {s : Nat} {v : Value} {n : Nat} {xs : List Value} (h : w.ownsRow B e s v n xs) : ∃ a cap, v = .slice a n cap := by
  rcases h.2 with ⟨rfl, rfl⟩ | ⟨g, cap, cur, rfl, _⟩
  · exact ⟨none, 0, rfl⟩
  · exact ⟨_, cap, rfl⟩

/-- A slice of bytes in memory: its length, and its cells where it is not empty. -/
def Seg (w : World) (a : Option Addr) (n : Nat) (zs : List Int) : Prop :=
  zs.length = n ∧ n ≤ maxLen ∧ (0 < n → ∃ b off, a = some ⟨b, off, none⟩ ∧ ∀ j, j < n → w.cell? ⟨b, off + j, none⟩ = some (.int .u8 (zs.getD j 0)))

def sameB (xs ys : List Int) : Bool := decide (xs = ys)

theorem take_step {xs ys : List Int} {k : Nat} (h1 : k < xs.length) (h2 : k < ys.length) (h : xs.take k = ys.take k) (he : xs.getD k 0 = ys.getD k 0) : xs.take (k + 1) = ys.take (k + 1) := by
  rw [List.take_succ_eq_append_getElem h1, List.take_succ_eq_append_getElem h2, h]
  simp only [List.getD_eq_getElem?_getD, List.getElem?_eq_getElem h1, List.getElem?_eq_getElem h2, Option.getD_some] at he
  rw [he]
theorem same_no {xs ys : List Int} {k : Nat} (h : ¬ xs.getD k 0 = ys.getD k 0) : sameB xs ys = false := by
  simp only [sameB, decide_eq_false_iff_not]; intro e; exact h (by rw [e])
theorem same_yes {xs ys : List Int} (h : xs = ys) : sameB xs ys = true := by simp [sameB, h]
theorem same_len {xs ys : List Int} (h : ¬ xs.length = ys.length) : sameB xs ys = false := by
  simp only [sameB, decide_eq_false_iff_not]; intro e; exact h (by rw [e])

/-- No form begins another one. -/
theorem encF_free (f : Nat) : ∀ x y, x < 128 ^ (f + 1) → y < 128 ^ (f + 1) → ∀ t u : List Int, encF (f + 1) x ++ t = encF (f + 1) y ++ u → x = y ∧ t = u := by
  induction f with
  | zero =>
    intro x y hx hy t u h
    have hx : x < 128 := by simpa using hx
    have hy : y < 128 := by simpa using hy
    rw [encF_small 0 x hx, encF_small 0 y hy] at h
    simp only [List.cons_append, List.nil_append, List.cons.injEq] at h
    exact ⟨by omega, h.2⟩
  | succ g ih =>
    intro x y hx hy t u h
    by_cases hx' : x < 128 <;> by_cases hy' : y < 128
    · rw [encF_small _ x hx', encF_small _ y hy'] at h
      simp only [List.cons_append, List.nil_append, List.cons.injEq] at h
      exact ⟨by omega, h.2⟩
    · rw [encF_small _ x hx', encF_big _ y (by omega)] at h
      simp only [List.cons_append, List.nil_append, List.cons.injEq] at h
      omega
    · rw [encF_big _ x (by omega), encF_small _ y hy'] at h
      simp only [List.cons_append, List.nil_append, List.cons.injEq] at h
      omega
    · rw [encF_big _ x (by omega), encF_big _ y (by omega)] at h
      simp only [List.cons_append, List.cons.injEq] at h
      have := ih (x / 128) (y / 128) (by rw [Nat.div_lt_iff_lt_mul (by decide)]; rw [Nat.pow_succ] at hx; exact hx) (by rw [Nat.div_lt_iff_lt_mul (by decide)]; rw [Nat.pow_succ] at hy; exact hy) t u h.2
      exact ⟨by omega, this.2⟩

theorem enc_free {x y : Nat} (hx : x < 18446744073709551616) (hy : y < 18446744073709551616) {t u : List Int} (h : enc x ++ t = enc y ++ u) : x = y ∧ t = u := encF_free 9 x y (pow10 x hx) (pow10 y hy) t u h

theorem enc_take {x y k : Nat} (hx : x < 18446744073709551616) (hy : y < 18446744073709551616) (hk : k = (enc x).length ∨ k = (enc y).length) (hl : k ≤ (enc x).length) (hm : k ≤ (enc y).length) (h : (enc x).take k = (enc y).take k) : x = y := by
  rcases hk with rfl | rfl
  · rw [List.take_length] at h
    have e := List.take_append_drop (enc x).length (enc y)
    rw [← h] at e
    exact (enc_free hx hy (t := List.drop (enc x).length (enc y)) (u := []) (by rw [e, List.append_nil])).1
  · rw [List.take_length] at h
    have e := List.take_append_drop (enc y).length (enc x)
    rw [h] at e
    exact ((enc_free hy hx (t := List.drop (enc y).length (enc x)) (u := []) (by rw [e, List.append_nil])).1).symm

theorem cell_lt {w : World} {b o : Nat} {v : Value} (h : w.cell? ⟨b, o, none⟩ = some v) : b < w.heap.size := by
  apply Classical.byContradiction
  intro hn
  have : w.heap[b]? = none := by rw [Array.getElem?_eq_none_iff]; omega
  simp [World.cell?, this] at h

theorem add_at (g o j : Nat) : (⟨g, o, none⟩ : Addr).add j = ⟨g, o + j, none⟩ := by
  cases j <;> simp [Addr.add]

theorem seg_own {w : World} {B : Nat} {v : Value} {l : List Int} (h : w.ownsRow B 5 1 v l.length (l.map (Value.int .u8))) : ∃ a cap, v = .slice a l.length cap ∧ l.length ≤ cap ∧ cap ≤ maxLen ∧ Seg w a l.length l := by
  rcases h.2 with ⟨rfl, hn⟩ | ⟨g, cap, cur, rfl, hB, hh, hc, hm, hs, ht⟩
  · exact ⟨none, 0, by rw [hn], by omega, by unfold maxLen; omega, rfl, by unfold maxLen; omega, fun h => by omega⟩
  · refine ⟨_, cap, rfl, hc, hm, rfl, by omega, fun _ => ⟨g, 0, rfl, fun j hj => ?_⟩⟩
    have h1 := h.cells (g := g) rfl j (.int .u8 (l.getD j 0)) (by simp [List.getElem?_eq_getElem hj])
    rw [add_at] at h1
    exact h1

theorem Seg.below {w w' : World} {a : Option Addr} {n : Nat} {l : List Int} {B : Nat} (h : Seg w a n l) (hb : Below B w w') (hB : w.heap.size ≤ B) : Seg w' a n l := by
  refine ⟨h.1, h.2.1, fun hn => ?_⟩
  obtain ⟨b, off, rfl, hc⟩ := h.2.2 hn
  exact ⟨b, off, rfl, fun j hj => by rw [hb.cell (p := ⟨b, off + j, none⟩) (by have := cell_lt (hc j hj); show b < B; omega)]; exact hc j hj⟩

theorem Seg.drewN {w : World} {a : Option Addr} {n : Nat} {l : List Int} (h : Seg w a n l) (q : Nat) : Seg (w.drewN q) a n l := h

theorem Seg.take {w : World} {a : Option Addr} {n k : Nat} {l : List Int} (h : Seg w a n l) (hk : k ≤ n) : Seg w a k (l.take k) := by
  obtain ⟨h1, h2, h3⟩ := h
  refine ⟨by rw [List.length_take]; omega, by omega, fun hn => ?_⟩
  obtain ⟨b, off, rfl, hc⟩ := h3 (by omega)
  refine ⟨b, off, rfl, fun j hj => ?_⟩
  rw [hc j (by omega)]
  simp [hj]

end Go.Wire1
