/- The plain mathematics of the wire's numbers (the groups of seven bits of a number, as a list), and two steps of an owned row of bytes; nothing of the program is named here. -/
import Derived.WalkKit
namespace Go.Wire1
open Go.RowKit

/-- The form of a number in at most f bytes: groups of seven bits, the low ones first, 128 more on all but the last. -/
def encF : Nat → Nat → List Int
  | 0, _ => []
  | f + 1, x => if x < 128 then [(x : Int)] else ((x % 128 + 128 : Nat) : Int) :: encF f (x / 128)

def enc (x : Nat) : List Int := encF 10 x

theorem encF_small (f x : Nat) (h : x < 128) : encF (f + 1) x = [(x : Int)] := by simp [encF, h]
theorem encF_big (f x : Nat) (h : 128 ≤ x) : encF (f + 1) x = ((x % 128 + 128 : Nat) : Int) :: encF f (x / 128) := by
  have : ¬ x < 128 := by omega
  simp [encF, this]

theorem or128 (y : Nat) : (y % 256) ||| 128 = y % 128 + 128 := by
  have h : ∀ z : Fin 256, (z.val ||| 128) = z.val % 128 + 128 := by decide +kernel
  have := h ⟨y % 256, Nat.mod_lt _ (by decide)⟩
  simp only at this
  rw [this]; omega

theorem bits_or128 (y : Nat) : bits .or .u8 ((y : Int) % 256) 128 = ((y % 128 + 128 : Nat) : Int) := by
  have h := u8_or_nat (y % 256) 128 (Nat.mod_lt _ (by decide)) (by decide)
  rw [or128] at h
  rw [← h]; rfl

/-- What a slice of bytes that the call owns is. -/
def Bytes (w : World) (B : Nat) (v : Value) (l : List Int) : Prop := w.ownsRow B 5 1 v l.length (l.map (Value.int .u8))

theorem push {B : Nat} {w wr w1 : World} {v v' : Value} {o : Obj} {pre : List Int} {z : Int} (hB : B ≤ wr.heap.size) (hown : wr.ownsRow B 5 1 v pre.length (pre.map (Value.int .u8))) (hbel : Below B w wr)
    (hown' : w1.ownsRow B 5 1 v' (pre.length + 1) (pre.map (Value.int .u8) ++ [.int .u8 z])) (hgrow : (wr.alloc o).grownBy w1 v.ownBlock) :
    w1.ownsRow B 5 1 v' (pre ++ [z]).length ((pre ++ [z]).map (Value.int .u8)) ∧ Below B w w1 :=
  ⟨by simpa using hown', (hbel.alloc hB o).grown hgrow (by simp; omega) (fun j hj => (hown.lt j hj).1)⟩

theorem pow128 (f : Nat) (y : Nat) (h : y < 128 ^ (f + 1)) (hc : 128 ≤ y) : ∃ g, f = g + 1 ∧ y / 128 < 128 ^ (g + 1) := by
  cases f with
  | zero => simp at h; omega
  | succ g => exact ⟨g, rfl, by rw [Nat.div_lt_iff_lt_mul (by decide)]; rw [Nat.pow_succ] at h; exact h⟩

theorem pow10 (x : Nat) (h : x < 18446744073709551616) : x < 128 ^ (9 + 1) := by
  have : (128 : Nat) ^ (9 + 1) = 1180591620717411303424 := by decide
  omega

/-- The signed numbers laid onto the others. -/
def zig (x : Int) : Nat := if 0 ≤ x then (2 * x).toNat else (-2 * x - 1).toNat

theorem xor_ones (a : Nat) (h : a < 18446744073709551616) : a ^^^ 18446744073709551615 = 18446744073709551615 - a := by
  have h1 : (BitVec.ofNat 64 a ^^^ BitVec.allOnes 64).toNat = a ^^^ 18446744073709551615 := by
    rw [BitVec.toNat_xor, BitVec.toNat_allOnes, BitVec.toNat_ofNat, Nat.mod_eq_of_lt (by simpa using h)]
  rw [BitVec.xor_allOnes, BitVec.toNat_not, BitVec.toNat_ofNat, Nat.mod_eq_of_lt (by simpa using h)] at h1
  rw [← h1]

theorem zig_pos (x : Int) (h : 0 ≤ x) (h2 : x ≤ 9223372036854775807) : bits .xor .u64 (x * 2) (x / 9223372036854775808) = ((zig x : Nat) : Int) := by
  have e : x / 9223372036854775808 = 0 := by omega
  rw [e, u64_xor (x * 2) 0 (by omega) (by omega) (by omega) (by omega)]
  simp only [zig, if_pos h, Int.toNat_zero, Nat.xor_zero]
  omega

theorem zig_neg (x : Int) (h : x < 0) (h1 : -9223372036854775808 ≤ x) : bits .xor .u64 (IntKind.u64.wrap (IntKind.u64.wrap x * 2)) (IntKind.u64.wrap (x / 9223372036854775808)) = ((zig x : Nat) : Int) := by
  have e : x / 9223372036854775808 = -1 := by omega
  have e1 : IntKind.u64.wrap x = x + 18446744073709551616 := by simp only [IntKind.wrap_u64]; omega
  have e2 : IntKind.u64.wrap ((x + 18446744073709551616) * 2) = 2 * x + 18446744073709551616 := by simp only [IntKind.wrap_u64]; omega
  have e3 : IntKind.u64.wrap (-1) = 18446744073709551615 := by simp only [IntKind.wrap_u64]; omega
  rw [e, e1, e2, e3, u64_xor _ _ (by omega) (by omega) (by omega) (by omega)]
  have e4 : (18446744073709551615 : Int).toNat = 18446744073709551615 := by omega
  rw [e4, xor_ones _ (by omega)]
  have hn : ¬ 0 ≤ x := by omega
  simp only [zig, if_neg hn]
  omega

theorem zig_lt (x : Int) (h1 : -9223372036854775808 ≤ x) (h2 : x ≤ 9223372036854775807) : zig x < 18446744073709551616 := by
  unfold zig; split <;> omega

theorem ret_int {k : IntKind} {a b : Int} (h : a = b) : Ending.returned (.int k a) = .returned (.int k b) := by rw [h]

/-- How many digits to the base 128 a number has. -/
def cnt : Nat → Nat → Nat
  | 0, _ => 0
  | f + 1, z => if z = 0 then 0 else 1 + cnt f (z / 128)

theorem cnt_zero (f : Nat) : cnt f 0 = 0 := by cases f <;> simp [cnt]
theorem cnt_pos (f z : Nat) (h : 0 < z) : cnt (f + 1) z = 1 + cnt f (z / 128) := by
  have : ¬ z = 0 := by omega
  simp [cnt, this]

theorem encF_length (f : Nat) : ∀ x, x < 128 ^ (f + 1) → (encF (f + 1) x).length = 1 + cnt f (x / 128) := by
  induction f with
  | zero =>
    intro x h
    have h : x < 128 := by simpa using h
    simp [encF_small 0 x h, cnt]
  | succ g ih =>
    intro x h
    by_cases hc : x < 128
    · have e : x / 128 = 0 := by omega
      simp [encF_small _ x hc, e, cnt_zero]
    · obtain ⟨g', hg, hlt⟩ := pow128 (g + 1) x h (by omega)
      obtain rfl : g = g' := by omega
      rw [encF_big _ x (by omega), List.length_cons, ih _ hlt, cnt_pos _ _ (by omega)]
      omega

theorem pow128' (f z : Nat) (h : z < 128 ^ f) (hc : 0 < z) : ∃ g, f = g + 1 ∧ z / 128 < 128 ^ g := by
  cases f with
  | zero => simp at h; omega
  | succ g => exact ⟨g, rfl, by rw [Nat.div_lt_iff_lt_mul (by decide)]; rw [Nat.pow_succ] at h; exact h⟩

theorem pow9 (x : Nat) (h : x < 18446744073709551616) : x / 128 < 128 ^ 9 := by
  have : (128 : Nat) ^ 9 = 9223372036854775808 := by decide
  omega

theorem enc_len (x : Nat) (h : x < 18446744073709551616) : (enc x).length = 1 + cnt 9 (x / 128) := encF_length 9 x (pow10 x h)

theorem cnt_le (f : Nat) : ∀ z, cnt f z ≤ f := by
  induction f with
  | zero => intro z; simp [cnt]
  | succ g ih => intro z; have := ih (z / 128); simp only [cnt]; split <;> omega

theorem enc_le (x : Nat) (h : x < 18446744073709551616) : 1 ≤ (enc x).length ∧ (enc x).length ≤ 10 := by
  have := cnt_le 9 (x / 128); rw [enc_len x h]; omega

theorem own_shape {w : World} {B : Nat} {e : TypeId} {s : Nat} {v : Value} {n : Nat} {xs : List Value} (h : w.ownsRow B e s v n xs) : ∃ a cap, v = .slice a n cap := by
  rcases h.2 with ⟨rfl, rfl⟩ | ⟨g, cap, cur, rfl, _⟩
  · exact ⟨none, 0, rfl⟩
  · exact ⟨_, cap, rfl⟩

end Go.Wire1
