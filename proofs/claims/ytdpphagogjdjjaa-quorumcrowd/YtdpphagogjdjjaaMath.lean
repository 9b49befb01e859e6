/- The plain mathematics of the wire's numbers (the groups of seven bits of a number, as a list), and two steps of an owned row of bytes; nothing of the program is named here. -/
import Derived.WalkKit
import Derived.Deep.Draws
namespace Go.Wire1
open Go.RowKit

theorem hide {p : Prop} (h : p) : Hid p := h
theorem unhide {p : Prop} (h : Hid p) : p := h

/-- The form of a number in at most f bytes: groups of seven bits, the low ones first, 128 more on all but the last. -/
def encF : Nat → Nat → List Int
  | 0, _ => []
  | f + 1, x => if x < 128 then [(x : Int)] else ((x % 128 + 128 : Nat) : Int) :: encF f (x / 128)

def enc (x : Nat) : List Int := encF 10 x

theorem encF_small (f x : Nat) (h : x < 128) : encF (f + 1) x = [(x : Int)] := by simp [encF, h]
theorem encF_big (f x : Nat) (h : 128 ≤ x) : encF (f + 1) x = ((x % 128 + 128 : Nat) : Int) :: encF f (x / 128) := by
  have : ¬ x < 128 := by omega
  simp [encF, this]

theorem or128 (y : Nat) : (y % 256) ||| 128 = y % 128 + 128 := by
  have h : ∀ z : Fin 256, (z.val ||| 128) = z.val % 128 + 128 := by decide +kernel
  have := h ⟨y % 256, Nat.mod_lt _ (by decide)⟩
  simp only at this
  rw [this]; omega

theorem bits_or128 (y : Nat) : bits .or .u8 ((y : Int) % 256) 128 = ((y % 128 + 128 : Nat) : Int) := by
  have h := u8_or_nat (y % 256) 128 (Nat.mod_lt _ (by decide)) (by decide)
  rw [or128] at h
  rw [← h]; rfl

/-- What a slice of bytes that the call owns is. -/
def Bytes (w : World) (B : Nat) (v : Value) (l : List Int) : Prop := w.ownsRow B 5 1 v l.length (l.map (Value.int .u8))

theorem push {B : Nat} {w wr w1 : World} {v v' : Value} {o : Obj} {pre : List Int} {z : Int} (hB : B ≤ wr.heap.size) (hown : wr.ownsRow B 5 1 v pre.length (pre.map (Value.int .u8))) (hbel : Below B w wr)
    (hown' : w1.ownsRow B 5 1 v' (pre.length + 1) (pre.map (Value.int .u8) ++ [.int .u8 z])) (hgrow : (wr.alloc o).grownBy w1 v.ownBlock) :
    w1.ownsRow B 5 1 v' (pre ++ [z]).length ((pre ++ [z]).map (Value.int .u8)) ∧ Below B w w1 :=
  ⟨by simpa using hown', (hbel.alloc hB o).grown hgrow (by simp; omega) (fun j hj => (hown.lt j hj).1)⟩

theorem pow128 (f : Nat) (y : Nat) (h : y < 128 ^ (f + 1)) (hc : 128 ≤ y) : ∃ g, f = g + 1 ∧ y / 128 < 128 ^ (g + 1) := by
  cases f with
  | zero => simp at h; omega
  | succ g => exact ⟨g, rfl, by rw [Nat.div_lt_iff_lt_mul (by decide)]; rw [Nat.pow_succ] at h; exact h⟩

theorem pow10 (x : Nat) (h : x < 18446744073709551616) : x < 128 ^ (9 + 1) := by
  have : (128 : Nat) ^ (9 + 1) = 1180591620717411303424 := by decide
  omega

/-- The signed numbers laid onto the others. -/
def zig (x : Int) : Nat := if 0 ≤ x then (2 * x).toNat else (-2 * x - 1).toNat

theorem xor_ones (a : Nat) (h : a < 18446744073709551616) : a ^^^ 18446744073709551615 = 18446744073709551615 - a := by
  have h1 : (BitVec.ofNat 64 a ^^^ BitVec.allOnes 64).toNat = a ^^^ 18446744073709551615 := by
    rw [BitVec.toNat_xor, BitVec.toNat_allOnes, BitVec.toNat_ofNat, Nat.mod_eq_of_lt (by simpa using h)]
  rw [BitVec.xor_allOnes, BitVec.toNat_not, BitVec.toNat_ofNat, Nat.mod_eq_of_lt (by simpa using h)] at h1
  rw [← h1]

theorem zig_pos (x : Int) (h : 0 ≤ x) (h2 : x ≤ 9223372036854775807) : bits .xor .u64 (x * 2) (x / 9223372036854775808) = ((zig x : Nat) : Int) := by
  have e : x / 9223372036854775808 = 0 := by omega
  rw [e, u64_xor (x * 2) 0 (by omega) (by omega) (by omega) (by omega)]
  simp only [zig, if_pos h, Int.toNat_zero, Nat.xor_zero]
  omega

theorem zig_neg (x : Int) (h : x < 0) (h1 : -9223372036854775808 ≤ x) : bits .xor .u64 (IntKind.u64.wrap (IntKind.u64.wrap x * 2)) (IntKind.u64.wrap (x / 9223372036854775808)) = ((zig x : Nat) : Int) := by
  have e : x / 9223372036854775808 = -1 := by omega
  have e1 : IntKind.u64.wrap x = x + 18446744073709551616 := by simp only [IntKind.wrap_u64]; omega
  have e2 : IntKind.u64.wrap ((x + 18446744073709551616) * 2) = 2 * x + 18446744073709551616 := by simp only [IntKind.wrap_u64]; omega
  have e3 : IntKind.u64.wrap (-1) = 18446744073709551615 := by simp only [IntKind.wrap_u64]; omega
  rw [e, e1, e2, e3, u64_xor _ _ (by omega) (by omega) (by omega) (by omega)]
  have e4 : (18446744073709551615 : Int).toNat = 18446744073709551615 := by omega
  rw [e4, xor_ones _ (by omega)]
  have hn : ¬ 0 ≤ x := by omega
  simp only [zig, if_neg hn]
  omega

theorem zig_lt (x : Int) (h1 : -9223372036854775808 ≤ x) (h2 : x ≤ 9223372036854775807) : zig x < 18446744073709551616 := by
  unfold zig; split <;> omega

theorem ret_int {k : IntKind} {a b : Int} (h : a = b) : Ending.returned (.int k a) = .returned (.int k b) := by rw [h]

/-- How many digits to the base 128 a number has. -/
def cnt : Nat → Nat → Nat
  | 0, _ => 0
  | f + 1, z => if z = 0 then 0 else 1 + cnt f (z / 128)

theorem cnt_zero (f : Nat) : cnt f 0 = 0 := by cases f <;> simp [cnt]
theorem cnt_pos (f z : Nat) (h : 0 < z) : cnt (f + 1) z = 1 + cnt f (z / 128) := by
  have : ¬ z = 0 := by omega
  simp [cnt, this]

theorem encF_length (f : Nat) : ∀ x, x < 128 ^ (f + 1) → (encF (f + 1) x).length = 1 + cnt f (x / 128) := by
  induction f with
  | zero =>
    intro x h
    have h : x < 128 := by simpa using h
    simp [encF_small 0 x h, cnt]
  | succ g ih =>
    intro x h
    by_cases hc : x < 128
    · have e : x / 128 = 0 := by omega
      simp [encF_small _ x hc, e, cnt_zero]
    · obtain ⟨g', hg, hlt⟩ := pow128 (g + 1) x h (by omega)
      obtain rfl : g = g' := by omega
      rw [encF_big _ x (by omega), List.length_cons, ih _ hlt, cnt_pos _ _ (by omega)]
      omega

theorem pow128' (f z : Nat) (h : z < 128 ^ f) (hc : 0 < z) : ∃ g, f = g + 1 ∧ z / 128 < 128 ^ g := by
  cases f with
  | zero => simp at h; omega
  | succ g => exact ⟨g, rfl, by rw [Nat.div_lt_iff_lt_mul (by decide)]; rw [Nat.pow_succ] at h; exact h⟩

theorem pow9 (x : Nat) (h : x < 18446744073709551616) : x / 128 < 128 ^ 9 := by
  have : (128 : Nat) ^ 9 = 9223372036854775808 := by decide
  omega

theorem enc_len (x : Nat) (h : x < 18446744073709551616) : (enc x).length = 1 + cnt 9 (x / 128) := encF_length 9 x (pow10 x h)

theorem cnt_le (f : Nat) : ∀ z, cnt f z ≤ f := by
  induction f with
  | zero => intro z; simp [cnt]
  | succ g ih => intro z; have := ih (z / 128); simp only [cnt]; split <;> omega

theorem enc_le (x : Nat) (h : x < 18446744073709551616) : 1 ≤ (enc x).length ∧ (enc x).length ≤ 10 := by
  have := cnt_le 9 (x / 128); rw [enc_len x h]; omega

theorem own_shape {w : World} {B : Nat} {e : TypeId} {s : Nat} {v : Value} {n : Nat} {xs : List Value} (h : w.ownsRow B e s v n xs) : ∃ a cap, v = .slice a n cap := by
  rcases h.2 with ⟨rfl, rfl⟩ | ⟨g, cap, cur, rfl, _⟩
  · exact ⟨none, 0, rfl⟩
  · exact ⟨_, cap, rfl⟩

/-- A slice of bytes in memory: its length, and its cells where it is not empty. -/
def Seg (w : World) (a : Option Addr) (n : Nat) (zs : List Int) : Prop :=
  zs.length = n ∧ n ≤ maxLen ∧ (0 < n → ∃ b off, a = some ⟨b, off, none⟩ ∧ ∀ j, j < n → w.cell? ⟨b, off + j, none⟩ = some (.int .u8 (zs.getD j 0)))

def sameB (xs ys : List Int) : Bool := decide (xs = ys)

theorem take_step {xs ys : List Int} {k : Nat} (h1 : k < xs.length) (h2 : k < ys.length) (h : xs.take k = ys.take k) (he : xs.getD k 0 = ys.getD k 0) : xs.take (k + 1) = ys.take (k + 1) := by
  rw [List.take_succ_eq_append_getElem h1, List.take_succ_eq_append_getElem h2, h]
  simp only [List.getD_eq_getElem?_getD, List.getElem?_eq_getElem h1, List.getElem?_eq_getElem h2, Option.getD_some] at he
  rw [he]
theorem same_no {xs ys : List Int} {k : Nat} (h : ¬ xs.getD k 0 = ys.getD k 0) : sameB xs ys = false := by
  simp only [sameB, decide_eq_false_iff_not]; intro e; exact h (by rw [e])
theorem same_yes {xs ys : List Int} (h : xs = ys) : sameB xs ys = true := by simp [sameB, h]
theorem same_len {xs ys : List Int} (h : ¬ xs.length = ys.length) : sameB xs ys = false := by
  simp only [sameB, decide_eq_false_iff_not]; intro e; exact h (by rw [e])

/-- No form begins another one. -/
theorem encF_free (f : Nat) : ∀ x y, x < 128 ^ (f + 1) → y < 128 ^ (f + 1) → ∀ t u : List Int, encF (f + 1) x ++ t = encF (f + 1) y ++ u → x = y ∧ t = u := by
  induction f with
  | zero =>
    intro x y hx hy t u h
    have hx : x < 128 := by simpa using hx
    have hy : y < 128 := by simpa using hy
    rw [encF_small 0 x hx, encF_small 0 y hy] at h
    simp only [List.cons_append, List.nil_append, List.cons.injEq] at h
    exact ⟨by omega, h.2⟩
  | succ g ih =>
    intro x y hx hy t u h
    by_cases hx' : x < 128 <;> by_cases hy' : y < 128
    · rw [encF_small _ x hx', encF_small _ y hy'] at h
      simp only [List.cons_append, List.nil_append, List.cons.injEq] at h
      exact ⟨by omega, h.2⟩
    · rw [encF_small _ x hx', encF_big _ y (by omega)] at h
      simp only [List.cons_append, List.nil_append, List.cons.injEq] at h
      omega
    · rw [encF_big _ x (by omega), encF_small _ y hy'] at h
      simp only [List.cons_append, List.nil_append, List.cons.injEq] at h
      omega
    · rw [encF_big _ x (by omega), encF_big _ y (by omega)] at h
      simp only [List.cons_append, List.cons.injEq] at h
      have := ih (x / 128) (y / 128) (by rw [Nat.div_lt_iff_lt_mul (by decide)]; rw [Nat.pow_succ] at hx; exact hx) (by rw [Nat.div_lt_iff_lt_mul (by decide)]; rw [Nat.pow_succ] at hy; exact hy) t u h.2
      exact ⟨by omega, this.2⟩

theorem enc_free {x y : Nat} (hx : x < 18446744073709551616) (hy : y < 18446744073709551616) {t u : List Int} (h : enc x ++ t = enc y ++ u) : x = y ∧ t = u := encF_free 9 x y (pow10 x hx) (pow10 y hy) t u h

theorem enc_take {x y k : Nat} (hx : x < 18446744073709551616) (hy : y < 18446744073709551616) (hk : k = (enc x).length ∨ k = (enc y).length) (hl : k ≤ (enc x).length) (hm : k ≤ (enc y).length) (h : (enc x).take k = (enc y).take k) : x = y := by
  rcases hk with rfl | rfl
  · rw [List.take_length] at h
    have e := List.take_append_drop (enc x).length (enc y)
    rw [← h] at e
    exact (enc_free hx hy (t := List.drop (enc x).length (enc y)) (u := []) (by rw [e, List.append_nil])).1
  · rw [List.take_length] at h
    have e := List.take_append_drop (enc y).length (enc x)
    rw [h] at e
    exact ((enc_free hy hx (t := List.drop (enc y).length (enc x)) (u := []) (by rw [e, List.append_nil])).1).symm

theorem cell_lt {w : World} {b o : Nat} {v : Value} (h : w.cell? ⟨b, o, none⟩ = some v) : b < w.heap.size := by
  apply Classical.byContradiction
  intro hn
  have : w.heap[b]? = none := by rw [Array.getElem?_eq_none_iff]; omega
  simp [World.cell?, this] at h

theorem add_at (g o j : Nat) : (⟨g, o, none⟩ : Addr).add j = ⟨g, o + j, none⟩ := by
  cases j <;> simp [Addr.add]

theorem seg_own {w : World} {B : Nat} {v : Value} {l : List Int} (h : w.ownsRow B 5 1 v l.length (l.map (Value.int .u8))) : ∃ a cap, v = .slice a l.length cap ∧ l.length ≤ cap ∧ cap ≤ maxLen ∧ Seg w a l.length l := by
  rcases h.2 with ⟨rfl, hn⟩ | ⟨g, cap, cur, rfl, hB, hh, hc, hm, hs, ht⟩
  · exact ⟨none, 0, by rw [hn], by omega, by unfold maxLen; omega, rfl, by unfold maxLen; omega, fun h => by omega⟩
  · refine ⟨_, cap, rfl, hc, hm, rfl, by omega, fun _ => ⟨g, 0, rfl, fun j hj => ?_⟩⟩
    have h1 := h.cells (g := g) rfl j (.int .u8 (l.getD j 0)) (by simp [List.getElem?_eq_getElem hj])
    rw [add_at] at h1
    exact h1

theorem Seg.below {w w' : World} {a : Option Addr} {n : Nat} {l : List Int} {B : Nat} (h : Seg w a n l) (hb : Below B w w') (hB : w.heap.size ≤ B) : Seg w' a n l := by
  refine ⟨h.1, h.2.1, fun hn => ?_⟩
  obtain ⟨b, off, rfl, hc⟩ := h.2.2 hn
  exact ⟨b, off, rfl, fun j hj => by rw [hb.cell (p := ⟨b, off + j, none⟩) (by have := cell_lt (hc j hj); show b < B; omega)]; exact hc j hj⟩

theorem Seg.drewN {w : World} {a : Option Addr} {n : Nat} {l : List Int} (h : Seg w a n l) (q : Nat) : Seg (w.drewN q) a n l := h

theorem Seg.take {w : World} {a : Option Addr} {n k : Nat} {l : List Int} (h : Seg w a n l) (hk : k ≤ n) : Seg w a k (l.take k) := by
  obtain ⟨h1, h2, h3⟩ := h
  refine ⟨by rw [List.length_take]; omega, by omega, fun hn => ?_⟩
  obtain ⟨b, off, rfl, hc⟩ := h3 (by omega)
  refine ⟨b, off, rfl, fun j hj => ?_⟩
  rw [hc j (by omega)]
  simp [hj]

/-- A cursor in memory: its bytes, its place; the place may be written. -/
def Cur (w : World) (b o : Nat) (sa : Option Addr) (n cap k : Nat) : Prop :=
  w.cell? ⟨b, o, none⟩ = some (.slice sa n cap) ∧ w.cell? ⟨b, o + 1, none⟩ = some (.int .i64 (k : Int)) ∧ w.frozen? ⟨b, o + 1, none⟩ = false

/-- Nothing but the cell p of block b has turned. -/
structure Only (b p : Nat) (w w' : World) : Prop where
  os : w'.os = w.os
  tape : w'.tape = w.tape
  output : w'.output = w.output
  size : w'.heap.size = w.heap.size
  block : ∀ k, k ≠ b → w'.heap[k]? = w.heap[k]?
  cell : ∀ q, q ≠ p → w'.cell? ⟨b, q, none⟩ = w.cell? ⟨b, q, none⟩
  frz : ∀ q, w'.frozen? ⟨b, q, none⟩ = w.frozen? ⟨b, q, none⟩

theorem Only.refl (b p : Nat) (w : World) : Only b p w w := ⟨rfl, rfl, rfl, rfl, fun _ _ => rfl, fun _ _ => rfl, fun _ => rfl⟩
theorem Only.trans {b p : Nat} {x y z : World} (h : Only b p x y) (k : Only b p y z) : Only b p x z :=
  ⟨k.os.trans h.os, k.tape.trans h.tape, k.output.trans h.output, k.size.trans h.size, fun i hi => (k.block i hi).trans (h.block i hi), fun q hq => (k.cell q hq).trans (h.cell q hq), fun q => (k.frz q).trans (h.frz q)⟩
theorem Only.drewN {b p : Nat} {x y : World} (h : Only b p x y) (q : Nat) : Only b p x (y.drewN q) := ⟨h.os, h.tape, h.output, h.size, h.block, h.cell, h.frz⟩
theorem Only.setCell {b p : Nat} {x y : World} (h : Only b p x y) (v : Value) : Only b p x (y.setCell ⟨b, p, none⟩ v) :=
  h.trans ⟨rfl, rfl, rfl, by simp [World.setCell], fun k hk => Below.heap_setCell _ _ _ _ hk, fun q hq => World.cell?_setCell_other _ _ _ _ (by simp), fun q => World.frozen?_setCell _ _ _ _⟩
theorem Only.below {B b p : Nat} {x y : World} (h : Only b p x y) (hB : B ≤ b) : Below B x y := ⟨h.os, h.tape, h.output, by rw [h.size]; exact Nat.le_refl _, fun k hk => h.block k (by omega)⟩
theorem Only.seg {b p : Nat} {w w' : World} (h : Only b p w w') {a : Option Addr} {n : Nat} {l : List Int} (hs : Seg w a n l) (hsep : ∀ x, a = some x → 0 < n → x.block ≠ b) : Seg w' a n l := by
  refine ⟨hs.1, hs.2.1, fun hn => ?_⟩
  obtain ⟨c, off, rfl, hc⟩ := hs.2.2 hn
  exact ⟨c, off, rfl, fun j hj => by rw [World.cell?_of_block (w := w) (h.block c (hsep _ rfl hn))]; exact hc j hj⟩

theorem Cur.step {w : World} {b o : Nat} {sa : Option Addr} {n cap k : Nat} (h : Cur w b o sa n cap k) (q : Nat) : Cur ((w.drewN q).setCell ⟨b, o + 1, none⟩ (.int .i64 ((k : Int) + 1))) b o sa n cap (k + 1) := by
  obtain ⟨c0, c1, f1⟩ := h
  refine ⟨?_, ?_, ?_⟩
  · rw [World.cell?_setCell_other _ _ _ _ (by simp)]; exact c0
  · rw [World.cell?_setCell_same (w.drewN q) ⟨b, o + 1, none⟩ _ c1]; simp
  · rw [World.frozen?_setCell]; exact f1
theorem Cur.drewN {w : World} {b o : Nat} {sa : Option Addr} {n cap k : Nat} (h : Cur w b o sa n cap k) (q : Nat) : Cur (w.drewN q) b o sa n cap k := h

/-- What a reading of a number gives: the number and its bytes, or which fault: 0 too short, 1 too wide, 2 not the shortest form. f: how many bytes may still bear 128; first: none was read. -/
def decF : Nat → Bool → List Int → Except Nat (Nat × Nat)
  | _, _, [] => .error 0
  | 0, _, z :: _ => if z = 0 then .error 2 else if z = 1 then .ok (1, 1) else .error 1
  | f + 1, first, z :: r =>
    if 128 ≤ z then (match decF f false r with | .ok (x, m) => .ok ((z - 128).toNat + 128 * x, m + 1) | .error e => .error e)
    else if z = 0 ∧ first = false then .error 2 else .ok (z.toNat, 1)

def dec (l : List Int) : Except Nat (Nat × Nat) := decF 9 true l

/-- The number when i bytes, worth x, are read already. -/
def comb (x i : Nat) : Except Nat (Nat × Nat) → Except Nat (Nat × Nat)
  | .ok (y, m) => .ok (x + 128 ^ i * y, i + m)
  | .error e => .error e

def Byt (l : List Int) : Prop := ∀ z ∈ l, 0 ≤ z ∧ z < 256

theorem decF_nil (f : Nat) (t : Bool) : decF f t [] = .error 0 := by cases f <;> rfl
theorem decF_more (f : Nat) (t : Bool) (z : Int) (r : List Int) (x i : Nat) (h : 128 ≤ z) : comb x i (decF (f + 1) t (z :: r)) = comb (x + 128 ^ i * (z - 128).toNat) (i + 1) (decF f false r) := by
  simp only [decF, if_pos h]
  cases decF f false r with
  | error e => rfl
  | ok p =>
    simp only [comb, Nat.pow_succ, Nat.mul_add, Except.ok.injEq, Prod.mk.injEq]
    refine ⟨?_, by omega⟩
    rw [Nat.mul_assoc, ← Nat.mul_assoc (128 ^ i) 128, Nat.add_assoc]
theorem decF_last (f : Nat) (t : Bool) (z : Int) (r : List Int) (h : z < 128) (h' : z ≠ 0 ∨ t = true) : decF (f + 1) t (z :: r) = .ok (z.toNat, 1) := by
  have h1 : ¬ 128 ≤ z := by omega
  have h2 : ¬ (z = 0 ∧ t = false) := by rcases h' with h' | h' <;> simp [h']
  simp only [decF, if_neg h1, if_neg h2]
theorem decF_form (f : Nat) (z : Int) (r : List Int) (h : z = 0) : decF (f + 1) false (z :: r) = .error 2 := by
  subst h; simp [decF]
theorem decF_tenth0 (t : Bool) (z : Int) (r : List Int) (h : z = 0) : decF 0 t (z :: r) = .error 2 := by simp [decF, h]
theorem decF_tenth1 (t : Bool) (z : Int) (r : List Int) (h : z = 1) : decF 0 t (z :: r) = .ok (1, 1) := by simp [decF, h]
theorem decF_tenth2 (t : Bool) (z : Int) (r : List Int) (h : ¬ z = 0) (h' : ¬ z = 1) : decF 0 t (z :: r) = .error 1 := by simp [decF, h, h']

theorem drop_cons {l : List Int} {k : Nat} (h : k < l.length) : l.drop k = l.getD k 0 :: l.drop (k + 1) := by
  rw [List.drop_eq_getElem_cons h]; simp [List.getElem?_eq_getElem h]
theorem byt_at {l : List Int} (h : Byt l) (k : Nat) : 0 ≤ l.getD k 0 ∧ l.getD k 0 < 256 := by
  by_cases hk : k < l.length
  · simp only [List.getD_eq_getElem?_getD, List.getElem?_eq_getElem hk, Option.getD_some]; exact h _ (List.getElem_mem hk)
  · simp [List.getElem?_eq_none (by omega : l.length ≤ k)]

theorem comb_zero (r : Except Nat (Nat × Nat)) : r = comb 0 0 r := by
  cases r with
  | error e => rfl
  | ok p => simp [comb]

theorem and127 (z : Int) (h : 0 ≤ z ∧ z < 256) : bits .and .u8 z 127 = ((z.toNat % 128 : Nat) : Int) := by
  rw [u8_and z 127 h.1 h.2 (by decide) (by decide)]
  have e : (127 : Int).toNat = 2 ^ 7 - 1 := by decide
  rw [e, Nat.and_two_pow_sub_one_eq_mod]

theorem pow128_two (i : Nat) : 128 ^ i = 2 ^ (7 * i) := by rw [Nat.pow_mul]
theorem pow128_le (i : Nat) (h : i ≤ 8) : 128 ^ i ≤ 72057594037927936 := by
  have : (128 : Nat) ^ 8 = 72057594037927936 := by decide
  rw [← this]; exact Nat.pow_le_pow_right (by decide) h

theorem or_step (x i : Nat) (z : Int) (hx : x < 128 ^ i) (hi : i < 9) (h : 0 ≤ z ∧ z < 256) :
    bits .or .u64 (x : Int) (IntKind.u64.wrap (IntKind.u64.wrap (bits .and .u8 z 127) * 2 ^ (7 * i))) = ((x + 128 ^ i * (z.toNat % 128) : Nat) : Int) := by
  have hp := pow128_le i (by omega)
  have hm : z.toNat % 128 < 128 := Nat.mod_lt _ (by decide)
  have hmul : z.toNat % 128 * 128 ^ i ≤ 127 * 72057594037927936 := Nat.mul_le_mul (by omega) hp
  rw [and127 z h, IntKind.wrap_u64, IntKind.wrap_u64]
  have e1 : ((z.toNat % 128 : Nat) : Int) % 18446744073709551616 = ((z.toNat % 128 : Nat) : Int) := by omega
  have e2 : ((2 : Int) ^ (7 * i)) = ((128 ^ i : Nat) : Int) := by rw [pow128_two]; push_cast; rfl
  rw [e1, e2, ← Int.natCast_mul]
  have e3 : ((z.toNat % 128 * 128 ^ i : Nat) : Int) % 18446744073709551616 = ((z.toNat % 128 * 128 ^ i : Nat) : Int) := by omega
  rw [e3, u64_or_nat _ _ (by omega) (by omega), Nat.mul_comm, Nat.add_comm, Nat.or_comm, pow128_two]
  rw [pow128_two] at hx
  rw [Nat.two_pow_add_eq_or_of_lt hx]

theorem step_lt (x i m : Nat) (hx : x < 128 ^ i) (hm : m < 128) : x + 128 ^ i * m < 128 ^ (i + 1) := by
  have : 128 ^ i * m ≤ 128 ^ i * 127 := Nat.mul_le_mul_left _ (by omega)
  rw [Nat.pow_succ]; omega

theorem decF_one {t : Bool} {l : List Int} {y m : Nat} (h : decF 0 t l = .ok (y, m)) : y = 1 := by
  cases l with
  | nil => simp [decF] at h
  | cons z r =>
    simp only [decF] at h
    split at h
    · simp at h
    · split at h
      · simp at h; omega
      · simp at h

theorem or_tenth (x : Nat) (hx : x < 128 ^ 9) : bits .or .u64 (x : Int) 9223372036854775808 = ((x + 128 ^ 9 * 1 : Nat) : Int) := by
  have e : (128 : Nat) ^ 9 = 2 ^ 63 := by decide
  rw [e] at hx ⊢
  have h1 : x < 18446744073709551616 := by omega
  have := u64_or_nat x (2 ^ 63 * 1) h1 (by decide)
  rw [Nat.or_comm, ← Nat.two_pow_add_eq_or_of_lt hx, Nat.add_comm] at this
  rw [← this]; rfl

def unzig (u : Nat) : Int := if u % 2 = 0 then ((u / 2 : Nat) : Int) else -((u / 2 : Nat) : Int) - 1

theorem unzig_bits (u : Nat) (hu : u < 18446744073709551616) : bits .xor .i64 ((u : Int) / 2) (wrap64 (-wrap64 (bits .and .u64 (u : Int) 1))) = unzig u := by
  have e1 : bits .and .u64 (u : Int) 1 = ((u % 2 : Nat) : Int) := by
    have := u64_and_nat u 1 hu (by decide)
    rw [Nat.and_one_is_mod] at this
    exact this
  have e2 : ((u : Int) / 2) = ((u / 2 : Nat) : Int) := by omega
  rw [e1, e2]
  show IntKind.i64.wrap ((BitVec.ofInt 64 ((u / 2 : Nat) : Int) ^^^ BitVec.ofInt 64 (wrap64 (-wrap64 ((u % 2 : Nat) : Int)))).toNat : Int) = _
  rw [BitVec.toNat_xor, ofInt_u64 _ (by omega), IntKind.wrap_i64]
  by_cases h : u % 2 = 0
  · have e3 : wrap64 (-wrap64 ((u % 2 : Nat) : Int)) = ((0 : Nat) : Int) := by unfold wrap64; omega
    rw [e3, ofInt_u64 0 (by decide), Nat.xor_zero]
    simp only [unzig, if_pos h]
    omega
  · have e3 : wrap64 (-wrap64 ((u % 2 : Nat) : Int)) = -1 := by unfold wrap64; omega
    have e4 : (BitVec.ofInt 64 (-1)).toNat = 18446744073709551615 := by decide
    rw [e3, e4, xor_ones _ (by omega)]
    simp only [unzig, if_neg h]
    omega

theorem unzig_zig (x : Int) : unzig (zig x) = x := by
  unfold zig unzig
  split <;> split <;> omega
theorem zig_unzig (u : Nat) : zig (unzig u) = u := by
  unfold zig unzig
  split <;> split <;> omega
theorem unzig_bd (u : Nat) (hu : u < 18446744073709551616) : -9223372036854775808 ≤ unzig u ∧ unzig u ≤ 9223372036854775807 := by
  unfold unzig; split <;> omega

theorem decF_lt (f : Nat) : ∀ (t : Bool) (l : List Int) (x m : Nat), Byt l → decF f t l = .ok (x, m) → x < 2 * 128 ^ f ∧ 1 ≤ m ∧ m ≤ f + 1 ∧ m ≤ l.length := by
  induction f with
  | zero =>
    intro t l x m _ h
    cases l with
    | nil => simp [decF] at h
    | cons z r =>
      simp only [decF] at h
      split at h
      · simp at h
      · split at h
        · simp at h; obtain ⟨rfl, rfl⟩ := h; simp
        · simp at h
  | succ g ih =>
    intro t l x m hy h
    cases l with
    | nil => simp [decF] at h
    | cons z r =>
      have hz := hy z (by simp)
      have hr : Byt r := fun y hy' => hy y (by simp [hy'])
      simp only [decF] at h
      split at h
      · cases hd : decF g false r with
        | error e => rw [hd] at h; simp at h
        | ok p =>
          obtain ⟨y, k⟩ := p
          rw [hd] at h
          simp only [Except.ok.injEq, Prod.mk.injEq] at h
          have := ih false r y k hr hd
          simp only [Nat.pow_succ, List.length_cons]
          omega
      · split at h
        · simp at h
        · simp only [Except.ok.injEq, Prod.mk.injEq] at h
          have : 1 ≤ 128 ^ g := Nat.one_le_pow _ _ (by decide)
          simp only [Nat.pow_succ, List.length_cons]
          omega

theorem dec_lt {l : List Int} {x m : Nat} (hy : Byt l) (h : dec l = .ok (x, m)) : x < 18446744073709551616 := by
  have := (decF_lt 9 true l x m hy h).1
  have e : (128 : Nat) ^ 9 = 9223372036854775808 := by decide
  omega
theorem dec_len {l : List Int} {x m : Nat} (hy : Byt l) (h : dec l = .ok (x, m)) : 1 ≤ m ∧ m ≤ 10 ∧ m ≤ l.length := (decF_lt 9 true l x m hy h).2

theorem Seg.lt {w : World} {a : Option Addr} {n : Nat} {l : List Int} (h : Seg w a n l) (hn : 0 < n) {x : Addr} (hx : a = some x) : x.block < w.heap.size := by
  obtain ⟨b, off, rfl, hc⟩ := h.2.2 hn
  obtain rfl : _ = x := Option.some.inj hx
  exact cell_lt (hc 0 hn)

theorem decF_err (f : Nat) : ∀ (t : Bool) (l : List Int) (i : Nat), decF f t l = .error i → i < 3 := by
  induction f with
  | zero =>
    intro t l i h
    cases l with
    | nil => simp [decF] at h; omega
    | cons z r =>
      simp only [decF] at h
      split at h
      · simp at h; omega
      · split at h <;> simp at h; omega
  | succ g ih =>
    intro t l i h
    cases l with
    | nil => simp [decF] at h; omega
    | cons z r =>
      simp only [decF] at h
      split at h
      · cases hd : decF g false r with
        | error e => rw [hd] at h; simp at h; have := ih _ _ _ hd; omega
        | ok p => rw [hd] at h; simp at h
      · split at h <;> simp at h; omega
theorem dec_err {l : List Int} {i : Nat} (h : dec l = .error i) : i < 3 := decF_err 9 true l i h

theorem take_next {l : List Int} {k : Nat} (h : k < l.length) : l.take (k + 1) = l.take k ++ [l.getD k 0] := by
  rw [List.take_succ_eq_append_getElem h]; simp [List.getElem?_eq_getElem h]

theorem decF_enc (f : Nat) : ∀ (t : Bool) (x : Nat) (tail : List Int), x < 2 * 128 ^ f → (0 < x ∨ (t = true ∧ 0 < f)) → decF f t (encF (f + 1) x ++ tail) = .ok (x, (encF (f + 1) x).length) := by
  induction f with
  | zero =>
    intro t x tail hx h0
    obtain rfl : x = 1 := by simp at hx; omega
    rfl
  | succ g ih =>
    intro t x tail hx h0
    by_cases hc : x < 128
    · rw [encF_small _ x hc]
      show decF (g + 1) t ((x : Int) :: tail) = _
      rw [decF_last _ _ _ _ (by omega) (by rcases h0 with h0 | h0; exact .inl (by omega); exact .inr h0.1)]
      simp
    · rw [encF_big _ x (by omega)]
      show decF (g + 1) t (((x % 128 + 128 : Nat) : Int) :: (encF (g + 1) (x / 128) ++ tail)) = _
      simp only [decF, if_pos (show (128 : Int) ≤ ((x % 128 + 128 : Nat) : Int) by omega)]
      rw [ih false (x / 128) tail (by rw [Nat.pow_succ] at hx; omega) (.inl (by omega))]
      have e : (((x % 128 + 128 : Nat) : Int) - 128).toNat = x % 128 := by omega
      have e2 : x % 128 + 128 * (x / 128) = x := by omega
      simp only [List.length_cons, e, e2]

theorem dec_enc (x : Nat) (tail : List Int) (h : x < 18446744073709551616) : dec (enc x ++ tail) = .ok (x, (enc x).length) := by
  have e : (128 : Nat) ^ 9 = 9223372036854775808 := by decide
  exact decF_enc 9 true x tail (by omega) (.inr ⟨rfl, by decide⟩)

theorem decF_cut (f : Nat) : ∀ (t : Bool) (x i : Nat), i < (encF (f + 1) x).length → decF f t ((encF (f + 1) x).take i) = .error 0 := by
  induction f with
  | zero =>
    intro t x i hi
    have : (encF 1 x).length ≤ 1 := by simp only [encF]; split <;> simp
    obtain rfl : i = 0 := by simp only [Nat.zero_add] at hi; omega
    rfl
  | succ g ih =>
    intro t x i hi
    cases i with
    | zero => rfl
    | succ j =>
      by_cases hc : x < 128
      · rw [encF_small _ x hc] at hi; simp at hi
      · rw [encF_big _ x (by omega)] at hi ⊢
        simp only [List.length_cons] at hi
        rw [List.take_succ_cons]
        simp only [decF, if_pos (show (128 : Int) ≤ ((x % 128 + 128 : Nat) : Int) by omega)]
        rw [ih false (x / 128) j (by omega)]
theorem dec_cut (x i : Nat) (h : i < (enc x).length) : dec ((enc x).take i) = .error 0 := decF_cut 9 true x i h

theorem byt_encF (f : Nat) : ∀ x, Byt (encF f x) := by
  induction f with
  | zero => intro x z hz; simp [encF] at hz
  | succ g ih =>
    intro x z hz
    by_cases hc : x < 128
    · rw [encF_small _ x hc] at hz; simp at hz; omega
    · rw [encF_big _ x (by omega)] at hz
      rcases List.mem_cons.1 hz with rfl | h
      · omega
      · exact ih _ z h
theorem byt_enc (x : Nat) : Byt (enc x) := byt_encF 10 x
theorem byt_app {l m : List Int} (h : Byt l) (k : Byt m) : Byt (l ++ m) := fun z hz => (List.mem_append.1 hz).elim (h z) (k z)
theorem byt_take {l : List Int} (h : Byt l) (k : Nat) : Byt (l.take k) := fun z hz => h z (List.mem_of_mem_take hz)
theorem byt_drop {l : List Int} (h : Byt l) (k : Nat) : Byt (l.drop k) := fun z hz => h z (List.mem_of_mem_drop hz)

theorem decF_pos (f : Nat) : ∀ (l : List Int) (x m : Nat), Byt l → decF f false l = .ok (x, m) → 0 < x := by
  induction f with
  | zero =>
    intro l x m _ h
    have := decF_one h
    omega
  | succ g ih =>
    intro l x m hy h
    cases l with
    | nil => simp [decF] at h
    | cons z r =>
      have hz := hy z (by simp)
      have hr : Byt r := fun y hy' => hy y (by simp [hy'])
      simp only [decF] at h
      split at h
      · cases hd : decF g false r with
        | error e => rw [hd] at h; simp at h
        | ok p =>
          obtain ⟨y, k⟩ := p
          rw [hd] at h
          simp only [Except.ok.injEq, Prod.mk.injEq] at h
          have := ih r y k hr hd
          omega
      · split at h
        · simp at h
        · rename_i hne
          simp at hne
          simp only [Except.ok.injEq, Prod.mk.injEq] at h
          omega

/-- What is read is just what would be written. -/
theorem decF_form' (f : Nat) : ∀ (t : Bool) (l : List Int) (x m : Nat), Byt l → decF f t l = .ok (x, m) → encF (f + 1) x = l.take m := by
  induction f with
  | zero =>
    intro t l x m _ h
    cases l with
    | nil => simp [decF] at h
    | cons z r =>
      simp only [decF] at h
      split at h
      · simp at h
      · split at h
        · simp at h; obtain ⟨rfl, rfl⟩ := h; rename_i e; subst e; rfl
        · simp at h
  | succ g ih =>
    intro t l x m hy h
    cases l with
    | nil => simp [decF] at h
    | cons z r =>
      have hz := hy z (by simp)
      have hr : Byt r := fun y hy' => hy y (by simp [hy'])
      simp only [decF] at h
      split at h
      · cases hd : decF g false r with
        | error e => rw [hd] at h; simp at h
        | ok p =>
          obtain ⟨y, k⟩ := p
          rw [hd] at h
          simp only [Except.ok.injEq, Prod.mk.injEq] at h
          have hp := decF_pos g r y k hr hd
          have hf := ih false r y k hr hd
          obtain ⟨h1, h2⟩ := h
          have e1 : x % 128 + 128 = z.toNat := by omega
          have e2 : x / 128 = y := by omega
          have e3 : ((z.toNat : Nat) : Int) = z := by omega
          rw [encF_big _ x (by omega), e1, e2, hf, ← h2, List.take_succ_cons, e3]
      · split at h
        · simp at h
        · simp only [Except.ok.injEq, Prod.mk.injEq] at h
          obtain ⟨h1, h2⟩ := h
          subst h1 h2
          have e : ((z.toNat : Nat) : Int) = z := by omega
          rw [encF_small _ _ (by omega), e]
          rfl
theorem dec_form {l : List Int} {x m : Nat} (hy : Byt l) (h : dec l = .ok (x, m)) : enc x = l.take m := decF_form' 9 true l x m hy h

theorem Seg.cut {w : World} {a a' : Option Addr} {n k m : Nat} {l : List Int} (h : Seg w a n l) (hk : k + m ≤ n) (ha : 0 < m → ∀ b off, a = some ⟨b, off, none⟩ → a' = some ⟨b, off + k, none⟩) : Seg w a' m ((l.drop k).take m) := by
  obtain ⟨h1, h2, h3⟩ := h
  refine ⟨by rw [List.length_take, List.length_drop]; omega, by omega, fun hn => ?_⟩
  obtain ⟨b, off, rfl, hc⟩ := h3 (by omega)
  refine ⟨b, off + k, ha hn b off rfl, fun j hj => ?_⟩
  rw [Nat.add_assoc, hc (k + j) (by omega)]
  simp [hj]

theorem seg_new2 (w : World) (x y : Int) : Seg (w.alloc (.cells #[.int .u8 x, .int .u8 y] 5)) (some ⟨w.heap.size, 0, none⟩) 2 [x, y] := by
  refine ⟨rfl, by unfold maxLen; omega, fun _ => ⟨w.heap.size, 0, rfl, fun j hj => ?_⟩⟩
  rw [World.cell?_alloc_at _ _ _ _ rfl]
  rcases (by omega : j = 0 ∨ j = 1) with rfl | rfl <;> rfl

theorem Seg.from {w : World} {b off n k : Nat} {l : List Int} (h : Seg w (some ⟨b, off, none⟩) n l) (hk : k ≤ n) : Seg w (some ⟨b, off + k, none⟩) (n - k) (l.drop k) := by
  have := h.cut (a' := some ⟨b, off + k, none⟩) (k := k) (m := n - k) (by omega) (fun _ b' off' e => by cases e; rfl)
  rwa [List.take_of_length_le (by rw [List.length_drop, h.1]; omega)] at this
theorem Seg.mid {w : World} {b off n k m : Nat} {l : List Int} (h : Seg w (some ⟨b, off, none⟩) n l) (hk : k + m ≤ n) : Seg w (some ⟨b, off + k, none⟩) m ((l.drop k).take m) :=
  h.cut hk (fun _ b' off' e => by cases e; rfl)
theorem seg_empty (w : World) (a : Option Addr) : Seg w a 0 [] := ⟨rfl, by unfold maxLen; omega, fun h => by omega⟩

end Go.Wire1
