/- Texts of the proof, joined. -/
import Derived.WalkKit
import Derived.Test.YtnjihfbghaefoaaGreatDoorJ01
/- The plain mathematics of the sum's register: a step, its powers, the product of two registers, the order of the step; nothing of the program is named here. -/
namespace Go.Crc2

abbrev R := BitVec 32
def poly : R := 0x82F63B78#32
def one : R := 0x80000000#32
def stp (r : R) : R := if r.getLsbD 0 then (r >>> 1) ^^^ poly else r >>> 1
def steps : Nat → R → R
  | 0, r => r
  | n + 1, r => steps n (stp r)

theorem step_xor (a b : R) : stp (a ^^^ b) = stp a ^^^ stp b := by
  unfold stp
  rw [BitVec.getLsbD_xor, BitVec.ushiftRight_xor_distrib]
  cases a.getLsbD 0 <;> cases b.getLsbD 0 <;> simp only [Bool.xor_false, Bool.xor_true, Bool.not_true, Bool.not_false, if_true, if_false, Bool.false_eq_true] 
  · rw [BitVec.xor_assoc]
  · rw [BitVec.xor_assoc, BitVec.xor_assoc, BitVec.xor_comm (b >>> 1)]
  · rw [BitVec.xor_assoc, BitVec.xor_comm poly, BitVec.xor_assoc, BitVec.xor_self, BitVec.xor_zero]

theorem steps_xor (n : Nat) : ∀ a b : R, steps n (a ^^^ b) = steps n a ^^^ steps n b := by
  induction n with
  | zero => intro a b; rfl
  | succ n ih => intro a b; simp only [steps, step_xor, ih]

theorem steps_add (m n : Nat) : ∀ r, steps (m + n) r = steps n (steps m r) := by
  induction m with
  | zero => intro r; simp [steps]
  | succ m ih => intro r; rw [Nat.succ_add]; simp only [steps, ih]

def Lin (f : R → R) : Prop := ∀ a b, f (a ^^^ b) = f a ^^^ f b
theorem Lin.zero {f : R → R} (h : Lin f) : f 0#32 = 0#32 := by
  have := h 0#32 0#32
  rw [BitVec.xor_self, BitVec.xor_self] at this
  exact this

def low (n : Nat) (r : R) : R := r &&& BitVec.ofNat 32 (2 ^ n - 1)
theorem low_bit (n : Nat) (r : R) (i : Nat) : (low n r).getLsbD i = (r.getLsbD i && decide (i < n)) := by
  unfold low
  rw [BitVec.getLsbD_and, BitVec.getLsbD_ofNat, Nat.testBit_two_pow_sub_one]
  by_cases hi : i < 32
  · simp [hi]
  · simp [BitVec.getLsbD_of_ge r i (by omega)]

theorem low_zero (r : R) : low 0 r = 0#32 := by
  apply BitVec.eq_of_getLsbD_eq; intro i _; rw [low_bit]; simp
theorem low_all (r : R) : low 32 r = r := by
  apply BitVec.eq_of_getLsbD_eq; intro i hi; rw [low_bit]; simp [hi]
def unit (n : Nat) : R := BitVec.twoPow 32 n
theorem low_succ (n : Nat) (r : R) : low (n + 1) r = low n r ^^^ (if r.getLsbD n then unit n else 0#32) := by
  apply BitVec.eq_of_getLsbD_eq
  intro i hi
  rw [BitVec.getLsbD_xor, low_bit, low_bit]
  cases hr : r.getLsbD n
  · simp only [Bool.false_eq_true, if_false, BitVec.getLsbD_zero, Bool.xor_false]
    by_cases h1 : i < n
    · simp [h1, show i < n + 1 by omega]
    · by_cases h2 : i = n
      · subst h2; simp [hr]
      · simp [h1, show ¬ i < n + 1 by omega]
  · simp only [if_true, unit, BitVec.getLsbD_twoPow]
    by_cases h1 : i < n
    · simp [h1, show i < n + 1 by omega, show ¬ n = i by omega]
    · by_cases h2 : i = n
      · subst h2; simp [hr, hi]
      · simp [h1, show ¬ i < n + 1 by omega, show ¬ n = i by omega]

theorem lin_ext {f g : R → R} (hf : Lin f) (hg : Lin g) (h : ∀ i : Fin 32, f (unit i.val) = g (unit i.val)) (r : R) : f r = g r := by
  have key : ∀ n, n ≤ 32 → f (low n r) = g (low n r) := by
    intro n
    induction n with
    | zero => intro _; rw [low_zero, hf.zero, hg.zero]
    | succ n ih =>
      intro hn
      rw [low_succ, hf, hg, ih (by omega)]
      cases r.getLsbD n
      · simp [hf.zero, hg.zero]
      · have := h ⟨n, by omega⟩; simp only at this; simp [this]
  have := key 32 (Nat.le_refl _)
  rwa [low_all] at this

theorem Lin.comp {f g : R → R} (hf : Lin f) (hg : Lin g) : Lin (fun r => f (g r)) := fun a b => by show f (g (a ^^^ b)) = _; rw [hg a b, hf]

/-- One stp back. -/
def back (r : R) : R := if r.getLsbD 31 then ((r ^^^ poly) <<< 1) ||| 1#32 else r <<< 1
theorem sel_xor (x y : Bool) (c : R) : (if (x ^^ y) = true then c else 0#32) = (if x then c else 0#32) ^^^ (if y then c else 0#32) := by
  cases x <;> cases y <;> simp
theorem xor4 (a b c d : R) : (a ^^^ b) ^^^ (c ^^^ d) = (a ^^^ c) ^^^ (b ^^^ d) := by
  rw [BitVec.xor_assoc, ← BitVec.xor_assoc b, BitVec.xor_comm b c, BitVec.xor_assoc c, ← BitVec.xor_assoc]
def backs : Nat → R → R
  | 0, r => r
  | n + 1, r => backs n (back r)
/-- The product of two registers: the loop's n rounds left. -/
def tm : Nat → R → R → R → R
  | 0, p, _, _ => p
  | n + 1, p, a, b => tm n (if b.getLsbD 31 then p ^^^ a else p) (stp a) (b <<< 1)
def T (a b : R) : R := tm 32 0#32 a b
theorem selx (x : Bool) (p a : R) : (if x = true then p ^^^ a else p) = p ^^^ (if x then a else 0#32) := by cases x <;> simp
theorem tm_b (n : Nat) : ∀ p p' a b b', tm n (p ^^^ p') a (b ^^^ b') = tm n p a b ^^^ tm n p' a b' := by
  induction n with
  | zero => intros; rfl
  | succ n ih =>
    intro p p' a b b'
    simp only [tm, selx]
    rw [BitVec.getLsbD_xor, sel_xor, BitVec.shiftLeft_xor_distrib, xor4, ih]
theorem sela (x : Bool) (a a' : R) : (if x = true then a ^^^ a' else 0#32) = (if x then a else 0#32) ^^^ (if x then a' else 0#32) := by cases x <;> simp
theorem tm_a (n : Nat) : ∀ p p' a a' b, tm n (p ^^^ p') (a ^^^ a') b = tm n p a b ^^^ tm n p' a' b := by
  induction n with
  | zero => intros; rfl
  | succ n ih =>
    intro p p' a a' b
    simp only [tm, selx]
    rw [sela, step_xor, xor4, ih]
theorem T_b (a : R) : Lin (T a) := fun b b' => by
  have := tm_b 32 0#32 0#32 a b b'
  rwa [BitVec.xor_zero] at this
theorem T_a (b : R) : Lin (fun a => T a b) := fun a a' => by
  have := tm_a 32 0#32 0#32 a a' b
  rwa [BitVec.xor_zero] at this

theorem T_one (a : R) : T a one = a := lin_ext (f := fun a => T a one) (g := fun r => r) (T_a one) (fun _ _ => rfl) (by decide +kernel) a
theorem T_step_units : ∀ i j : Fin 32, T (unit j.val) (stp (unit i.val)) = stp (T (unit j.val) (unit i.val)) := by decide +kernel
theorem T_step (a b : R) : T a (stp b) = stp (T a b) :=
  lin_ext (f := fun b => T a (stp b)) (g := fun b => stp (T a b)) (Lin.comp (T_b a) step_xor) (Lin.comp step_xor (T_b a))
    (fun i => lin_ext (f := fun a => T a (stp (unit i.val))) (g := fun a => stp (T a (unit i.val))) (T_a _) (Lin.comp step_xor (T_a _)) (T_step_units i) a) b
theorem T_steps (n : Nat) : ∀ a b, T a (steps n b) = steps n (T a b) := by
  induction n with
  | zero => intros; rfl
  | succ n ih => intro a b; simp only [steps, ih, T_step]
/-- The product with a power of the stp is that many steps. -/
theorem T_pow (a : R) (n : Nat) : T a (steps n one) = steps n a := by rw [T_steps, T_one]

def ex : Nat → Nat
  | 0 => 0
  | k + 1 => 2 * ex k + 1
def pw : Nat → R
  | 0 => one
  | k + 1 => stp (T (pw k) (pw k))
theorem pw_eq (k : Nat) : pw k = steps (ex k) one := by
  induction k with
  | zero => rfl
  | succ k ih => rw [pw, ih, T_pow, ex, steps_add, ← steps_add (ex k) (ex k), ← Nat.two_mul]; rfl
theorem pw31 : pw 31 = one := by decide +kernel
theorem ex31 : ex 31 = 2147483647 := by decide +kernel
theorem around (r : R) : steps 2147483647 r = r := by
  have h := pw_eq 31
  rw [pw31, ex31] at h
  rw [← T_pow, ← h, T_one]
/-- None of the 2 to the k numbers from lo on divides n. -/
def clear (n : Nat) : Nat → Nat → Bool
  | 0, lo => n % lo != 0
  | k + 1, lo => clear n k lo && clear n k (lo + 2 ^ k)
theorem clear_spec (n : Nat) : ∀ k lo, clear n k lo = true → ∀ d, lo ≤ d → d < lo + 2 ^ k → n % d ≠ 0 := by
  intro k
  induction k with
  | zero => intro lo h d h1 h2; obtain rfl : d = lo := by omega
            simpa [clear] using h
  | succ k ih =>
    intro lo h d h1 h2
    rw [clear, Bool.and_eq_true] at h
    by_cases hd : d < lo + 2 ^ k
    · exact ih lo h.1 d h1 hd
    · exact ih _ h.2 d (by omega) (by rw [Nat.pow_succ] at h2; omega)
theorem mersenne : clear 2147483647 16 2 = true := by decide +kernel
theorem small (g h : Nat) (e : g * h = 2147483647) (h1 : 2 ≤ g) (h2 : g < 65538) : False := by
  have := clear_spec 2147483647 16 2 mersenne g h1 (by simpa using h2)
  rw [← e, Nat.mul_mod_right] at this
  exact this rfl
theorem prime (g h : Nat) (e : g * h = 2147483647) : g = 1 ∨ g = 2147483647 := by
  by_cases h1 : g < 65538
  · by_cases h2 : 2 ≤ g
    · exact (small g h e h2 h1).elim
    · left
      rcases Nat.eq_zero_or_pos g with h0 | h0
      · subst h0; simp at e
      · omega
  · by_cases h2 : h < 65538
    · by_cases h3 : 2 ≤ h
      · exact (small h g (by rw [Nat.mul_comm]; exact e) h3 h2).elim
      · right
        rcases Nat.eq_zero_or_pos h with h0 | h0
        · subst h0; simp at e
        · obtain rfl : h = 1 := by omega
          omega
    · exfalso
      have : 65538 * 65538 ≤ g * h := Nat.mul_le_mul (by omega) (by omega)
      omega
theorem fix_mul (d k : Nat) (u : R) (h : steps d u = u) : steps (d * k) u = u := by
  induction k with
  | zero => rfl
  | succ k ih => rw [Nat.mul_succ, steps_add, ih, h]
theorem fix_gcd (a b : Nat) (u : R) : steps a u = u → steps b u = u → steps (Nat.gcd a b) u = u := by
  induction a, b using Nat.gcd.induction with
  | H0 n => intro _ h; rwa [Nat.gcd_zero_left]
  | H1 m n hm ih =>
    intro h1 h2
    rw [Nat.gcd_rec]
    refine ih ?_ h1
    have e : n = m * (n / m) + n % m := (Nat.div_add_mod n m).symm
    rw [e, steps_add, fix_mul _ _ _ h1] at h2
    exact h2
theorem order (d : Nat) (h0 : 0 < d) (h1 : d < 2147483647) : steps d 1#32 ≠ 1#32 := by
  intro h
  have hg := fix_gcd d 2147483647 1#32 h (around _)
  obtain ⟨k, hk⟩ := Nat.gcd_dvd_right d 2147483647
  have hle : Nat.gcd d 2147483647 ≤ d := Nat.gcd_le_left _ h0
  rcases prime _ k hk.symm with e | e
  · rw [e] at hg; revert hg; decide +kernel
  · omega

/-- The parity of a register's bits. -/
def par : Nat → R → Bool
  | 0, _ => false
  | n + 1, r => r.getLsbD n ^^ par n r
def parity (r : R) : Bool := par 32 r
def P (r : R) : R := if parity r then 1#32 else 0#32
/-- A byte is taken in; then some of them. -/
def take (r : R) (x : Int) : R := steps 8 (r ^^^ BitVec.ofNat 32 x.toNat)
def takes (r : R) (l : List Int) : R := l.foldl take r
/-- Update. -/
def upd (c : R) (l : List Int) : R := ~~~ (takes (~~~ c) l)
theorem takes_append (r : R) (l m : List Int) : takes r (l ++ m) = takes (takes r l) m := List.foldl_append
theorem known : upd 0#32 [49, 50, 51, 52, 53, 54, 55, 56, 57] = 0xE3069283#32 := by decide +kernel

/-- The sixteen entries. -/
def halves : List Nat := [0x00000000, 0x105EC76F, 0x20BD8EDE, 0x30E349B1, 0x417B1DBC, 0x5125DAD3, 0x61C69362, 0x7198540D, 0x82F63B78, 0x92A8FC17, 0xA24BB5A6, 0xB21572C9, 0xC38D26C4, 0xD3D3E1AB, 0xE330A81A, 0xF36E6F75]
theorem halves_ok : ∀ i : Fin 16, BitVec.ofNat 32 (halves.getD i.val 0) = steps 4 (BitVec.ofNat 32 i.val) := by decide +kernel
theorem and_lin (m : R) : Lin (fun r => r &&& m) := fun a b => by
  show (a ^^^ b) &&& m = (a &&& m) ^^^ (b &&& m)
  apply BitVec.eq_of_getLsbD_eq
  intro i hi
  simp only [BitVec.getLsbD_and, BitVec.getLsbD_xor]
  cases a.getLsbD i <;> cases b.getLsbD i <;> cases m.getLsbD i <;> rfl
theorem Lin.add {f g : R → R} (hf : Lin f) (hg : Lin g) : Lin (fun r => f r ^^^ g r) := fun a b => by show f (a ^^^ b) ^^^ g (a ^^^ b) = _; rw [hf, hg, xor4]
theorem split4 (r : R) : (r &&& 0xF#32) ^^^ (r &&& 0xFFFFFFF0#32) = r :=
  lin_ext (f := fun r => (r &&& 0xF#32) ^^^ (r &&& 0xFFFFFFF0#32)) (g := fun r => r) (Lin.add (and_lin _) (and_lin _)) (fun _ _ => rfl) (by decide +kernel) r
theorem nib_hi (r : R) : steps 4 (r &&& 0xFFFFFFF0#32) = r >>> 4 :=
  lin_ext (f := fun r => steps 4 (r &&& 0xFFFFFFF0#32)) (g := fun r => r >>> 4)
    (Lin.comp (steps_xor 4) (and_lin _)) (fun a b => BitVec.ushiftRight_xor_distrib ..) (by decide +kernel) r
theorem nib (r : R) : steps 4 r = BitVec.ofNat 32 (halves.getD (r.toNat % 16) 0) ^^^ (r >>> 4) := by
  have h1 := halves_ok ⟨r.toNat % 16, Nat.mod_lt _ (by decide)⟩
  simp only at h1
  rw [h1, ← nib_hi, ← steps_xor]
  congr 1
  have e : BitVec.ofNat 32 (r.toNat % 16) = r &&& 0xF#32 := by
    apply BitVec.eq_of_toNat_eq
    rw [BitVec.toNat_and, BitVec.toNat_ofNat]
    have : (0xF#32).toNat = 2 ^ 4 - 1 := by decide
    rw [this, Nat.and_two_pow_sub_one_eq_mod]
    omega
  rw [e, split4]
end Go.Crc2
/- More of the register's mathematics: four bytes at once, three lists xored, bits turned; nothing of the program is named here. -/
namespace Go.Crc2
open Go.Wire1

/-- The byte i of a register. -/
def bt (m : R) (i : Nat) : Int := ((m.toNat / 2 ^ (8 * i) % 256 : Nat) : Int)
def fb (m : R) : List Int := [bt m 0, bt m 1, bt m 2, bt m 3]
theorem bt_byt (m : R) (i : Nat) : 0 ≤ bt m i ∧ bt m i < 256 := by unfold bt; omega
theorem fb_byt (m : R) : Byt (fb m) := fun z hz => by
  simp only [fb, List.mem_cons, List.not_mem_nil, or_false] at hz
  rcases hz with rfl | rfl | rfl | rfl <;> exact bt_byt _ _
def quad (m : R) : R := ((steps 32 ((m >>> (8 * 0)) &&& 255#32) ^^^ steps 24 ((m >>> (8 * 1)) &&& 255#32)) ^^^ steps 16 ((m >>> (8 * 2)) &&& 255#32)) ^^^ steps 8 ((m >>> (8 * 3)) &&& 255#32)
/-- Two bytes xored. -/
def bx (x y : Int) : Int := ((x.toNat ^^^ y.toNat : Nat) : Int)
/-- Mend. -/
def mend (c want : R) : R := ~~~ c ^^^ backs 32 (~~~ want)
/-- A bit turned. -/
def flip (l : List Int) (k : Nat) : List Int := l.set (k / 8) (bx (l.getD (k / 8) 0) ((2 ^ (k % 8) : Nat) : Int))
end Go.Crc2
