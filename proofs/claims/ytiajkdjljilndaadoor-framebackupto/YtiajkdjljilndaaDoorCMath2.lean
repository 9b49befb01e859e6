/- More of the register's mathematics: four bytes at once, three lists xored, bits turned; nothing of the program is named here. -/
import Derived.Test.YtiajkdjljilndaaDoorCMath
import Derived.Test.YtiajkdjljilndaaDoorMath
namespace Go.Crc2
open Go.Wire1

/-- The byte i of a register. -/
def bt (m : R) (i : Nat) : Int := ((m.toNat / 2 ^ (8 * i) % 256 : Nat) : Int)
def fb (m : R) : List Int := [bt m 0, bt m 1, bt m 2, bt m 3]
theorem bt_byt (m : R) (i : Nat) : 0 ≤ bt m i ∧ bt m i < 256 := by unfold bt; omega
theorem fb_byt (m : R) : Byt (fb m) := fun z hz => by
  simp only [fb, List.mem_cons, List.not_mem_nil, or_false] at hz
  rcases hz with rfl | rfl | rfl | rfl <;> exact bt_byt _ _
theorem bt_reg (m : R) (i : Nat) : BitVec.ofNat 32 (bt m i).toNat = (m >>> (8 * i)) &&& 255#32 := by
  apply BitVec.eq_of_toNat_eq
  rw [BitVec.toNat_and, BitVec.toNat_ofNat, BitVec.toNat_ushiftRight, Nat.shiftRight_eq_div_pow]
  have : (255#32).toNat = 2 ^ 8 - 1 := by decide
  rw [this, Nat.and_two_pow_sub_one_eq_mod]
  unfold bt
  rw [Int.toNat_natCast]
  have h : m.toNat / 2 ^ (8 * i) % 256 < 256 := Nat.mod_lt _ (by decide)
  have e : (2 : Nat) ^ 8 = 256 := by decide
  rw [e]
  exact Nat.mod_eq_of_lt (by omega)
def quad (m : R) : R := ((steps 32 ((m >>> (8 * 0)) &&& 255#32) ^^^ steps 24 ((m >>> (8 * 1)) &&& 255#32)) ^^^ steps 16 ((m >>> (8 * 2)) &&& 255#32)) ^^^ steps 8 ((m >>> (8 * 3)) &&& 255#32)
theorem sh_lin (k : Nat) : Lin (fun m => (m >>> k) &&& 255#32) := Lin.comp (and_lin _) (fun _ _ => BitVec.ushiftRight_xor_distrib ..)
theorem quad_eq (m : R) : quad m = steps 32 m :=
  lin_ext (f := quad) (g := steps 32) (Lin.add (Lin.add (Lin.add (Lin.comp (steps_xor 32) (sh_lin _)) (Lin.comp (steps_xor 24) (sh_lin _))) (Lin.comp (steps_xor 16) (sh_lin _))) (Lin.comp (steps_xor 8) (sh_lin _))) (steps_xor 32) (by decide +kernel) m
theorem takes_fb (r m : R) : takes r (fb m) = steps 32 (r ^^^ m) := by
  simp only [fb, takes_cons, takes_nil, take, bt_reg]
  rw [steps_xor 32 r m, ← quad_eq m]
  simp only [steps_xor, ← steps_add, quad, BitVec.xor_assoc]

/-- To take bytes in is one to one and mixes well. -/
theorem takes_xor (l : List Int) : ∀ a b : R, takes (a ^^^ b) l = takes a l ^^^ steps (8 * l.length) b := by
  induction l with
  | nil => intro a b; rfl
  | cons z l ih =>
    intro a b
    rw [takes_cons, takes_cons]
    have e : take (a ^^^ b) z = take a z ^^^ steps 8 b := by
      unfold take
      rw [BitVec.xor_assoc, BitVec.xor_comm b, ← BitVec.xor_assoc, steps_xor]
    rw [e, ih, ← steps_add, List.length_cons]
    have : 8 + 8 * l.length = 8 * (l.length + 1) := by omega
    rw [this]

/-- The sum of what comes behind, joined. -/
theorem join_eq (l : List Int) (s : R) : steps (8 * l.length) s ^^^ upd 0#32 l = upd s l := by
  unfold upd
  have h := takes_xor l (~~~ 0#32) s
  have e : (~~~ 0#32) ^^^ s = ~~~ s := by
    have : (~~~ 0#32 : R) = BitVec.allOnes 32 := by decide
    rw [this, BitVec.allOnes_xor]
  rw [e] at h
  rw [h, BitVec.xor_comm, BitVec.not_xor_left]

theorem ofNat_xor (a b : Nat) (ha : a < 256) (hb : b < 256) : BitVec.ofNat 32 (a ^^^ b) = BitVec.ofNat 32 a ^^^ BitVec.ofNat 32 b := by
  apply BitVec.eq_of_toNat_eq
  have hx : a ^^^ b < 2 ^ 8 := Nat.xor_lt_two_pow (by omega) (by omega)
  rw [BitVec.toNat_xor, BitVec.toNat_ofNat, BitVec.toNat_ofNat, BitVec.toNat_ofNat, Nat.mod_eq_of_lt (by omega), Nat.mod_eq_of_lt (by omega), Nat.mod_eq_of_lt (by omega)]
/-- Two bytes xored. -/
def bx (x y : Int) : Int := ((x.toNat ^^^ y.toNat : Nat) : Int)
theorem bx_byt {x y : Int} (hx : 0 ≤ x ∧ x < 256) (hy : 0 ≤ y ∧ y < 256) : 0 ≤ bx x y ∧ bx x y < 256 := by
  have h : x.toNat ^^^ y.toNat < 2 ^ 8 := Nat.xor_lt_two_pow (by omega) (by omega)
  unfold bx; omega
theorem bx_reg {x y : Int} (hx : 0 ≤ x ∧ x < 256) (hy : 0 ≤ y ∧ y < 256) : BitVec.ofNat 32 (bx x y).toNat = BitVec.ofNat 32 x.toNat ^^^ BitVec.ofNat 32 y.toNat := by
  unfold bx; rw [Int.toNat_natCast, ofNat_xor _ _ (by omega) (by omega)]
theorem take_bx (a b : R) {x y : Int} (hx : 0 ≤ x ∧ x < 256) (hy : 0 ≤ y ∧ y < 256) : take (a ^^^ b) (bx x y) = take a x ^^^ take b y := by
  unfold take; rw [bx_reg hx hy, ← steps_xor, xor4]
/-- Three registers that take three lists in, and one that takes the three xored: the first n of them. -/
theorem takes3 (a b c : List Int) (ha : Byt a) (hb : Byt b) (hc : Byt c) (r s t : R) (n : Nat) (h1 : n ≤ a.length) (h2 : n ≤ b.length) (h3 : n ≤ c.length) (w : List Int) (hw : w.length = n)
    (hx : ∀ k, k < n → w.getD k 0 = bx (bx (a.getD k 0) (b.getD k 0)) (c.getD k 0)) :
    takes ((r ^^^ s) ^^^ t) w = (takes r (a.take n) ^^^ takes s (b.take n)) ^^^ takes t (c.take n) := by
  have key : ∀ k, k ≤ n → takes ((r ^^^ s) ^^^ t) (w.take k) = (takes r (a.take k) ^^^ takes s (b.take k)) ^^^ takes t (c.take k) := by
    intro k
    induction k with
    | zero => intro _; simp [takes]
    | succ k ih =>
      intro hk
      have e : ∀ (l : List Int) (r : R), k < l.length → takes r (l.take (k + 1)) = take (takes r (l.take k)) (l.getD k 0) := fun l r h => by
        rw [take_next h, takes_append]; rfl
      rw [e w _ (by omega), e a _ (by omega), e b _ (by omega), e c _ (by omega), hx k (by omega), ih (by omega)]
      have ba := byt_at ha k
      have bb := byt_at hb k
      have bc := byt_at hc k
      rw [take_bx _ _ (bx_byt ba bb) bc, take_bx _ _ ba bb]
  have := key n (Nat.le_refl _)
  rwa [List.take_of_length_le (by omega)] at this
theorem mix (x y z : R) : ~~~ ((x ^^^ y) ^^^ z) = (~~~ x ^^^ ~~~ y) ^^^ ~~~ z := by
  have h : ∀ a : R, ~~~ a = a ^^^ BitVec.allOnes 32 := fun a => by rw [BitVec.xor_allOnes]
  rw [h, h x, h y, h z, xor4 x, BitVec.xor_self, BitVec.xor_zero, BitVec.xor_assoc]
theorem residue (l : List Int) : upd 0#32 (l ++ fb (upd 0#32 l)) = 0x48674BC7#32 := by
  unfold upd
  rw [takes_append, takes_fb]
  have : ∀ r : R, r ^^^ ~~~ r = BitVec.allOnes 32 := fun r => by rw [← BitVec.xor_allOnes, ← BitVec.xor_assoc, BitVec.xor_self, BitVec.zero_xor]
  rw [this]
  decide +kernel

/-- Mend. -/
def mend (c want : R) : R := ~~~ c ^^^ backs 32 (~~~ want)
theorem mend_ok (c want : R) : upd c (fb (mend c want)) = want := by
  unfold upd mend
  rw [takes_fb, ← BitVec.xor_assoc, BitVec.xor_self, BitVec.zero_xor, steps_backs, BitVec.not_not]
theorem not_inj {a b : R} (h : ~~~ a = ~~~ b) : a = b := by rw [← BitVec.not_not (b := a), h, BitVec.not_not]
theorem xor_cancel {a b c : R} (h : a ^^^ b = a ^^^ c) : b = c := by
  have : a ^^^ (a ^^^ b) = a ^^^ (a ^^^ c) := by rw [h]
  rwa [← BitVec.xor_assoc, ← BitVec.xor_assoc, BitVec.xor_self, BitVec.zero_xor, BitVec.zero_xor] at this
theorem mend_only (c m m' : R) (h : upd c (fb m) = upd c (fb m')) : m = m' := by
  unfold upd at h
  rw [takes_fb, takes_fb] at h
  exact xor_cancel (steps_inj 32 (not_inj h))
theorem nat_xor_mod (a b k : Nat) : (a ^^^ b) / 2 ^ k = a / 2 ^ k ^^^ b / 2 ^ k := by rw [← Nat.shiftRight_eq_div_pow, ← Nat.shiftRight_eq_div_pow, ← Nat.shiftRight_eq_div_pow, Nat.shiftRight_xor_distrib]
theorem bt_xor (m o : R) (i : Nat) : bt (m ^^^ o) i = bx (bt m i) (bt o i) := by
  unfold bt bx
  rw [Int.toNat_natCast, Int.toNat_natCast, BitVec.toNat_xor, nat_xor_mod]
  have e : (256 : Nat) = 2 ^ 8 := by decide
  rw [e, Nat.xor_mod_two_pow]

/-- A bit turned. -/
def flip (l : List Int) (k : Nat) : List Int := l.set (k / 8) (bx (l.getD (k / 8) 0) ((2 ^ (k % 8) : Nat) : Int))
theorem flip_len (l : List Int) (k : Nat) : (flip l k).length = l.length := by simp [flip]
theorem pow8 (k : Nat) : (0 : Int) ≤ ((2 ^ (k % 8) : Nat) : Int) ∧ ((2 ^ (k % 8) : Nat) : Int) < 256 := by
  have h : 2 ^ (k % 8) ≤ 2 ^ 7 := Nat.pow_le_pow_right (by decide) (by omega)
  have e : (2 : Nat) ^ 7 = 128 := by decide
  generalize 2 ^ (k % 8) = p at *
  omega
theorem flip_byt {l : List Int} (h : Byt l) (k : Nat) : Byt (flip l k) := fun z hz => by
  rcases List.mem_or_eq_of_mem_set hz with h1 | h1
  · exact h z h1
  · rw [h1]; exact bx_byt (byt_at h _) (pow8 k)
theorem unit_steps : ∀ i : Fin 32, steps i.val (unit i.val) = 1#32 := by decide +kernel
theorem unit_pow : ∀ i : Fin 8, BitVec.ofNat 32 (((2 ^ i.val : Nat) : Int)).toNat = unit i.val := by decide +kernel
/-- A bit turned: so many steps of a lone bit. -/
theorem takes_flip (l : List Int) : ∀ (k : Nat) (r : R), Byt l → k < 8 * l.length → takes r (flip l k) = takes r l ^^^ steps (8 * l.length - k) 1#32 := by
  induction l with
  | nil => intro k r _ h; simp at h
  | cons z l ih =>
    intro k r hb hk
    have hl : Byt l := fun y hy => hb y (by simp [hy])
    have hz := hb z (by simp)
    by_cases h8 : k < 8
    · have e0 : k / 8 = 0 := by omega
      have e1 : k % 8 = k := by omega
      have p := pow8 k
      unfold flip
      rw [e0, e1]
      rw [e1] at p
      show takes r (bx z _ :: l) = _
      have hu := unit_pow ⟨k, h8⟩
      have hs := unit_steps ⟨k, by omega⟩
      simp only at hu hs
      have e2 : take r (bx z ((2 ^ k : Nat) : Int)) = take r z ^^^ steps 8 (unit k) := by
        unfold take; rw [bx_reg hz p, ← BitVec.xor_assoc, steps_xor _ (r ^^^ _), hu]
      rw [takes_cons, e2, takes_xor, ← takes_cons, ← steps_add]
      have e3 : 8 + 8 * l.length = k + (8 * (z :: l).length - k) := by simp only [List.length_cons]; omega
      rw [e3, steps_add, hs]
    · have e0 : k / 8 = (k - 8) / 8 + 1 := by omega
      have e1 : k % 8 = (k - 8) % 8 := by omega
      have e2 : flip (z :: l) k = z :: flip l (k - 8) := by
        unfold flip; rw [e0, e1, List.set_cons_succ]; rfl
      rw [e2, takes_cons, takes_cons, ih (k - 8) _ hl (by simp only [List.length_cons] at hk; omega)]
      have e3 : 8 * l.length - (k - 8) = 8 * (z :: l).length - k := by simp only [List.length_cons]; omega
      rw [e3]
theorem two_bits (N i j : Nat) (hi : i < N) (hj : j < N) (hN : N ≤ 2147483640) (hij : i ≠ j) : steps (N - i) 1#32 ^^^ steps (N - j) 1#32 ≠ 0#32 := by
  have key : ∀ i j : Nat, i < j → j < N → steps (N - i) 1#32 ≠ steps (N - j) 1#32 := by
    intro i j hij hj h
    have e : N - i = (j - i) + (N - j) := by omega
    rw [e, steps_add] at h
    exact order (j - i) (by omega) (by omega) (steps_inj _ h)
  intro h
  have h' : steps (N - i) 1#32 = steps (N - j) 1#32 := BitVec.xor_eq_zero_iff.1 h
  rcases Nat.lt_or_gt_of_ne hij with hlt | hlt
  · exact key i j hlt hj h'
  · exact key j i hlt hi h'.symm
theorem twos (l : List Int) (hb : Byt l) (i j : Nat) (hi : i < 8 * l.length) (hj : j < 8 * l.length) (hN : l.length < 268435456) (hij : i ≠ j) : upd 0#32 l ≠ upd 0#32 (flip (flip l i) j) := by
  intro h
  unfold upd at h
  have h' := not_inj h
  rw [takes_flip _ j _ (flip_byt hb i) (by rw [flip_len]; exact hj), takes_flip _ i _ hb hi, flip_len, BitVec.xor_assoc] at h'
  have h2 := xor_cancel (a := takes (~~~ 0#32) l) (b := 0#32) (c := steps (8 * l.length - i) 1#32 ^^^ steps (8 * l.length - j) 1#32) (by rw [BitVec.xor_zero]; exact h')
  exact two_bits (8 * l.length) i j hi hj (by omega) hij h2.symm
end Go.Crc2
