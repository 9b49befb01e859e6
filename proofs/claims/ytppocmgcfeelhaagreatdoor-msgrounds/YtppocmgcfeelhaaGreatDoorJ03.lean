import Derived.WalkKit
import Derived.Deep.QuietTactic
import Derived.BigQuiet
import Derived.Laws.CopyOwn
import Derived.Defers
import Derived.Recover
import Derived.RegionTactic
import Derived.ChangeAlike
import Derived.Test.YtppocmgcfeelhaaGreatDoorJ02
set_option maxHeartbeats 1000000
set_option maxRecDepth 100000
namespace Go.Wire1
open Go.RowKit
def prev (l : List Int) (i : Nat) : Int := if i = 0 then 0 else l.getD (i - 1) 0
def plainK (l : List Int) : Nat → List Int
 | 0 => []
 | k + 1 => plainK l k ++ enc (l.getD k 0).toNat
def maskK (l : List Int) : Nat → Nat
 | 0 => 0
 | k + 1 => maskK l k + if l.getD k 0 = prev l k then 0 else 2 ^ k
def diffK (l : List Int) : Nat → List Int
 | 0 => []
 | k + 1 => diffK l k ++ if l.getD k 0 = prev l k then [] else enc (zig (l.getD k 0 - prev l k))
def tight (l : List Int) : List Int := enc (maskK l l.length) ++ diffK l l.length
def packL (v : Int) (l : List Int) : List Int := if v = 1 then plainK l l.length else tight l
def packE (v : Int) (l : List Int) : Nat := if v = 1 ∨ v = 2 then fault l else 2
def packR (v : Int) (l : List Int) : List Int := if packE v l = 0 then packL v l else []
theorem prev_succ (l : List Int) (k : Nat) : prev l (k + 1) = l.getD k 0 := by simp [prev]
theorem prev_ok {l : List Int} (h : okL l = true) (k : Nat) : 0 ≤ prev l k ∧ prev l k ≤ 1048576 := by
 unfold prev; split
 ·omega
 ·exact okL_at h _
theorem maskK_lt (l : List Int) (k : Nat) : maskK l k < 2 ^ k := by
 induction k with
 | zero => simp [maskK]
 | succ k ih => simp only [maskK, Nat.pow_succ]; split <;> omega
theorem maskK_same {l : List Int} {k : Nat} (h : l.getD k 0 = prev l k) : maskK l (k + 1) = maskK l k ∧ diffK l (k + 1) = diffK l k := by
 simp only [maskK, diffK, if_pos h, Nat.add_zero, List.append_nil, and_self]
theorem maskK_diff {l : List Int} {k : Nat} (h : ¬ l.getD k 0 = prev l k) : maskK l (k + 1) = maskK l k + 2 ^ k ∧ diffK l (k + 1) = diffK l k ++ enc (zig (l.getD k 0 - prev l k)) := by
 simp only [maskK, diffK, if_neg h, and_self]
theorem or_pow {m k : Nat} (h : m < 2 ^ k) : m ||| 2 ^ k = m + 2 ^ k := by
 rw [Nat.or_comm, ← Nat.mul_one (2 ^ k), ← Nat.two_pow_add_eq_or_of_lt h]; omega
theorem pow7 {k : Nat} (h : k ≤ 7) : 2 ^ k ≤ 128 := by
 have : (2 : Nat) ^ 7 = 128 := rfl
 rw [← this]; exact Nat.pow_le_pow_right (by decide) h
theorem plainK_len {l : List Int} (h : okL l = true) (k : Nat) : k ≤ (plainK l k).length ∧ (plainK l k).length ≤ 10 * k := by
 induction k with
 | zero => simp [plainK]
 | succ k ih =>
  have h1 := okL_at h k
  have := enc_le (l.getD k 0).toNat (by omega)
  simp only [plainK, zL]; omega
theorem zig_of {x : Int} (h : -1048576 ≤ x ∧ x ≤ 1048576) : zig x ≤ 2097152 := by unfold zig; split <;> omega
def turnsK (l : List Int) : Nat → Nat
 | 0 => 0
 | k + 1 => turnsK l k + if l.getD k 0 = prev l k then 0 else 1
theorem turnsK_le (l : List Int) (k : Nat) : turnsK l k ≤ k := by
 induction k with
 | zero => simp [turnsK]
 | succ k ih => simp only [turnsK]; split <;> omega
theorem enc4 {x : Nat} (h : x ≤ 2097152) : 1 ≤ (enc x).length ∧ (enc x).length ≤ 4 := by
 rw [enc_len x (by omega)]
 have e : x / 128 / 128 / 128 / 128 = 0 := by omega
 have c : ∀ f z, cnt (f + 1) z ≤ 1 + cnt f (z / 128) := fun f z => by simp only [cnt]; split <;> omega
 have h1 : cnt 9 (x / 128) ≤ _ := c 8 (x / 128)
 have h2 : cnt 8 (x / 128 / 128) ≤ _ := c 7 (x / 128 / 128)
 have h3 : cnt 7 (x / 128 / 128 / 128) ≤ _ := c 6 (x / 128 / 128 / 128)
 rw [e, cnt_zero] at h3
 omega
theorem enc1 {x : Nat} (h : x < 128) : enc x = [(x : Int)] := encF_small 9 x h
theorem diffK_len {l : List Int} (h : okL l = true) (k : Nat) : turnsK l k ≤ (diffK l k).length ∧ (diffK l k).length ≤ 4 * turnsK l k := by
 induction k with
 | zero => simp [turnsK, diffK]
 | succ k ih =>
  have h1 := okL_at h k
  have h2 := prev_ok h k
  have h3 := enc4 (zig_of (x := l.getD k 0 - prev l k) (by omega))
  simp only [turnsK, diffK]
  split
  ·simpa using ih
  ·rw [zL]; omega
theorem diffK_le {l : List Int} (h : okL l = true) (k : Nat) : (diffK l k).length ≤ 4 * k := by
 have := diffK_len h k
 have := turnsK_le l k
 omega
theorem tight_len {l : List Int} (h : isVec l = true) : (tight l).length = 1 + (diffK l l.length).length := by
 have h7 : l.length ≤ 7 := by unfold isVec at h; simp only [Bool.and_eq_true] at h; exact (of_decide_eq_true h.1).2
 have := maskK_lt l l.length
 have := pow7 h7
 unfold tight
 rw [zL, enc1 (by omega)]
 rfl
theorem byt_plainK (l : List Int) (k : Nat) : Byt (plainK l k) := by
 induction k with
 | zero => intro z hz; cases hz
 | succ k ih => exact byt_app ih (byt_enc _)
theorem byt_diffK (l : List Int) (k : Nat) : Byt (diffK l k) := by
 induction k with
 | zero => intro z hz; cases hz
 | succ k ih =>
  simp only [diffK]
  split
  ·simpa using ih
  ·exact byt_app ih (byt_enc _)
theorem byt_packR (v : Int) (l : List Int) : Byt (packR v l) := by
 unfold packR packL tight
 split
 ·split
  ·exact byt_plainK _ _
  ·exact byt_app (byt_enc _) (byt_diffK _ _)
 ·intro z hz; cases hz
open Go.RowKit
abbrev Rd := Except Nat (List Int × Nat)
def rd1 (l : List Int) : Nat → Rd
 | 0 => .ok ([], 0)
 | k + 1 => match rd1 l k with
  | .error e => .error e
  | .ok (xs, p) => match dec (l.drop p) with
   | .error i => .error (11 + i)
   | .ok (x, m) => if 1048576 < x then .error 32 else .ok (xs ++ [(x : Int)], p + m)
def last0 (xs : List Int) : Int := xs.getLastD 0
def entry (q : Int) (l : List Int) : Except Nat (Int × Nat) := match dec l with
 | .error i => .error (11 + i)
 | .ok (u, m) => if unzig u = 0 then .error 34 else if unzig u < -q ∨ 1048576 - q < unzig u then .error 32 else .ok (q + unzig u, m)
def rd2 (l : List Int) (mask p0 : Nat) : Nat → Rd
 | 0 => .ok ([], p0)
 | k + 1 => match rd2 l mask p0 k with
  | .error e => .error e
  | .ok (xs, p) => if mask / 2 ^ k % 2 = 1 then
    (match entry (last0 xs) (l.drop p) with
     | .error e => .error e
     | .ok (y, m) => .ok (xs ++ [y], p + m))
   else .ok (xs ++ [last0 xs], p)
def upk2 (l : List Int) (n : Nat) : Rd := match dec l with
 | .error i => .error (11 + i)
 | .ok (mask, m) => if 2 ^ n ≤ mask then .error 33 else rd2 l mask m n
def upk (v n : Int) (l : List Int) : Rd := if v = 1 ∨ v = 2 then (if 1 ≤ n ∧ n ≤ 7 then (if v = 1 then rd1 l n.toNat else upk2 l n.toNat) else .error 3) else .error 2
def upL : Rd → List Int
 | .ok (xs, _) => xs
 | .error _ => []
def upN : Rd → Nat
 | .ok (_, p) => p
 | .error _ => 0
def upE : Rd → Nat
 | .ok _ => 0
 | .error e => e
theorem rd1_err {l : List Int} {k e : Nat} (h : rd1 l k = .error e) : ∀ j, rd1 l (k + j) = .error e
 | 0 => h
 | j + 1 => by show rd1 l (k + j + 1) = _; simp only [rd1, rd1_err h j]
theorem rd1_err' {l : List Int} {k n e : Nat} (h : rd1 l k = .error e) (hk : k ≤ n) : rd1 l n = .error e := by
 have := rd1_err h (n - k)
 rwa [show k + (n - k) = n by omega] at this
theorem rd2_err {l : List Int} {mask p0 k e : Nat} (h : rd2 l mask p0 k = .error e) : ∀ j, rd2 l mask p0 (k + j) = .error e
 | 0 => h
 | j + 1 => by show rd2 l mask p0 (k + j + 1) = _; simp only [rd2, rd2_err h j]
theorem rd2_err' {l : List Int} {mask p0 k n e : Nat} (h : rd2 l mask p0 k = .error e) (hk : k ≤ n) : rd2 l mask p0 n = .error e := by
 have := rd2_err h (n - k)
 rwa [show k + (n - k) = n by omega] at this
theorem rd1_step {l : List Int} {k p x m : Nat} {xs : List Int} (h : rd1 l k = .ok (xs, p)) (hd : dec (l.drop p) = .ok (x, m)) (hx : x ≤ 1048576) : rd1 l (k + 1) = .ok (xs ++ [(x : Int)], p + m) := by
 simp only [rd1, h, hd]; rw [if_neg (by omega)]
theorem rd1_bad {l : List Int} {k p i : Nat} {xs : List Int} (h : rd1 l k = .ok (xs, p)) (hd : dec (l.drop p) = .error i) : rd1 l (k + 1) = .error (11 + i) := by
 simp only [rd1, h, hd]
theorem rd1_big {l : List Int} {k p x m : Nat} {xs : List Int} (h : rd1 l k = .ok (xs, p)) (hd : dec (l.drop p) = .ok (x, m)) (hx : 1048576 < x) : rd1 l (k + 1) = .error 32 := by
 simp only [rd1, h, hd]; rw [if_pos hx]
theorem rd1_len {l : List Int} (hy : Byt l) : ∀ {k p : Nat} {xs : List Int}, rd1 l k = .ok (xs, p) → xs.length = k ∧ p ≤ l.length ∧ okL xs = true
 | 0, p, xs, h => by simp only [rd1, Except.ok.injEq, Prod.mk.injEq] at h; obtain ⟨rfl, rfl⟩ := h; exact ⟨rfl, Nat.zero_le _, rfl⟩
 | k + 1, p, xs, h => by
  cases hr : rd1 l k with
  | error e => simp only [rd1, hr] at h; cases h
  | ok q =>
   obtain ⟨ys, p'⟩ := q
   have ih := rd1_len hy hr
   cases hd : dec (l.drop p') with
   | error i => rw [rd1_bad hr hd] at h; cases h
   | ok q2 =>
    obtain ⟨x, m⟩ := q2
    have hm := dec_len (byt_drop hy p') hd
    rw [List.length_drop] at hm
    by_cases hx : 1048576 < x
    ·rw [rd1_big hr hd hx] at h; cases h
    ·rw [rd1_step hr hd (by omega)] at h
     simp only [Except.ok.injEq, Prod.mk.injEq] at h
     obtain ⟨rfl, rfl⟩ := h
     refine ⟨by rw [zL, ih.1]; rfl, by omega, ?_⟩
     unfold okL at *
     rw [List.all_append, ih.2.2]
     simp only [List.all_cons, List.all_nil, Bool.and_true, Bool.true_and, okE, decide_eq_true_eq]
     omega
theorem last_snoc (xs : List Int) (y : Int) : last0 (xs ++ [y]) = y := by simp [last0]
theorem entry_len {q : Int} {l : List Int} (hy : Byt l) {y : Int} {m : Nat} (h : entry q l = .ok (y, m)) : 0 ≤ y ∧ y ≤ 1048576 ∧ 1 ≤ m ∧ m ≤ l.length := by
 unfold entry at h
 cases hd : dec l with
 | error i => rw [hd] at h; cases h
 | ok p =>
  obtain ⟨u, k⟩ := p
  rw [hd] at h
  simp only at h
  have hm := dec_len hy hd
  split at h
  ·cases h
  ·split at h
   ·cases h
   ·simp only [Except.ok.injEq, Prod.mk.injEq] at h
    omega
theorem rd2_set {l : List Int} {mask p0 k p m : Nat} {xs : List Int} {y : Int} (h : rd2 l mask p0 k = .ok (xs, p)) (hb : mask / 2 ^ k % 2 = 1) (he : entry (last0 xs) (l.drop p) = .ok (y, m)) : rd2 l mask p0 (k + 1) = .ok (xs ++ [y], p + m) := by
 simp only [rd2, h]; rw [if_pos hb, he]
theorem rd2_bad {l : List Int} {mask p0 k p e : Nat} {xs : List Int} (h : rd2 l mask p0 k = .ok (xs, p)) (hb : mask / 2 ^ k % 2 = 1) (he : entry (last0 xs) (l.drop p) = .error e) : rd2 l mask p0 (k + 1) = .error e := by
 simp only [rd2, h]; rw [if_pos hb, he]
theorem rd2_keep {l : List Int} {mask p0 k p : Nat} {xs : List Int} (h : rd2 l mask p0 k = .ok (xs, p)) (hb : ¬ mask / 2 ^ k % 2 = 1) : rd2 l mask p0 (k + 1) = .ok (xs ++ [last0 xs], p) := by
 simp only [rd2, h]; rw [if_neg hb]
theorem okL_snoc {xs : List Int} {y : Int} (h : okL xs = true) (hy : 0 ≤ y ∧ y ≤ 1048576) : okL (xs ++ [y]) = true := by
 unfold okL at *
 rw [List.all_append, h]
 simp only [List.all_cons, List.all_nil, Bool.and_true, Bool.true_and, okE, decide_eq_true_eq]
 exact hy
theorem last_ok {xs : List Int} (h : okL xs = true) : 0 ≤ last0 xs ∧ last0 xs ≤ 1048576 := by
 unfold last0
 rcases List.eq_nil_or_concat xs with rfl | ⟨ys, y, rfl⟩
 ·simp
 ·have := List.all_eq_true.1 h y (by simp)
  simp only [okE, decide_eq_true_eq] at this
  simpa using this
theorem rd2_len {l : List Int} (hy : Byt l) {mask p0 : Nat} (h0 : p0 ≤ l.length) : ∀ {k p : Nat} {xs : List Int}, rd2 l mask p0 k = .ok (xs, p) → xs.length = k ∧ p ≤ l.length ∧ okL xs = true
 | 0, p, xs, h => by simp only [rd2, Except.ok.injEq, Prod.mk.injEq] at h; obtain ⟨rfl, rfl⟩ := h; exact ⟨rfl, h0, rfl⟩
 | k + 1, p, xs, h => by
  cases hr : rd2 l mask p0 k with
  | error e => simp only [rd2, hr] at h; cases h
  | ok q =>
   obtain ⟨ys, p'⟩ := q
   have ih := rd2_len hy h0 hr
   by_cases hb : mask / 2 ^ k % 2 = 1
   ·cases he : entry (last0 ys) (l.drop p') with
    | error e => rw [rd2_bad hr hb he] at h; cases h
    | ok q2 =>
     obtain ⟨y, m⟩ := q2
     rw [rd2_set hr hb he] at h
     simp only [Except.ok.injEq, Prod.mk.injEq] at h
     obtain ⟨rfl, rfl⟩ := h
     have hm := entry_len (byt_drop hy p') he
     rw [List.length_drop] at hm
     exact ⟨by rw [zL, ih.1]; rfl, by omega, okL_snoc ih.2.2 ⟨hm.1, hm.2.1⟩⟩
   ·rw [rd2_keep hr hb] at h
    simp only [Except.ok.injEq, Prod.mk.injEq] at h
    obtain ⟨rfl, rfl⟩ := h
    exact ⟨by rw [zL, ih.1]; rfl, ih.2.1, okL_snoc ih.2.2 (last_ok ih.2.2)⟩
theorem entry_err {q : Int} {l : List Int} {e : Nat} (h : entry q l = .error e) : 11 ≤ e ∧ e ≤ 34 := by
 unfold entry at h
 cases hd : dec l with
 | error i => rw [hd] at h; simp only [Except.error.injEq] at h; have := dec_err hd; omega
 | ok p =>
  obtain ⟨u, k⟩ := p
  rw [hd] at h
  simp only at h
  split at h
  ·simp only [Except.error.injEq] at h; omega
  ·split at h
   ·simp only [Except.error.injEq] at h; omega
   ·cases h
end Go.Wire1
namespace Go.Proofs.YtppocmgcfeelhaaGreatDoor
open Go.RowKit Go.Wire1
def okI (n : Int) : Bool := decide (1 ≤ n ∧ n ≤ 7)
theorem okI_yes {n : Int} (h : 1 ≤ n ∧ n ≤ 7) : okI n = true := decide_eq_true h
theorem okI_no {n : Int} (h : ¬ (1 ≤ n ∧ n ≤ 7)) : okI n = false := decide_eq_false h
theorem okI_nat (n : Nat) : okI (n : Int) = okW n := by unfold okI okW; congr 1; apply propext; omega
theorem isWidth_any (n : Int) (w : World) :
  Calls Tryz.prog 81 #[.int .i64 n] w fun e w' => e = .returned (.bool (okI n)) ∧ w = w' := by
 by_cases h1 : 1 ≤ n
 ·by_cases h2 : n ≤ 7
  ·have HQ : Hid (okI n = true) := okI_yes (by omega)
   go_enter Tryz.func81, Tryz.ntmps81
   go_wp2
   go_ret
   exact ⟨by rw [HQ.out]; rfl, rfl⟩
  ·have HQ : Hid (okI n = false) := okI_no (by omega)
   go_enter Tryz.func81, Tryz.ntmps81
   go_wp2
   go_ret
   exact ⟨by rw [HQ.out]; rfl, rfl⟩
 ·have HQ : Hid (okI n = false) := okI_no (by omega)
  go_enter Tryz.func81, Tryz.ntmps81
  go_wp2
  go_ret
  exact ⟨by rw [HQ.out]; rfl, rfl⟩
theorem vfaultOf_any (a : Option Addr) (n cap : Nat) (l : List Int) (w : World) (h : SegI w a n l) :
  Calls Tryz.prog 155 #[.slice a n cap] w fun e w' => e = .returned (.int .i64 (fault l : Int)) ∧ w = w' := by
 obtain ⟨hn, hn', ha, -⟩ := h
 have HN : Hid (l.length = n) := hn
 unfold maxLen at hn'
 have HF : Hid (fault l = if okW n = true then (if okL l = true then 0 else 32) else 31) := by show _ = _; rw [← hn]; rfl
 clear hn
 go_enter Tryz.func155, Tryz.ntmps155
 go_wp2_with fail
 refine (isWidth_any (n : Int) _).mono ?_
 rintro e w' ⟨rfl, rfl⟩
 rw [okI_nat]
 cases hw : okW n with
 | false =>
  have HQ : Hid (fault l = 31) := by show _ = _; rw [HF.out, hw]; rfl
  clear HF hw
  go_wp2
  go_ret
  exact ⟨by rw [HQ.out]; rfl, rfl⟩
 | true =>
  have HQ : Hid (fault l = if okL l = true then 0 else 32) := by show _ = _; rw [HF.out, hw]; rfl
  clear HF hw
  go_wp2
  go_loop [11] (fun i => ∃ k : Nat, i = .int .i64 k ∧ k ≤ n ∧ Hid (okL (l.take k) = true)) (fun i => n - (intOf i).toNat)
  case atStart => exact ⟨0, rfl, Nat.zero_le _, rfl⟩
  case round =>
   obtain ⟨k, rfl, hk, HT⟩ := hrel
   by_cases hlt : k < n
   ·obtain ⟨ba, oa, rfl, hca⟩ := ha (by omega)
    have ca := hca k hlt
    clear ha hca
    by_cases h0 : l.getD k 0 < 0
    ·have HS : Hid (fault l = 32) := by show _ = _; rw [HQ.out, okL_no (k := k) (by have := HN.out; omega) (by omega)]; rfl
     clear HQ
     generalize l.getD k 0 = c at *
     go_wp2
     go_ret
     exact ⟨by rw [HS.out]; rfl, rfl⟩
    ·by_cases h1 : 1048576 < l.getD k 0
     ·have HS : Hid (fault l = 32) := by show _ = _; rw [HQ.out, okL_no (k := k) (by have := HN.out; omega) (by omega)]; rfl
      clear HQ
      generalize l.getD k 0 = c at *
      go_wp2
      go_ret
      exact ⟨by rw [HS.out]; rfl, rfl⟩
     ·have HT' : Hid (okL (l.take (k + 1)) = true) := okL_step (by have := HN.out; omega) HT.out (by omega)
      generalize l.getD k 0 = c at *
      go_wp2
      go_round
      case rel => exact ⟨k + 1, by go_num, by omega, HT'⟩
      case measure => simp [intOf]; omega
   ·have HS : Hid (fault l = 0) := by show _ = _; have := HT.out; rw [List.take_of_length_le (by have := HN.out; omega)] at this; rw [HQ.out, this]; rfl
    go_wp2
    go_ret
    exact ⟨by rw [HS.out]; rfl, rfl⟩
open Go.RowKit Go.Wire1
theorem own_below {w w' : World} {B : Nat} {e : TypeId} {s : Nat} {v : Value} {n : Nat} {xs : List Value} {C : Nat} (h : w.ownsRow B e s v n xs) (hb : Below C w w') (hC : w.heap.size ≤ C) : w'.ownsRow B e s v n xs := by
 refine ⟨h.1, ?_⟩
 rcases h.2 with h2 | ⟨g, cap, cur, rfl, hB, hh, r⟩
 ·exact .inl h2
 ·exact .inr ⟨g, cap, cur, rfl, hB, by rw [hb.block g (by have := (Array.getElem?_eq_some_iff.1 hh).1; omega)]; exact hh, r⟩
def Mine (w : World) (B g N cap : Nat) (L : List Int) : Prop := w.ownsRow B 5 1 (.slice (some ⟨g, 0, none⟩) N cap) N (L.map (Value.int .u8)) ∧ L.length = N ∧ N ≤ cap ∧ cap ≤ maxLen ∧ B ≤ g
theorem mine_of {w : World} {B : Nat} {v : Value} {L : List Int} (h : w.ownsRow B 5 1 v L.length (L.map (Value.int .u8))) (hl : 0 < L.length) : ∃ g cap, v = .slice (some ⟨g, 0, none⟩) L.length cap ∧ Mine w B g L.length cap L := by
 rcases h.2 with ⟨_, h2⟩ | ⟨g, cap, cur, rfl, hB, hh, h3, h4, h5, h6⟩
 ·omega
 ·exact ⟨g, cap, rfl, h, rfl, h3, h4, hB⟩
theorem Mine.below {w w' : World} {B g N cap C : Nat} {L : List Int} (h : Mine w B g N cap L) (hb : Below C w w') (hC : w.heap.size ≤ C) : Mine w' B g N cap L := ⟨own_below h.1 hb hC, h.2⟩
theorem Mine.drewN {w : World} {B g N cap : Nat} {L : List Int} (h : Mine w B g N cap L) (q : Nat) : Mine (w.drewN q) B g N cap L := h
theorem Mine.seg {w : World} {B g N cap : Nat} {L : List Int} (h : Mine w B g N cap L) : Seg w (some ⟨g, 0, none⟩) N L := by
 obtain ⟨h1, rfl, h3, h4, _⟩ := h
 refine ⟨rfl, by omega, fun _ => ⟨g, 0, rfl, fun j hj => ?_⟩⟩
 rw [Nat.zero_add, h1.cellAt j (by omega)]
 simp [List.getElem?_eq_getElem hj]
theorem Mine.store {w : World} {B g N cap : Nat} {L : List Int} (h : Mine w B g N cap L) (k : Nat) (z : Int) : Mine (w.setCell ⟨g, k, none⟩ (.int .u8 z)) B g N cap (L.set k z) := by
 obtain ⟨h1, h2, h3⟩ := h
 exact ⟨by rw [List.map_set]; exact (h1.stored k _).1, by rw [List.length_set]; exact h2, h3⟩
open Go.RowKit Go.Wire1
def MineI (w : World) (B g N cap : Nat) (L : List Int) : Prop := w.ownsRow B 3 1 (.slice (some ⟨g, 0, none⟩) N cap) N (L.map (Value.int .i64)) ∧ L.length = N ∧ N ≤ cap ∧ cap ≤ maxLen ∧ B ≤ g
theorem mineI_of {w : World} {B : Nat} {v : Value} {L : List Int} (h : w.ownsRow B 3 1 v L.length (L.map (Value.int .i64))) (hl : 0 < L.length) : ∃ g cap, v = .slice (some ⟨g, 0, none⟩) L.length cap ∧ MineI w B g L.length cap L := by
 rcases h.2 with ⟨_, h2⟩ | ⟨g, cap, cur, rfl, hB, hh, h3, h4, h5, h6⟩
 ·omega
 ·exact ⟨g, cap, rfl, h, rfl, h3, h4, hB⟩
theorem MineI.below {w w' : World} {B g N cap C : Nat} {L : List Int} (h : MineI w B g N cap L) (hb : Below C w w') (hC : w.heap.size ≤ C) : MineI w' B g N cap L := ⟨own_below h.1 hb hC, h.2⟩
theorem MineI.drewN {w : World} {B g N cap : Nat} {L : List Int} (h : MineI w B g N cap L) (q : Nat) : MineI (w.drewN q) B g N cap L := h
theorem MineI.lt {w : World} {B g N cap : Nat} {L : List Int} (h : MineI w B g N cap L) : g < w.heap.size := (h.1.lt g rfl).2
theorem MineI.cell {w : World} {B g N cap : Nat} {L : List Int} (h : MineI w B g N cap L) {j : Nat} (hj : j < N) : w.cell? ⟨g, j, none⟩ = some (.int .i64 (L.getD j 0)) := by
 obtain ⟨h1, rfl, h3, h4, _⟩ := h
 rw [h1.cellAt j (by omega)]
 simp [List.getElem?_eq_getElem hj]
theorem MineI.frozen {w : World} {B g N cap : Nat} {L : List Int} (h : MineI w B g N cap L) (j : Nat) : w.frozen? ⟨g, j, none⟩ = false := h.1.frozenAt j
theorem MineI.seg {w : World} {B g N cap : Nat} {L : List Int} (h : MineI w B g N cap L) (hf : ∀ j, -9223372036854775808 ≤ L.getD j 0 ∧ L.getD j 0 ≤ 9223372036854775807) : SegI w (some ⟨g, 0, none⟩) N L :=
 ⟨h.2.1, by have := h.2.2; omega, fun _ => ⟨g, 0, rfl, fun j hj => by rw [Nat.zero_add]; exact h.cell hj⟩, hf⟩
theorem MineI.store {w : World} {B g N cap : Nat} {L : List Int} (h : MineI w B g N cap L) (k : Nat) (z : Int) : MineI (w.setCell ⟨g, k, none⟩ (.int .i64 z)) B g N cap (L.set k z) := by
 obtain ⟨h1, h2, h3⟩ := h
 exact ⟨by rw [List.map_set]; exact (h1.stored k _).1, by rw [List.length_set]; exact h2, h3⟩
theorem below_store {B g k : Nat} {w w' : World} (hb : Below B w w') (hg : B ≤ g) (v : Value) : Below B w (w'.setCell ⟨g, k, none⟩ v) := hb.setCell (p := ⟨g, k, none⟩) hg v
theorem Tryz.info3 : (Tryz.prog.info? 3).map (fun i => (i.zero, i.size, i.bytes)) = some (some (.int .i64 0), 1, 8) := by kernel_rfl
theorem Tryz.size3 : (Tryz.prog.info? 3).map (·.size) = some 1 := by kernel_rfl
theorem made_row {w : World} {B g n : Nat} {xs : List Value} (h : w.ownsRow B 3 1 (.slice (some ⟨g, 0, none⟩) n n) n xs) : ∃ cur : List Value, cur.length = n ∧ w.heap[g]? = some (.cells cur.toArray 3 (0, 0)) := by
 rcases h.2 with ⟨h1, _⟩ | ⟨g', cap, cur, h1, hB, hh, h3, h4, h5, h6⟩
 ·cases h1
 ·injection h1 with h7 h8 h9
  injection h7 with h7
  injection h7 with h7
  subst h7 h9
  exact ⟨cur.toList, by rw [Array.length_toList, h5, Nat.mul_one], by rw [Array.toArray_toList]; exact hh⟩
theorem own_of_row {w : World} {B g n : Nat} {cs : List Value} (h : w.heap[g]? = some (.cells cs.toArray 3 (0, 0))) (hB : B ≤ g) (hl : cs.length = n) (hm : n ≤ maxLen) : w.ownsRow B 3 1 (.slice (some ⟨g, 0, none⟩) n n) n cs :=
 ⟨by omega, .inr ⟨g, n, cs.toArray, rfl, hB, h, Nat.le_refl _, hm, by simp [hl], by simp [← hl]⟩⟩
open Go.RowKit Go.Wire1
def Fit (l : List Int) : Prop := ∀ j, -9223372036854775808 ≤ l.getD j 0 ∧ l.getD j 0 ≤ 9223372036854775807
theorem fit_of {l : List Int} (h : ∀ x ∈ l, -9223372036854775808 ≤ x ∧ x ≤ 9223372036854775807) : Fit l := fun j => by
 by_cases hj : j < l.length
 ·rw [List.getD, List.getElem?_eq_getElem hj]; exact h _ (List.getElem_mem hj)
 ·rw [List.getD, List.getElem?_eq_none (by omega)]; simp
theorem fit_ok {l : List Int} (h : okL l = true) : Fit l := fun j => by have := okL_at h j; omega
theorem cell_new (w : World) (cs : List Value) (t : TypeId) (j : Nat) : (w.alloc (.cells cs.toArray t)).cell? ⟨w.heap.size, j, none⟩ = cs[j]? := by
 have h : (w.alloc (.cells cs.toArray t)).heap[w.heap.size]? = some (.cells cs.toArray t (0, 0)) := heap_alloc_new w _
 rw [cell_of_row _ _ _ _ _ _ h]
 simp
theorem own_segI {w : World} {B : Nat} {v : Value} {l : List Int} (h : w.ownsRow B 3 1 v l.length (l.map (Value.int .i64))) (hf : Fit l) : ∃ a cap, v = .slice a l.length cap ∧ l.length ≤ cap ∧ SegI w a l.length l := by
 by_cases h0 : 0 < l.length
 ·obtain ⟨g, cap, rfl, hm⟩ := mineI_of h h0
  exact ⟨_, _, rfl, hm.2.2.1, hm.seg hf⟩
 ·have hl : l = [] := List.eq_nil_of_length_eq_zero (by omega)
  subst hl
  rcases h.2 with ⟨rfl, _⟩ | ⟨g, cap, cur, rfl, hB, hh, h3, h4, h5, h6⟩
  ·exact ⟨none, 0, rfl, Nat.le_refl _, rfl, by unfold maxLen; omega, fun h => by omega, hf⟩
  ·exact ⟨_, cap, rfl, h3, rfl, by unfold maxLen; omega, fun h => by omega, hf⟩
theorem _root_.Go.RowKit.Below.more {B : Nat} {x w : World} (h : Below B x w) (hB : B ≤ x.heap.size) (o : Obj) : Below B x (w.alloc o) := h.alloc (Nat.le_trans hB h.size) o
theorem _root_.Go.RowKit.Below.on {B : Nat} {x y z : World} (h : Below B x y) (k : Below y.heap.size y z) (hB : B ≤ x.heap.size) : Below B x z := h.trans (k.mono (Nat.le_trans hB h.size))
theorem _root_.Go.Wire1.SegI.on {w : World} {a : Option Addr} {n : Nat} {l : List Int} (h : SegI w a n l) (o : Obj) : SegI (w.alloc o) a n l := h.below ((Below.refl w.heap.size w).alloc zN o) zN
theorem own_base {w : World} {B B' : Nat} {e : TypeId} {s : Nat} {v : Value} {n : Nat} {xs : List Value} (h : w.ownsRow B e s v n xs) (hB : B' ≤ B) : w.ownsRow B' e s v n xs :=
 ⟨h.1, h.2.imp id fun ⟨g, cap, cur, h1, h2, h3⟩ => ⟨g, cap, cur, h1, Nat.le_trans hB h2, h3⟩⟩
theorem seg_lit {w : World} (l : List Int) (hl : l.length ≤ maxLen) {cs : Array Value} {t : TypeId} (hcs : cs = (l.map (Value.int .u8)).toArray) {b n : Nat} (hb : b = w.heap.size) (hn : n = l.length) : Seg (w.alloc (.cells cs t)) (some ⟨b, 0, none⟩) n l := by
 subst hcs hb hn
 refine ⟨rfl, hl, fun _ => ⟨_, 0, rfl, fun j hj => ?_⟩⟩
 rw [Nat.zero_add, cell_new]
 simp [hj]
open Go.RowKit Go.Wire1
def arrL (l : List Int) : List Value := [.int .i64 (l.getD 0 0), .int .i64 (l.getD 1 0), .int .i64 (l.getD 2 0), .int .i64 (l.getD 3 0), .int .i64 (l.getD 4 0), .int .i64 (l.getD 5 0), .int .i64 (l.getD 6 0)]
def zer7 : List Value := [.int .i64 0, .int .i64 0, .int .i64 0, .int .i64 0, .int .i64 0, .int .i64 0, .int .i64 0]
theorem arr_eq {l : List Int} {n : Nat} (hl : l.length = n) (hn : n ≤ 7) : l.map (Value.int .i64) ++ zer7.drop n = arrL l := by
 subst hl
 match l, hn with
 | [], _ => rfl
 | [_], _ => rfl
 | [_, _], _ => rfl
 | [_, _, _], _ => rfl
 | [_, _, _, _], _ => rfl
 | [_, _, _, _, _], _ => rfl
 | [_, _, _, _, _, _], _ => rfl
 | [_, _, _, _, _, _, _], _ => rfl
 | _ :: _ :: _ :: _ :: _ :: _ :: _ :: _ :: r, h => simp at h
theorem copied7 {w1 : World} {g n cap : Nat} {a : Option Addr} {l : List Int} {t : TypeId} (h : SegI w1 a n l) (hn : 0 < n) (hs : n ≤ 7) (hrow : w1.heap[g]? = some (.cells zer7.toArray t (0, 0))) :
  ∃ w2, (Builtin.copy_ #[28, 28] 3 #[.slice (some ⟨g, 0, none⟩) 7 7, .slice a n cap]).run Tryz.prog w1 = .ok (.int .i64 n) w2 ∧ w2.heap[g]? = some (.cells (arrL l).toArray t (0, 0)) ∧ w1.grownBy w2 (some g) ∧ w2.heap.size = w1.heap.size := by
 obtain ⟨b, off, rfl, hc⟩ := h.2.2.1 hn
 have hl := h.1
 have hrun := run_copy_row (P := Tryz.prog) w1 28 28 3 3 g 0 7 7 ⟨b, off, none⟩ n cap zer7.toArray t (l.map (Value.int .i64)) Tryz.underlying28 Tryz.size3 hrow
  (by rw [List.length_map, hl]; exact (Nat.min_eq_left hs).symm)
  (fun j v hv => by
   rw [List.getElem?_map] at hv
   have hj : j < l.length := by
    rcases Nat.lt_or_ge j l.length with h | h
    ·exact h
    ·rw [List.getElem?_eq_none h] at hv; cases hv
   rw [List.getElem?_eq_getElem hj] at hv
   simp only [Option.map_some, Option.some.injEq] at hv
   subst hv
   rw [add_at, hc j (by omega), List.getD, List.getElem?_eq_getElem hj]
   rfl)
  (by rw [List.length_map, List.size_toArray]; show 0 + l.length ≤ 7; omega)
  (fun v hv => by obtain ⟨x, _, rfl⟩ := List.mem_map.1 hv; rfl)
 have e : (zer7.toArray.toList.take 0 ++ l.map (Value.int .i64) ++ zer7.toArray.toList.drop (0 + (l.map (Value.int .i64)).length)) = arrL l := by
  rw [List.length_map, hl, Nat.zero_add, List.take_zero, List.nil_append]
  exact arr_eq hl hs
 rw [e, List.length_map, hl] at hrun
 exact ⟨_, hrun, setRow_heap w1 g _ _ t (0, 0) hrow, ⟨rfl, rfl, rfl, by simp [World.setRow], fun k _ hne => setRow_other w1 g k _ (fun e => hne (by rw [e]))⟩, by simp [World.setRow]⟩
theorem cell_arr {w : World} {g : Nat} {cs : List Value} {t : TypeId} (h : w.heap[g]? = some (.cells cs.toArray t (0, 0))) (j : Nat) : w.cell? ⟨g, j, none⟩ = cs[j]? := by
 rw [cell_of_row _ _ _ _ _ _ h]; simp
theorem frz_arr {w : World} {g : Nat} {cs : Array Value} {t : TypeId} (h : w.heap[g]? = some (.cells cs t (0, 0))) (j : Nat) : w.frozen? ⟨g, j, none⟩ = false := by
 simp [World.frozen?, h]
theorem entriesOf_any (a : Option Addr) (n cap : Nat) (l : List Int) (w : World) (h : SegI w a n l) (hn : 0 < n) (hs : n ≤ 7) :
  Calls Tryz.prog 156 #[.slice a n cap] w fun e w' => e = .returned (.agg (arrL l).toArray) ∧ Below w.heap.size w w' := by
 have h2 : SegI ((w.alloc (.cells zer7.toArray 145)).alloc (.cells zer7.toArray 145)) a n l := (h.on _).on _
 have hr0 : ((w.alloc (.cells zer7.toArray 145)).alloc (.cells zer7.toArray 145)).heap[w.heap.size + 1]? = some (.cells zer7.toArray 145 (0, 0)) := by
  have := heap_alloc_new (w.alloc (.cells zer7.toArray 145)) (.cells zer7.toArray 145)
  rwa [World.size_alloc] at this
 have hr1 : ((w.alloc (.cells zer7.toArray 145)).alloc (.cells zer7.toArray 145)).heap[w.heap.size]? = some (.cells zer7.toArray 145 (0, 0)) := by
  rw [Below.heap_alloc _ _ _ (by rw [World.size_alloc]; omega)]
  exact heap_alloc_new w _
 obtain ⟨w3, hrun, hrow, hg, hsz⟩ := copied7 (cap := cap) h2 hn hs hr0
 have hrow0 : w3.heap[w.heap.size]? = some (.cells zer7.toArray 145 (0, 0)) := by
  rw [hg.block _ (by simp; omega) (by simp)]; exact hr1
 have B3 : Hid (Below w.heap.size w w3) := ((((Below.refl _ w).more zN _).more zN _)).grown hg (by simp; omega) (fun j hj => by simp at hj; omega)
 have c0 := cell_arr hrow 0
 have c1 := cell_arr hrow 1
 have c2 := cell_arr hrow 2
 have c3 := cell_arr hrow 3
 have c4 := cell_arr hrow 4
 have c5 := cell_arr hrow 5
 have c6 := cell_arr hrow 6
 simp only [arrL, List.getElem?_cons_zero, List.getElem?_cons_succ] at c0 c1 c2 c3 c4 c5 c6
 have d0 := cell_arr hrow0 0
 have d1 := cell_arr hrow0 1
 have d2 := cell_arr hrow0 2
 have d3 := cell_arr hrow0 3
 have d4 := cell_arr hrow0 4
 have d5 := cell_arr hrow0 5
 have d6 := cell_arr hrow0 6
 simp only [zer7, List.getElem?_cons_zero, List.getElem?_cons_succ] at d0 d1 d2 d3 d4 d5 d6
 have e0 := frz_arr hrow0 0
 have e1 := frz_arr hrow0 1
 have e2 := frz_arr hrow0 2
 have e3 := frz_arr hrow0 3
 have e4 := frz_arr hrow0 4
 have e5 := frz_arr hrow0 5
 have e6 := frz_arr hrow0 6
 simp only [zer7] at hrun
 clear h h2 hr0 hr1 hg hrow hrow0
 unfold arrL
 generalize l.getD 0 0 = x0 at *
 generalize l.getD 1 0 = x1 at *
 generalize l.getD 2 0 = x2 at *
 generalize l.getD 3 0 = x3 at *
 generalize l.getD 4 0 = x4 at *
 generalize l.getD 5 0 = x5 at *
 generalize l.getD 6 0 = x6 at *
 go_enter Tryz.func156, Tryz.ntmps156
 go_wp2
 refine bodyPost_ret (v := .agg #[.int .i64 x0, .int .i64 x1, .int .i64 x2, .int .i64 x3, .int .i64 x4, .int .i64 x5, .int .i64 x6]) (by simp [results, Tryz.results156, go_sem, d0, d1, d2, d3, d4, d5, d6]) rfl ⟨rfl, ?_⟩
 exact below_store (below_store (below_store (below_store (below_store (below_store (below_store B3.out zN _) zN _) zN _) zN _) zN _) zN _) zN _
open Go.RowKit Go.Wire1
theorem catchI (b b1 b2 : Nat) (n1 : ¬ b = b1) (n2 : ¬ b = b2) (n3 : ¬ b1 = b2) (i : Nat) (hi : i < 5) (a : Nat → Addr) (w : World) (he : Errs w a) (x k e : Int)
  (hx : w.cell? ⟨b, 0, none⟩ = some (.int .i64 x)) (hk : w.cell? ⟨b1, 0, none⟩ = some (.int .i64 k)) (hee : w.cell? ⟨b2, 0, none⟩ = some (.int .i64 e))
  (fx : w.frozen? ⟨b, 0, none⟩ = false) (fk : w.frozen? ⟨b1, 0, none⟩ = false) (fe : w.frozen? ⟨b2, 0, none⟩ = false) :
  CallsD Tryz.prog 121 #[.pointer (some ⟨b, 0, none⟩), .pointer (some ⟨b1, 0, none⟩), .pointer (some ⟨b2, 0, none⟩)] (.panicking [{ v := errV (a i), recovered := false }]) w fun e u' w' =>
   e = .returned (.tuple #[]) ∧ u' = .panicking [{ v := errV (a i), recovered := true }] ∧ w' = ((w.setCell ⟨b, 0, none⟩ (.int .i64 0)).setCell ⟨b1, 0, none⟩ (.int .i64 0)).setCell ⟨b2, 0, none⟩ (.int .i64 (11 + (i : Int))) := by
 refine callsD_of_wpS Tryz.func121 rfl fun c₀ cs hu => ?_
 apply wpS_seq
 apply wpS_region
 simp [wpOpsS, go_sem, recoverD, hu, Tryz.ntmps121, Exit.thenS]
 refine wpS_of_wp ?_
 go_wp2_with fail
 refine (errno_any i hi a _ he).mono ?_
 rintro e w1 ⟨rfl, rfl⟩
 go_wp2
 simp [bodyPostS, results, Tryz.results121]
theorem catchI_idle (b b1 b2 : Nat) (w : World) :
  CallsD Tryz.prog 121 #[.pointer (some ⟨b, 0, none⟩), .pointer (some ⟨b1, 0, none⟩), .pointer (some ⟨b2, 0, none⟩)] .returning w fun e u' w' => e = .returned (.tuple #[]) ∧ u' = .returning ∧ w' = w := by
 refine callsD_of_wpS Tryz.func121 rfl fun c₀ cs hu => ?_
 apply wpS_seq
 apply wpS_region
 simp [wpOpsS, go_sem, recoverD, hu, Tryz.ntmps121, Exit.thenS]
 refine wpS_of_wp ?_
 go_wp2
 cases c₀
 simp_all [bodyPostS, results, Tryz.results121]
def GotI (r : Except Nat (Nat × Nat)) (e : Ending) : Prop :=
 match r with
 | .ok (x, m) => e = .returned (.tuple #[.int .i64 (unzig x), .int .i64 m, .int .i64 0])
 | .error i => e = .returned (.tuple #[.int .i64 0, .int .i64 0, .int .i64 (11 + (i : Int))])
theorem getInt_any (n cap : Nat) (sa : Option Addr) (l : List Int) (a : Nat → Addr) (w : World) (hs : Seg w sa n l) (hy : Byt l) (he : Errs w a) :
  Calls Tryz.prog 118 #[.slice sa n cap] w fun e w' => Below w.heap.size w w' ∧ GotI (dec l) e := by
 have hmf : ∀ (fn : Fn) (first cap : Array Value) (w : World), (Instr.makeFunc fn first cap).run Tryz.prog w = .ok (.func fn first cap) w := fun _ _ _ _ => rfl
 have hW := new4 w (.int .i64 0) (.int .i64 0) (.int .i64 0) 2 3 32 143 sa n cap
 obtain ⟨hcur, hbel, hx0, hk0, he0, fx0, fk0, fe0⟩ := hW
 have hs3 := hs.below hbel zN
 have he3 := he.below hbel zN
 have h5 : 7 ≤ w.heap.size := he.five
 have hsep : ∀ x, sa = some x → 0 < n → x.block ≠ w.heap.size + 1 + 1 + 1 := fun x hx hn => by
  have := hs.lt hn hx; omega
 have hab : ∀ i, i < 5 → (a i).block ≠ w.heap.size + 1 + 1 + 1 := fun i hi => by have := he.lt i hi; omega
 have HC := hide (signed_any (w.heap.size + 1 + 1 + 1) 0 n cap sa l 0 a _ hcur hs3 hsep hy (Nat.zero_le _) he3 (by omega) hab)
 clear hs3 he3 hsep hcur
 go_enter_defers Tryz.func118, Tryz.ntmps118
 go_wp2_with fail
 refine (unhide HC).mono ?_
 rintro e w1 ⟨ho, k', hc1, hk', hout⟩
 have hx1 := (World.cell?_of_block (a := ⟨w.heap.size, 0, none⟩) (ho.block w.heap.size (by omega))).trans hx0
 have hk1 := (World.cell?_of_block (a := ⟨w.heap.size + 1, 0, none⟩) (ho.block (w.heap.size + 1) (by omega))).trans hk0
 have he1 := (World.cell?_of_block (a := ⟨w.heap.size + 1 + 1, 0, none⟩) (ho.block (w.heap.size + 1 + 1) (by omega))).trans he0
 have fx1 := (World.frozen?_of_block (a := ⟨w.heap.size, 0, none⟩) (ho.block w.heap.size (by omega))).trans fx0
 have fk1 := (World.frozen?_of_block (a := ⟨w.heap.size + 1, 0, none⟩) (ho.block (w.heap.size + 1) (by omega))).trans fk0
 have fe1 := (World.frozen?_of_block (a := ⟨w.heap.size + 1 + 1, 0, none⟩) (ho.block (w.heap.size + 1 + 1) (by omega))).trans fe0
 have HB : Hid (Below w.heap.size w w1) := hbel.trans (ho.below (by omega))
 have HE : Hid (Errs w1 a) := (he.below hbel zN).only ho (by omega) hab
 have hat : w1.cell? ⟨w.heap.size + 1 + 1 + 1, 1, none⟩ = some (.int .i64 (k' : Int)) := hc1.2.1
 clear hx0 hk0 he0 fx0 fk0 fe0 ho hc1 hbel HC hs he h5 hab
 rw [List.drop_zero] at hout
 generalize hB1 : w.heap.size + 1 = B1 at *
 generalize hB2 : B1 + 1 = B2 at *
 generalize hB3 : B2 + 1 = B3 at *
 generalize hB0 : w.heap.size = B0 at *
 have n1 : ¬ B0 = B1 := by omega
 have n2 : ¬ B0 = B2 := by omega
 have n3 : ¬ B1 = B2 := by omega
 have n4 : ¬ B3 = B0 := by omega
 have n5 : ¬ B3 = B1 := by omega
 have n6 : ¬ B3 = B2 := by omega
 have m1 : ¬ B1 = B0 := by omega
 have m2 : ¬ B2 = B0 := by omega
 have m3 : ¬ B2 = B1 := by omega
 have HL : Hid (B0 ≤ B1 ∧ B0 ≤ B2) := ⟨by omega, by omega⟩
 have HZ : Hid (w.heap.size = B0) := hB0
 clear hB1 hB2 hB3 hB0
 cases hd : dec l with
 | error i =>
  rw [hd] at hout
  obtain rfl : e = _ := hout
  have hi := dec_err hd
  have HD : Hid (dec l = .error i) := hd
  clear hd
  go_wp2
  refine leaves_cons (f := 121) (args := #[.pointer (some ⟨B0, 0, none⟩), .pointer (some ⟨B1, 0, none⟩), .pointer (some ⟨B2, 0, none⟩)]) (by simp) (by simp [go_sem]) ?_
  refine (catchI B0 B1 B2 n1 n2 n3 i (by omega) a w1 HE.out 0 0 0 hx1 hk1 he1 fx1 fk1 fe1).mono ?_
  rintro e u' w'' ⟨rfl, rfl, rfl⟩
  simp [Leaves, settle, results, Tryz.results118, go_sem, hx1, hk1, he1]
  rw [HZ.out, HD.out]
  exact ⟨((HB.out.setCell (p := ⟨B0, 0, none⟩) zN _).setCell (p := ⟨B1, 0, none⟩) HL.out.1 _).setCell (p := ⟨B2, 0, none⟩) HL.out.2 _, rfl⟩
 | ok p =>
  obtain ⟨x, m⟩ := p
  rw [hd] at hout
  obtain ⟨rfl, hkk⟩ := hout
  obtain rfl : k' = m := by omega
  have HD : Hid (dec l = .ok (x, k')) := hd
  clear hd hkk
  go_wp2
  go_region
  all_goals (try go_wp2)
  all_goals refine leaves_cons (f := 121) (args := #[.pointer (some ⟨B0, 0, none⟩), .pointer (some ⟨B1, 0, none⟩), .pointer (some ⟨B2, 0, none⟩)]) (by simp) (by simp [go_sem]) ?_
  all_goals refine (catchI_idle B0 B1 B2 _).mono ?_
  all_goals rintro e u' w'' ⟨rfl, rfl, rfl⟩
  all_goals simp [Leaves, settle, results, Tryz.results118, go_sem, hx1, hk1, he1]
  all_goals rw [HZ.out, HD.out]
  all_goals exact ⟨((((HB.out.setCell (p := ⟨B0, 0, none⟩) zN _).setCell (p := ⟨B0, 0, none⟩) zN _).setCell (p := ⟨B1, 0, none⟩) HL.out.1 _).setCell (p := ⟨B2, 0, none⟩) HL.out.2 _).drew, rfl⟩
end Go.Proofs.YtppocmgcfeelhaaGreatDoor
