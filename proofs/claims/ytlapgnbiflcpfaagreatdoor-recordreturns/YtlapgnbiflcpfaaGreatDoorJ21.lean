/- Texts of the proof, joined. -/
import Derived.Test.YtlapgnbiflcpfaaGreatDoorJ02
import Derived.Test.YtlapgnbiflcpfaaGreatDoorJ04
/- The plain mathematics of a vector's two layouts; nothing of the program is named here. -/
namespace Go.Wire1
open Go.RowKit

/-- The entry ahead of a place, 0 at the first. -/
def prev (l : List Int) (i : Nat) : Int := if i = 0 then 0 else l.getD (i - 1) 0
/-- Version 1, as far as k entries. -/
def plainK (l : List Int) : Nat → List Int
  | 0 => []
  | k + 1 => plainK l k ++ enc (l.getD k 0).toNat
/-- Version 2: the mask's first k bits, and their differences. -/
def maskK (l : List Int) : Nat → Nat
  | 0 => 0
  | k + 1 => maskK l k + if l.getD k 0 = prev l k then 0 else 2 ^ k
def diffK (l : List Int) : Nat → List Int
  | 0 => []
  | k + 1 => diffK l k ++ if l.getD k 0 = prev l k then [] else enc (zig (l.getD k 0 - prev l k))
def tight (l : List Int) : List Int := enc (maskK l l.length) ++ diffK l l.length
def packL (v : Int) (l : List Int) : List Int := if v = 1 then plainK l l.length else tight l
def packE (v : Int) (l : List Int) : Nat := if v = 1 ∨ v = 2 then fault l else 2
def packR (v : Int) (l : List Int) : List Int := if packE v l = 0 then packL v l else []

theorem prev_succ (l : List Int) (k : Nat) : prev l (k + 1) = l.getD k 0 := by simp [prev]
theorem prev_ok {l : List Int} (h : okL l = true) (k : Nat) : 0 ≤ prev l k ∧ prev l k ≤ 1048576 := by
  unfold prev; split
  · omega
  · exact okL_at h _
theorem maskK_lt (l : List Int) (k : Nat) : maskK l k < 2 ^ k := by
  induction k with
  | zero => simp [maskK]
  | succ k ih => simp only [maskK, Nat.pow_succ]; split <;> omega
theorem maskK_same {l : List Int} {k : Nat} (h : l.getD k 0 = prev l k) : maskK l (k + 1) = maskK l k ∧ diffK l (k + 1) = diffK l k := by
  simp only [maskK, diffK, if_pos h, Nat.add_zero, List.append_nil, and_self]
theorem maskK_diff {l : List Int} {k : Nat} (h : ¬ l.getD k 0 = prev l k) : maskK l (k + 1) = maskK l k + 2 ^ k ∧ diffK l (k + 1) = diffK l k ++ enc (zig (l.getD k 0 - prev l k)) := by
  simp only [maskK, diffK, if_neg h, and_self]
theorem or_pow {m k : Nat} (h : m < 2 ^ k) : m ||| 2 ^ k = m + 2 ^ k := by
  rw [Nat.or_comm, ← Nat.mul_one (2 ^ k), ← Nat.two_pow_add_eq_or_of_lt h]; omega
theorem pow7 {k : Nat} (h : k ≤ 7) : 2 ^ k ≤ 128 := by
  have : (2 : Nat) ^ 7 = 128 := rfl
  rw [← this]; exact Nat.pow_le_pow_right (by decide) h
theorem plainK_len {l : List Int} (h : okL l = true) (k : Nat) : k ≤ (plainK l k).length ∧ (plainK l k).length ≤ 10 * k := by
  induction k with
  | zero => simp [plainK]
  | succ k ih =>
    have h1 := okL_at h k
    have := enc_le (l.getD k 0).toNat (by omega)
    simp only [plainK, List.length_append]; omega
theorem zig_of {x : Int} (h : -1048576 ≤ x ∧ x ≤ 1048576) : zig x ≤ 2097152 := by unfold zig; split <;> omega
/-- How many places differ from the one before, of the first k. -/
def turnsK (l : List Int) : Nat → Nat
  | 0 => 0
  | k + 1 => turnsK l k + if l.getD k 0 = prev l k then 0 else 1
theorem turnsK_le (l : List Int) (k : Nat) : turnsK l k ≤ k := by
  induction k with
  | zero => simp [turnsK]
  | succ k ih => simp only [turnsK]; split <;> omega
theorem enc4 {x : Nat} (h : x ≤ 2097152) : 1 ≤ (enc x).length ∧ (enc x).length ≤ 4 := by
  rw [enc_len x (by omega)]
  have e : x / 128 / 128 / 128 / 128 = 0 := by omega
  have c : ∀ f z, cnt (f + 1) z ≤ 1 + cnt f (z / 128) := fun f z => by simp only [cnt]; split <;> omega
  have h1 : cnt 9 (x / 128) ≤ _ := c 8 (x / 128)
  have h2 : cnt 8 (x / 128 / 128) ≤ _ := c 7 (x / 128 / 128)
  have h3 : cnt 7 (x / 128 / 128 / 128) ≤ _ := c 6 (x / 128 / 128 / 128)
  rw [e, cnt_zero] at h3
  omega
theorem enc1 {x : Nat} (h : x < 128) : enc x = [(x : Int)] := encF_small 9 x h
theorem diffK_len {l : List Int} (h : okL l = true) (k : Nat) : turnsK l k ≤ (diffK l k).length ∧ (diffK l k).length ≤ 4 * turnsK l k := by
  induction k with
  | zero => simp [turnsK, diffK]
  | succ k ih =>
    have h1 := okL_at h k
    have h2 := prev_ok h k
    have h3 := enc4 (zig_of (x := l.getD k 0 - prev l k) (by omega))
    simp only [turnsK, diffK]
    split
    · simpa using ih
    · rw [List.length_append]; omega
theorem diffK_le {l : List Int} (h : okL l = true) (k : Nat) : (diffK l k).length ≤ 4 * k := by
  have := diffK_len h k
  have := turnsK_le l k
  omega
theorem tight_len {l : List Int} (h : isVec l = true) : (tight l).length = 1 + (diffK l l.length).length := by
  have h7 : l.length ≤ 7 := by unfold isVec at h; simp only [Bool.and_eq_true] at h; exact (of_decide_eq_true h.1).2
  have := maskK_lt l l.length
  have := pow7 h7
  unfold tight
  rw [List.length_append, enc1 (by omega)]
  rfl
theorem byt_plainK (l : List Int) (k : Nat) : Byt (plainK l k) := by
  induction k with
  | zero => intro z hz; cases hz
  | succ k ih => exact byt_app ih (byt_enc _)
theorem byt_diffK (l : List Int) (k : Nat) : Byt (diffK l k) := by
  induction k with
  | zero => intro z hz; cases hz
  | succ k ih =>
    simp only [diffK]
    split
    · simpa using ih
    · exact byt_app ih (byt_enc _)
theorem byt_packR (v : Int) (l : List Int) : Byt (packR v l) := by
  unfold packR packL tight
  split
  · split
    · exact byt_plainK _ _
    · exact byt_app (byt_enc _) (byt_diffK _ _)
  · intro z hz; cases hz
end Go.Wire1
/- The plain mathematics of reading a vector's two layouts; nothing of the program is named here. -/
namespace Go.Wire1
open Go.RowKit

/-- What reading answers: the entries and their bytes, or the error's number. -/
abbrev Rd := Except Nat (List Int × Nat)
/-- Version 1: k numbers. -/
def rd1 (l : List Int) : Nat → Rd
  | 0 => .ok ([], 0)
  | k + 1 => match rd1 l k with
    | .error e => .error e
    | .ok (xs, p) => match dec (l.drop p) with
      | .error i => .error (11 + i)
      | .ok (x, m) => if 1048576 < x then .error 32 else .ok (xs ++ [(x : Int)], p + m)
def last0 (xs : List Int) : Int := xs.getLastD 0
/-- A difference and the entry that it makes. -/
def entry (q : Int) (l : List Int) : Except Nat (Int × Nat) := match dec l with
  | .error i => .error (11 + i)
  | .ok (u, m) => if unzig u = 0 then .error 34 else if unzig u < -q ∨ 1048576 - q < unzig u then .error 32 else .ok (q + unzig u, m)
/-- Version 2, behind the mask: k entries. -/
def rd2 (l : List Int) (mask p0 : Nat) : Nat → Rd
  | 0 => .ok ([], p0)
  | k + 1 => match rd2 l mask p0 k with
    | .error e => .error e
    | .ok (xs, p) => if mask / 2 ^ k % 2 = 1 then
        (match entry (last0 xs) (l.drop p) with
          | .error e => .error e
          | .ok (y, m) => .ok (xs ++ [y], p + m))
      else .ok (xs ++ [last0 xs], p)
def upk2 (l : List Int) (n : Nat) : Rd := match dec l with
  | .error i => .error (11 + i)
  | .ok (mask, m) => if 2 ^ n ≤ mask then .error 33 else rd2 l mask m n
def upk (v n : Int) (l : List Int) : Rd := if v = 1 ∨ v = 2 then (if 1 ≤ n ∧ n ≤ 7 then (if v = 1 then rd1 l n.toNat else upk2 l n.toNat) else .error 3) else .error 2
def upL : Rd → List Int
  | .ok (xs, _) => xs
  | .error _ => []
def upN : Rd → Nat
  | .ok (_, p) => p
  | .error _ => 0
def upE : Rd → Nat
  | .ok _ => 0
  | .error e => e

theorem rd1_err {l : List Int} {k e : Nat} (h : rd1 l k = .error e) : ∀ j, rd1 l (k + j) = .error e
  | 0 => h
  | j + 1 => by show rd1 l (k + j + 1) = _; simp only [rd1, rd1_err h j]
theorem rd1_err' {l : List Int} {k n e : Nat} (h : rd1 l k = .error e) (hk : k ≤ n) : rd1 l n = .error e := by
  have := rd1_err h (n - k)
  rwa [show k + (n - k) = n by omega] at this
theorem rd2_err {l : List Int} {mask p0 k e : Nat} (h : rd2 l mask p0 k = .error e) : ∀ j, rd2 l mask p0 (k + j) = .error e
  | 0 => h
  | j + 1 => by show rd2 l mask p0 (k + j + 1) = _; simp only [rd2, rd2_err h j]
theorem rd2_err' {l : List Int} {mask p0 k n e : Nat} (h : rd2 l mask p0 k = .error e) (hk : k ≤ n) : rd2 l mask p0 n = .error e := by
  have := rd2_err h (n - k)
  rwa [show k + (n - k) = n by omega] at this
theorem rd1_step {l : List Int} {k p x m : Nat} {xs : List Int} (h : rd1 l k = .ok (xs, p)) (hd : dec (l.drop p) = .ok (x, m)) (hx : x ≤ 1048576) : rd1 l (k + 1) = .ok (xs ++ [(x : Int)], p + m) := by
  simp only [rd1, h, hd]; rw [if_neg (by omega)]
theorem rd1_bad {l : List Int} {k p i : Nat} {xs : List Int} (h : rd1 l k = .ok (xs, p)) (hd : dec (l.drop p) = .error i) : rd1 l (k + 1) = .error (11 + i) := by
  simp only [rd1, h, hd]
theorem rd1_big {l : List Int} {k p x m : Nat} {xs : List Int} (h : rd1 l k = .ok (xs, p)) (hd : dec (l.drop p) = .ok (x, m)) (hx : 1048576 < x) : rd1 l (k + 1) = .error 32 := by
  simp only [rd1, h, hd]; rw [if_pos hx]
theorem rd1_len {l : List Int} (hy : Byt l) : ∀ {k p : Nat} {xs : List Int}, rd1 l k = .ok (xs, p) → xs.length = k ∧ p ≤ l.length ∧ okL xs = true
  | 0, p, xs, h => by simp only [rd1, Except.ok.injEq, Prod.mk.injEq] at h; obtain ⟨rfl, rfl⟩ := h; exact ⟨rfl, Nat.zero_le _, rfl⟩
  | k + 1, p, xs, h => by
    cases hr : rd1 l k with
    | error e => simp only [rd1, hr] at h; cases h
    | ok q =>
      obtain ⟨ys, p'⟩ := q
      have ih := rd1_len hy hr
      cases hd : dec (l.drop p') with
      | error i => rw [rd1_bad hr hd] at h; cases h
      | ok q2 =>
        obtain ⟨x, m⟩ := q2
        have hm := dec_len (byt_drop hy p') hd
        rw [List.length_drop] at hm
        by_cases hx : 1048576 < x
        · rw [rd1_big hr hd hx] at h; cases h
        · rw [rd1_step hr hd (by omega)] at h
          simp only [Except.ok.injEq, Prod.mk.injEq] at h
          obtain ⟨rfl, rfl⟩ := h
          refine ⟨by rw [List.length_append, ih.1]; rfl, by omega, ?_⟩
          unfold okL at *
          rw [List.all_append, ih.2.2]
          simp only [List.all_cons, List.all_nil, Bool.and_true, Bool.true_and, okE, decide_eq_true_eq]
          omega
theorem last_snoc (xs : List Int) (y : Int) : last0 (xs ++ [y]) = y := by simp [last0]
theorem entry_len {q : Int} {l : List Int} (hy : Byt l) {y : Int} {m : Nat} (h : entry q l = .ok (y, m)) : 0 ≤ y ∧ y ≤ 1048576 ∧ 1 ≤ m ∧ m ≤ l.length := by
  unfold entry at h
  cases hd : dec l with
  | error i => rw [hd] at h; cases h
  | ok p =>
    obtain ⟨u, k⟩ := p
    rw [hd] at h
    simp only at h
    have hm := dec_len hy hd
    split at h
    · cases h
    · split at h
      · cases h
      · simp only [Except.ok.injEq, Prod.mk.injEq] at h
        omega
theorem rd2_set {l : List Int} {mask p0 k p m : Nat} {xs : List Int} {y : Int} (h : rd2 l mask p0 k = .ok (xs, p)) (hb : mask / 2 ^ k % 2 = 1) (he : entry (last0 xs) (l.drop p) = .ok (y, m)) : rd2 l mask p0 (k + 1) = .ok (xs ++ [y], p + m) := by
  simp only [rd2, h]; rw [if_pos hb, he]
theorem rd2_bad {l : List Int} {mask p0 k p e : Nat} {xs : List Int} (h : rd2 l mask p0 k = .ok (xs, p)) (hb : mask / 2 ^ k % 2 = 1) (he : entry (last0 xs) (l.drop p) = .error e) : rd2 l mask p0 (k + 1) = .error e := by
  simp only [rd2, h]; rw [if_pos hb, he]
theorem rd2_keep {l : List Int} {mask p0 k p : Nat} {xs : List Int} (h : rd2 l mask p0 k = .ok (xs, p)) (hb : ¬ mask / 2 ^ k % 2 = 1) : rd2 l mask p0 (k + 1) = .ok (xs ++ [last0 xs], p) := by
  simp only [rd2, h]; rw [if_neg hb]
theorem okL_snoc {xs : List Int} {y : Int} (h : okL xs = true) (hy : 0 ≤ y ∧ y ≤ 1048576) : okL (xs ++ [y]) = true := by
  unfold okL at *
  rw [List.all_append, h]
  simp only [List.all_cons, List.all_nil, Bool.and_true, Bool.true_and, okE, decide_eq_true_eq]
  exact hy
theorem last_ok {xs : List Int} (h : okL xs = true) : 0 ≤ last0 xs ∧ last0 xs ≤ 1048576 := by
  unfold last0
  rcases List.eq_nil_or_concat xs with rfl | ⟨ys, y, rfl⟩
  · simp
  · have := List.all_eq_true.1 h y (by simp)
    simp only [okE, decide_eq_true_eq] at this
    simpa using this
theorem rd2_len {l : List Int} (hy : Byt l) {mask p0 : Nat} (h0 : p0 ≤ l.length) : ∀ {k p : Nat} {xs : List Int}, rd2 l mask p0 k = .ok (xs, p) → xs.length = k ∧ p ≤ l.length ∧ okL xs = true
  | 0, p, xs, h => by simp only [rd2, Except.ok.injEq, Prod.mk.injEq] at h; obtain ⟨rfl, rfl⟩ := h; exact ⟨rfl, h0, rfl⟩
  | k + 1, p, xs, h => by
    cases hr : rd2 l mask p0 k with
    | error e => simp only [rd2, hr] at h; cases h
    | ok q =>
      obtain ⟨ys, p'⟩ := q
      have ih := rd2_len hy h0 hr
      by_cases hb : mask / 2 ^ k % 2 = 1
      · cases he : entry (last0 ys) (l.drop p') with
        | error e => rw [rd2_bad hr hb he] at h; cases h
        | ok q2 =>
          obtain ⟨y, m⟩ := q2
          rw [rd2_set hr hb he] at h
          simp only [Except.ok.injEq, Prod.mk.injEq] at h
          obtain ⟨rfl, rfl⟩ := h
          have hm := entry_len (byt_drop hy p') he
          rw [List.length_drop] at hm
          exact ⟨by rw [List.length_append, ih.1]; rfl, by omega, okL_snoc ih.2.2 ⟨hm.1, hm.2.1⟩⟩
      · rw [rd2_keep hr hb] at h
        simp only [Except.ok.injEq, Prod.mk.injEq] at h
        obtain ⟨rfl, rfl⟩ := h
        exact ⟨by rw [List.length_append, ih.1]; rfl, ih.2.1, okL_snoc ih.2.2 (last_ok ih.2.2)⟩
theorem entry_err {q : Int} {l : List Int} {e : Nat} (h : entry q l = .error e) : 11 ≤ e ∧ e ≤ 34 := by
  unfold entry at h
  cases hd : dec l with
  | error i => rw [hd] at h; simp only [Except.error.injEq] at h; have := dec_err hd; omega
  | ok p =>
    obtain ⟨u, k⟩ := p
    rw [hd] at h
    simp only at h
    split at h
    · simp only [Except.error.injEq] at h; omega
    · split at h
      · simp only [Except.error.injEq] at h; omega
      · cases h
end Go.Wire1
/- The contract of entriesOf: an array of seven entries as a value. -/
namespace Go.Proofs.YtlapgnbiflcpfaaGreatDoor
open Go.RowKit Go.Wire1

/-- The seven entries, 0 where the list has none. -/
def arrL (l : List Int) : List Value := [.int .i64 (l.getD 0 0), .int .i64 (l.getD 1 0), .int .i64 (l.getD 2 0), .int .i64 (l.getD 3 0), .int .i64 (l.getD 4 0), .int .i64 (l.getD 5 0), .int .i64 (l.getD 6 0)]
def zer7 : List Value := [.int .i64 0, .int .i64 0, .int .i64 0, .int .i64 0, .int .i64 0, .int .i64 0, .int .i64 0]
theorem arr_eq {l : List Int} {n : Nat} (hl : l.length = n) (hn : n ≤ 7) : l.map (Value.int .i64) ++ zer7.drop n = arrL l := by
  subst hl
  match l, hn with
  | [], _ => rfl
  | [_], _ => rfl
  | [_, _], _ => rfl
  | [_, _, _], _ => rfl
  | [_, _, _, _], _ => rfl
  | [_, _, _, _, _], _ => rfl
  | [_, _, _, _, _, _], _ => rfl
  | [_, _, _, _, _, _, _], _ => rfl
  | _ :: _ :: _ :: _ :: _ :: _ :: _ :: _ :: r, h => simp at h

theorem copied7 {w1 : World} {g n cap : Nat} {a : Option Addr} {l : List Int} {t : TypeId} (h : SegI w1 a n l) (hn : 0 < n) (hs : n ≤ 7) (hrow : w1.heap[g]? = some (.cells zer7.toArray t (0, 0))) :
    ∃ w2, (Builtin.copy_ #[28, 28] 3 #[.slice (some ⟨g, 0, none⟩) 7 7, .slice a n cap]).run Tryz.prog w1 = .ok (.int .i64 (n : Int)) w2 ∧ w2.heap[g]? = some (.cells (arrL l).toArray t (0, 0)) ∧ w1.grownBy w2 (some g) ∧ w2.heap.size = w1.heap.size := by
  obtain ⟨b, off, rfl, hc⟩ := h.2.2.1 hn
  have hl := h.1
  have hrun := run_copy_row (P := Tryz.prog) w1 28 28 3 3 g 0 7 7 ⟨b, off, none⟩ n cap zer7.toArray t (l.map (Value.int .i64)) Tryz.underlying28 Tryz.size3 hrow
    (by rw [List.length_map, hl]; exact (Nat.min_eq_left hs).symm)
    (fun j v hv => by
      rw [List.getElem?_map] at hv
      have hj : j < l.length := by
        rcases Nat.lt_or_ge j l.length with h | h
        · exact h
        · rw [List.getElem?_eq_none h] at hv; cases hv
      rw [List.getElem?_eq_getElem hj] at hv
      simp only [Option.map_some, Option.some.injEq] at hv
      subst hv
      rw [add_at, hc j (by omega), List.getD, List.getElem?_eq_getElem hj]
      rfl)
    (by rw [List.length_map, List.size_toArray]; show 0 + l.length ≤ 7; omega)
    (fun v hv => by obtain ⟨x, _, rfl⟩ := List.mem_map.1 hv; rfl)
  have e : (zer7.toArray.toList.take 0 ++ l.map (Value.int .i64) ++ zer7.toArray.toList.drop (0 + (l.map (Value.int .i64)).length)) = arrL l := by
    rw [List.length_map, hl, Nat.zero_add, List.take_zero, List.nil_append]
    exact arr_eq hl hs
  rw [e, List.length_map, hl] at hrun
  exact ⟨_, hrun, setRow_heap w1 g _ _ t (0, 0) hrow, ⟨rfl, rfl, rfl, by simp [World.setRow], fun k _ hne => setRow_other w1 g k _ (fun e => hne (by rw [e]))⟩, by simp [World.setRow]⟩

theorem cell_arr {w : World} {g : Nat} {cs : List Value} {t : TypeId} (h : w.heap[g]? = some (.cells cs.toArray t (0, 0))) (j : Nat) : w.cell? ⟨g, j, none⟩ = cs[j]? := by
  rw [cell_of_row _ _ _ _ _ _ h]; simp
theorem frz_arr {w : World} {g : Nat} {cs : Array Value} {t : TypeId} (h : w.heap[g]? = some (.cells cs t (0, 0))) (j : Nat) : w.frozen? ⟨g, j, none⟩ = false := by
  simp [World.frozen?, h]

set_option maxHeartbeats 400000 in
set_option maxRecDepth 100000 in
theorem entriesOf_any (a : Option Addr) (n cap : Nat) (l : List Int) (w : World) (h : SegI w a n l) (hn : 0 < n) (hs : n ≤ 7) :
    Calls Tryz.prog 86 #[.slice a n cap] w fun e w' => e = .returned (.agg (arrL l).toArray) ∧ Below w.heap.size w w' := by
  have h2 : SegI ((w.alloc (.cells zer7.toArray 115)).alloc (.cells zer7.toArray 115)) a n l := (h.on _).on _
  have hr0 : ((w.alloc (.cells zer7.toArray 115)).alloc (.cells zer7.toArray 115)).heap[w.heap.size + 1]? = some (.cells zer7.toArray 115 (0, 0)) := by
    have := heap_alloc_new (w.alloc (.cells zer7.toArray 115)) (.cells zer7.toArray 115)
    rwa [World.size_alloc] at this
  have hr1 : ((w.alloc (.cells zer7.toArray 115)).alloc (.cells zer7.toArray 115)).heap[w.heap.size]? = some (.cells zer7.toArray 115 (0, 0)) := by
    rw [Below.heap_alloc _ _ _ (by rw [World.size_alloc]; omega)]
    exact heap_alloc_new w _
  obtain ⟨w3, hrun, hrow, hg, hsz⟩ := copied7 (cap := cap) h2 hn hs hr0
  have hrow0 : w3.heap[w.heap.size]? = some (.cells zer7.toArray 115 (0, 0)) := by
    rw [hg.block _ (by simp; omega) (by simp)]; exact hr1
  have B3 : Hid (Below w.heap.size w w3) := ((((Below.refl _ w).more (Nat.le_refl _) _).more (Nat.le_refl _) _)).grown hg (by simp; omega) (fun j hj => by simp at hj; omega)
  have c0 := cell_arr hrow 0
  have c1 := cell_arr hrow 1
  have c2 := cell_arr hrow 2
  have c3 := cell_arr hrow 3
  have c4 := cell_arr hrow 4
  have c5 := cell_arr hrow 5
  have c6 := cell_arr hrow 6
  simp only [arrL, List.getElem?_cons_zero, List.getElem?_cons_succ] at c0 c1 c2 c3 c4 c5 c6
  have d0 := cell_arr hrow0 0
  have d1 := cell_arr hrow0 1
  have d2 := cell_arr hrow0 2
  have d3 := cell_arr hrow0 3
  have d4 := cell_arr hrow0 4
  have d5 := cell_arr hrow0 5
  have d6 := cell_arr hrow0 6
  simp only [zer7, List.getElem?_cons_zero, List.getElem?_cons_succ] at d0 d1 d2 d3 d4 d5 d6
  have e0 := frz_arr hrow0 0
  have e1 := frz_arr hrow0 1
  have e2 := frz_arr hrow0 2
  have e3 := frz_arr hrow0 3
  have e4 := frz_arr hrow0 4
  have e5 := frz_arr hrow0 5
  have e6 := frz_arr hrow0 6
  simp only [zer7] at hrun
  clear h h2 hr0 hr1 hg hrow hrow0
  unfold arrL
  generalize l.getD 0 0 = x0 at *
  generalize l.getD 1 0 = x1 at *
  generalize l.getD 2 0 = x2 at *
  generalize l.getD 3 0 = x3 at *
  generalize l.getD 4 0 = x4 at *
  generalize l.getD 5 0 = x5 at *
  generalize l.getD 6 0 = x6 at *
  go_enter Tryz.func86, Tryz.ntmps86
  go_wp2
  refine bodyPost_ret (v := .agg #[.int .i64 x0, .int .i64 x1, .int .i64 x2, .int .i64 x3, .int .i64 x4, .int .i64 x5, .int .i64 x6]) (by simp [results, Tryz.results86, go_sem, d0, d1, d2, d3, d4, d5, d6]) rfl ⟨rfl, ?_⟩
  exact below_store (below_store (below_store (below_store (below_store (below_store (below_store B3.out (Nat.le_refl _) _) (Nat.le_refl _) _) (Nat.le_refl _) _) (Nat.le_refl _) _) (Nat.le_refl _) _) (Nat.le_refl _) _) (Nat.le_refl _) _
end Go.Proofs.YtlapgnbiflcpfaaGreatDoor
