/- Texts of the proof, joined. -/
import Derived.Test.YtlhididcanedhaaGreatDoorJ17
import Derived.Test.YtlhididcanedhaaGreatDoorJ03
import Derived.Test.YtlhididcanedhaaGreatDoorJ07
import Derived.Test.YtlhididcanedhaaGreatDoorJ08
import Derived.Defers
import Derived.Recover
import Derived.RegionTactic
import Derived.ChangeAlike
/- The plain mathematics of reading a vector's two layouts; nothing of the program is named here. -/
namespace Go.Wire1
open Go.RowKit

/-- What reading answers: the entries and their bytes, or the error's number. -/
abbrev Rd := Except Nat (List Int × Nat)
/-- Version 1: k numbers. -/
def rd1 (l : List Int) : Nat → Rd
  | 0 => .ok ([], 0)
  | k + 1 => match rd1 l k with
    | .error e => .error e
    | .ok (xs, p) => match dec (l.drop p) with
      | .error i => .error (11 + i)
      | .ok (x, m) => if 1048576 < x then .error 32 else .ok (xs ++ [(x : Int)], p + m)
def last0 (xs : List Int) : Int := xs.getLastD 0
/-- A difference and the entry that it makes. -/
def entry (q : Int) (l : List Int) : Except Nat (Int × Nat) := match dec l with
  | .error i => .error (11 + i)
  | .ok (u, m) => if unzig u = 0 then .error 34 else if unzig u < -q ∨ 1048576 - q < unzig u then .error 32 else .ok (q + unzig u, m)
/-- Version 2, behind the mask: k entries. -/
def rd2 (l : List Int) (mask p0 : Nat) : Nat → Rd
  | 0 => .ok ([], p0)
  | k + 1 => match rd2 l mask p0 k with
    | .error e => .error e
    | .ok (xs, p) => if mask / 2 ^ k % 2 = 1 then
        (match entry (last0 xs) (l.drop p) with
          | .error e => .error e
          | .ok (y, m) => .ok (xs ++ [y], p + m))
      else .ok (xs ++ [last0 xs], p)
def upk2 (l : List Int) (n : Nat) : Rd := match dec l with
  | .error i => .error (11 + i)
  | .ok (mask, m) => if 2 ^ n ≤ mask then .error 33 else rd2 l mask m n
def upk (v n : Int) (l : List Int) : Rd := if v = 1 ∨ v = 2 then (if 1 ≤ n ∧ n ≤ 7 then (if v = 1 then rd1 l n.toNat else upk2 l n.toNat) else .error 3) else .error 2
def upL : Rd → List Int
  | .ok (xs, _) => xs
  | .error _ => []
def upN : Rd → Nat
  | .ok (_, p) => p
  | .error _ => 0
def upE : Rd → Nat
  | .ok _ => 0
  | .error e => e

theorem rd1_err {l : List Int} {k e : Nat} (h : rd1 l k = .error e) : ∀ j, rd1 l (k + j) = .error e
  | 0 => h
  | j + 1 => by show rd1 l (k + j + 1) = _; simp only [rd1, rd1_err h j]
theorem rd1_err' {l : List Int} {k n e : Nat} (h : rd1 l k = .error e) (hk : k ≤ n) : rd1 l n = .error e := by
  have := rd1_err h (n - k)
  rwa [show k + (n - k) = n by omega] at this
theorem rd2_err {l : List Int} {mask p0 k e : Nat} (h : rd2 l mask p0 k = .error e) : ∀ j, rd2 l mask p0 (k + j) = .error e
  | 0 => h
  | j + 1 => by show rd2 l mask p0 (k + j + 1) = _; simp only [rd2, rd2_err h j]
theorem rd2_err' {l : List Int} {mask p0 k n e : Nat} (h : rd2 l mask p0 k = .error e) (hk : k ≤ n) : rd2 l mask p0 n = .error e := by
  have := rd2_err h (n - k)
  rwa [show k + (n - k) = n by omega] at this
theorem rd1_step {l : List Int} {k p x m : Nat} {xs : List Int} (h : rd1 l k = .ok (xs, p)) (hd : dec (l.drop p) = .ok (x, m)) (hx : x ≤ 1048576) : rd1 l (k + 1) = .ok (xs ++ [(x : Int)], p + m) := by
  simp only [rd1, h, hd]; rw [if_neg (by omega)]
theorem rd1_bad {l : List Int} {k p i : Nat} {xs : List Int} (h : rd1 l k = .ok (xs, p)) (hd : dec (l.drop p) = .error i) : rd1 l (k + 1) = .error (11 + i) := by
  simp only [rd1, h, hd]
theorem rd1_big {l : List Int} {k p x m : Nat} {xs : List Int} (h : rd1 l k = .ok (xs, p)) (hd : dec (l.drop p) = .ok (x, m)) (hx : 1048576 < x) : rd1 l (k + 1) = .error 32 := by
  simp only [rd1, h, hd]; rw [if_pos hx]
theorem rd1_len {l : List Int} (hy : Byt l) : ∀ {k p : Nat} {xs : List Int}, rd1 l k = .ok (xs, p) → xs.length = k ∧ p ≤ l.length ∧ okL xs = true
  | 0, p, xs, h => by simp only [rd1, Except.ok.injEq, Prod.mk.injEq] at h; obtain ⟨rfl, rfl⟩ := h; exact ⟨rfl, Nat.zero_le _, rfl⟩
  | k + 1, p, xs, h => by
    cases hr : rd1 l k with
    | error e => simp only [rd1, hr] at h; cases h
    | ok q =>
      obtain ⟨ys, p'⟩ := q
      have ih := rd1_len hy hr
      cases hd : dec (l.drop p') with
      | error i => rw [rd1_bad hr hd] at h; cases h
      | ok q2 =>
        obtain ⟨x, m⟩ := q2
        have hm := dec_len (byt_drop hy p') hd
        rw [List.length_drop] at hm
        by_cases hx : 1048576 < x
        · rw [rd1_big hr hd hx] at h; cases h
        · rw [rd1_step hr hd (by omega)] at h
          simp only [Except.ok.injEq, Prod.mk.injEq] at h
          obtain ⟨rfl, rfl⟩ := h
          refine ⟨by rw [List.length_append, ih.1]; rfl, by omega, ?_⟩
          unfold okL at *
          rw [List.all_append, ih.2.2]
          simp only [List.all_cons, List.all_nil, Bool.and_true, Bool.true_and, okE, decide_eq_true_eq]
          omega
theorem last_snoc (xs : List Int) (y : Int) : last0 (xs ++ [y]) = y := by simp [last0]
theorem entry_len {q : Int} {l : List Int} (hy : Byt l) {y : Int} {m : Nat} (h : entry q l = .ok (y, m)) : 0 ≤ y ∧ y ≤ 1048576 ∧ 1 ≤ m ∧ m ≤ l.length := by
  unfold entry at h
  cases hd : dec l with
  | error i => rw [hd] at h; cases h
  | ok p =>
    obtain ⟨u, k⟩ := p
    rw [hd] at h
    simp only at h
    have hm := dec_len hy hd
    split at h
    · cases h
    · split at h
      · cases h
      · simp only [Except.ok.injEq, Prod.mk.injEq] at h
        omega
theorem rd2_set {l : List Int} {mask p0 k p m : Nat} {xs : List Int} {y : Int} (h : rd2 l mask p0 k = .ok (xs, p)) (hb : mask / 2 ^ k % 2 = 1) (he : entry (last0 xs) (l.drop p) = .ok (y, m)) : rd2 l mask p0 (k + 1) = .ok (xs ++ [y], p + m) := by
  simp only [rd2, h]; rw [if_pos hb, he]
theorem rd2_bad {l : List Int} {mask p0 k p e : Nat} {xs : List Int} (h : rd2 l mask p0 k = .ok (xs, p)) (hb : mask / 2 ^ k % 2 = 1) (he : entry (last0 xs) (l.drop p) = .error e) : rd2 l mask p0 (k + 1) = .error e := by
  simp only [rd2, h]; rw [if_pos hb, he]
theorem rd2_keep {l : List Int} {mask p0 k p : Nat} {xs : List Int} (h : rd2 l mask p0 k = .ok (xs, p)) (hb : ¬ mask / 2 ^ k % 2 = 1) : rd2 l mask p0 (k + 1) = .ok (xs ++ [last0 xs], p) := by
  simp only [rd2, h]; rw [if_neg hb]
theorem okL_snoc {xs : List Int} {y : Int} (h : okL xs = true) (hy : 0 ≤ y ∧ y ≤ 1048576) : okL (xs ++ [y]) = true := by
  unfold okL at *
  rw [List.all_append, h]
  simp only [List.all_cons, List.all_nil, Bool.and_true, Bool.true_and, okE, decide_eq_true_eq]
  exact hy
theorem last_ok {xs : List Int} (h : okL xs = true) : 0 ≤ last0 xs ∧ last0 xs ≤ 1048576 := by
  unfold last0
  rcases List.eq_nil_or_concat xs with rfl | ⟨ys, y, rfl⟩
  · simp
  · have := List.all_eq_true.1 h y (by simp)
    simp only [okE, decide_eq_true_eq] at this
    simpa using this
theorem rd2_len {l : List Int} (hy : Byt l) {mask p0 : Nat} (h0 : p0 ≤ l.length) : ∀ {k p : Nat} {xs : List Int}, rd2 l mask p0 k = .ok (xs, p) → xs.length = k ∧ p ≤ l.length ∧ okL xs = true
  | 0, p, xs, h => by simp only [rd2, Except.ok.injEq, Prod.mk.injEq] at h; obtain ⟨rfl, rfl⟩ := h; exact ⟨rfl, h0, rfl⟩
  | k + 1, p, xs, h => by
    cases hr : rd2 l mask p0 k with
    | error e => simp only [rd2, hr] at h; cases h
    | ok q =>
      obtain ⟨ys, p'⟩ := q
      have ih := rd2_len hy h0 hr
      by_cases hb : mask / 2 ^ k % 2 = 1
      · cases he : entry (last0 ys) (l.drop p') with
        | error e => rw [rd2_bad hr hb he] at h; cases h
        | ok q2 =>
          obtain ⟨y, m⟩ := q2
          rw [rd2_set hr hb he] at h
          simp only [Except.ok.injEq, Prod.mk.injEq] at h
          obtain ⟨rfl, rfl⟩ := h
          have hm := entry_len (byt_drop hy p') he
          rw [List.length_drop] at hm
          exact ⟨by rw [List.length_append, ih.1]; rfl, by omega, okL_snoc ih.2.2 ⟨hm.1, hm.2.1⟩⟩
      · rw [rd2_keep hr hb] at h
        simp only [Except.ok.injEq, Prod.mk.injEq] at h
        obtain ⟨rfl, rfl⟩ := h
        exact ⟨by rw [List.length_append, ih.1]; rfl, ih.2.1, okL_snoc ih.2.2 (last_ok ih.2.2)⟩
theorem entry_err {q : Int} {l : List Int} {e : Nat} (h : entry q l = .error e) : 11 ≤ e ∧ e ≤ 34 := by
  unfold entry at h
  cases hd : dec l with
  | error i => rw [hd] at h; simp only [Except.error.injEq] at h; have := dec_err hd; omega
  | ok p =>
    obtain ⟨u, k⟩ := p
    rw [hd] at h
    simp only at h
    split at h
    · simp only [Except.error.injEq] at h; omega
    · split at h
      · simp only [Except.error.injEq] at h; omega
      · cases h
end Go.Wire1
/- The contract of entriesOf: an array of seven entries as a value. -/
namespace Go.Proofs.YtlhididcanedhaaGreatDoor
open Go.RowKit Go.Wire1

/-- The seven entries, 0 where the list has none. -/
def arrL (l : List Int) : List Value := [.int .i64 (l.getD 0 0), .int .i64 (l.getD 1 0), .int .i64 (l.getD 2 0), .int .i64 (l.getD 3 0), .int .i64 (l.getD 4 0), .int .i64 (l.getD 5 0), .int .i64 (l.getD 6 0)]
def zer7 : List Value := [.int .i64 0, .int .i64 0, .int .i64 0, .int .i64 0, .int .i64 0, .int .i64 0, .int .i64 0]
end Go.Proofs.YtlhididcanedhaaGreatDoor
/- The contract of GetUint: the number, its bytes, the fault's number; it writes nothing that was there. -/
namespace Go.Proofs.YtlhididcanedhaaGreatDoor
open Go.RowKit Go.Wire1

set_option maxHeartbeats 1000000 in
set_option maxRecDepth 100000 in
/-- The deferred closure of GetUint in a frame that panics with a sentinel. -/
theorem catchU (b b1 b2 : Nat) (n1 : ¬ b = b1) (n2 : ¬ b = b2) (n3 : ¬ b1 = b2) (i : Nat) (hi : i < 5) (a : Nat → Addr) (w : World) (he : Errs w a) (x k e : Int)
    (hx : w.cell? ⟨b, 0, none⟩ = some (.int .u64 x)) (hk : w.cell? ⟨b1, 0, none⟩ = some (.int .i64 k)) (hee : w.cell? ⟨b2, 0, none⟩ = some (.int .i64 e))
    (fx : w.frozen? ⟨b, 0, none⟩ = false) (fk : w.frozen? ⟨b1, 0, none⟩ = false) (fe : w.frozen? ⟨b2, 0, none⟩ = false) :
    CallsD Tryz.prog 164 #[.pointer (some ⟨b, 0, none⟩), .pointer (some ⟨b1, 0, none⟩), .pointer (some ⟨b2, 0, none⟩)] (.panicking [{ v := errV (a i), recovered := false }]) w fun e u' w' =>
      e = .returned (.tuple #[]) ∧ u' = .panicking [{ v := errV (a i), recovered := true }] ∧ w' = ((w.setCell ⟨b, 0, none⟩ (.int .u64 0)).setCell ⟨b1, 0, none⟩ (.int .i64 0)).setCell ⟨b2, 0, none⟩ (.int .i64 (11 + (i : Int))) := by
  refine callsD_of_wpS Tryz.func164 rfl fun c₀ cs hu => ?_
  apply wpS_seq
  apply wpS_region
  simp [wpOpsS, go_sem, recoverD, hu, Tryz.ntmps164, Exit.thenS]
  refine wpS_of_wp ?_
  go_wp2_with fail
  refine (errno_any i hi a _ he).mono ?_
  rintro e w1 ⟨rfl, rfl⟩
  go_wp2
  simp [bodyPostS, results, Tryz.results164]

set_option maxHeartbeats 1000000 in
set_option maxRecDepth 100000 in
theorem catchU_idle (b b1 b2 : Nat) (w : World) :
    CallsD Tryz.prog 164 #[.pointer (some ⟨b, 0, none⟩), .pointer (some ⟨b1, 0, none⟩), .pointer (some ⟨b2, 0, none⟩)] .returning w fun e u' w' => e = .returned (.tuple #[]) ∧ u' = .returning ∧ w' = w := by
  refine callsD_of_wpS Tryz.func164 rfl fun c₀ cs hu => ?_
  apply wpS_seq
  apply wpS_region
  simp [wpOpsS, go_sem, recoverD, hu, Tryz.ntmps164, Exit.thenS]
  refine wpS_of_wp ?_
  go_wp2
  cases c₀
  simp_all [bodyPostS, results, Tryz.results164]

theorem new4 (w : World) (v0 v1 v2 : Value) (t0 t1 t2 t3 : TypeId) (sa : Option Addr) (n cap : Nat) :
    Cur ((((w.alloc (.cells #[v0] t0)).alloc (.cells #[v1] t1)).alloc (.cells #[v2] t2)).alloc (.cells #[.slice sa n cap, .int .i64 0] t3)) (w.heap.size + 1 + 1 + 1) 0 sa n cap 0 ∧
    Below w.heap.size w ((((w.alloc (.cells #[v0] t0)).alloc (.cells #[v1] t1)).alloc (.cells #[v2] t2)).alloc (.cells #[.slice sa n cap, .int .i64 0] t3)) ∧
    ((((w.alloc (.cells #[v0] t0)).alloc (.cells #[v1] t1)).alloc (.cells #[v2] t2)).alloc (.cells #[.slice sa n cap, .int .i64 0] t3)).cell? ⟨w.heap.size, 0, none⟩ = some v0 ∧
    ((((w.alloc (.cells #[v0] t0)).alloc (.cells #[v1] t1)).alloc (.cells #[v2] t2)).alloc (.cells #[.slice sa n cap, .int .i64 0] t3)).cell? ⟨w.heap.size + 1, 0, none⟩ = some v1 ∧
    ((((w.alloc (.cells #[v0] t0)).alloc (.cells #[v1] t1)).alloc (.cells #[v2] t2)).alloc (.cells #[.slice sa n cap, .int .i64 0] t3)).cell? ⟨w.heap.size + 1 + 1, 0, none⟩ = some v2 ∧
    ((((w.alloc (.cells #[v0] t0)).alloc (.cells #[v1] t1)).alloc (.cells #[v2] t2)).alloc (.cells #[.slice sa n cap, .int .i64 0] t3)).frozen? ⟨w.heap.size, 0, none⟩ = false ∧
    ((((w.alloc (.cells #[v0] t0)).alloc (.cells #[v1] t1)).alloc (.cells #[v2] t2)).alloc (.cells #[.slice sa n cap, .int .i64 0] t3)).frozen? ⟨w.heap.size + 1, 0, none⟩ = false ∧
    ((((w.alloc (.cells #[v0] t0)).alloc (.cells #[v1] t1)).alloc (.cells #[v2] t2)).alloc (.cells #[.slice sa n cap, .int .i64 0] t3)).frozen? ⟨w.heap.size + 1 + 1, 0, none⟩ = false := by
  refine ⟨⟨?_, ?_, ?_⟩, ?_, ?_, ?_, ?_, ?_, ?_, ?_⟩
  · rw [World.cell?_alloc_at _ _ _ _ (by simp)]; rfl
  · rw [World.cell?_alloc_at _ _ _ _ (by simp)]; rfl
  · exact World.frozen?_alloc_at _ _ _ _ (by simp)
  · exact ((((Below.refl _ _).alloc (Nat.le_refl _) _).alloc (by simp) _).alloc (by simp; omega) _).alloc (by simp; omega) _
  · rw [World.cell?_alloc_past _ _ _ (by simp; omega), World.cell?_alloc_past _ _ _ (by simp; omega), World.cell?_alloc_past _ _ _ (by simp), World.cell?_alloc_at _ _ _ _ rfl]; rfl
  · rw [World.cell?_alloc_past _ _ _ (by simp), World.cell?_alloc_past _ _ _ (by simp), World.cell?_alloc_at _ _ _ _ (by simp)]; rfl
  · rw [World.cell?_alloc_past _ _ _ (by simp), World.cell?_alloc_at _ _ _ _ (by simp)]; rfl
  · rw [World.frozen?_alloc_past _ _ _ (by simp; omega), World.frozen?_alloc_past _ _ _ (by simp; omega), World.frozen?_alloc_past _ _ _ (by simp)]; exact World.frozen?_alloc_at _ _ _ _ rfl
  · rw [World.frozen?_alloc_past _ _ _ (by simp), World.frozen?_alloc_past _ _ _ (by simp)]; exact World.frozen?_alloc_at _ _ _ _ (by simp)
  · rw [World.frozen?_alloc_past _ _ _ (by simp)]; exact World.frozen?_alloc_at _ _ _ _ (by simp)

/-- What GetUint answers. -/
def GotU (r : Except Nat (Nat × Nat)) (e : Ending) : Prop :=
  match r with
  | .ok (x, m) => e = .returned (.tuple #[.int .u64 (x : Int), .int .i64 (m : Int), .int .i64 0])
  | .error i => e = .returned (.tuple #[.int .u64 0, .int .i64 0, .int .i64 (11 + (i : Int))])

set_option maxHeartbeats 1000000 in
set_option maxRecDepth 100000 in
theorem getUint_any (n cap : Nat) (sa : Option Addr) (l : List Int) (a : Nat → Addr) (w : World) (hs : Seg w sa n l) (hy : Byt l) (he : Errs w a) :
    Calls Tryz.prog 147 #[.slice sa n cap] w fun e w' => Below w.heap.size w w' ∧ GotU (dec l) e := by
  have hmf : ∀ (fn : Fn) (first cap : Array Value) (w : World), (Instr.makeFunc fn first cap).run Tryz.prog w = .ok (.func fn first cap) w := fun _ _ _ _ => rfl
  have hW := new4 w (.int .u64 0) (.int .i64 0) (.int .i64 0) 87 3 32 170 sa n cap
  obtain ⟨hcur, hbel, hx0, hk0, he0, fx0, fk0, fe0⟩ := hW
  have hs3 := hs.below hbel (Nat.le_refl _)
  have he3 := he.below hbel (Nat.le_refl _)
  have h5 : 8 ≤ w.heap.size := he.five
  have hsep : ∀ x, sa = some x → 0 < n → x.block ≠ w.heap.size + 1 + 1 + 1 := fun x hx hn => by
    have := hs.lt hn hx; omega
  have hab : ∀ i, i < 5 → (a i).block ≠ w.heap.size + 1 + 1 + 1 := fun i hi => by have := he.lt i hi; omega
  have HC := hide (number_any (w.heap.size + 1 + 1 + 1) 0 n cap sa l 0 a _ hcur hs3 hsep hy (Nat.zero_le _) he3 (by omega) hab)
  clear hs3 he3 hsep hcur
  go_enter_defers Tryz.func147, Tryz.ntmps147
  go_wp2_with fail
  refine (unhide HC).mono ?_
  rintro e w1 ⟨ho, k', hc1, hk', hout⟩
  have hx1 := (World.cell?_of_block (a := ⟨w.heap.size, 0, none⟩) (ho.block w.heap.size (by omega))).trans hx0
  have hk1 := (World.cell?_of_block (a := ⟨w.heap.size + 1, 0, none⟩) (ho.block (w.heap.size + 1) (by omega))).trans hk0
  have he1 := (World.cell?_of_block (a := ⟨w.heap.size + 1 + 1, 0, none⟩) (ho.block (w.heap.size + 1 + 1) (by omega))).trans he0
  have fx1 := (World.frozen?_of_block (a := ⟨w.heap.size, 0, none⟩) (ho.block w.heap.size (by omega))).trans fx0
  have fk1 := (World.frozen?_of_block (a := ⟨w.heap.size + 1, 0, none⟩) (ho.block (w.heap.size + 1) (by omega))).trans fk0
  have fe1 := (World.frozen?_of_block (a := ⟨w.heap.size + 1 + 1, 0, none⟩) (ho.block (w.heap.size + 1 + 1) (by omega))).trans fe0
  have HB : Hid (Below w.heap.size w w1) := hbel.trans (ho.below (by omega))
  have HE : Hid (Errs w1 a) := (he.below hbel (Nat.le_refl _)).only ho (by omega) hab
  have hat : w1.cell? ⟨w.heap.size + 1 + 1 + 1, 1, none⟩ = some (.int .i64 (k' : Int)) := hc1.2.1
  clear hx0 hk0 he0 fx0 fk0 fe0 ho hc1 hbel HC hs he h5 hab
  rw [List.drop_zero] at hout
  generalize hB1 : w.heap.size + 1 = B1 at *
  generalize hB2 : B1 + 1 = B2 at *
  generalize hB3 : B2 + 1 = B3 at *
  generalize hB0 : w.heap.size = B0 at *
  have n1 : ¬ B0 = B1 := by omega
  have n2 : ¬ B0 = B2 := by omega
  have n3 : ¬ B1 = B2 := by omega
  have n4 : ¬ B3 = B0 := by omega
  have n5 : ¬ B3 = B1 := by omega
  have n6 : ¬ B3 = B2 := by omega
  have m1 : ¬ B1 = B0 := by omega
  have m2 : ¬ B2 = B0 := by omega
  have m3 : ¬ B2 = B1 := by omega
  have HL : Hid (B0 ≤ B1 ∧ B0 ≤ B2) := ⟨by omega, by omega⟩
  have HZ : Hid (w.heap.size = B0) := hB0
  clear hB1 hB2 hB3 hB0
  cases hd : dec l with
  | error i =>
    rw [hd] at hout
    obtain rfl : e = _ := hout
    have hi := dec_err hd
    have HD : Hid (dec l = .error i) := hd
    clear hd
    go_wp2
    refine leaves_cons (f := 164) (args := #[.pointer (some ⟨B0, 0, none⟩), .pointer (some ⟨B1, 0, none⟩), .pointer (some ⟨B2, 0, none⟩)]) (by simp) (by simp [go_sem]) ?_
    refine (catchU B0 B1 B2 n1 n2 n3 i (by omega) a w1 HE.out 0 0 0 hx1 hk1 he1 fx1 fk1 fe1).mono ?_
    rintro e u' w'' ⟨rfl, rfl, rfl⟩
    simp [Leaves, settle, results, Tryz.results147, go_sem, hx1, hk1, he1]
    rw [HZ.out, HD.out]
    exact ⟨((HB.out.setCell (p := ⟨B0, 0, none⟩) (Nat.le_refl _) _).setCell (p := ⟨B1, 0, none⟩) HL.out.1 _).setCell (p := ⟨B2, 0, none⟩) HL.out.2 _, rfl⟩
  | ok p =>
    obtain ⟨x, m⟩ := p
    rw [hd] at hout
    obtain ⟨rfl, hkk⟩ := hout
    obtain rfl : k' = m := by omega
    have HD : Hid (dec l = .ok (x, k')) := hd
    clear hd hkk
    go_wp2
    go_region
    all_goals (try go_wp2)
    all_goals refine leaves_cons (f := 164) (args := #[.pointer (some ⟨B0, 0, none⟩), .pointer (some ⟨B1, 0, none⟩), .pointer (some ⟨B2, 0, none⟩)]) (by simp) (by simp [go_sem]) ?_
    all_goals refine (catchU_idle B0 B1 B2 _).mono ?_
    all_goals rintro e u' w'' ⟨rfl, rfl, rfl⟩
    all_goals simp [Leaves, settle, results, Tryz.results147, go_sem, hx1, hk1, he1]
    all_goals rw [HZ.out, HD.out]
    all_goals exact ⟨((((HB.out.setCell (p := ⟨B0, 0, none⟩) (Nat.le_refl _) _).setCell (p := ⟨B0, 0, none⟩) (Nat.le_refl _) _).setCell (p := ⟨B1, 0, none⟩) HL.out.1 _).setCell (p := ⟨B2, 0, none⟩) HL.out.2 _).drew, rfl⟩
end Go.Proofs.YtlhididcanedhaaGreatDoor
/- The contract of GetInt: the number, its bytes, the fault's number; it writes nothing that was there. -/
namespace Go.Proofs.YtlhididcanedhaaGreatDoor
open Go.RowKit Go.Wire1

set_option maxHeartbeats 1000000 in
set_option maxRecDepth 100000 in
/-- The deferred closure of GetInt in a frame that panics with a sentinel. -/
theorem catchI (b b1 b2 : Nat) (n1 : ¬ b = b1) (n2 : ¬ b = b2) (n3 : ¬ b1 = b2) (i : Nat) (hi : i < 5) (a : Nat → Addr) (w : World) (he : Errs w a) (x k e : Int)
    (hx : w.cell? ⟨b, 0, none⟩ = some (.int .i64 x)) (hk : w.cell? ⟨b1, 0, none⟩ = some (.int .i64 k)) (hee : w.cell? ⟨b2, 0, none⟩ = some (.int .i64 e))
    (fx : w.frozen? ⟨b, 0, none⟩ = false) (fk : w.frozen? ⟨b1, 0, none⟩ = false) (fe : w.frozen? ⟨b2, 0, none⟩ = false) :
    CallsD Tryz.prog 193 #[.pointer (some ⟨b, 0, none⟩), .pointer (some ⟨b1, 0, none⟩), .pointer (some ⟨b2, 0, none⟩)] (.panicking [{ v := errV (a i), recovered := false }]) w fun e u' w' =>
      e = .returned (.tuple #[]) ∧ u' = .panicking [{ v := errV (a i), recovered := true }] ∧ w' = ((w.setCell ⟨b, 0, none⟩ (.int .i64 0)).setCell ⟨b1, 0, none⟩ (.int .i64 0)).setCell ⟨b2, 0, none⟩ (.int .i64 (11 + (i : Int))) := by
  refine callsD_of_wpS Tryz.func193 rfl fun c₀ cs hu => ?_
  apply wpS_seq
  apply wpS_region
  simp [wpOpsS, go_sem, recoverD, hu, Tryz.ntmps193, Exit.thenS]
  refine wpS_of_wp ?_
  go_wp2_with fail
  refine (errno_any i hi a _ he).mono ?_
  rintro e w1 ⟨rfl, rfl⟩
  go_wp2
  simp [bodyPostS, results, Tryz.results193]

set_option maxHeartbeats 1000000 in
set_option maxRecDepth 100000 in
theorem catchI_idle (b b1 b2 : Nat) (w : World) :
    CallsD Tryz.prog 193 #[.pointer (some ⟨b, 0, none⟩), .pointer (some ⟨b1, 0, none⟩), .pointer (some ⟨b2, 0, none⟩)] .returning w fun e u' w' => e = .returned (.tuple #[]) ∧ u' = .returning ∧ w' = w := by
  refine callsD_of_wpS Tryz.func193 rfl fun c₀ cs hu => ?_
  apply wpS_seq
  apply wpS_region
  simp [wpOpsS, go_sem, recoverD, hu, Tryz.ntmps193, Exit.thenS]
  refine wpS_of_wp ?_
  go_wp2
  cases c₀
  simp_all [bodyPostS, results, Tryz.results193]

/-- What GetInt answers. -/
def GotI (r : Except Nat (Nat × Nat)) (e : Ending) : Prop :=
  match r with
  | .ok (x, m) => e = .returned (.tuple #[.int .i64 (unzig x), .int .i64 (m : Int), .int .i64 0])
  | .error i => e = .returned (.tuple #[.int .i64 0, .int .i64 0, .int .i64 (11 + (i : Int))])

set_option maxHeartbeats 1000000 in
set_option maxRecDepth 100000 in
theorem getInt_any (n cap : Nat) (sa : Option Addr) (l : List Int) (a : Nat → Addr) (w : World) (hs : Seg w sa n l) (hy : Byt l) (he : Errs w a) :
    Calls Tryz.prog 187 #[.slice sa n cap] w fun e w' => Below w.heap.size w w' ∧ GotI (dec l) e := by
  have hmf : ∀ (fn : Fn) (first cap : Array Value) (w : World), (Instr.makeFunc fn first cap).run Tryz.prog w = .ok (.func fn first cap) w := fun _ _ _ _ => rfl
  have hW := new4 w (.int .i64 0) (.int .i64 0) (.int .i64 0) 2 3 32 170 sa n cap
  obtain ⟨hcur, hbel, hx0, hk0, he0, fx0, fk0, fe0⟩ := hW
  have hs3 := hs.below hbel (Nat.le_refl _)
  have he3 := he.below hbel (Nat.le_refl _)
  have h5 : 8 ≤ w.heap.size := he.five
  have hsep : ∀ x, sa = some x → 0 < n → x.block ≠ w.heap.size + 1 + 1 + 1 := fun x hx hn => by
    have := hs.lt hn hx; omega
  have hab : ∀ i, i < 5 → (a i).block ≠ w.heap.size + 1 + 1 + 1 := fun i hi => by have := he.lt i hi; omega
  have HC := hide (signed_any (w.heap.size + 1 + 1 + 1) 0 n cap sa l 0 a _ hcur hs3 hsep hy (Nat.zero_le _) he3 (by omega) hab)
  clear hs3 he3 hsep hcur
  go_enter_defers Tryz.func187, Tryz.ntmps187
  go_wp2_with fail
  refine (unhide HC).mono ?_
  rintro e w1 ⟨ho, k', hc1, hk', hout⟩
  have hx1 := (World.cell?_of_block (a := ⟨w.heap.size, 0, none⟩) (ho.block w.heap.size (by omega))).trans hx0
  have hk1 := (World.cell?_of_block (a := ⟨w.heap.size + 1, 0, none⟩) (ho.block (w.heap.size + 1) (by omega))).trans hk0
  have he1 := (World.cell?_of_block (a := ⟨w.heap.size + 1 + 1, 0, none⟩) (ho.block (w.heap.size + 1 + 1) (by omega))).trans he0
  have fx1 := (World.frozen?_of_block (a := ⟨w.heap.size, 0, none⟩) (ho.block w.heap.size (by omega))).trans fx0
  have fk1 := (World.frozen?_of_block (a := ⟨w.heap.size + 1, 0, none⟩) (ho.block (w.heap.size + 1) (by omega))).trans fk0
  have fe1 := (World.frozen?_of_block (a := ⟨w.heap.size + 1 + 1, 0, none⟩) (ho.block (w.heap.size + 1 + 1) (by omega))).trans fe0
  have HB : Hid (Below w.heap.size w w1) := hbel.trans (ho.below (by omega))
  have HE : Hid (Errs w1 a) := (he.below hbel (Nat.le_refl _)).only ho (by omega) hab
  have hat : w1.cell? ⟨w.heap.size + 1 + 1 + 1, 1, none⟩ = some (.int .i64 (k' : Int)) := hc1.2.1
  clear hx0 hk0 he0 fx0 fk0 fe0 ho hc1 hbel HC hs he h5 hab
  rw [List.drop_zero] at hout
  generalize hB1 : w.heap.size + 1 = B1 at *
  generalize hB2 : B1 + 1 = B2 at *
  generalize hB3 : B2 + 1 = B3 at *
  generalize hB0 : w.heap.size = B0 at *
  have n1 : ¬ B0 = B1 := by omega
  have n2 : ¬ B0 = B2 := by omega
  have n3 : ¬ B1 = B2 := by omega
  have n4 : ¬ B3 = B0 := by omega
  have n5 : ¬ B3 = B1 := by omega
  have n6 : ¬ B3 = B2 := by omega
  have m1 : ¬ B1 = B0 := by omega
  have m2 : ¬ B2 = B0 := by omega
  have m3 : ¬ B2 = B1 := by omega
  have HL : Hid (B0 ≤ B1 ∧ B0 ≤ B2) := ⟨by omega, by omega⟩
  have HZ : Hid (w.heap.size = B0) := hB0
  clear hB1 hB2 hB3 hB0
  cases hd : dec l with
  | error i =>
    rw [hd] at hout
    obtain rfl : e = _ := hout
    have hi := dec_err hd
    have HD : Hid (dec l = .error i) := hd
    clear hd
    go_wp2
    refine leaves_cons (f := 193) (args := #[.pointer (some ⟨B0, 0, none⟩), .pointer (some ⟨B1, 0, none⟩), .pointer (some ⟨B2, 0, none⟩)]) (by simp) (by simp [go_sem]) ?_
    refine (catchI B0 B1 B2 n1 n2 n3 i (by omega) a w1 HE.out 0 0 0 hx1 hk1 he1 fx1 fk1 fe1).mono ?_
    rintro e u' w'' ⟨rfl, rfl, rfl⟩
    simp [Leaves, settle, results, Tryz.results187, go_sem, hx1, hk1, he1]
    rw [HZ.out, HD.out]
    exact ⟨((HB.out.setCell (p := ⟨B0, 0, none⟩) (Nat.le_refl _) _).setCell (p := ⟨B1, 0, none⟩) HL.out.1 _).setCell (p := ⟨B2, 0, none⟩) HL.out.2 _, rfl⟩
  | ok p =>
    obtain ⟨x, m⟩ := p
    rw [hd] at hout
    obtain ⟨rfl, hkk⟩ := hout
    obtain rfl : k' = m := by omega
    have HD : Hid (dec l = .ok (x, k')) := hd
    clear hd hkk
    go_wp2
    go_region
    all_goals (try go_wp2)
    all_goals refine leaves_cons (f := 193) (args := #[.pointer (some ⟨B0, 0, none⟩), .pointer (some ⟨B1, 0, none⟩), .pointer (some ⟨B2, 0, none⟩)]) (by simp) (by simp [go_sem]) ?_
    all_goals refine (catchI_idle B0 B1 B2 _).mono ?_
    all_goals rintro e u' w'' ⟨rfl, rfl, rfl⟩
    all_goals simp [Leaves, settle, results, Tryz.results187, go_sem, hx1, hk1, he1]
    all_goals rw [HZ.out, HD.out]
    all_goals exact ⟨((((HB.out.setCell (p := ⟨B0, 0, none⟩) (Nat.le_refl _) _).setCell (p := ⟨B0, 0, none⟩) (Nat.le_refl _) _).setCell (p := ⟨B1, 0, none⟩) HL.out.1 _).setCell (p := ⟨B2, 0, none⟩) HL.out.2 _).drew, rfl⟩
end Go.Proofs.YtlhididcanedhaaGreatDoor
