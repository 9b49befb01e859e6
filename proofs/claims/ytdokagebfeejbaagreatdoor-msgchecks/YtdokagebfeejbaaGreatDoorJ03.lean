/- Texts of the proof, joined. -/
import Derived.Test.YtdokagebfeejbaaGreatDoorJ02
import Derived.Defers
import Derived.Recover
import Derived.RegionTactic
import Derived.ChangeAlike
import Derived.Test.YtdokagebfeejbaaGreatDoorJ01
import Derived.Test.YtdokagebfeejbaaGreatDoorRows
import Derived.WalkKit
import Derived.Deep.QuietTactic
import Derived.BigQuiet
/- The contract of GetUint: the number, its bytes, the fault's number; it writes nothing that was there. -/
namespace Go.Proofs.YtdokagebfeejbaaGreatDoor
open Go.RowKit Go.Wire1

set_option maxHeartbeats 1000000 in
set_option maxRecDepth 100000 in
/-- The deferred closure of GetUint in a frame that panics with a sentinel. -/
theorem catchU (b b1 b2 : Nat) (n1 : ¬ b = b1) (n2 : ¬ b = b2) (n3 : ¬ b1 = b2) (i : Nat) (hi : i < 5) (a : Nat → Addr) (w : World) (he : Errs w a) (x k e : Int)
    (hx : w.cell? ⟨b, 0, none⟩ = some (.int .u64 x)) (hk : w.cell? ⟨b1, 0, none⟩ = some (.int .i64 k)) (hee : w.cell? ⟨b2, 0, none⟩ = some (.int .i64 e))
    (fx : w.frozen? ⟨b, 0, none⟩ = false) (fk : w.frozen? ⟨b1, 0, none⟩ = false) (fe : w.frozen? ⟨b2, 0, none⟩ = false) :
    CallsD Tryz.prog 101 #[.pointer (some ⟨b, 0, none⟩), .pointer (some ⟨b1, 0, none⟩), .pointer (some ⟨b2, 0, none⟩)] (.panicking [{ v := errV (a i), recovered := false }]) w fun e u' w' =>
      e = .returned (.tuple #[]) ∧ u' = .panicking [{ v := errV (a i), recovered := true }] ∧ w' = ((w.setCell ⟨b, 0, none⟩ (.int .u64 0)).setCell ⟨b1, 0, none⟩ (.int .i64 0)).setCell ⟨b2, 0, none⟩ (.int .i64 (11 + (i : Int))) := by
  refine callsD_of_wpS Tryz.func101 rfl fun c₀ cs hu => ?_
  apply wpS_seq
  apply wpS_region
  simp [wpOpsS, go_sem, recoverD, hu, Tryz.ntmps101, Exit.thenS]
  refine wpS_of_wp ?_
  go_wp2_with fail
  refine (errno_any i hi a _ he).mono ?_
  rintro e w1 ⟨rfl, rfl⟩
  go_wp2
  simp [bodyPostS, results, Tryz.results101]

set_option maxHeartbeats 1000000 in
set_option maxRecDepth 100000 in
theorem catchU_idle (b b1 b2 : Nat) (w : World) :
    CallsD Tryz.prog 101 #[.pointer (some ⟨b, 0, none⟩), .pointer (some ⟨b1, 0, none⟩), .pointer (some ⟨b2, 0, none⟩)] .returning w fun e u' w' => e = .returned (.tuple #[]) ∧ u' = .returning ∧ w' = w := by
  refine callsD_of_wpS Tryz.func101 rfl fun c₀ cs hu => ?_
  apply wpS_seq
  apply wpS_region
  simp [wpOpsS, go_sem, recoverD, hu, Tryz.ntmps101, Exit.thenS]
  refine wpS_of_wp ?_
  go_wp2
  cases c₀
  simp_all [bodyPostS, results, Tryz.results101]

theorem new4 (w : World) (v0 v1 v2 : Value) (t0 t1 t2 t3 : TypeId) (sa : Option Addr) (n cap : Nat) :
    Cur ((((w.alloc (.cells #[v0] t0)).alloc (.cells #[v1] t1)).alloc (.cells #[v2] t2)).alloc (.cells #[.slice sa n cap, .int .i64 0] t3)) (w.heap.size + 1 + 1 + 1) 0 sa n cap 0 ∧
    Below w.heap.size w ((((w.alloc (.cells #[v0] t0)).alloc (.cells #[v1] t1)).alloc (.cells #[v2] t2)).alloc (.cells #[.slice sa n cap, .int .i64 0] t3)) ∧
    ((((w.alloc (.cells #[v0] t0)).alloc (.cells #[v1] t1)).alloc (.cells #[v2] t2)).alloc (.cells #[.slice sa n cap, .int .i64 0] t3)).cell? ⟨w.heap.size, 0, none⟩ = some v0 ∧
    ((((w.alloc (.cells #[v0] t0)).alloc (.cells #[v1] t1)).alloc (.cells #[v2] t2)).alloc (.cells #[.slice sa n cap, .int .i64 0] t3)).cell? ⟨w.heap.size + 1, 0, none⟩ = some v1 ∧
    ((((w.alloc (.cells #[v0] t0)).alloc (.cells #[v1] t1)).alloc (.cells #[v2] t2)).alloc (.cells #[.slice sa n cap, .int .i64 0] t3)).cell? ⟨w.heap.size + 1 + 1, 0, none⟩ = some v2 ∧
    ((((w.alloc (.cells #[v0] t0)).alloc (.cells #[v1] t1)).alloc (.cells #[v2] t2)).alloc (.cells #[.slice sa n cap, .int .i64 0] t3)).frozen? ⟨w.heap.size, 0, none⟩ = false ∧
    ((((w.alloc (.cells #[v0] t0)).alloc (.cells #[v1] t1)).alloc (.cells #[v2] t2)).alloc (.cells #[.slice sa n cap, .int .i64 0] t3)).frozen? ⟨w.heap.size + 1, 0, none⟩ = false ∧
    ((((w.alloc (.cells #[v0] t0)).alloc (.cells #[v1] t1)).alloc (.cells #[v2] t2)).alloc (.cells #[.slice sa n cap, .int .i64 0] t3)).frozen? ⟨w.heap.size + 1 + 1, 0, none⟩ = false := by
  refine ⟨⟨?_, ?_, ?_⟩, ?_, ?_, ?_, ?_, ?_, ?_, ?_⟩
  · rw [World.cell?_alloc_at _ _ _ _ (by simp)]; rfl
  · rw [World.cell?_alloc_at _ _ _ _ (by simp)]; rfl
  · exact World.frozen?_alloc_at _ _ _ _ (by simp)
  · exact ((((Below.refl _ _).alloc (Nat.le_refl _) _).alloc (by simp) _).alloc (by simp; omega) _).alloc (by simp; omega) _
  · rw [World.cell?_alloc_past _ _ _ (by simp; omega), World.cell?_alloc_past _ _ _ (by simp; omega), World.cell?_alloc_past _ _ _ (by simp), World.cell?_alloc_at _ _ _ _ rfl]; rfl
  · rw [World.cell?_alloc_past _ _ _ (by simp), World.cell?_alloc_past _ _ _ (by simp), World.cell?_alloc_at _ _ _ _ (by simp)]; rfl
  · rw [World.cell?_alloc_past _ _ _ (by simp), World.cell?_alloc_at _ _ _ _ (by simp)]; rfl
  · rw [World.frozen?_alloc_past _ _ _ (by simp; omega), World.frozen?_alloc_past _ _ _ (by simp; omega), World.frozen?_alloc_past _ _ _ (by simp)]; exact World.frozen?_alloc_at _ _ _ _ rfl
  · rw [World.frozen?_alloc_past _ _ _ (by simp), World.frozen?_alloc_past _ _ _ (by simp)]; exact World.frozen?_alloc_at _ _ _ _ (by simp)
  · rw [World.frozen?_alloc_past _ _ _ (by simp)]; exact World.frozen?_alloc_at _ _ _ _ (by simp)

/-- What GetUint answers. -/
def GotU (r : Except Nat (Nat × Nat)) (e : Ending) : Prop :=
  match r with
  | .ok (x, m) => e = .returned (.tuple #[.int .u64 (x : Int), .int .i64 (m : Int), .int .i64 0])
  | .error i => e = .returned (.tuple #[.int .u64 0, .int .i64 0, .int .i64 (11 + (i : Int))])

set_option maxHeartbeats 1000000 in
set_option maxRecDepth 100000 in
theorem getUint_any (n cap : Nat) (sa : Option Addr) (l : List Int) (a : Nat → Addr) (w : World) (hs : Seg w sa n l) (hy : Byt l) (he : Errs w a) :
    Calls Tryz.prog 95 #[.slice sa n cap] w fun e w' => Below w.heap.size w w' ∧ GotU (dec l) e := by
  have hmf : ∀ (fn : Fn) (first cap : Array Value) (w : World), (Instr.makeFunc fn first cap).run Tryz.prog w = .ok (.func fn first cap) w := fun _ _ _ _ => rfl
  have hW := new4 w (.int .u64 0) (.int .i64 0) (.int .i64 0) 132 3 33 156 sa n cap
  obtain ⟨hcur, hbel, hx0, hk0, he0, fx0, fk0, fe0⟩ := hW
  have hs3 := hs.below hbel (Nat.le_refl _)
  have he3 := he.below hbel (Nat.le_refl _)
  have h5 : 7 ≤ w.heap.size := he.five
  have hsep : ∀ x, sa = some x → 0 < n → x.block ≠ w.heap.size + 1 + 1 + 1 := fun x hx hn => by
    have := hs.lt hn hx; omega
  have hab : ∀ i, i < 5 → (a i).block ≠ w.heap.size + 1 + 1 + 1 := fun i hi => by have := he.lt i hi; omega
  have HC := hide (number_any (w.heap.size + 1 + 1 + 1) 0 n cap sa l 0 a _ hcur hs3 hsep hy (Nat.zero_le _) he3 (by omega) hab)
  clear hs3 he3 hsep hcur
  go_enter_defers Tryz.func95, Tryz.ntmps95
  go_wp2_with fail
  refine (unhide HC).mono ?_
  rintro e w1 ⟨ho, k', hc1, hk', hout⟩
  have hx1 := (World.cell?_of_block (a := ⟨w.heap.size, 0, none⟩) (ho.block w.heap.size (by omega))).trans hx0
  have hk1 := (World.cell?_of_block (a := ⟨w.heap.size + 1, 0, none⟩) (ho.block (w.heap.size + 1) (by omega))).trans hk0
  have he1 := (World.cell?_of_block (a := ⟨w.heap.size + 1 + 1, 0, none⟩) (ho.block (w.heap.size + 1 + 1) (by omega))).trans he0
  have fx1 := (World.frozen?_of_block (a := ⟨w.heap.size, 0, none⟩) (ho.block w.heap.size (by omega))).trans fx0
  have fk1 := (World.frozen?_of_block (a := ⟨w.heap.size + 1, 0, none⟩) (ho.block (w.heap.size + 1) (by omega))).trans fk0
  have fe1 := (World.frozen?_of_block (a := ⟨w.heap.size + 1 + 1, 0, none⟩) (ho.block (w.heap.size + 1 + 1) (by omega))).trans fe0
  have HB : Hid (Below w.heap.size w w1) := hbel.trans (ho.below (by omega))
  have HE : Hid (Errs w1 a) := (he.below hbel (Nat.le_refl _)).only ho (by omega) hab
  have hat : w1.cell? ⟨w.heap.size + 1 + 1 + 1, 1, none⟩ = some (.int .i64 (k' : Int)) := hc1.2.1
  clear hx0 hk0 he0 fx0 fk0 fe0 ho hc1 hbel HC hs he h5 hab
  rw [List.drop_zero] at hout
  generalize hB1 : w.heap.size + 1 = B1 at *
  generalize hB2 : B1 + 1 = B2 at *
  generalize hB3 : B2 + 1 = B3 at *
  generalize hB0 : w.heap.size = B0 at *
  have n1 : ¬ B0 = B1 := by omega
  have n2 : ¬ B0 = B2 := by omega
  have n3 : ¬ B1 = B2 := by omega
  have n4 : ¬ B3 = B0 := by omega
  have n5 : ¬ B3 = B1 := by omega
  have n6 : ¬ B3 = B2 := by omega
  have m1 : ¬ B1 = B0 := by omega
  have m2 : ¬ B2 = B0 := by omega
  have m3 : ¬ B2 = B1 := by omega
  have HL : Hid (B0 ≤ B1 ∧ B0 ≤ B2) := ⟨by omega, by omega⟩
  have HZ : Hid (w.heap.size = B0) := hB0
  clear hB1 hB2 hB3 hB0
  cases hd : dec l with
  | error i =>
    rw [hd] at hout
    obtain rfl : e = _ := hout
    have hi := dec_err hd
    have HD : Hid (dec l = .error i) := hd
    clear hd
    go_wp2
    refine leaves_cons (f := 101) (args := #[.pointer (some ⟨B0, 0, none⟩), .pointer (some ⟨B1, 0, none⟩), .pointer (some ⟨B2, 0, none⟩)]) (by simp) (by simp [go_sem]) ?_
    refine (catchU B0 B1 B2 n1 n2 n3 i (by omega) a w1 HE.out 0 0 0 hx1 hk1 he1 fx1 fk1 fe1).mono ?_
    rintro e u' w'' ⟨rfl, rfl, rfl⟩
    simp [Leaves, settle, results, Tryz.results95, go_sem, hx1, hk1, he1]
    rw [HZ.out, HD.out]
    exact ⟨((HB.out.setCell (p := ⟨B0, 0, none⟩) (Nat.le_refl _) _).setCell (p := ⟨B1, 0, none⟩) HL.out.1 _).setCell (p := ⟨B2, 0, none⟩) HL.out.2 _, rfl⟩
  | ok p =>
    obtain ⟨x, m⟩ := p
    rw [hd] at hout
    obtain ⟨rfl, hkk⟩ := hout
    obtain rfl : k' = m := by omega
    have HD : Hid (dec l = .ok (x, k')) := hd
    clear hd hkk
    go_wp2
    go_region
    all_goals (try go_wp2)
    all_goals refine leaves_cons (f := 101) (args := #[.pointer (some ⟨B0, 0, none⟩), .pointer (some ⟨B1, 0, none⟩), .pointer (some ⟨B2, 0, none⟩)]) (by simp) (by simp [go_sem]) ?_
    all_goals refine (catchU_idle B0 B1 B2 _).mono ?_
    all_goals rintro e u' w'' ⟨rfl, rfl, rfl⟩
    all_goals simp [Leaves, settle, results, Tryz.results95, go_sem, hx1, hk1, he1]
    all_goals rw [HZ.out, HD.out]
    all_goals exact ⟨((((HB.out.setCell (p := ⟨B0, 0, none⟩) (Nat.le_refl _) _).setCell (p := ⟨B0, 0, none⟩) (Nat.le_refl _) _).setCell (p := ⟨B1, 0, none⟩) HL.out.1 _).setCell (p := ⟨B2, 0, none⟩) HL.out.2 _).drew, rfl⟩
end Go.Proofs.YtdokagebfeejbaaGreatDoor
/- The plain mathematics of vectors: lists of ints in memory, what is amiss with one, and what joins them; nothing of the program is named here. -/
namespace Go.Wire1
open Go.RowKit

/-- A list of ints in memory. -/
def SegI (w : World) (a : Option Addr) (n : Nat) (l : List Int) : Prop :=
  l.length = n ∧ n ≤ maxLen ∧ (0 < n → ∃ b off, a = some ⟨b, off, none⟩ ∧ ∀ j, j < n → w.cell? ⟨b, off + j, none⟩ = some (.int .i64 (l.getD j 0))) ∧ ∀ j, -9223372036854775808 ≤ l.getD j 0 ∧ l.getD j 0 ≤ 9223372036854775807
theorem SegI.below {w w' : World} {a : Option Addr} {n B : Nat} {l : List Int} (h : SegI w a n l) (hb : Below B w w') (hB : w.heap.size ≤ B) : SegI w' a n l := by
  obtain ⟨h1, h2, h3, h4⟩ := h
  refine ⟨h1, h2, fun hn => ?_, h4⟩
  obtain ⟨b, off, e, hc⟩ := h3 hn
  exact ⟨b, off, e, fun j hj => by
    have h := hc j hj
    rw [hb.cell (p := ⟨b, off + j, none⟩) (by have := cell_lt h; show b < B; omega)]; exact h⟩
theorem SegI.drewN {w : World} {a : Option Addr} {n : Nat} {l : List Int} (h : SegI w a n l) (q : Nat) : SegI (w.drewN q) a n l := h

/-- Is it an entry of a vector? -/
def okE (x : Int) : Bool := decide (0 ≤ x ∧ x ≤ 1048576)
def okL (l : List Int) : Bool := l.all okE
def okW (n : Nat) : Bool := decide (1 ≤ n ∧ n ≤ 7)
/-- What is amiss with a list: the error's number. -/
def fault (l : List Int) : Nat := if okW l.length = true then (if okL l = true then 0 else 32) else 31
def isVec (l : List Int) : Bool := okW l.length && okL l

theorem okL_step {l : List Int} {k : Nat} (h : k < l.length) (h1 : okL (l.take k) = true) (h2 : 0 ≤ l.getD k 0 ∧ l.getD k 0 ≤ 1048576) : okL (l.take (k + 1)) = true := by
  rw [take_next h]
  unfold okL at *
  rw [List.all_append, h1]
  simp only [List.all_cons, List.all_nil, Bool.and_true, Bool.true_and, okE, decide_eq_true_eq]
  exact h2
theorem okL_no {l : List Int} {k : Nat} (h : k < l.length) (h2 : ¬ (0 ≤ l.getD k 0 ∧ l.getD k 0 ≤ 1048576)) : okL l = false := by
  rw [Bool.eq_false_iff]
  intro e
  have := List.all_eq_true.1 e (l.getD k 0) (by rw [List.getD, List.getElem?_eq_getElem h]; exact List.getElem_mem h)
  simp only [okE, decide_eq_true_eq] at this
  exact h2 this
theorem okL_at {l : List Int} (h : okL l = true) (k : Nat) : 0 ≤ l.getD k 0 ∧ l.getD k 0 ≤ 1048576 := by
  by_cases hk : k < l.length
  · have := List.all_eq_true.1 h (l.getD k 0) (by rw [List.getD, List.getElem?_eq_getElem hk]; exact List.getElem_mem hk)
    simpa only [okE, decide_eq_true_eq] using this
  · rw [List.getD, List.getElem?_eq_none (by omega)]; simp

/-- A list in memory, as a slice has it. -/
structure LI where
  a : Option Addr
  n : Nat
  cap : Nat
  l : List Int
def liZ : LI := ⟨none, 0, 0, []⟩
def liv (s : LI) : Value := .slice s.a s.n s.cap
/-- A list of lists of ints in memory. -/
def SegL (w : World) (a : Option Addr) (n : Nat) (ls : List LI) : Prop :=
  ls.length = n ∧ n ≤ maxLen ∧ (0 < n → ∃ b off, a = some ⟨b, off, none⟩ ∧ ∀ i, i < n → w.cell? ⟨b, off + i, none⟩ = some (.slice (ls.getD i liZ).a (ls.getD i liZ).n (ls.getD i liZ).cap)) ∧ ∀ i, i < n → SegI w (ls.getD i liZ).a (ls.getD i liZ).n (ls.getD i liZ).l
theorem SegL.below {w w' : World} {a : Option Addr} {n B : Nat} {l : List LI} (h : SegL w a n l) (hb : Below B w w') (hB : w.heap.size ≤ B) : SegL w' a n l := by
  refine ⟨h.1, h.2.1, fun hn => ?_, fun i hi => (h.2.2.2 i hi).below hb hB⟩
  obtain ⟨b, off, rfl, hc⟩ := h.2.2.1 hn
  refine ⟨b, off, rfl, fun i hi => ?_⟩
  have hv := hc i hi
  rw [hb.cell (p := ⟨b, off + i, none⟩) (by have := cell_lt hv; show b < B; omega)]; exact hv
theorem SegL.drewN {w : World} {a : Option Addr} {n : Nat} {l : List LI} (h : SegL w a n l) (q : Nat) : SegL (w.drewN q) a n l := h

/-- The lists themselves. -/
def lsOf (ls : List LI) : List (List Int) := ls.map (·.l)
theorem lsOf_getD (ls : List LI) (i : Nat) : (lsOf ls).getD i [] = (ls.getD i liZ).l := by
  by_cases h : i < ls.length
  · simp [lsOf, h]
  · simp [lsOf, liZ, List.getElem?_eq_none (by omega : ls.length ≤ i)]
theorem SegL.len {w : World} {a : Option Addr} {n : Nat} {ls : List LI} (h : SegL w a n ls) {i : Nat} (hi : i < n) : (ls.getD i liZ).n = ((lsOf ls).getD i []).length := by
  rw [lsOf_getD]; exact (h.2.2.2 i hi).1.symm

theorem SegL.at {w : World} {b off : Nat} {n : Nat} {ls : List LI} (h : SegL w (some ⟨b, off, none⟩) n ls) {i : Nat} (hi : i < n) :
    ∃ ai ni ci, w.cell? ⟨b, off + i, none⟩ = some (.slice ai ni ci) ∧ SegI w ai ni ((lsOf ls).getD i []) := by
  obtain ⟨b', off', e, hc⟩ := h.2.2.1 (by omega)
  injection e with e
  injection e with e1 e2
  subst e1 e2
  exact ⟨_, _, _, hc i hi, by rw [lsOf_getD]; exact h.2.2.2 i hi⟩

/-- Lists, all of one length that a vector may have. -/
def alikeB (L : List (List Int)) : Bool := decide (0 < L.length) && (okW (L.getD 0 []).length && L.all fun l => decide (l.length = (L.getD 0 []).length))
/-- The greatest entry at a place, of lists that have one. -/
def maxAt (L : List (List Int)) (q : Nat) : Int := L.foldl (fun k l => if q < l.length ∧ k < l.getD q 0 then l.getD q 0 else k) 0
def rowOf (n : Nat) (g : Nat → Int) : List Int := (List.range n).map g
def unionL (L : List (List Int)) : List Int := if alikeB L = true ∧ L.all okL = true then rowOf (L.getD 0 []).length (maxAt L) else []
def unionE (L : List (List Int)) : Nat := if alikeB L = true then (if L.all okL = true then 0 else 32) else 31

theorem take_snoc {α : Type} {L : List α} {k : Nat} (d : α) (h : k < L.length) : L.take (k + 1) = L.take k ++ [L.getD k d] := by
  rw [List.take_succ_eq_append_getElem h]; simp [List.getElem?_eq_getElem h]
theorem all_getD {L : List (List Int)} {p : List Int → Bool} (h : L.all p = true) {i : Nat} (hi : i < L.length) : p (L.getD i []) = true := by
  rw [List.getD, List.getElem?_eq_getElem hi]
  exact List.all_eq_true.1 h _ (List.getElem_mem hi)
theorem all_no {L : List (List Int)} {p : List Int → Bool} {i : Nat} (hi : i < L.length) (h : p (L.getD i []) = false) : L.all p = false := by
  rw [Bool.eq_false_iff]
  intro e
  rw [all_getD e hi] at h
  cases h
theorem all_step {L : List (List Int)} {p : List Int → Bool} {k : Nat} (hk : k < L.length) (h1 : (L.take k).all p = true) (h2 : p (L.getD k []) = true) : (L.take (k + 1)).all p = true := by
  rw [take_snoc [] hk, List.all_append, h1]
  simpa using h2
end Go.Wire1
/- The plain mathematics of a vector's two layouts; nothing of the program is named here. -/
namespace Go.Wire1
open Go.RowKit

/-- The entry ahead of a place, 0 at the first. -/
def prev (l : List Int) (i : Nat) : Int := if i = 0 then 0 else l.getD (i - 1) 0
/-- Version 1, as far as k entries. -/
def plainK (l : List Int) : Nat → List Int
  | 0 => []
  | k + 1 => plainK l k ++ enc (l.getD k 0).toNat
/-- Version 2: the mask's first k bits, and their differences. -/
def maskK (l : List Int) : Nat → Nat
  | 0 => 0
  | k + 1 => maskK l k + if l.getD k 0 = prev l k then 0 else 2 ^ k
def diffK (l : List Int) : Nat → List Int
  | 0 => []
  | k + 1 => diffK l k ++ if l.getD k 0 = prev l k then [] else enc (zig (l.getD k 0 - prev l k))
def tight (l : List Int) : List Int := enc (maskK l l.length) ++ diffK l l.length
def packL (v : Int) (l : List Int) : List Int := if v = 1 then plainK l l.length else tight l
def packE (v : Int) (l : List Int) : Nat := if v = 1 ∨ v = 2 then fault l else 2
def packR (v : Int) (l : List Int) : List Int := if packE v l = 0 then packL v l else []

theorem prev_succ (l : List Int) (k : Nat) : prev l (k + 1) = l.getD k 0 := by simp [prev]
theorem prev_ok {l : List Int} (h : okL l = true) (k : Nat) : 0 ≤ prev l k ∧ prev l k ≤ 1048576 := by
  unfold prev; split
  · omega
  · exact okL_at h _
theorem maskK_lt (l : List Int) (k : Nat) : maskK l k < 2 ^ k := by
  induction k with
  | zero => simp [maskK]
  | succ k ih => simp only [maskK, Nat.pow_succ]; split <;> omega
theorem maskK_same {l : List Int} {k : Nat} (h : l.getD k 0 = prev l k) : maskK l (k + 1) = maskK l k ∧ diffK l (k + 1) = diffK l k := by
  simp only [maskK, diffK, if_pos h, Nat.add_zero, List.append_nil, and_self]
theorem maskK_diff {l : List Int} {k : Nat} (h : ¬ l.getD k 0 = prev l k) : maskK l (k + 1) = maskK l k + 2 ^ k ∧ diffK l (k + 1) = diffK l k ++ enc (zig (l.getD k 0 - prev l k)) := by
  simp only [maskK, diffK, if_neg h, and_self]
theorem or_pow {m k : Nat} (h : m < 2 ^ k) : m ||| 2 ^ k = m + 2 ^ k := by
  rw [Nat.or_comm, ← Nat.mul_one (2 ^ k), ← Nat.two_pow_add_eq_or_of_lt h]; omega
theorem pow7 {k : Nat} (h : k ≤ 7) : 2 ^ k ≤ 128 := by
  have : (2 : Nat) ^ 7 = 128 := rfl
  rw [← this]; exact Nat.pow_le_pow_right (by decide) h
theorem plainK_len {l : List Int} (h : okL l = true) (k : Nat) : k ≤ (plainK l k).length ∧ (plainK l k).length ≤ 10 * k := by
  induction k with
  | zero => simp [plainK]
  | succ k ih =>
    have h1 := okL_at h k
    have := enc_le (l.getD k 0).toNat (by omega)
    simp only [plainK, List.length_append]; omega
theorem zig_of {x : Int} (h : -1048576 ≤ x ∧ x ≤ 1048576) : zig x ≤ 2097152 := by unfold zig; split <;> omega
/-- How many places differ from the one before, of the first k. -/
def turnsK (l : List Int) : Nat → Nat
  | 0 => 0
  | k + 1 => turnsK l k + if l.getD k 0 = prev l k then 0 else 1
theorem turnsK_le (l : List Int) (k : Nat) : turnsK l k ≤ k := by
  induction k with
  | zero => simp [turnsK]
  | succ k ih => simp only [turnsK]; split <;> omega
theorem enc4 {x : Nat} (h : x ≤ 2097152) : 1 ≤ (enc x).length ∧ (enc x).length ≤ 4 := by
  rw [enc_len x (by omega)]
  have e : x / 128 / 128 / 128 / 128 = 0 := by omega
  have c : ∀ f z, cnt (f + 1) z ≤ 1 + cnt f (z / 128) := fun f z => by simp only [cnt]; split <;> omega
  have h1 : cnt 9 (x / 128) ≤ _ := c 8 (x / 128)
  have h2 : cnt 8 (x / 128 / 128) ≤ _ := c 7 (x / 128 / 128)
  have h3 : cnt 7 (x / 128 / 128 / 128) ≤ _ := c 6 (x / 128 / 128 / 128)
  rw [e, cnt_zero] at h3
  omega
theorem diffK_len {l : List Int} (h : okL l = true) (k : Nat) : turnsK l k ≤ (diffK l k).length ∧ (diffK l k).length ≤ 4 * turnsK l k := by
  induction k with
  | zero => simp [turnsK, diffK]
  | succ k ih =>
    have h1 := okL_at h k
    have h2 := prev_ok h k
    have h3 := enc4 (zig_of (x := l.getD k 0 - prev l k) (by omega))
    simp only [turnsK, diffK]
    split
    · simpa using ih
    · rw [List.length_append]; omega
theorem diffK_le {l : List Int} (h : okL l = true) (k : Nat) : (diffK l k).length ≤ 4 * k := by
  have := diffK_len h k
  have := turnsK_le l k
  omega
end Go.Wire1
/- The plain mathematics of reading a vector's two layouts; nothing of the program is named here. -/
namespace Go.Wire1
open Go.RowKit

/-- What reading answers: the entries and their bytes, or the error's number. -/
abbrev Rd := Except Nat (List Int × Nat)
/-- Version 1: k numbers. -/
def rd1 (l : List Int) : Nat → Rd
  | 0 => .ok ([], 0)
  | k + 1 => match rd1 l k with
    | .error e => .error e
    | .ok (xs, p) => match dec (l.drop p) with
      | .error i => .error (11 + i)
      | .ok (x, m) => if 1048576 < x then .error 32 else .ok (xs ++ [(x : Int)], p + m)
def last0 (xs : List Int) : Int := xs.getLastD 0
/-- A difference and the entry that it makes. -/
def entry (q : Int) (l : List Int) : Except Nat (Int × Nat) := match dec l with
  | .error i => .error (11 + i)
  | .ok (u, m) => if unzig u = 0 then .error 34 else if unzig u < -q ∨ 1048576 - q < unzig u then .error 32 else .ok (q + unzig u, m)
/-- Version 2, behind the mask: k entries. -/
def rd2 (l : List Int) (mask p0 : Nat) : Nat → Rd
  | 0 => .ok ([], p0)
  | k + 1 => match rd2 l mask p0 k with
    | .error e => .error e
    | .ok (xs, p) => if mask / 2 ^ k % 2 = 1 then
        (match entry (last0 xs) (l.drop p) with
          | .error e => .error e
          | .ok (y, m) => .ok (xs ++ [y], p + m))
      else .ok (xs ++ [last0 xs], p)
def upk2 (l : List Int) (n : Nat) : Rd := match dec l with
  | .error i => .error (11 + i)
  | .ok (mask, m) => if 2 ^ n ≤ mask then .error 33 else rd2 l mask m n
def upk (v n : Int) (l : List Int) : Rd := if v = 1 ∨ v = 2 then (if 1 ≤ n ∧ n ≤ 7 then (if v = 1 then rd1 l n.toNat else upk2 l n.toNat) else .error 3) else .error 2
def upL : Rd → List Int
  | .ok (xs, _) => xs
  | .error _ => []
def upN : Rd → Nat
  | .ok (_, p) => p
  | .error _ => 0
def upE : Rd → Nat
  | .ok _ => 0
  | .error e => e

end Go.Wire1
/- The contracts of what only reads a list of ints: isWidth, faultOf. -/
namespace Go.Proofs.YtdokagebfeejbaaGreatDoor
open Go.RowKit Go.Wire1

def okI (n : Int) : Bool := decide (1 ≤ n ∧ n ≤ 7)
theorem okI_yes {n : Int} (h : 1 ≤ n ∧ n ≤ 7) : okI n = true := decide_eq_true h
theorem okI_no {n : Int} (h : ¬ (1 ≤ n ∧ n ≤ 7)) : okI n = false := decide_eq_false h
theorem okI_nat (n : Nat) : okI (n : Int) = okW n := by unfold okI okW; congr 1; apply propext; omega

set_option maxRecDepth 100000 in
theorem isWidth_any (n : Int) (w : World) :
    Calls Tryz.prog 105 #[.int .i64 n] w fun e w' => e = .returned (.bool (okI n)) ∧ w = w' := by
  by_cases h1 : 1 ≤ n
  · by_cases h2 : n ≤ 7
    · have HQ : Hid (okI n = true) := okI_yes (by omega)
      go_enter Tryz.func105, Tryz.ntmps105
      go_wp2
      go_ret
      exact ⟨by rw [HQ.out]; rfl, rfl⟩
    · have HQ : Hid (okI n = false) := okI_no (by omega)
      go_enter Tryz.func105, Tryz.ntmps105
      go_wp2
      go_ret
      exact ⟨by rw [HQ.out]; rfl, rfl⟩
  · have HQ : Hid (okI n = false) := okI_no (by omega)
    go_enter Tryz.func105, Tryz.ntmps105
    go_wp2
    go_ret
    exact ⟨by rw [HQ.out]; rfl, rfl⟩

set_option maxHeartbeats 400000 in
set_option maxRecDepth 100000 in
theorem vfaultOf_any (a : Option Addr) (n cap : Nat) (l : List Int) (w : World) (h : SegI w a n l) :
    Calls Tryz.prog 179 #[.slice a n cap] w fun e w' => e = .returned (.int .i64 (fault l : Int)) ∧ w = w' := by
  obtain ⟨hn, hn', ha, -⟩ := h
  have HN : Hid (l.length = n) := hn
  unfold maxLen at hn'
  have HF : Hid (fault l = if okW n = true then (if okL l = true then 0 else 32) else 31) := by show _ = _; rw [← hn]; rfl
  clear hn
  go_enter Tryz.func179, Tryz.ntmps179
  go_wp2_with fail
  refine (isWidth_any (n : Int) _).mono ?_
  rintro e w' ⟨rfl, rfl⟩
  rw [okI_nat]
  cases hw : okW n with
  | false =>
    have HQ : Hid (fault l = 31) := by show _ = _; rw [HF.out, hw]; rfl
    clear HF hw
    go_wp2
    go_ret
    exact ⟨by rw [HQ.out]; rfl, rfl⟩
  | true =>
    have HQ : Hid (fault l = if okL l = true then 0 else 32) := by show _ = _; rw [HF.out, hw]; rfl
    clear HF hw
    go_wp2
    go_loop [11] (fun i => ∃ k : Nat, i = .int .i64 (k : Int) ∧ k ≤ n ∧ Hid (okL (l.take k) = true)) (fun i => n - (intOf i).toNat)
    case atStart => exact ⟨0, rfl, Nat.zero_le _, rfl⟩
    case round =>
      obtain ⟨k, rfl, hk, HT⟩ := hrel
      by_cases hlt : k < n
      · obtain ⟨ba, oa, rfl, hca⟩ := ha (by omega)
        have ca := hca k hlt
        clear ha hca
        by_cases h0 : l.getD k 0 < 0
        · have HS : Hid (fault l = 32) := by show _ = _; rw [HQ.out, okL_no (k := k) (by have := HN.out; omega) (by omega)]; rfl
          clear HQ
          generalize l.getD k 0 = c at *
          go_wp2
          go_ret
          exact ⟨by rw [HS.out]; rfl, rfl⟩
        · by_cases h1 : 1048576 < l.getD k 0
          · have HS : Hid (fault l = 32) := by show _ = _; rw [HQ.out, okL_no (k := k) (by have := HN.out; omega) (by omega)]; rfl
            clear HQ
            generalize l.getD k 0 = c at *
            go_wp2
            go_ret
            exact ⟨by rw [HS.out]; rfl, rfl⟩
          · have HT' : Hid (okL (l.take (k + 1)) = true) := okL_step (by have := HN.out; omega) HT.out (by omega)
            generalize l.getD k 0 = c at *
            go_wp2
            go_round
            case rel => exact ⟨k + 1, by go_num, by omega, HT'⟩
            case measure => simp [intOf]; omega
      · have HS : Hid (fault l = 0) := by show _ = _; have := HT.out; rw [List.take_of_length_le (by have := HN.out; omega)] at this; rw [HQ.out, this]; rfl
        go_wp2
        go_ret
        exact ⟨by rw [HS.out]; rfl, rfl⟩

end Go.Proofs.YtdokagebfeejbaaGreatDoor
/- A row of bytes of our own, at its block. -/
namespace Go.Proofs.YtdokagebfeejbaaGreatDoor
open Go.RowKit Go.Wire1

theorem own_below {w w' : World} {B : Nat} {e : TypeId} {s : Nat} {v : Value} {n : Nat} {xs : List Value} {C : Nat} (h : w.ownsRow B e s v n xs) (hb : Below C w w') (hC : w.heap.size ≤ C) : w'.ownsRow B e s v n xs := by
  refine ⟨h.1, ?_⟩
  rcases h.2 with h2 | ⟨g, cap, cur, rfl, hB, hh, r⟩
  · exact .inl h2
  · exact .inr ⟨g, cap, cur, rfl, hB, by rw [hb.block g (by have := (Array.getElem?_eq_some_iff.1 hh).1; omega)]; exact hh, r⟩

/-- A row of bytes of our own, at its block. -/
def Mine (w : World) (B g N cap : Nat) (L : List Int) : Prop := w.ownsRow B 5 1 (.slice (some ⟨g, 0, none⟩) N cap) N (L.map (Value.int .u8)) ∧ L.length = N ∧ N ≤ cap ∧ cap ≤ maxLen ∧ B ≤ g

theorem mine_of {w : World} {B : Nat} {v : Value} {L : List Int} (h : w.ownsRow B 5 1 v L.length (L.map (Value.int .u8))) (hl : 0 < L.length) : ∃ g cap, v = .slice (some ⟨g, 0, none⟩) L.length cap ∧ Mine w B g L.length cap L := by
  rcases h.2 with ⟨_, h2⟩ | ⟨g, cap, cur, rfl, hB, hh, h3, h4, h5, h6⟩
  · omega
  · exact ⟨g, cap, rfl, h, rfl, h3, h4, hB⟩
theorem Mine.below {w w' : World} {B g N cap C : Nat} {L : List Int} (h : Mine w B g N cap L) (hb : Below C w w') (hC : w.heap.size ≤ C) : Mine w' B g N cap L := ⟨own_below h.1 hb hC, h.2⟩
theorem Mine.drewN {w : World} {B g N cap : Nat} {L : List Int} (h : Mine w B g N cap L) (q : Nat) : Mine (w.drewN q) B g N cap L := h
theorem Mine.seg {w : World} {B g N cap : Nat} {L : List Int} (h : Mine w B g N cap L) : Seg w (some ⟨g, 0, none⟩) N L := by
  obtain ⟨h1, rfl, h3, h4, _⟩ := h
  refine ⟨rfl, by omega, fun _ => ⟨g, 0, rfl, fun j hj => ?_⟩⟩
  rw [Nat.zero_add, h1.cellAt j (by omega)]
  simp [List.getElem?_eq_getElem hj]
theorem Mine.store {w : World} {B g N cap : Nat} {L : List Int} (h : Mine w B g N cap L) (k : Nat) (z : Int) : Mine (w.setCell ⟨g, k, none⟩ (.int .u8 z)) B g N cap (L.set k z) := by
  obtain ⟨h1, h2, h3⟩ := h
  exact ⟨by rw [List.map_set]; exact (h1.stored k _).1, by rw [List.length_set]; exact h2, h3⟩
end Go.Proofs.YtdokagebfeejbaaGreatDoor
