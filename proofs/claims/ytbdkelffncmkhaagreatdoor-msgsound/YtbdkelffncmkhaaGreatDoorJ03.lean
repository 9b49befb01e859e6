/- Texts of the proof, joined. -/
import Derived.Test.YtbdkelffncmkhaaGreatDoorJ02
import Derived.Defers
import Derived.Recover
import Derived.RegionTactic
import Derived.ChangeAlike
import Derived.Test.YtbdkelffncmkhaaGreatDoorJ01
/- The contract of errnoOf at the five sentinels: each has its own number, 11 to 15. -/
namespace Go.Proofs.YtbdkelffncmkhaaGreatDoor
open Go.RowKit Go.Wire1 Go.Stop

theorem isError (v : Value) (xT : TypeId) (w : World) : (Instr.typeAssert (.iface 189 v) xT 154 true).run Tryz.prog w = .ok (.tuple #[.iface 189 v, .bool true]) w := run_typeAssert_hasB Tryz.underlying154 (by kernel_rfl) v xT w

set_option maxHeartbeats 1000000 in
set_option maxRecDepth 100000 in
theorem errno_any (i : Nat) (hi : i < 5) (a : Nat → Addr) (w : World) (he : Errs w a) :
    Calls Tryz.prog 73 #[errV (a i)] w fun e w' => e = .returned (.int .i64 (11 + (i : Int))) ∧ w' = w := by
  have hE := isError
  obtain ⟨s0, s1, s2, s3, s4, hb, hne⟩ := he
  have no : ∀ j, j < 5 → j ≠ i → Calls Tryz.prog 86 #[errV (a i), errV (a j)] w fun e w' => e = .returned (.bool false) ∧ w' = w := fun j hj hji => by
    obtain ⟨c, t, h1⟩ := hb i hi
    obtain ⟨c', t', h2⟩ := hb j hj
    exact is_other (a i) (a j) c c' t t' w (hne i j hi hj (fun e => hji e.symm)) h1 h2
  have NO : Hid (∀ j, j < 5 → j ≠ i → Calls Tryz.prog 86 #[errV (a i), errV (a j)] w fun e w' => e = .returned (.bool false) ∧ w' = w) := no
  clear no hb hne
  rcases (by omega : i = 0 ∨ i = 1 ∨ i = 2 ∨ i = 3 ∨ i = 4) with rfl | rfl | rfl | rfl | rfl
  · go_enter Tryz.func73, Tryz.ntmps73
    go_wp2_with fail
    refine (is_same (a 0) _).mono ?_
    rintro e w1 ⟨rfl, rfl⟩
    go_wp2
    go_ret
    exact ⟨rfl, rfl⟩
  · go_enter Tryz.func73, Tryz.ntmps73
    go_wp2_with fail
    refine (NO.out 0 (by decide) (by decide)).mono ?_
    rintro e w1 ⟨rfl, rfl⟩
    go_wp2_with fail
    refine (is_same (a 1) _).mono ?_
    rintro e w1 ⟨rfl, rfl⟩
    go_wp2
    go_ret
    exact ⟨rfl, rfl⟩
  · go_enter Tryz.func73, Tryz.ntmps73
    go_wp2_with fail
    refine (NO.out 0 (by decide) (by decide)).mono ?_
    rintro e w1 ⟨rfl, rfl⟩
    go_wp2_with fail
    refine (NO.out 1 (by decide) (by decide)).mono ?_
    rintro e w1 ⟨rfl, rfl⟩
    go_wp2_with fail
    refine (is_same (a 2) _).mono ?_
    rintro e w1 ⟨rfl, rfl⟩
    go_wp2
    go_ret
    exact ⟨rfl, rfl⟩
  · go_enter Tryz.func73, Tryz.ntmps73
    go_wp2_with fail
    refine (NO.out 0 (by decide) (by decide)).mono ?_
    rintro e w1 ⟨rfl, rfl⟩
    go_wp2_with fail
    refine (NO.out 1 (by decide) (by decide)).mono ?_
    rintro e w1 ⟨rfl, rfl⟩
    go_wp2_with fail
    refine (NO.out 2 (by decide) (by decide)).mono ?_
    rintro e w1 ⟨rfl, rfl⟩
    go_wp2_with fail
    refine (is_same (a 3) _).mono ?_
    rintro e w1 ⟨rfl, rfl⟩
    go_wp2
    go_ret
    exact ⟨rfl, rfl⟩
  · go_enter Tryz.func73, Tryz.ntmps73
    go_wp2_with fail
    refine (NO.out 0 (by decide) (by decide)).mono ?_
    rintro e w1 ⟨rfl, rfl⟩
    go_wp2_with fail
    refine (NO.out 1 (by decide) (by decide)).mono ?_
    rintro e w1 ⟨rfl, rfl⟩
    go_wp2_with fail
    refine (NO.out 2 (by decide) (by decide)).mono ?_
    rintro e w1 ⟨rfl, rfl⟩
    go_wp2_with fail
    refine (NO.out 3 (by decide) (by decide)).mono ?_
    rintro e w1 ⟨rfl, rfl⟩
    go_wp2_with fail
    refine (is_same (a 4) _).mono ?_
    rintro e w1 ⟨rfl, rfl⟩
    go_wp2
    go_ret
    exact ⟨rfl, rfl⟩
end Go.Proofs.YtbdkelffncmkhaaGreatDoor
/- The contract of GetUint: the number, its bytes, the fault's number; it writes nothing that was there. -/
namespace Go.Proofs.YtbdkelffncmkhaaGreatDoor
open Go.RowKit Go.Wire1

set_option maxHeartbeats 1000000 in
set_option maxRecDepth 100000 in
/-- The deferred closure of GetUint in a frame that panics with a sentinel. -/
theorem catchU (b b1 b2 : Nat) (n1 : ¬ b = b1) (n2 : ¬ b = b2) (n3 : ¬ b1 = b2) (i : Nat) (hi : i < 5) (a : Nat → Addr) (w : World) (he : Errs w a) (x k e : Int)
    (hx : w.cell? ⟨b, 0, none⟩ = some (.int .u64 x)) (hk : w.cell? ⟨b1, 0, none⟩ = some (.int .i64 k)) (hee : w.cell? ⟨b2, 0, none⟩ = some (.int .i64 e))
    (fx : w.frozen? ⟨b, 0, none⟩ = false) (fk : w.frozen? ⟨b1, 0, none⟩ = false) (fe : w.frozen? ⟨b2, 0, none⟩ = false) :
    CallsD Tryz.prog 72 #[.pointer (some ⟨b, 0, none⟩), .pointer (some ⟨b1, 0, none⟩), .pointer (some ⟨b2, 0, none⟩)] (.panicking [{ v := errV (a i), recovered := false }]) w fun e u' w' =>
      e = .returned (.tuple #[]) ∧ u' = .panicking [{ v := errV (a i), recovered := true }] ∧ w' = ((w.setCell ⟨b, 0, none⟩ (.int .u64 0)).setCell ⟨b1, 0, none⟩ (.int .i64 0)).setCell ⟨b2, 0, none⟩ (.int .i64 (11 + (i : Int))) := by
  refine callsD_of_wpS Tryz.func72 rfl fun c₀ cs hu => ?_
  apply wpS_seq
  apply wpS_region
  simp [wpOpsS, go_sem, recoverD, hu, Tryz.ntmps72, Exit.thenS]
  refine wpS_of_wp ?_
  go_wp2_with fail
  refine (errno_any i hi a _ he).mono ?_
  rintro e w1 ⟨rfl, rfl⟩
  go_wp2
  simp [bodyPostS, results, Tryz.results72]

set_option maxHeartbeats 1000000 in
set_option maxRecDepth 100000 in
theorem catchU_idle (b b1 b2 : Nat) (w : World) :
    CallsD Tryz.prog 72 #[.pointer (some ⟨b, 0, none⟩), .pointer (some ⟨b1, 0, none⟩), .pointer (some ⟨b2, 0, none⟩)] .returning w fun e u' w' => e = .returned (.tuple #[]) ∧ u' = .returning ∧ w' = w := by
  refine callsD_of_wpS Tryz.func72 rfl fun c₀ cs hu => ?_
  apply wpS_seq
  apply wpS_region
  simp [wpOpsS, go_sem, recoverD, hu, Tryz.ntmps72, Exit.thenS]
  refine wpS_of_wp ?_
  go_wp2
  cases c₀
  simp_all [bodyPostS, results, Tryz.results72]

theorem new4 (w : World) (v0 v1 v2 : Value) (t0 t1 t2 t3 : TypeId) (sa : Option Addr) (n cap : Nat) :
    Cur ((((w.alloc (.cells #[v0] t0)).alloc (.cells #[v1] t1)).alloc (.cells #[v2] t2)).alloc (.cells #[.slice sa n cap, .int .i64 0] t3)) (w.heap.size + 1 + 1 + 1) 0 sa n cap 0 ∧
    Below w.heap.size w ((((w.alloc (.cells #[v0] t0)).alloc (.cells #[v1] t1)).alloc (.cells #[v2] t2)).alloc (.cells #[.slice sa n cap, .int .i64 0] t3)) ∧
    ((((w.alloc (.cells #[v0] t0)).alloc (.cells #[v1] t1)).alloc (.cells #[v2] t2)).alloc (.cells #[.slice sa n cap, .int .i64 0] t3)).cell? ⟨w.heap.size, 0, none⟩ = some v0 ∧
    ((((w.alloc (.cells #[v0] t0)).alloc (.cells #[v1] t1)).alloc (.cells #[v2] t2)).alloc (.cells #[.slice sa n cap, .int .i64 0] t3)).cell? ⟨w.heap.size + 1, 0, none⟩ = some v1 ∧
    ((((w.alloc (.cells #[v0] t0)).alloc (.cells #[v1] t1)).alloc (.cells #[v2] t2)).alloc (.cells #[.slice sa n cap, .int .i64 0] t3)).cell? ⟨w.heap.size + 1 + 1, 0, none⟩ = some v2 ∧
    ((((w.alloc (.cells #[v0] t0)).alloc (.cells #[v1] t1)).alloc (.cells #[v2] t2)).alloc (.cells #[.slice sa n cap, .int .i64 0] t3)).frozen? ⟨w.heap.size, 0, none⟩ = false ∧
    ((((w.alloc (.cells #[v0] t0)).alloc (.cells #[v1] t1)).alloc (.cells #[v2] t2)).alloc (.cells #[.slice sa n cap, .int .i64 0] t3)).frozen? ⟨w.heap.size + 1, 0, none⟩ = false ∧
    ((((w.alloc (.cells #[v0] t0)).alloc (.cells #[v1] t1)).alloc (.cells #[v2] t2)).alloc (.cells #[.slice sa n cap, .int .i64 0] t3)).frozen? ⟨w.heap.size + 1 + 1, 0, none⟩ = false := by
  refine ⟨⟨?_, ?_, ?_⟩, ?_, ?_, ?_, ?_, ?_, ?_, ?_⟩
  · rw [World.cell?_alloc_at _ _ _ _ (by simp)]; rfl
  · rw [World.cell?_alloc_at _ _ _ _ (by simp)]; rfl
  · exact World.frozen?_alloc_at _ _ _ _ (by simp)
  · exact ((((Below.refl _ _).alloc (Nat.le_refl _) _).alloc (by simp) _).alloc (by simp; omega) _).alloc (by simp; omega) _
  · rw [World.cell?_alloc_past _ _ _ (by simp; omega), World.cell?_alloc_past _ _ _ (by simp; omega), World.cell?_alloc_past _ _ _ (by simp), World.cell?_alloc_at _ _ _ _ rfl]; rfl
  · rw [World.cell?_alloc_past _ _ _ (by simp), World.cell?_alloc_past _ _ _ (by simp), World.cell?_alloc_at _ _ _ _ (by simp)]; rfl
  · rw [World.cell?_alloc_past _ _ _ (by simp), World.cell?_alloc_at _ _ _ _ (by simp)]; rfl
  · rw [World.frozen?_alloc_past _ _ _ (by simp; omega), World.frozen?_alloc_past _ _ _ (by simp; omega), World.frozen?_alloc_past _ _ _ (by simp)]; exact World.frozen?_alloc_at _ _ _ _ rfl
  · rw [World.frozen?_alloc_past _ _ _ (by simp), World.frozen?_alloc_past _ _ _ (by simp)]; exact World.frozen?_alloc_at _ _ _ _ (by simp)
  · rw [World.frozen?_alloc_past _ _ _ (by simp)]; exact World.frozen?_alloc_at _ _ _ _ (by simp)

/-- What GetUint answers. -/
def GotU (r : Except Nat (Nat × Nat)) (e : Ending) : Prop :=
  match r with
  | .ok (x, m) => e = .returned (.tuple #[.int .u64 (x : Int), .int .i64 (m : Int), .int .i64 0])
  | .error i => e = .returned (.tuple #[.int .u64 0, .int .i64 0, .int .i64 (11 + (i : Int))])

set_option maxHeartbeats 1000000 in
set_option maxRecDepth 100000 in
theorem getUint_any (n cap : Nat) (sa : Option Addr) (l : List Int) (a : Nat → Addr) (w : World) (hs : Seg w sa n l) (hy : Byt l) (he : Errs w a) :
    Calls Tryz.prog 66 #[.slice sa n cap] w fun e w' => Below w.heap.size w w' ∧ GotU (dec l) e := by
  have hmf : ∀ (fn : Fn) (first cap : Array Value) (w : World), (Instr.makeFunc fn first cap).run Tryz.prog w = .ok (.func fn first cap) w := fun _ _ _ _ => rfl
  have hW := new4 w (.int .u64 0) (.int .i64 0) (.int .i64 0) 112 3 33 138 sa n cap
  obtain ⟨hcur, hbel, hx0, hk0, he0, fx0, fk0, fe0⟩ := hW
  have hs3 := hs.below hbel (Nat.le_refl _)
  have he3 := he.below hbel (Nat.le_refl _)
  have h5 : 7 ≤ w.heap.size := he.five
  have hsep : ∀ x, sa = some x → 0 < n → x.block ≠ w.heap.size + 1 + 1 + 1 := fun x hx hn => by
    have := hs.lt hn hx; omega
  have hab : ∀ i, i < 5 → (a i).block ≠ w.heap.size + 1 + 1 + 1 := fun i hi => by have := he.lt i hi; omega
  have HC := hide (number_any (w.heap.size + 1 + 1 + 1) 0 n cap sa l 0 a _ hcur hs3 hsep hy (Nat.zero_le _) he3 (by omega) hab)
  clear hs3 he3 hsep hcur
  go_enter_defers Tryz.func66, Tryz.ntmps66
  go_wp2_with fail
  refine (unhide HC).mono ?_
  rintro e w1 ⟨ho, k', hc1, hk', hout⟩
  have hx1 := (World.cell?_of_block (a := ⟨w.heap.size, 0, none⟩) (ho.block w.heap.size (by omega))).trans hx0
  have hk1 := (World.cell?_of_block (a := ⟨w.heap.size + 1, 0, none⟩) (ho.block (w.heap.size + 1) (by omega))).trans hk0
  have he1 := (World.cell?_of_block (a := ⟨w.heap.size + 1 + 1, 0, none⟩) (ho.block (w.heap.size + 1 + 1) (by omega))).trans he0
  have fx1 := (World.frozen?_of_block (a := ⟨w.heap.size, 0, none⟩) (ho.block w.heap.size (by omega))).trans fx0
  have fk1 := (World.frozen?_of_block (a := ⟨w.heap.size + 1, 0, none⟩) (ho.block (w.heap.size + 1) (by omega))).trans fk0
  have fe1 := (World.frozen?_of_block (a := ⟨w.heap.size + 1 + 1, 0, none⟩) (ho.block (w.heap.size + 1 + 1) (by omega))).trans fe0
  have HB : Hid (Below w.heap.size w w1) := hbel.trans (ho.below (by omega))
  have HE : Hid (Errs w1 a) := (he.below hbel (Nat.le_refl _)).only ho (by omega) hab
  have hat : w1.cell? ⟨w.heap.size + 1 + 1 + 1, 1, none⟩ = some (.int .i64 (k' : Int)) := hc1.2.1
  clear hx0 hk0 he0 fx0 fk0 fe0 ho hc1 hbel HC hs he h5 hab
  rw [List.drop_zero] at hout
  generalize hB1 : w.heap.size + 1 = B1 at *
  generalize hB2 : B1 + 1 = B2 at *
  generalize hB3 : B2 + 1 = B3 at *
  generalize hB0 : w.heap.size = B0 at *
  have n1 : ¬ B0 = B1 := by omega
  have n2 : ¬ B0 = B2 := by omega
  have n3 : ¬ B1 = B2 := by omega
  have n4 : ¬ B3 = B0 := by omega
  have n5 : ¬ B3 = B1 := by omega
  have n6 : ¬ B3 = B2 := by omega
  have m1 : ¬ B1 = B0 := by omega
  have m2 : ¬ B2 = B0 := by omega
  have m3 : ¬ B2 = B1 := by omega
  have HL : Hid (B0 ≤ B1 ∧ B0 ≤ B2) := ⟨by omega, by omega⟩
  have HZ : Hid (w.heap.size = B0) := hB0
  clear hB1 hB2 hB3 hB0
  cases hd : dec l with
  | error i =>
    rw [hd] at hout
    obtain rfl : e = _ := hout
    have hi := dec_err hd
    have HD : Hid (dec l = .error i) := hd
    clear hd
    go_wp2
    refine leaves_cons (f := 72) (args := #[.pointer (some ⟨B0, 0, none⟩), .pointer (some ⟨B1, 0, none⟩), .pointer (some ⟨B2, 0, none⟩)]) (by simp) (by simp [go_sem]) ?_
    refine (catchU B0 B1 B2 n1 n2 n3 i (by omega) a w1 HE.out 0 0 0 hx1 hk1 he1 fx1 fk1 fe1).mono ?_
    rintro e u' w'' ⟨rfl, rfl, rfl⟩
    simp [Leaves, settle, results, Tryz.results66, go_sem, hx1, hk1, he1]
    rw [HZ.out, HD.out]
    exact ⟨((HB.out.setCell (p := ⟨B0, 0, none⟩) (Nat.le_refl _) _).setCell (p := ⟨B1, 0, none⟩) HL.out.1 _).setCell (p := ⟨B2, 0, none⟩) HL.out.2 _, rfl⟩
  | ok p =>
    obtain ⟨x, m⟩ := p
    rw [hd] at hout
    obtain ⟨rfl, hkk⟩ := hout
    obtain rfl : k' = m := by omega
    have HD : Hid (dec l = .ok (x, k')) := hd
    clear hd hkk
    go_wp2
    go_region
    all_goals (try go_wp2)
    all_goals refine leaves_cons (f := 72) (args := #[.pointer (some ⟨B0, 0, none⟩), .pointer (some ⟨B1, 0, none⟩), .pointer (some ⟨B2, 0, none⟩)]) (by simp) (by simp [go_sem]) ?_
    all_goals refine (catchU_idle B0 B1 B2 _).mono ?_
    all_goals rintro e u' w'' ⟨rfl, rfl, rfl⟩
    all_goals simp [Leaves, settle, results, Tryz.results66, go_sem, hx1, hk1, he1]
    all_goals rw [HZ.out, HD.out]
    all_goals exact ⟨((((HB.out.setCell (p := ⟨B0, 0, none⟩) (Nat.le_refl _) _).setCell (p := ⟨B0, 0, none⟩) (Nat.le_refl _) _).setCell (p := ⟨B1, 0, none⟩) HL.out.1 _).setCell (p := ⟨B2, 0, none⟩) HL.out.2 _).drew, rfl⟩
end Go.Proofs.YtbdkelffncmkhaaGreatDoor
/- The plain mathematics of vectors: lists of ints in memory, what is amiss with one, and what joins them; nothing of the program is named here. -/
namespace Go.Wire1
open Go.RowKit

/-- A list of ints in memory. -/
def SegI (w : World) (a : Option Addr) (n : Nat) (l : List Int) : Prop :=
  l.length = n ∧ n ≤ maxLen ∧ (0 < n → ∃ b off, a = some ⟨b, off, none⟩ ∧ ∀ j, j < n → w.cell? ⟨b, off + j, none⟩ = some (.int .i64 (l.getD j 0))) ∧ ∀ j, -9223372036854775808 ≤ l.getD j 0 ∧ l.getD j 0 ≤ 9223372036854775807
theorem SegI.below {w w' : World} {a : Option Addr} {n B : Nat} {l : List Int} (h : SegI w a n l) (hb : Below B w w') (hB : w.heap.size ≤ B) : SegI w' a n l := by
  obtain ⟨h1, h2, h3, h4⟩ := h
  refine ⟨h1, h2, fun hn => ?_, h4⟩
  obtain ⟨b, off, e, hc⟩ := h3 hn
  exact ⟨b, off, e, fun j hj => by
    have h := hc j hj
    rw [hb.cell (p := ⟨b, off + j, none⟩) (by have := cell_lt h; show b < B; omega)]; exact h⟩
theorem SegI.drewN {w : World} {a : Option Addr} {n : Nat} {l : List Int} (h : SegI w a n l) (q : Nat) : SegI (w.drewN q) a n l := h

/-- Is it an entry of a vector? -/
def okE (x : Int) : Bool := decide (0 ≤ x ∧ x ≤ 1048576)
def okL (l : List Int) : Bool := l.all okE
def okW (n : Nat) : Bool := decide (1 ≤ n ∧ n ≤ 7)
/-- What is amiss with a list: the error's number. -/
def fault (l : List Int) : Nat := if okW l.length = true then (if okL l = true then 0 else 32) else 31
def isVec (l : List Int) : Bool := okW l.length && okL l

theorem okL_at {l : List Int} (h : okL l = true) (k : Nat) : 0 ≤ l.getD k 0 ∧ l.getD k 0 ≤ 1048576 := by
  by_cases hk : k < l.length
  · have := List.all_eq_true.1 h (l.getD k 0) (by rw [List.getD, List.getElem?_eq_getElem hk]; exact List.getElem_mem hk)
    simpa only [okE, decide_eq_true_eq] using this
  · rw [List.getD, List.getElem?_eq_none (by omega)]; simp

/-- A list in memory, as a slice has it. -/
structure LI where
  a : Option Addr
  n : Nat
  cap : Nat
  l : List Int
def liZ : LI := ⟨none, 0, 0, []⟩
def liv (s : LI) : Value := .slice s.a s.n s.cap
/-- A list of lists of ints in memory. -/
def SegL (w : World) (a : Option Addr) (n : Nat) (ls : List LI) : Prop :=
  ls.length = n ∧ n ≤ maxLen ∧ (0 < n → ∃ b off, a = some ⟨b, off, none⟩ ∧ ∀ i, i < n → w.cell? ⟨b, off + i, none⟩ = some (.slice (ls.getD i liZ).a (ls.getD i liZ).n (ls.getD i liZ).cap)) ∧ ∀ i, i < n → SegI w (ls.getD i liZ).a (ls.getD i liZ).n (ls.getD i liZ).l
theorem SegL.below {w w' : World} {a : Option Addr} {n B : Nat} {l : List LI} (h : SegL w a n l) (hb : Below B w w') (hB : w.heap.size ≤ B) : SegL w' a n l := by
  refine ⟨h.1, h.2.1, fun hn => ?_, fun i hi => (h.2.2.2 i hi).below hb hB⟩
  obtain ⟨b, off, rfl, hc⟩ := h.2.2.1 hn
  refine ⟨b, off, rfl, fun i hi => ?_⟩
  have hv := hc i hi
  rw [hb.cell (p := ⟨b, off + i, none⟩) (by have := cell_lt hv; show b < B; omega)]; exact hv
theorem SegL.drewN {w : World} {a : Option Addr} {n : Nat} {l : List LI} (h : SegL w a n l) (q : Nat) : SegL (w.drewN q) a n l := h

/-- The lists themselves. -/
def lsOf (ls : List LI) : List (List Int) := ls.map (·.l)
theorem lsOf_getD (ls : List LI) (i : Nat) : (lsOf ls).getD i [] = (ls.getD i liZ).l := by
  by_cases h : i < ls.length
  · simp [lsOf, h]
  · simp [lsOf, liZ, List.getElem?_eq_none (by omega : ls.length ≤ i)]
theorem SegL.len {w : World} {a : Option Addr} {n : Nat} {ls : List LI} (h : SegL w a n ls) {i : Nat} (hi : i < n) : (ls.getD i liZ).n = ((lsOf ls).getD i []).length := by
  rw [lsOf_getD]; exact (h.2.2.2 i hi).1.symm

theorem SegL.at {w : World} {b off : Nat} {n : Nat} {ls : List LI} (h : SegL w (some ⟨b, off, none⟩) n ls) {i : Nat} (hi : i < n) :
    ∃ ai ni ci, w.cell? ⟨b, off + i, none⟩ = some (.slice ai ni ci) ∧ SegI w ai ni ((lsOf ls).getD i []) := by
  obtain ⟨b', off', e, hc⟩ := h.2.2.1 (by omega)
  injection e with e
  injection e with e1 e2
  subst e1 e2
  exact ⟨_, _, _, hc i hi, by rw [lsOf_getD]; exact h.2.2.2 i hi⟩

/-- Lists, all of one length that a vector may have. -/
def alikeB (L : List (List Int)) : Bool := decide (0 < L.length) && (okW (L.getD 0 []).length && L.all fun l => decide (l.length = (L.getD 0 []).length))
/-- The greatest entry at a place, of lists that have one. -/
def maxAt (L : List (List Int)) (q : Nat) : Int := L.foldl (fun k l => if q < l.length ∧ k < l.getD q 0 then l.getD q 0 else k) 0
def rowOf (n : Nat) (g : Nat → Int) : List Int := (List.range n).map g
def unionL (L : List (List Int)) : List Int := if alikeB L = true ∧ L.all okL = true then rowOf (L.getD 0 []).length (maxAt L) else []
def unionE (L : List (List Int)) : Nat := if alikeB L = true then (if L.all okL = true then 0 else 32) else 31

theorem take_snoc {α : Type} {L : List α} {k : Nat} (d : α) (h : k < L.length) : L.take (k + 1) = L.take k ++ [L.getD k d] := by
  rw [List.take_succ_eq_append_getElem h]; simp [List.getElem?_eq_getElem h]
theorem all_getD {L : List (List Int)} {p : List Int → Bool} (h : L.all p = true) {i : Nat} (hi : i < L.length) : p (L.getD i []) = true := by
  rw [List.getD, List.getElem?_eq_getElem hi]
  exact List.all_eq_true.1 h _ (List.getElem_mem hi)
theorem all_no {L : List (List Int)} {p : List Int → Bool} {i : Nat} (hi : i < L.length) (h : p (L.getD i []) = false) : L.all p = false := by
  rw [Bool.eq_false_iff]
  intro e
  rw [all_getD e hi] at h
  cases h
theorem all_step {L : List (List Int)} {p : List Int → Bool} {k : Nat} (hk : k < L.length) (h1 : (L.take k).all p = true) (h2 : p (L.getD k []) = true) : (L.take (k + 1)).all p = true := by
  rw [take_snoc [] hk, List.all_append, h1]
  simpa using h2
end Go.Wire1
/- The plain mathematics of a vector's two layouts; nothing of the program is named here. -/
namespace Go.Wire1
open Go.RowKit

/-- The entry ahead of a place, 0 at the first. -/
def prev (l : List Int) (i : Nat) : Int := if i = 0 then 0 else l.getD (i - 1) 0
/-- Version 1, as far as k entries. -/
def plainK (l : List Int) : Nat → List Int
  | 0 => []
  | k + 1 => plainK l k ++ enc (l.getD k 0).toNat
/-- Version 2: the mask's first k bits, and their differences. -/
def maskK (l : List Int) : Nat → Nat
  | 0 => 0
  | k + 1 => maskK l k + if l.getD k 0 = prev l k then 0 else 2 ^ k
def diffK (l : List Int) : Nat → List Int
  | 0 => []
  | k + 1 => diffK l k ++ if l.getD k 0 = prev l k then [] else enc (zig (l.getD k 0 - prev l k))
def tight (l : List Int) : List Int := enc (maskK l l.length) ++ diffK l l.length
def packL (v : Int) (l : List Int) : List Int := if v = 1 then plainK l l.length else tight l
def packE (v : Int) (l : List Int) : Nat := if v = 1 ∨ v = 2 then fault l else 2
def packR (v : Int) (l : List Int) : List Int := if packE v l = 0 then packL v l else []

theorem prev_succ (l : List Int) (k : Nat) : prev l (k + 1) = l.getD k 0 := by simp [prev]
theorem prev_ok {l : List Int} (h : okL l = true) (k : Nat) : 0 ≤ prev l k ∧ prev l k ≤ 1048576 := by
  unfold prev; split
  · omega
  · exact okL_at h _
theorem maskK_lt (l : List Int) (k : Nat) : maskK l k < 2 ^ k := by
  induction k with
  | zero => simp [maskK]
  | succ k ih => simp only [maskK, Nat.pow_succ]; split <;> omega
theorem maskK_same {l : List Int} {k : Nat} (h : l.getD k 0 = prev l k) : maskK l (k + 1) = maskK l k ∧ diffK l (k + 1) = diffK l k := by
  simp only [maskK, diffK, if_pos h, Nat.add_zero, List.append_nil, and_self]
theorem maskK_diff {l : List Int} {k : Nat} (h : ¬ l.getD k 0 = prev l k) : maskK l (k + 1) = maskK l k + 2 ^ k ∧ diffK l (k + 1) = diffK l k ++ enc (zig (l.getD k 0 - prev l k)) := by
  simp only [maskK, diffK, if_neg h, and_self]
theorem pow7 {k : Nat} (h : k ≤ 7) : 2 ^ k ≤ 128 := by
  have : (2 : Nat) ^ 7 = 128 := rfl
  rw [← this]; exact Nat.pow_le_pow_right (by decide) h
theorem plainK_len {l : List Int} (h : okL l = true) (k : Nat) : k ≤ (plainK l k).length ∧ (plainK l k).length ≤ 10 * k := by
  induction k with
  | zero => simp [plainK]
  | succ k ih =>
    have h1 := okL_at h k
    have := enc_le (l.getD k 0).toNat (by omega)
    simp only [plainK, List.length_append]; omega
theorem zig_of {x : Int} (h : -1048576 ≤ x ∧ x ≤ 1048576) : zig x ≤ 2097152 := by unfold zig; split <;> omega
/-- How many places differ from the one before, of the first k. -/
def turnsK (l : List Int) : Nat → Nat
  | 0 => 0
  | k + 1 => turnsK l k + if l.getD k 0 = prev l k then 0 else 1
theorem turnsK_le (l : List Int) (k : Nat) : turnsK l k ≤ k := by
  induction k with
  | zero => simp [turnsK]
  | succ k ih => simp only [turnsK]; split <;> omega
theorem enc4 {x : Nat} (h : x ≤ 2097152) : 1 ≤ (enc x).length ∧ (enc x).length ≤ 4 := by
  rw [enc_len x (by omega)]
  have e : x / 128 / 128 / 128 / 128 = 0 := by omega
  have c : ∀ f z, cnt (f + 1) z ≤ 1 + cnt f (z / 128) := fun f z => by simp only [cnt]; split <;> omega
  have h1 : cnt 9 (x / 128) ≤ _ := c 8 (x / 128)
  have h2 : cnt 8 (x / 128 / 128) ≤ _ := c 7 (x / 128 / 128)
  have h3 : cnt 7 (x / 128 / 128 / 128) ≤ _ := c 6 (x / 128 / 128 / 128)
  rw [e, cnt_zero] at h3
  omega
theorem enc1 {x : Nat} (h : x < 128) : enc x = [(x : Int)] := encF_small 9 x h
theorem diffK_len {l : List Int} (h : okL l = true) (k : Nat) : turnsK l k ≤ (diffK l k).length ∧ (diffK l k).length ≤ 4 * turnsK l k := by
  induction k with
  | zero => simp [turnsK, diffK]
  | succ k ih =>
    have h1 := okL_at h k
    have h2 := prev_ok h k
    have h3 := enc4 (zig_of (x := l.getD k 0 - prev l k) (by omega))
    simp only [turnsK, diffK]
    split
    · simpa using ih
    · rw [List.length_append]; omega
theorem diffK_le {l : List Int} (h : okL l = true) (k : Nat) : (diffK l k).length ≤ 4 * k := by
  have := diffK_len h k
  have := turnsK_le l k
  omega
theorem tight_len {l : List Int} (h : isVec l = true) : (tight l).length = 1 + (diffK l l.length).length := by
  have h7 : l.length ≤ 7 := by unfold isVec at h; simp only [Bool.and_eq_true] at h; exact (of_decide_eq_true h.1).2
  have := maskK_lt l l.length
  have := pow7 h7
  unfold tight
  rw [List.length_append, enc1 (by omega)]
  rfl
end Go.Wire1
