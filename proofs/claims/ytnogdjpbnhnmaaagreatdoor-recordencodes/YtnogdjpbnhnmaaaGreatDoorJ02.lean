/- Texts of the proof, joined. -/
import Derived.Test.YtnogdjpbnhnmaaaGreatDoorJ01
import Derived.Deep.RegionHeld3
import Derived.Deep.MidRow
import Derived.Lib.MinMaxS
import Derived.Laws.Concat
/- A drawn region's steps, each in one row: one that only yields (tk; tq: by a given reason), one that its guard leaves out (tu), the one that is ready (r1). -/
namespace Go
open Go.RowKit

theorem tk {P : Program} {md : Region.Mode} {ops : Array Oper} {Q : Exit → Act → World → Prop} {S : World → Prop} (i : Nat) {oi : Oper} {v : Value} {fuel : Nat} {listed : Array Bool} {a a' : Act} {w : World}
    (h : wpAnyH P md ops Q S fuel (listed.setIfInBounds i true) a' w) (hi : ops[i]? = some oi := by rfl)
    (hs : Region.noSelect ops = true := by kernel_rfl) (hf : Region.free md ops listed i = true := by kernel_rfl) (hr : (Region.ready md ops listed).contains i = true := by kernel_rfl)
    (hw : Region.wanted oi (yielded ops a.tmps) = true := by rfl) (hS : S w := by assumption)
    (hy : ∀ w, S w → (execOp a.eval oi).run P w = .ok (.value v) w := by intro w hSw; try dsimp only at hSw
                                                                         go_simp
                                                                         try with_reducible rfl)
    (hQ : ∀ c a w, Q (.panic c) (a.put oi.dst v) w → Q (.panic c) a w := by exact fun _ _ _ h => h)
    (ha : a.put oi.dst v = a' := by (try simp only [Act.put, List.getElem_toArray, List.getElem_cons_succ, List.getElem_cons_zero, List.setIfInBounds_toArray, List.set_cons_zero, List.set_cons_succ]); rfl) : wpAnyH P md ops Q S (fuel + 1) listed a w := by
  subst ha
  exact wpAnyH_take hi hs hf hr hQ (.inl ⟨hw, hy⟩) hS h
theorem tq {P : Program} {md : Region.Mode} {ops : Array Oper} {Q : Exit → Act → World → Prop} {S : World → Prop} (i : Nat) {oi : Oper} {v : Value} {fuel : Nat} {listed : Array Bool} {a a' : Act} {w : World}
    (hi : ops[i]? = some oi) (hy : YieldsIf P ops S oi v a) (h : wpAnyH P md ops Q S fuel (listed.setIfInBounds i true) a' w)
    (hs : Region.noSelect ops = true := by kernel_rfl) (hf : Region.free md ops listed i = true := by kernel_rfl) (hr : (Region.ready md ops listed).contains i = true := by kernel_rfl)
    (hS : S w := by assumption)
    (hQ : ∀ c a w, Q (.panic c) (a.put oi.dst v) w → Q (.panic c) a w := by exact fun _ _ _ h => h)
    (ha : a.put oi.dst v = a' := by (try simp only [Act.put, List.getElem_toArray, List.getElem_cons_succ, List.getElem_cons_zero, List.setIfInBounds_toArray, List.set_cons_zero, List.set_cons_succ]); rfl) : wpAnyH P md ops Q S (fuel + 1) listed a w := by
  subst ha
  exact wpAnyH_take hi hs hf hr hQ hy hS h
end Go
/- The plain mathematics of texts and ranges of keys: the order of texts, what a command touches, which two conflict; nothing of the program is named here. -/
namespace Go.Wire1
open Go.RowKit Go.Lib

/-- The order of texts. -/
def tlt (x y : ByteArray) : Bool := Op.bytesLess x.toList y.toList
def teq (x y : ByteArray) : Bool := x.toList == y.toList

/-- A range of keys: the first key in it, the first key behind it, may it be written. -/
structure Tch where
  k : ByteArray
  e : ByteArray
  w : Bool

def tzero : ByteArray := ⟨#[0]⟩
def tnext (k : ByteArray) : ByteArray := k ++ tzero
def touchL (kind : Int) (k k2 : ByteArray) : List Tch :=
  if kind = 1 then [⟨k, tnext k, false⟩]
  else if 2 ≤ kind ∧ kind ≤ 5 then [⟨k, tnext k, true⟩]
  else if kind = 6 then [⟨k, tnext k, true⟩, ⟨k2, tnext k2, true⟩]
  else if kind = 7 then [⟨k, tnext k, false⟩, ⟨k2, tnext k2, true⟩]
  else if kind = 8 then (if tlt k k2 then [⟨k, k2, false⟩] else [])
  else []

/-- The program's look: the higher one of the first keys is below the lower one of the ends. -/
def meetB (x y : Tch) : Bool := tlt (maxS x.k y.k) (minS x.e y.e)
def hitB (x y : Tch) : Bool := (x.w || y.w) && meetB x y
def clashB (L M : List Tch) : Bool := L.any fun x => M.any fun y => hitB x y

/-- Does the key lie in the range? -/
def inB (k : ByteArray) (t : Tch) : Bool := (tlt t.k k || teq t.k k) && tlt k t.e

def lastKey (kind : Int) (k k2 : ByteArray) : ByteArray := if kind = 6 ∨ kind = 7 then k2 else k
/-- What the statement's own look over the first keys finds. -/
def inAny (k : ByteArray) (L : List Tch) : Bool := L.any (inB k)
def inWr (k : ByteArray) (L : List Tch) : Bool := L.any fun t => inB k t && t.w
def foundB (L M : List Tch) (keys : List ByteArray) : Bool := keys.any fun k => inAny k L && inAny k M && (inWr k L || inWr k M)
end Go.Wire1
/- The plain mathematics of package command's Check: which fields a kind has, the bounds, the first thing amiss; nothing of the program is named here. -/
namespace Go.Wire1
open Go.RowKit

/-- A command. -/
structure Cm where
  kind : Int
  client : Int
  req : Int
  key : ByteArray
  key2 : ByteArray
  val : ByteArray
  old : ByteArray
  n : Int

/-- The fields of a kind, as bits: 0 Client, 1 Req, 2 Key, 3 Key2, 4 Val, 5 Old, 6 N. -/
def fieldsL : List Nat := [0, 7, 23, 7, 71, 55, 15, 15, 15]
def fromL : List Nat := [1, 1, 1, 1, 1, 1, 2, 2, 2]
def isVer (v : Int) : Bool := (v == 1) || (v == 2)
def isKd (v kind : Int) : Bool := decide (0 ≤ kind) && (decide (kind < 9) && decide ((fromL.getD kind.toNat 0 : Int) ≤ v))
def hasF (kind : Int) (f : Nat) : Bool := (fieldsL.getD kind.toNat 0).testBit f
def bitF (f : Nat) : Int := ((2 ^ f : Nat) : Int)

def zeroF (c : Cm) (f : Nat) : Bool :=
  match f with
  | 0 => c.client == 0
  | 1 => c.req == 0
  | 2 => c.key.toList.isEmpty
  | 3 => c.key2.toList.isEmpty
  | 4 => c.val.toList.isEmpty
  | 5 => c.old.toList.isEmpty
  | _ => c.n == 0
def mostV (v : Int) : Nat := if v = 1 then 1024 else 65536
def isKeyB (k : ByteArray) : Bool := decide (1 ≤ k.size) && decide (k.size ≤ 64)
def isPairB (kind : Int) (k k2 : ByteArray) : Bool := if kind = 8 then tlt k k2 else !(teq k k2)
def allowF (v : Int) (c : Cm) (f : Nat) : Bool :=
  match f with
  | 0 => decide (0 ≤ c.client) && decide (c.client ≤ 65535)
  | 1 => decide (0 ≤ c.req) && decide (c.req ≤ 1073741824)
  | 2 => isKeyB c.key
  | 3 => isKeyB c.key2 && isPairB c.kind c.key c.key2
  | 4 => decide (c.val.size ≤ mostV v)
  | 5 => decide (c.old.size ≤ mostV v)
  | _ => true
def errF (f : Nat) : Nat := if f = 6 then 0 else 42 + f
/-- What is amiss with a field; 0: nothing. -/
def faultF (v : Int) (c : Cm) (f : Nat) : Nat := if hasF c.kind f then (if allowF v c f then 0 else errF f) else (if zeroF c f then 0 else 48)
def firstF (v : Int) (c : Cm) : Nat → Nat → Nat
  | 0, _ => 0
  | k + 1, f => if faultF v c f = 0 then firstF v c k (f + 1) else faultF v c f
def chk (v : Int) (c : Cm) : Nat := if isVer v then (if isKd v c.kind then firstF v c 7 0 else 41) else 2

theorem firstF_next {v : Int} {c : Cm} {f : Nat} (hf : f < 7) (h : firstF v c 7 0 = firstF v c (7 - f) f) (h0 : faultF v c f = 0) : firstF v c 7 0 = firstF v c (7 - (f + 1)) (f + 1) := by
  rw [h, show 7 - f = (7 - (f + 1)) + 1 by omega]
  simp only [firstF, h0, if_true]
theorem firstF_hit {v : Int} {c : Cm} {f : Nat} (hf : f < 7) (h : firstF v c 7 0 = firstF v c (7 - f) f) (h0 : faultF v c f ≠ 0) : firstF v c 7 0 = faultF v c f := by
  rw [h, show 7 - f = (7 - (f + 1)) + 1 by omega]
  simp only [firstF, h0, if_false]
theorem bits_has (F f : Nat) (hF : F < 128) (hf : f < 7) : bits .and .i64 (F : Int) (bitF f) = if F.testBit f then bitF f else 0 := by
  have h : ∀ F : Fin 128, ∀ f : Fin 7, bits .and .i64 (F.val : Int) (bitF f.val) = if F.val.testBit f.val then bitF f.val else 0 := by decide +kernel
  exact h ⟨F, hF⟩ ⟨f, hf⟩
theorem fields_lt (k : Nat) : fieldsL.getD k 0 < 128 := by
  by_cases h : k < 9
  · have : ∀ k : Fin 9, fieldsL.getD k.val 0 < 128 := by decide
    exact this ⟨k, h⟩
  · rw [List.getD, List.getElem?_eq_none (by show 9 ≤ k; omega)]; decide
end Go.Wire1
/- The plain mathematics of vectors: lists of ints in memory, what is amiss with one, and what joins them; nothing of the program is named here. -/
namespace Go.Wire1
open Go.RowKit

/-- A list of ints in memory. -/
def SegI (w : World) (a : Option Addr) (n : Nat) (l : List Int) : Prop :=
  l.length = n ∧ n ≤ maxLen ∧ (0 < n → ∃ b off, a = some ⟨b, off, none⟩ ∧ ∀ j, j < n → w.cell? ⟨b, off + j, none⟩ = some (.int .i64 (l.getD j 0))) ∧ ∀ j, -9223372036854775808 ≤ l.getD j 0 ∧ l.getD j 0 ≤ 9223372036854775807
theorem SegI.below {w w' : World} {a : Option Addr} {n B : Nat} {l : List Int} (h : SegI w a n l) (hb : Below B w w') (hB : w.heap.size ≤ B) : SegI w' a n l := by
  obtain ⟨h1, h2, h3, h4⟩ := h
  refine ⟨h1, h2, fun hn => ?_, h4⟩
  obtain ⟨b, off, e, hc⟩ := h3 hn
  exact ⟨b, off, e, fun j hj => by
    have h := hc j hj
    rw [hb.cell (p := ⟨b, off + j, none⟩) (by have := cell_lt h; show b < B; omega)]; exact h⟩
theorem SegI.drewN {w : World} {a : Option Addr} {n : Nat} {l : List Int} (h : SegI w a n l) (q : Nat) : SegI (w.drewN q) a n l := h

/-- Is it an entry of a vector? -/
def okE (x : Int) : Bool := decide (0 ≤ x ∧ x ≤ 1048576)
def okL (l : List Int) : Bool := l.all okE
def okW (n : Nat) : Bool := decide (1 ≤ n ∧ n ≤ 7)
/-- What is amiss with a list: the error's number. -/
def fault (l : List Int) : Nat := if okW l.length = true then (if okL l = true then 0 else 32) else 31
def isVec (l : List Int) : Bool := okW l.length && okL l

theorem fault_zero (l : List Int) : (decide ((fault l : Int) = 0)) = isVec l := by
  unfold fault isVec
  cases okW l.length <;> cases okL l <;> simp
theorem okL_step {l : List Int} {k : Nat} (h : k < l.length) (h1 : okL (l.take k) = true) (h2 : 0 ≤ l.getD k 0 ∧ l.getD k 0 ≤ 1048576) : okL (l.take (k + 1)) = true := by
  rw [take_next h]
  unfold okL at *
  rw [List.all_append, h1]
  simp only [List.all_cons, List.all_nil, Bool.and_true, Bool.true_and, okE, decide_eq_true_eq]
  exact h2
theorem okL_no {l : List Int} {k : Nat} (h : k < l.length) (h2 : ¬ (0 ≤ l.getD k 0 ∧ l.getD k 0 ≤ 1048576)) : okL l = false := by
  rw [Bool.eq_false_iff]
  intro e
  have := List.all_eq_true.1 e (l.getD k 0) (by rw [List.getD, List.getElem?_eq_getElem h]; exact List.getElem_mem h)
  simp only [okE, decide_eq_true_eq] at this
  exact h2 this
theorem okL_at {l : List Int} (h : okL l = true) (k : Nat) : 0 ≤ l.getD k 0 ∧ l.getD k 0 ≤ 1048576 := by
  by_cases hk : k < l.length
  · have := List.all_eq_true.1 h (l.getD k 0) (by rw [List.getD, List.getElem?_eq_getElem hk]; exact List.getElem_mem hk)
    simpa only [okE, decide_eq_true_eq] using this
  · rw [List.getD, List.getElem?_eq_none (by omega)]; simp

/-- A list in memory, as a slice has it. -/
structure LI where
  a : Option Addr
  n : Nat
  cap : Nat
  l : List Int
def liZ : LI := ⟨none, 0, 0, []⟩
def liv (s : LI) : Value := .slice s.a s.n s.cap
/-- A list of lists of ints in memory. -/
def SegL (w : World) (a : Option Addr) (n : Nat) (ls : List LI) : Prop :=
  ls.length = n ∧ n ≤ maxLen ∧ (0 < n → ∃ b off, a = some ⟨b, off, none⟩ ∧ ∀ i, i < n → w.cell? ⟨b, off + i, none⟩ = some (.slice (ls.getD i liZ).a (ls.getD i liZ).n (ls.getD i liZ).cap)) ∧ ∀ i, i < n → SegI w (ls.getD i liZ).a (ls.getD i liZ).n (ls.getD i liZ).l
theorem SegL.below {w w' : World} {a : Option Addr} {n B : Nat} {l : List LI} (h : SegL w a n l) (hb : Below B w w') (hB : w.heap.size ≤ B) : SegL w' a n l := by
  refine ⟨h.1, h.2.1, fun hn => ?_, fun i hi => (h.2.2.2 i hi).below hb hB⟩
  obtain ⟨b, off, rfl, hc⟩ := h.2.2.1 hn
  refine ⟨b, off, rfl, fun i hi => ?_⟩
  have hv := hc i hi
  rw [hb.cell (p := ⟨b, off + i, none⟩) (by have := cell_lt hv; show b < B; omega)]; exact hv
theorem SegL.drewN {w : World} {a : Option Addr} {n : Nat} {l : List LI} (h : SegL w a n l) (q : Nat) : SegL (w.drewN q) a n l := h

/-- The lists themselves. -/
def lsOf (ls : List LI) : List (List Int) := ls.map (·.l)
theorem lsOf_getD (ls : List LI) (i : Nat) : (lsOf ls).getD i [] = (ls.getD i liZ).l := by
  by_cases h : i < ls.length
  · simp [lsOf, h]
  · simp [lsOf, liZ, List.getElem?_eq_none (by omega : ls.length ≤ i)]
theorem SegL.len {w : World} {a : Option Addr} {n : Nat} {ls : List LI} (h : SegL w a n ls) {i : Nat} (hi : i < n) : (ls.getD i liZ).n = ((lsOf ls).getD i []).length := by
  rw [lsOf_getD]; exact (h.2.2.2 i hi).1.symm

theorem SegL.at {w : World} {b off : Nat} {n : Nat} {ls : List LI} (h : SegL w (some ⟨b, off, none⟩) n ls) {i : Nat} (hi : i < n) :
    ∃ ai ni ci, w.cell? ⟨b, off + i, none⟩ = some (.slice ai ni ci) ∧ SegI w ai ni ((lsOf ls).getD i []) := by
  obtain ⟨b', off', e, hc⟩ := h.2.2.1 (by omega)
  injection e with e
  injection e with e1 e2
  subst e1 e2
  exact ⟨_, _, _, hc i hi, by rw [lsOf_getD]; exact h.2.2.2 i hi⟩

/-- Lists, all of one length that a vector may have. -/
def alikeB (L : List (List Int)) : Bool := decide (0 < L.length) && (okW (L.getD 0 []).length && L.all fun l => decide (l.length = (L.getD 0 []).length))
/-- The greatest entry at a place, of lists that have one. -/
def maxAt (L : List (List Int)) (q : Nat) : Int := L.foldl (fun k l => if q < l.length ∧ k < l.getD q 0 then l.getD q 0 else k) 0
def rowOf (n : Nat) (g : Nat → Int) : List Int := (List.range n).map g
def unionL (L : List (List Int)) : List Int := if alikeB L = true ∧ L.all okL = true then rowOf (L.getD 0 []).length (maxAt L) else []
def unionE (L : List (List Int)) : Nat := if alikeB L = true then (if L.all okL = true then 0 else 32) else 31

end Go.Wire1
/- The plain mathematics of package record: a record, its cells, which fields a kind has, what is amiss; nothing of the program is named here. -/
namespace Go.Wire1
open Go.RowKit

/-- A record; its Deps as the slice has them, and the list itself. -/
structure Rc where
  kind : Int
  row : Int
  num : Int
  round : Int
  who : Int
  same : Bool
  c : Cm
  seq : Int
  da : Option Addr
  dn : Nat
  dc : Nat
  deps : List Int
  id : Int
  n : Int

/-- Its eighteen cells. -/
def rcs (r : Rc) : List Value :=
  [.int .i64 r.kind, .int .i64 r.row, .int .i64 r.num, .int .i64 r.round, .int .i64 r.who, .bool r.same, .int .i64 r.c.kind, .int .i64 r.c.client, .int .i64 r.c.req, .string r.c.key, .string r.c.key2, .string r.c.val, .string r.c.old, .int .i64 r.c.n, .int .i64 r.seq, .slice r.da r.dn r.dc, .int .i64 r.id, .int .i64 r.n]

/-- The rows of letters, a row a kind. w 119 Id, n 110 N, i 105 Inst, b 98 Bal, s 115 Same, c 99 Cmd, q 113 Seq, d 100 Deps. -/
def rowL : List (List Nat) := [[], [119, 110], [105, 98], [105, 98, 115, 99, 113, 100], [105, 98, 99, 113, 100], [105, 99, 113, 100]]
def rowR (kind : Int) : List Nat := rowL.getD kind.toNat []
def allR : List Nat := [119, 110, 105, 98, 115, 99, 113, 100]
def isSizeB (n : Int) : Bool := decide (1 ≤ n) && decide (n ≤ 7)
def isKindR (k : Int) : Bool := decide (0 < k) && decide (k < 6)
def zeroCm (c : Cm) : Bool := (c.kind == 0) && ((c.client == 0) && ((c.req == 0) && (c.key.toList.isEmpty && (c.key2.toList.isEmpty && (c.val.toList.isEmpty && (c.old.toList.isEmpty && (c.n == 0)))))))
def zeroR (r : Rc) (x : Nat) : Bool :=
  match x with
  | 119 => r.id == 0
  | 110 => r.n == 0
  | 105 => (r.row == 0) && (r.num == 0)
  | 98 => (r.round == 0) && (r.who == 0)
  | 115 => !r.same
  | 99 => zeroCm r.c
  | 113 => r.seq == 0
  | _ => r.deps.length == 0
def extraR (r : Rc) : Bool := allR.any fun x => !((rowR r.kind).contains x) && !(zeroR r x)
def unlR (b : Bool) (e : Nat) : Nat := if b then 0 else e
def headB (r : Rc) : Bool := isSizeB r.n && (decide (0 ≤ r.id) && decide (r.id < r.n))
def rinstB (n row num : Int) : Bool := decide (0 ≤ row) && (decide (row < n) && (decide (1 ≤ num) && decide (num ≤ 1048576)))
def balR (n : Int) (r : Rc) : Bool := if r.round = 0 then (r.who == r.row) && (r.kind != 2) else decide (1 ≤ r.round) && (decide (r.round ≤ 65535) && (decide (0 ≤ r.who) && decide (r.who < n)))
def noopR (r : Rc) : Bool := r.c.kind == 0
def mayR (r : Rc) : Bool := r.kind != 3
def seqR (r : Rc) : Bool := if noopR r then r.seq == 0 else decide (1 ≤ r.seq) && decide (r.seq ≤ 1073741824)
def mostR (r : Rc) : Int := if noopR r then 0 else 1048576
def depsR (n : Int) (r : Rc) : Bool := (decide ((r.deps.length : Int) = n)) && r.deps.all fun x => decide (0 ≤ x) && decide (x ≤ mostR r)
def cmdR (r : Rc) : Nat := if chk 2 r.c = 0 then unlR (mayR r || !(noopR r)) 65 else chk 2 r.c
def faultR (n : Int) (r : Rc) (x : Nat) : Nat :=
  match x with
  | 119 => 0
  | 110 => unlR (headB r) 66
  | 105 => unlR (rinstB n r.row r.num) 62
  | 98 => unlR (balR n r) 63
  | 115 => unlR (!r.same || (r.round == 0)) 64
  | 99 => cmdR r
  | 113 => unlR (seqR r) 65
  | _ => unlR (depsR n r) 65
def firstR (n : Int) (r : Rc) : List Nat → Nat
  | [] => 0
  | x :: xs => if faultR n r x = 0 then firstR n r xs else faultR n r x
def chkR (n : Int) (r : Rc) : Nat := if isSizeB n then (if isKindR r.kind then (if extraR r then 67 else firstR n r (rowR r.kind)) else 61) else 3
end Go.Wire1
