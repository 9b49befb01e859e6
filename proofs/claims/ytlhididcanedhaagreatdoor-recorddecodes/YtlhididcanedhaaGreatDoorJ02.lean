/- Texts of the proof, joined. -/
import Derived.Test.YtlhididcanedhaaGreatDoorJ01
import Derived.Lib.MinMaxS
import Derived.Laws.Concat
import Derived.WalkKit
import Derived.Deep.MidRow
/- The plain mathematics of texts and ranges of keys: the order of texts, what a command touches, which two conflict; nothing of the program is named here. -/
namespace Go.Wire1
open Go.RowKit Go.Lib

/-- The order of texts. -/
def tlt (x y : ByteArray) : Bool := Op.bytesLess x.toList y.toList
def teq (x y : ByteArray) : Bool := x.toList == y.toList

theorem teq_iff (x y : ByteArray) : teq x y = true ↔ x = y := by
  unfold teq
  rw [beq_iff_eq, Lib.toList_data, Lib.toList_data]
  constructor
  · intro h
    cases x; cases y
    exact congrArg ByteArray.mk (Array.toList_inj.1 h)
  · intro h; rw [h]
/-- A range of keys: the first key in it, the first key behind it, may it be written. -/
structure Tch where
  k : ByteArray
  e : ByteArray
  w : Bool

def tzero : ByteArray := ⟨#[0]⟩
def tnext (k : ByteArray) : ByteArray := k ++ tzero
def touchL (kind : Int) (k k2 : ByteArray) : List Tch :=
  if kind = 1 then [⟨k, tnext k, false⟩]
  else if 2 ≤ kind ∧ kind ≤ 5 then [⟨k, tnext k, true⟩]
  else if kind = 6 then [⟨k, tnext k, true⟩, ⟨k2, tnext k2, true⟩]
  else if kind = 7 then [⟨k, tnext k, false⟩, ⟨k2, tnext k2, true⟩]
  else if kind = 8 then (if tlt k k2 then [⟨k, k2, false⟩] else [])
  else []

/-- The program's look: the higher one of the first keys is below the lower one of the ends. -/
def meetB (x y : Tch) : Bool := tlt (maxS x.k y.k) (minS x.e y.e)
def hitB (x y : Tch) : Bool := (x.w || y.w) && meetB x y
def clashB (L M : List Tch) : Bool := L.any fun x => M.any fun y => hitB x y

/-- Does the key lie in the range? -/
def inB (k : ByteArray) (t : Tch) : Bool := (tlt t.k k || teq t.k k) && tlt k t.e

def lastKey (kind : Int) (k k2 : ByteArray) : ByteArray := if kind = 6 ∨ kind = 7 then k2 else k
/-- What the statement's own look over the first keys finds. -/
def inAny (k : ByteArray) (L : List Tch) : Bool := L.any (inB k)
def inWr (k : ByteArray) (L : List Tch) : Bool := L.any fun t => inB k t && t.w
def foundB (L M : List Tch) (keys : List ByteArray) : Bool := keys.any fun k => inAny k L && inAny k M && (inWr k L || inWr k M)
end Go.Wire1
/- The plain mathematics of package command's Check: which fields a kind has, the bounds, the first thing amiss; nothing of the program is named here. -/
namespace Go.Wire1
open Go.RowKit

/-- A command. -/
structure Cm where
  kind : Int
  client : Int
  req : Int
  key : ByteArray
  key2 : ByteArray
  val : ByteArray
  old : ByteArray
  n : Int

/-- The fields of a kind, as bits: 0 Client, 1 Req, 2 Key, 3 Key2, 4 Val, 5 Old, 6 N. -/
def fieldsL : List Nat := [0, 7, 23, 7, 71, 55, 15, 15, 15]
def fromL : List Nat := [1, 1, 1, 1, 1, 1, 2, 2, 2]
def isVer (v : Int) : Bool := (v == 1) || (v == 2)
def isKd (v kind : Int) : Bool := decide (0 ≤ kind) && (decide (kind < 9) && decide ((fromL.getD kind.toNat 0 : Int) ≤ v))
def hasF (kind : Int) (f : Nat) : Bool := (fieldsL.getD kind.toNat 0).testBit f
def bitF (f : Nat) : Int := ((2 ^ f : Nat) : Int)

def zeroF (c : Cm) (f : Nat) : Bool :=
  match f with
  | 0 => c.client == 0
  | 1 => c.req == 0
  | 2 => c.key.toList.isEmpty
  | 3 => c.key2.toList.isEmpty
  | 4 => c.val.toList.isEmpty
  | 5 => c.old.toList.isEmpty
  | _ => c.n == 0
def mostV (v : Int) : Nat := if v = 1 then 1024 else 65536
def isKeyB (k : ByteArray) : Bool := decide (1 ≤ k.size) && decide (k.size ≤ 64)
def isPairB (kind : Int) (k k2 : ByteArray) : Bool := if kind = 8 then tlt k k2 else !(teq k k2)
def allowF (v : Int) (c : Cm) (f : Nat) : Bool :=
  match f with
  | 0 => decide (0 ≤ c.client) && decide (c.client ≤ 65535)
  | 1 => decide (0 ≤ c.req) && decide (c.req ≤ 1073741824)
  | 2 => isKeyB c.key
  | 3 => isKeyB c.key2 && isPairB c.kind c.key c.key2
  | 4 => decide (c.val.size ≤ mostV v)
  | 5 => decide (c.old.size ≤ mostV v)
  | _ => true
def errF (f : Nat) : Nat := if f = 6 then 0 else 42 + f
/-- What is amiss with a field; 0: nothing. -/
def faultF (v : Int) (c : Cm) (f : Nat) : Nat := if hasF c.kind f then (if allowF v c f then 0 else errF f) else (if zeroF c f then 0 else 48)
def firstF (v : Int) (c : Cm) : Nat → Nat → Nat
  | 0, _ => 0
  | k + 1, f => if faultF v c f = 0 then firstF v c k (f + 1) else faultF v c f
def chk (v : Int) (c : Cm) : Nat := if isVer v then (if isKd v c.kind then firstF v c 7 0 else 41) else 2

theorem firstF_next {v : Int} {c : Cm} {f : Nat} (hf : f < 7) (h : firstF v c 7 0 = firstF v c (7 - f) f) (h0 : faultF v c f = 0) : firstF v c 7 0 = firstF v c (7 - (f + 1)) (f + 1) := by
  rw [h, show 7 - f = (7 - (f + 1)) + 1 by omega]
  simp only [firstF, h0, if_true]
theorem firstF_hit {v : Int} {c : Cm} {f : Nat} (hf : f < 7) (h : firstF v c 7 0 = firstF v c (7 - f) f) (h0 : faultF v c f ≠ 0) : firstF v c 7 0 = faultF v c f := by
  rw [h, show 7 - f = (7 - (f + 1)) + 1 by omega]
  simp only [firstF, h0, if_false]
theorem bits_has (F f : Nat) (hF : F < 128) (hf : f < 7) : bits .and .i64 (F : Int) (bitF f) = if F.testBit f then bitF f else 0 := by
  have h : ∀ F : Fin 128, ∀ f : Fin 7, bits .and .i64 (F.val : Int) (bitF f.val) = if F.val.testBit f.val then bitF f.val else 0 := by decide +kernel
  exact h ⟨F, hF⟩ ⟨f, hf⟩
theorem fields_lt (k : Nat) : fieldsL.getD k 0 < 128 := by
  by_cases h : k < 9
  · have : ∀ k : Fin 9, fieldsL.getD k.val 0 < 128 := by decide
    exact this ⟨k, h⟩
  · rw [List.getD, List.getElem?_eq_none (by show 9 ≤ k; omega)]; decide
end Go.Wire1
/- The plain mathematics of vectors: lists of ints in memory, what is amiss with one, and what joins them; nothing of the program is named here. -/
namespace Go.Wire1
open Go.RowKit

/-- A list of ints in memory. -/
def SegI (w : World) (a : Option Addr) (n : Nat) (l : List Int) : Prop :=
  l.length = n ∧ n ≤ maxLen ∧ (0 < n → ∃ b off, a = some ⟨b, off, none⟩ ∧ ∀ j, j < n → w.cell? ⟨b, off + j, none⟩ = some (.int .i64 (l.getD j 0))) ∧ ∀ j, -9223372036854775808 ≤ l.getD j 0 ∧ l.getD j 0 ≤ 9223372036854775807
theorem SegI.below {w w' : World} {a : Option Addr} {n B : Nat} {l : List Int} (h : SegI w a n l) (hb : Below B w w') (hB : w.heap.size ≤ B) : SegI w' a n l := by
  obtain ⟨h1, h2, h3, h4⟩ := h
  refine ⟨h1, h2, fun hn => ?_, h4⟩
  obtain ⟨b, off, e, hc⟩ := h3 hn
  exact ⟨b, off, e, fun j hj => by
    have h := hc j hj
    rw [hb.cell (p := ⟨b, off + j, none⟩) (by have := cell_lt h; show b < B; omega)]; exact h⟩
theorem SegI.drewN {w : World} {a : Option Addr} {n : Nat} {l : List Int} (h : SegI w a n l) (q : Nat) : SegI (w.drewN q) a n l := h

/-- Is it an entry of a vector? -/
def okE (x : Int) : Bool := decide (0 ≤ x ∧ x ≤ 1048576)
def okL (l : List Int) : Bool := l.all okE
def okW (n : Nat) : Bool := decide (1 ≤ n ∧ n ≤ 7)
/-- What is amiss with a list: the error's number. -/
def fault (l : List Int) : Nat := if okW l.length = true then (if okL l = true then 0 else 32) else 31
def isVec (l : List Int) : Bool := okW l.length && okL l

theorem okL_step {l : List Int} {k : Nat} (h : k < l.length) (h1 : okL (l.take k) = true) (h2 : 0 ≤ l.getD k 0 ∧ l.getD k 0 ≤ 1048576) : okL (l.take (k + 1)) = true := by
  rw [take_next h]
  unfold okL at *
  rw [List.all_append, h1]
  simp only [List.all_cons, List.all_nil, Bool.and_true, Bool.true_and, okE, decide_eq_true_eq]
  exact h2
theorem okL_no {l : List Int} {k : Nat} (h : k < l.length) (h2 : ¬ (0 ≤ l.getD k 0 ∧ l.getD k 0 ≤ 1048576)) : okL l = false := by
  rw [Bool.eq_false_iff]
  intro e
  have := List.all_eq_true.1 e (l.getD k 0) (by rw [List.getD, List.getElem?_eq_getElem h]; exact List.getElem_mem h)
  simp only [okE, decide_eq_true_eq] at this
  exact h2 this
theorem okL_at {l : List Int} (h : okL l = true) (k : Nat) : 0 ≤ l.getD k 0 ∧ l.getD k 0 ≤ 1048576 := by
  by_cases hk : k < l.length
  · have := List.all_eq_true.1 h (l.getD k 0) (by rw [List.getD, List.getElem?_eq_getElem hk]; exact List.getElem_mem hk)
    simpa only [okE, decide_eq_true_eq] using this
  · rw [List.getD, List.getElem?_eq_none (by omega)]; simp

/-- A list in memory, as a slice has it. -/
structure LI where
  a : Option Addr
  n : Nat
  cap : Nat
  l : List Int
def liZ : LI := ⟨none, 0, 0, []⟩
def liv (s : LI) : Value := .slice s.a s.n s.cap
/-- A list of lists of ints in memory. -/
def SegL (w : World) (a : Option Addr) (n : Nat) (ls : List LI) : Prop :=
  ls.length = n ∧ n ≤ maxLen ∧ (0 < n → ∃ b off, a = some ⟨b, off, none⟩ ∧ ∀ i, i < n → w.cell? ⟨b, off + i, none⟩ = some (.slice (ls.getD i liZ).a (ls.getD i liZ).n (ls.getD i liZ).cap)) ∧ ∀ i, i < n → SegI w (ls.getD i liZ).a (ls.getD i liZ).n (ls.getD i liZ).l
theorem SegL.below {w w' : World} {a : Option Addr} {n B : Nat} {l : List LI} (h : SegL w a n l) (hb : Below B w w') (hB : w.heap.size ≤ B) : SegL w' a n l := by
  refine ⟨h.1, h.2.1, fun hn => ?_, fun i hi => (h.2.2.2 i hi).below hb hB⟩
  obtain ⟨b, off, rfl, hc⟩ := h.2.2.1 hn
  refine ⟨b, off, rfl, fun i hi => ?_⟩
  have hv := hc i hi
  rw [hb.cell (p := ⟨b, off + i, none⟩) (by have := cell_lt hv; show b < B; omega)]; exact hv
theorem SegL.drewN {w : World} {a : Option Addr} {n : Nat} {l : List LI} (h : SegL w a n l) (q : Nat) : SegL (w.drewN q) a n l := h

/-- The lists themselves. -/
def lsOf (ls : List LI) : List (List Int) := ls.map (·.l)
theorem lsOf_getD (ls : List LI) (i : Nat) : (lsOf ls).getD i [] = (ls.getD i liZ).l := by
  by_cases h : i < ls.length
  · simp [lsOf, h]
  · simp [lsOf, liZ, List.getElem?_eq_none (by omega : ls.length ≤ i)]
theorem SegL.len {w : World} {a : Option Addr} {n : Nat} {ls : List LI} (h : SegL w a n ls) {i : Nat} (hi : i < n) : (ls.getD i liZ).n = ((lsOf ls).getD i []).length := by
  rw [lsOf_getD]; exact (h.2.2.2 i hi).1.symm

theorem SegL.at {w : World} {b off : Nat} {n : Nat} {ls : List LI} (h : SegL w (some ⟨b, off, none⟩) n ls) {i : Nat} (hi : i < n) :
    ∃ ai ni ci, w.cell? ⟨b, off + i, none⟩ = some (.slice ai ni ci) ∧ SegI w ai ni ((lsOf ls).getD i []) := by
  obtain ⟨b', off', e, hc⟩ := h.2.2.1 (by omega)
  injection e with e
  injection e with e1 e2
  subst e1 e2
  exact ⟨_, _, _, hc i hi, by rw [lsOf_getD]; exact h.2.2.2 i hi⟩

/-- Lists, all of one length that a vector may have. -/
def alikeB (L : List (List Int)) : Bool := decide (0 < L.length) && (okW (L.getD 0 []).length && L.all fun l => decide (l.length = (L.getD 0 []).length))
/-- The greatest entry at a place, of lists that have one. -/
def maxAt (L : List (List Int)) (q : Nat) : Int := L.foldl (fun k l => if q < l.length ∧ k < l.getD q 0 then l.getD q 0 else k) 0
def rowOf (n : Nat) (g : Nat → Int) : List Int := (List.range n).map g
def unionL (L : List (List Int)) : List Int := if alikeB L = true ∧ L.all okL = true then rowOf (L.getD 0 []).length (maxAt L) else []
def unionE (L : List (List Int)) : Nat := if alikeB L = true then (if L.all okL = true then 0 else 32) else 31

end Go.Wire1
/- The plain mathematics of package record: a record, its cells, which fields a kind has, what is amiss; nothing of the program is named here. -/
namespace Go.Wire1
open Go.RowKit

/-- A record; its Deps as the slice has them, and the list itself. -/
structure Rc where
  kind : Int
  row : Int
  num : Int
  round : Int
  who : Int
  same : Bool
  c : Cm
  seq : Int
  da : Option Addr
  dn : Nat
  dc : Nat
  deps : List Int
  id : Int
  n : Int

/-- Its eighteen cells. -/
def rcs (r : Rc) : List Value :=
  [.int .i64 r.kind, .int .i64 r.row, .int .i64 r.num, .int .i64 r.round, .int .i64 r.who, .bool r.same, .int .i64 r.c.kind, .int .i64 r.c.client, .int .i64 r.c.req, .string r.c.key, .string r.c.key2, .string r.c.val, .string r.c.old, .int .i64 r.c.n, .int .i64 r.seq, .slice r.da r.dn r.dc, .int .i64 r.id, .int .i64 r.n]

/-- The rows of letters, a row a kind. w 119 Id, n 110 N, i 105 Inst, b 98 Bal, s 115 Same, c 99 Cmd, q 113 Seq, d 100 Deps. -/
def rowL : List (List Nat) := [[], [119, 110], [105, 98], [105, 98, 115, 99, 113, 100], [105, 98, 99, 113, 100], [105, 99, 113, 100]]
def rowR (kind : Int) : List Nat := rowL.getD kind.toNat []
def allR : List Nat := [119, 110, 105, 98, 115, 99, 113, 100]
def isSizeB (n : Int) : Bool := decide (1 ≤ n) && decide (n ≤ 7)
def isKindR (k : Int) : Bool := decide (0 < k) && decide (k < 6)
def zeroCm (c : Cm) : Bool := (c.kind == 0) && ((c.client == 0) && ((c.req == 0) && (c.key.toList.isEmpty && (c.key2.toList.isEmpty && (c.val.toList.isEmpty && (c.old.toList.isEmpty && (c.n == 0)))))))
def zeroR (r : Rc) (x : Nat) : Bool :=
  match x with
  | 119 => r.id == 0
  | 110 => r.n == 0
  | 105 => (r.row == 0) && (r.num == 0)
  | 98 => (r.round == 0) && (r.who == 0)
  | 115 => !r.same
  | 99 => zeroCm r.c
  | 113 => r.seq == 0
  | _ => r.deps.length == 0
def extraR (r : Rc) : Bool := allR.any fun x => !((rowR r.kind).contains x) && !(zeroR r x)
def unlR (b : Bool) (e : Nat) : Nat := if b then 0 else e
def headB (r : Rc) : Bool := isSizeB r.n && (decide (0 ≤ r.id) && decide (r.id < r.n))
def rinstB (n row num : Int) : Bool := decide (0 ≤ row) && (decide (row < n) && (decide (1 ≤ num) && decide (num ≤ 1048576)))
def balR (n : Int) (r : Rc) : Bool := if r.round = 0 then (r.who == r.row) && (r.kind != 2) else decide (1 ≤ r.round) && (decide (r.round ≤ 65535) && (decide (0 ≤ r.who) && decide (r.who < n)))
def noopR (r : Rc) : Bool := r.c.kind == 0
def mayR (r : Rc) : Bool := r.kind != 3
def seqR (r : Rc) : Bool := if noopR r then r.seq == 0 else decide (1 ≤ r.seq) && decide (r.seq ≤ 1073741824)
def mostR (r : Rc) : Int := if noopR r then 0 else 1048576
def depsR (n : Int) (r : Rc) : Bool := (decide ((r.deps.length : Int) = n)) && r.deps.all fun x => decide (0 ≤ x) && decide (x ≤ mostR r)
def cmdR (r : Rc) : Nat := if chk 2 r.c = 0 then unlR (mayR r || !(noopR r)) 65 else chk 2 r.c
def faultR (n : Int) (r : Rc) (x : Nat) : Nat :=
  match x with
  | 119 => 0
  | 110 => unlR (headB r) 66
  | 105 => unlR (rinstB n r.row r.num) 62
  | 98 => unlR (balR n r) 63
  | 115 => unlR (!r.same || (r.round == 0)) 64
  | 99 => cmdR r
  | 113 => unlR (seqR r) 65
  | _ => unlR (depsR n r) 65
def firstR (n : Int) (r : Rc) : List Nat → Nat
  | [] => 0
  | x :: xs => if faultR n r x = 0 then firstR n r xs else faultR n r x
def chkR (n : Int) (r : Rc) : Nat := if isSizeB n then (if isKindR r.kind then (if extraR r then 67 else firstR n r (rowR r.kind)) else 61) else 3
end Go.Wire1
/- Blocks of values, whatever they are: a block that is laid, read, written, loaded and stored whole. -/
namespace Go.Proofs.YtlhididcanedhaaGreatDoor
open Go.RowKit Go.Wire1

/-- A block that holds these values, and may be written. -/
structure Blk (w : World) (q : Nat) (cs : List Value) : Prop where
  cell : ∀ j v, cs[j]? = some v → w.cell? ⟨q, j, none⟩ = some v
  thaw : ∀ o, w.frozen? ⟨q, o, none⟩ = false
  lt : q < w.heap.size
theorem blk_new (w : World) (T : TypeId) (cs : List Value) : Blk (w.alloc (.cells cs.toArray T)) w.heap.size cs :=
  ⟨fun j v hj => by rw [World.cell?_alloc_at _ _ _ _ rfl]; simpa using hj, fun _ => World.frozen?_alloc_at _ _ _ _ rfl, by simp⟩
theorem Blk.of_block {w w' : World} {q : Nat} {cs : List Value} (h : Blk w q cs) (e : w'.heap[q]? = w.heap[q]?) : Blk w' q cs :=
  ⟨fun j v hj => (World.cell?_of_block (a := ⟨q, j, none⟩) e).trans (h.cell j v hj), fun o => (World.frozen?_of_block (a := ⟨q, o, none⟩) e).trans (h.thaw o), by
    have := h.lt
    apply Classical.byContradiction
    intro hn
    rw [Array.getElem?_eq_none (by omega), Array.getElem?_eq_getElem this] at e
    cases e⟩
theorem Blk.below {w w' : World} {q B : Nat} {cs : List Value} (h : Blk w q cs) (hb : Below B w w') (hB : q < B) : Blk w' q cs := h.of_block (hb.block q hB)
theorem Blk.on {w w' : World} {q : Nat} {cs : List Value} (h : Blk w q cs) (hb : Below w.heap.size w w') : Blk w' q cs := h.below hb h.lt
theorem Blk.setAt {w : World} {q : Nat} {cs : List Value} (h : Blk w q cs) (k : Nat) (x : Value) : Blk (w.setCell ⟨q, k, none⟩ x) q (cs.set k x) := by
  refine ⟨fun j u hj => ?_, fun o => by rw [World.frozen?_setCell]; exact h.thaw o, by have := h.lt; simpa [World.setCell] using this⟩
  rw [List.getElem?_set] at hj
  by_cases e : k = j
  · subst e
    rw [if_pos rfl] at hj
    split at hj
    · rename_i hlt
      simp only [Option.some.injEq] at hj
      subst hj
      exact World.cell?_setCell_same w ⟨q, k, none⟩ _ (h.cell k _ (List.getElem?_eq_getElem hlt))
    · cases hj
  · rw [if_neg e] at hj
    rw [World.cell?_setCell_other _ _ _ _ (by intro r; injection r with _ r2 _; omega)]
    exact h.cell j u hj
theorem results_cell_mid {P : Program} {fn : Func} {p : Tmp} {ty : TypeId} (h : fn.results = #[.cell p ty]) (tmps : Array Value) (w : World) (b : Nat) (cs : List Value) (d : TypeDesc) (ht : tmps[p]?.getD undef = .pointer (some ⟨b, 0, none⟩))
    (hc : w.rangeAt b 0 cs) (hu : P.underlying ty = some d) (hd : d.isRow = true) (hi : (P.info? ty).map (·.size) = some cs.length) : (results fn tmps).run P w = .ok (.agg cs.toArray) w := by
  have hl := run_loadVar_mid (P := P) w b 0 ty cs d hc hu hd hi
  simp [results, h, ht, asAddr, hl]
theorem Blk.there {w : World} {q : Nat} {cs : List Value} (h : Blk w q cs) : w.there q 0 cs.length := fun j hj => by
  rw [Nat.zero_add]
  exact ⟨by rw [h.cell j cs[j] (List.getElem?_eq_getElem hj)]; rfl, h.thaw j⟩
theorem below_cells {B b : Nat} {x : World} (hb : B ≤ b) : ∀ (vs : List Value) (o : Nat) (W : World), Below B x W → Below B x (W.setCells b o vs)
  | [], _, _, h => h
  | v :: vs, o, _, h => below_cells hb vs (o + 1) _ (h.setCell (p := ⟨b, o, none⟩) hb v)
theorem Blk.range {w : World} {q : Nat} {cs : List Value} (h : Blk w q cs) : w.rangeAt q 0 cs := fun j v hj => by rw [Nat.zero_add]; exact h.cell j v hj
theorem blk_cells {w : World} {q : Nat} {cs vs : List Value} (h : Blk w q cs) (hl : vs.length = cs.length) : Blk (w.setCells q 0 vs) q vs := by
  have hr : (w.setCells q 0 vs).rangeAt q 0 vs := World.rangeAt_setCells_same _ _ _ _ (by rw [hl]; exact h.there)
  refine ⟨fun j v hj => by have := hr j v hj; rwa [Nat.zero_add] at this, fun o => by rw [World.frozen?_setCells]; exact h.thaw o, ?_⟩
  have hs := (below_cells (B := 0) (x := w) (b := q) (Nat.zero_le _) vs 0 w ⟨rfl, rfl, rfl, Nat.le_refl _, fun _ _ => rfl⟩).size
  have := h.lt
  omega
theorem Blk.drewN {w : World} {q : Nat} {cs : List Value} (h : Blk w q cs) (n : Nat) : Blk (w.drewN n) q cs := ⟨h.cell, h.thaw, h.lt⟩
end Go.Proofs.YtlhididcanedhaaGreatDoor
