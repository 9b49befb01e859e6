/- The plain mathematics of package record: a record, its cells, which fields a kind has, what is amiss; nothing of the program is named here. -/
import Derived.Test.YtjpggmenbnkbbaaGreatDoorHMath
import Derived.Test.YtjpggmenbnkbbaaGreatDoorVMath
namespace Go.Wire1
open Go.RowKit

/-- A record; its Deps as the slice has them, and the list itself. -/
structure Rc where
  kind : Int
  row : Int
  num : Int
  round : Int
  who : Int
  same : Bool
  c : Cm
  seq : Int
  da : Option Addr
  dn : Nat
  dc : Nat
  deps : List Int
  id : Int
  n : Int

/-- Its eighteen cells. -/
def rcs (r : Rc) : List Value :=
  [.int .i64 r.kind, .int .i64 r.row, .int .i64 r.num, .int .i64 r.round, .int .i64 r.who, .bool r.same, .int .i64 r.c.kind, .int .i64 r.c.client, .int .i64 r.c.req, .string r.c.key, .string r.c.key2, .string r.c.val, .string r.c.old, .int .i64 r.c.n, .int .i64 r.seq, .slice r.da r.dn r.dc, .int .i64 r.id, .int .i64 r.n]

/-- The rows of letters, a row a kind. w 119 Id, n 110 N, i 105 Inst, b 98 Bal, s 115 Same, c 99 Cmd, q 113 Seq, d 100 Deps. -/
def rowL : List (List Nat) := [[], [119, 110], [105, 98], [105, 98, 115, 99, 113, 100], [105, 98, 99, 113, 100], [105, 99, 113, 100]]
def rowR (kind : Int) : List Nat := rowL.getD kind.toNat []
def allR : List Nat := [119, 110, 105, 98, 115, 99, 113, 100]
def isSizeB (n : Int) : Bool := decide (1 ≤ n) && decide (n ≤ 7)
def isKindR (k : Int) : Bool := decide (0 < k) && decide (k < 6)
def zeroCm (c : Cm) : Bool := (c.kind == 0) && ((c.client == 0) && ((c.req == 0) && (c.key.toList.isEmpty && (c.key2.toList.isEmpty && (c.val.toList.isEmpty && (c.old.toList.isEmpty && (c.n == 0)))))))
def zeroR (r : Rc) (x : Nat) : Bool :=
  match x with
  | 119 => r.id == 0
  | 110 => r.n == 0
  | 105 => (r.row == 0) && (r.num == 0)
  | 98 => (r.round == 0) && (r.who == 0)
  | 115 => !r.same
  | 99 => zeroCm r.c
  | 113 => r.seq == 0
  | _ => r.deps.length == 0
def extraR (r : Rc) : Bool := allR.any fun x => !((rowR r.kind).contains x) && !(zeroR r x)
def unlR (b : Bool) (e : Nat) : Nat := if b then 0 else e
def headB (r : Rc) : Bool := isSizeB r.n && (decide (0 ≤ r.id) && decide (r.id < r.n))
def rinstB (n row num : Int) : Bool := decide (0 ≤ row) && (decide (row < n) && (decide (1 ≤ num) && decide (num ≤ 1048576)))
def balR (n : Int) (r : Rc) : Bool := if r.round = 0 then (r.who == r.row) && (r.kind != 2) else decide (1 ≤ r.round) && (decide (r.round ≤ 65535) && (decide (0 ≤ r.who) && decide (r.who < n)))
def noopR (r : Rc) : Bool := r.c.kind == 0
def mayR (r : Rc) : Bool := r.kind != 3
def seqR (r : Rc) : Bool := if noopR r then r.seq == 0 else decide (1 ≤ r.seq) && decide (r.seq ≤ 1073741824)
def mostR (r : Rc) : Int := if noopR r then 0 else 1048576
def depsR (n : Int) (r : Rc) : Bool := (decide ((r.deps.length : Int) = n)) && r.deps.all fun x => decide (0 ≤ x) && decide (x ≤ mostR r)
def cmdR (r : Rc) : Nat := if chk 2 r.c = 0 then unlR (mayR r || !(noopR r)) 65 else chk 2 r.c
def faultR (n : Int) (r : Rc) (x : Nat) : Nat :=
  match x with
  | 119 => 0
  | 110 => unlR (headB r) 66
  | 105 => unlR (rinstB n r.row r.num) 62
  | 98 => unlR (balR n r) 63
  | 115 => unlR (!r.same || (r.round == 0)) 64
  | 99 => cmdR r
  | 113 => unlR (seqR r) 65
  | _ => unlR (depsR n r) 65
def firstR (n : Int) (r : Rc) : List Nat → Nat
  | [] => 0
  | x :: xs => if faultR n r x = 0 then firstR n r xs else faultR n r x
def chkR (n : Int) (r : Rc) : Nat := if isSizeB n then (if isKindR r.kind then (if extraR r then 67 else firstR n r (rowR r.kind)) else 61) else 3
end Go.Wire1
