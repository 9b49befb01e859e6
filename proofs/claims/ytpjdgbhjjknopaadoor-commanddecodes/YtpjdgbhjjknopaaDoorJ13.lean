/- Texts of the proof, joined. -/
import Derived.Test.YtpjdgbhjjknopaaDoorJ01
import Derived.Lib.MinMaxS
import Derived.Laws.Concat
/- The plain mathematics of texts and ranges of keys: the order of texts, what a command touches, which two conflict; nothing of the program is named here. -/
namespace Go.Wire1
open Go.RowKit Go.Lib

/-- The order of texts. -/
def tlt (x y : ByteArray) : Bool := Op.bytesLess x.toList y.toList
def teq (x y : ByteArray) : Bool := x.toList == y.toList

/-- A range of keys: the first key in it, the first key behind it, may it be written. -/
structure Tch where
  k : ByteArray
  e : ByteArray
  w : Bool

def tzero : ByteArray := ⟨#[0]⟩
def tnext (k : ByteArray) : ByteArray := k ++ tzero
def touchL (kind : Int) (k k2 : ByteArray) : List Tch :=
  if kind = 1 then [⟨k, tnext k, false⟩]
  else if 2 ≤ kind ∧ kind ≤ 5 then [⟨k, tnext k, true⟩]
  else if kind = 6 then [⟨k, tnext k, true⟩, ⟨k2, tnext k2, true⟩]
  else if kind = 7 then [⟨k, tnext k, false⟩, ⟨k2, tnext k2, true⟩]
  else if kind = 8 then (if tlt k k2 then [⟨k, k2, false⟩] else [])
  else []

/-- The program's look: the higher one of the first keys is below the lower one of the ends. -/
def meetB (x y : Tch) : Bool := tlt (maxS x.k y.k) (minS x.e y.e)
def hitB (x y : Tch) : Bool := (x.w || y.w) && meetB x y
def clashB (L M : List Tch) : Bool := L.any fun x => M.any fun y => hitB x y

/-- Does the key lie in the range? -/
def inB (k : ByteArray) (t : Tch) : Bool := (tlt t.k k || teq t.k k) && tlt k t.e

def lastKey (kind : Int) (k k2 : ByteArray) : ByteArray := if kind = 6 ∨ kind = 7 then k2 else k
/-- What the statement's own look over the first keys finds. -/
def inAny (k : ByteArray) (L : List Tch) : Bool := L.any (inB k)
def inWr (k : ByteArray) (L : List Tch) : Bool := L.any fun t => inB k t && t.w
def foundB (L M : List Tch) (keys : List ByteArray) : Bool := keys.any fun k => inAny k L && inAny k M && (inWr k L || inWr k M)
end Go.Wire1
/- The plain mathematics of package command's Check: which fields a kind has, the bounds, the first thing amiss; nothing of the program is named here. -/
namespace Go.Wire1
open Go.RowKit

/-- A command. -/
structure Cm where
  kind : Int
  client : Int
  req : Int
  key : ByteArray
  key2 : ByteArray
  val : ByteArray
  old : ByteArray
  n : Int

/-- The fields of a kind, as bits: 0 Client, 1 Req, 2 Key, 3 Key2, 4 Val, 5 Old, 6 N. -/
def fieldsL : List Nat := [0, 7, 23, 7, 71, 55, 15, 15, 15]
def fromL : List Nat := [1, 1, 1, 1, 1, 1, 2, 2, 2]
def isVer (v : Int) : Bool := (v == 1) || (v == 2)
def isKd (v kind : Int) : Bool := decide (0 ≤ kind) && (decide (kind < 9) && decide ((fromL.getD kind.toNat 0 : Int) ≤ v))
def hasF (kind : Int) (f : Nat) : Bool := (fieldsL.getD kind.toNat 0).testBit f
def bitF (f : Nat) : Int := ((2 ^ f : Nat) : Int)

def zeroF (c : Cm) (f : Nat) : Bool :=
  match f with
  | 0 => c.client == 0
  | 1 => c.req == 0
  | 2 => c.key.toList.isEmpty
  | 3 => c.key2.toList.isEmpty
  | 4 => c.val.toList.isEmpty
  | 5 => c.old.toList.isEmpty
  | _ => c.n == 0
def mostV (v : Int) : Nat := if v = 1 then 1024 else 65536
def isKeyB (k : ByteArray) : Bool := decide (1 ≤ k.size) && decide (k.size ≤ 64)
def isPairB (kind : Int) (k k2 : ByteArray) : Bool := if kind = 8 then tlt k k2 else !(teq k k2)
def allowF (v : Int) (c : Cm) (f : Nat) : Bool :=
  match f with
  | 0 => decide (0 ≤ c.client) && decide (c.client ≤ 65535)
  | 1 => decide (0 ≤ c.req) && decide (c.req ≤ 1073741824)
  | 2 => isKeyB c.key
  | 3 => isKeyB c.key2 && isPairB c.kind c.key c.key2
  | 4 => decide (c.val.size ≤ mostV v)
  | 5 => decide (c.old.size ≤ mostV v)
  | _ => true
def errF (f : Nat) : Nat := if f = 6 then 0 else 42 + f
/-- What is amiss with a field; 0: nothing. -/
def faultF (v : Int) (c : Cm) (f : Nat) : Nat := if hasF c.kind f then (if allowF v c f then 0 else errF f) else (if zeroF c f then 0 else 48)
def firstF (v : Int) (c : Cm) : Nat → Nat → Nat
  | 0, _ => 0
  | k + 1, f => if faultF v c f = 0 then firstF v c k (f + 1) else faultF v c f
def chk (v : Int) (c : Cm) : Nat := if isVer v then (if isKd v c.kind then firstF v c 7 0 else 41) else 2

end Go.Wire1
/- The plain mathematics of the document's own Check; nothing of the program is named here. -/
namespace Go.Wire1
open Go.RowKit

/-- The bytes of a text, as numbers. -/
def tb (s : ByteArray) (i : Nat) : Int := ((s.data.toList.getD i 0).toNat : Int)
def hasC (s : ByteArray) (b : Int) : Bool := (List.range s.size).any fun i => tb s i == b
/-- The document's letters of a kind's fields. -/
def fldS (kind : Int) : ByteArray :=
  if kind = 1 ∨ kind = 3 then ⟨#[99, 114, 107]⟩ else if kind = 2 then ⟨#[99, 114, 107, 118]⟩ else if kind = 4 then ⟨#[99, 114, 107, 110]⟩
  else if kind = 5 then ⟨#[99, 114, 107, 111, 118]⟩ else if kind = 6 ∨ kind = 7 ∨ kind = 8 then ⟨#[99, 114, 107, 106]⟩ else ⟨#[]⟩
theorem fldS_size (kind : Int) : (fldS kind).size ≤ 5 := by
  unfold fldS; repeat' split
  all_goals decide
def letF : List Int := [99, 114, 107, 106, 118, 111, 110]
def knownR (v kind : Int) : Bool := if v = 1 then decide (0 ≤ kind) && decide (kind ≤ 5) else decide (0 ≤ kind) && decide (kind ≤ 8)
theorem known_eq {v kind : Int} (hv : v = 1 ∨ v = 2) : knownR v kind = isKd v kind := by
  unfold knownR isKd
  by_cases h0 : 0 ≤ kind
  · by_cases h9 : kind < 9
    · obtain ⟨k, rfl⟩ := Int.eq_ofNat_of_zero_le h0
      have h : ∀ k : Fin 9, ((decide ((k.val : Int) ≤ 5) = decide ((fromL.getD k.val 0 : Int) ≤ 1)) ∧ (decide ((k.val : Int) ≤ 8) = decide ((fromL.getD k.val 0 : Int) ≤ 2))) := by decide
      have := h ⟨k, by omega⟩
      simp only at this
      rcases hv with rfl | rfl
      · simp [h9, this.1]
      · simp [h9]
        have := this.2
        simp at this
        omega
    · rcases hv with rfl | rfl <;> simp [h9] <;> omega
  · simp [h0]
def numR (t : Bool) (x top : Int) (e : Nat) : Nat := if t then (if x < 0 ∨ top < x then e else 0) else (if x = 0 then 0 else 48)
def txtR (t : Bool) (s : ByteArray) (least top : Nat) (e : Nat) : Nat := if t then (if s.size < least ∨ top < s.size then e else 0) else (if s.toList.isEmpty then 0 else 48)
def key2R (c : Cm) : Nat := if txtR (hasF c.kind 3) c.key2 1 64 45 = 0 ∧ hasF c.kind 3 = true ∧ isPairB c.kind c.key c.key2 = false then 45 else txtR (hasF c.kind 3) c.key2 1 64 45
def nR (c : Cm) : Nat := if c.n = 0 then 0 else if hasF c.kind 6 then 0 else 48

/-- The first number that is not 0. -/
def first0 : List Nat → Nat
  | [] => 0
  | x :: r => if x = 0 then first0 r else x
end Go.Wire1
