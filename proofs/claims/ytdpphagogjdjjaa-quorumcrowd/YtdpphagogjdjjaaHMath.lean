/- The plain mathematics of package command's Check: which fields a kind has, the bounds, the first thing amiss; nothing of the program is named here. -/
import Derived.Test.YtdpphagogjdjjaaTMath
namespace Go.Wire1
open Go.RowKit

/-- A command. -/
structure Cm where
  kind : Int
  client : Int
  req : Int
  key : ByteArray
  key2 : ByteArray
  val : ByteArray
  old : ByteArray
  n : Int

/-- The fields of a kind, as bits: 0 Client, 1 Req, 2 Key, 3 Key2, 4 Val, 5 Old, 6 N. -/
def fieldsL : List Nat := [0, 7, 23, 7, 71, 55, 15, 15, 15]
def fromL : List Nat := [1, 1, 1, 1, 1, 1, 2, 2, 2]
def isVer (v : Int) : Bool := (v == 1) || (v == 2)
def isKd (v kind : Int) : Bool := decide (0 ≤ kind) && (decide (kind < 9) && decide ((fromL.getD kind.toNat 0 : Int) ≤ v))
def hasF (kind : Int) (f : Nat) : Bool := (fieldsL.getD kind.toNat 0).testBit f
def bitF (f : Nat) : Int := ((2 ^ f : Nat) : Int)

def zeroF (c : Cm) (f : Nat) : Bool :=
  match f with
  | 0 => c.client == 0
  | 1 => c.req == 0
  | 2 => c.key.toList.isEmpty
  | 3 => c.key2.toList.isEmpty
  | 4 => c.val.toList.isEmpty
  | 5 => c.old.toList.isEmpty
  | _ => c.n == 0
def mostV (v : Int) : Nat := if v = 1 then 1024 else 65536
def isKeyB (k : ByteArray) : Bool := decide (1 ≤ k.size) && decide (k.size ≤ 64)
def isPairB (kind : Int) (k k2 : ByteArray) : Bool := if kind = 8 then tlt k k2 else !(teq k k2)
def allowF (v : Int) (c : Cm) (f : Nat) : Bool :=
  match f with
  | 0 => decide (0 ≤ c.client) && decide (c.client ≤ 65535)
  | 1 => decide (0 ≤ c.req) && decide (c.req ≤ 1073741824)
  | 2 => isKeyB c.key
  | 3 => isKeyB c.key2 && isPairB c.kind c.key c.key2
  | 4 => decide (c.val.size ≤ mostV v)
  | 5 => decide (c.old.size ≤ mostV v)
  | _ => true
def errF (f : Nat) : Nat := if f = 6 then 0 else 42 + f
/-- What is amiss with a field; 0: nothing. -/
def faultF (v : Int) (c : Cm) (f : Nat) : Nat := if hasF c.kind f then (if allowF v c f then 0 else errF f) else (if zeroF c f then 0 else 48)
def firstF (v : Int) (c : Cm) : Nat → Nat → Nat
  | 0, _ => 0
  | k + 1, f => if faultF v c f = 0 then firstF v c k (f + 1) else faultF v c f
def chk (v : Int) (c : Cm) : Nat := if isVer v then (if isKd v c.kind then firstF v c 7 0 else 41) else 2

theorem firstF_next {v : Int} {c : Cm} {f : Nat} (hf : f < 7) (h : firstF v c 7 0 = firstF v c (7 - f) f) (h0 : faultF v c f = 0) : firstF v c 7 0 = firstF v c (7 - (f + 1)) (f + 1) := by
  rw [h, show 7 - f = (7 - (f + 1)) + 1 by omega]
  simp only [firstF, h0, if_true]
theorem firstF_hit {v : Int} {c : Cm} {f : Nat} (hf : f < 7) (h : firstF v c 7 0 = firstF v c (7 - f) f) (h0 : faultF v c f ≠ 0) : firstF v c 7 0 = faultF v c f := by
  rw [h, show 7 - f = (7 - (f + 1)) + 1 by omega]
  simp only [firstF, h0, if_false]
theorem bits_has (F f : Nat) (hF : F < 128) (hf : f < 7) : bits .and .i64 (F : Int) (bitF f) = if F.testBit f then bitF f else 0 := by
  have h : ∀ F : Fin 128, ∀ f : Fin 7, bits .and .i64 (F.val : Int) (bitF f.val) = if F.val.testBit f.val then bitF f.val else 0 := by decide +kernel
  exact h ⟨F, hF⟩ ⟨f, hf⟩
theorem fields_lt (k : Nat) : fieldsL.getD k 0 < 128 := by
  by_cases h : k < 9
  · have : ∀ k : Fin 9, fieldsL.getD k.val 0 < 128 := by decide
    exact this ⟨k, h⟩
  · rw [List.getD, List.getElem?_eq_none (by show 9 ≤ k; omega)]; decide
end Go.Wire1
