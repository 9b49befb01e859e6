/- Texts of the proof, joined. -/
import Derived.Test.YtbdkelffncmkhaaGreatDoorJ08
import Derived.Test.YtbdkelffncmkhaaGreatDoorRows
import Derived.Test.YtbdkelffncmkhaaGreatDoorJ04
import Derived.WalkKit
import Derived.WalkLawsBesides
import Derived.Deep.QuietTactic
import Derived.BigQuiet
import Derived.Deep.RegionHeld3
import Derived.Test.YtbdkelffncmkhaaGreatDoorJ07
/- The plain mathematics of package command's Check: which fields a kind has, the bounds, the first thing amiss; nothing of the program is named here. -/
namespace Go.Wire1
open Go.RowKit

/-- A command. -/
structure Cm where
  kind : Int
  client : Int
  req : Int
  key : ByteArray
  key2 : ByteArray
  val : ByteArray
  old : ByteArray
  n : Int

/-- The fields of a kind, as bits: 0 Client, 1 Req, 2 Key, 3 Key2, 4 Val, 5 Old, 6 N. -/
def fieldsL : List Nat := [0, 7, 23, 7, 71, 55, 15, 15, 15]
def fromL : List Nat := [1, 1, 1, 1, 1, 1, 2, 2, 2]
def isVer (v : Int) : Bool := (v == 1) || (v == 2)
def isKd (v kind : Int) : Bool := decide (0 ≤ kind) && (decide (kind < 9) && decide ((fromL.getD kind.toNat 0 : Int) ≤ v))
def hasF (kind : Int) (f : Nat) : Bool := (fieldsL.getD kind.toNat 0).testBit f
def bitF (f : Nat) : Int := ((2 ^ f : Nat) : Int)

def zeroF (c : Cm) (f : Nat) : Bool :=
  match f with
  | 0 => c.client == 0
  | 1 => c.req == 0
  | 2 => c.key.toList.isEmpty
  | 3 => c.key2.toList.isEmpty
  | 4 => c.val.toList.isEmpty
  | 5 => c.old.toList.isEmpty
  | _ => c.n == 0
def mostV (v : Int) : Nat := if v = 1 then 1024 else 65536
def isKeyB (k : ByteArray) : Bool := decide (1 ≤ k.size) && decide (k.size ≤ 64)
def isPairB (kind : Int) (k k2 : ByteArray) : Bool := if kind = 8 then tlt k k2 else !(teq k k2)
def allowF (v : Int) (c : Cm) (f : Nat) : Bool :=
  match f with
  | 0 => decide (0 ≤ c.client) && decide (c.client ≤ 65535)
  | 1 => decide (0 ≤ c.req) && decide (c.req ≤ 1073741824)
  | 2 => isKeyB c.key
  | 3 => isKeyB c.key2 && isPairB c.kind c.key c.key2
  | 4 => decide (c.val.size ≤ mostV v)
  | 5 => decide (c.old.size ≤ mostV v)
  | _ => true
def errF (f : Nat) : Nat := if f = 6 then 0 else 42 + f
/-- What is amiss with a field; 0: nothing. -/
def faultF (v : Int) (c : Cm) (f : Nat) : Nat := if hasF c.kind f then (if allowF v c f then 0 else errF f) else (if zeroF c f then 0 else 48)
def firstF (v : Int) (c : Cm) : Nat → Nat → Nat
  | 0, _ => 0
  | k + 1, f => if faultF v c f = 0 then firstF v c k (f + 1) else faultF v c f
def chk (v : Int) (c : Cm) : Nat := if isVer v then (if isKd v c.kind then firstF v c 7 0 else 41) else 2

theorem firstF_next {v : Int} {c : Cm} {f : Nat} (hf : f < 7) (h : firstF v c 7 0 = firstF v c (7 - f) f) (h0 : faultF v c f = 0) : firstF v c 7 0 = firstF v c (7 - (f + 1)) (f + 1) := by
  rw [h, show 7 - f = (7 - (f + 1)) + 1 by omega]
  simp only [firstF, h0, if_true]
theorem firstF_hit {v : Int} {c : Cm} {f : Nat} (hf : f < 7) (h : firstF v c 7 0 = firstF v c (7 - f) f) (h0 : faultF v c f ≠ 0) : firstF v c 7 0 = faultF v c f := by
  rw [h, show 7 - f = (7 - (f + 1)) + 1 by omega]
  simp only [firstF, h0, if_false]
theorem bits_has (F f : Nat) (hF : F < 128) (hf : f < 7) : bits .and .i64 (F : Int) (bitF f) = if F.testBit f then bitF f else 0 := by
  have h : ∀ F : Fin 128, ∀ f : Fin 7, bits .and .i64 (F.val : Int) (bitF f.val) = if F.val.testBit f.val then bitF f.val else 0 := by decide +kernel
  exact h ⟨F, hF⟩ ⟨f, hf⟩
theorem fields_lt (k : Nat) : fieldsL.getD k 0 < 128 := by
  by_cases h : k < 9
  · have : ∀ k : Fin 9, fieldsL.getD k.val 0 < 128 := by decide
    exact this ⟨k, h⟩
  · rw [List.getD, List.getElem?_eq_none (by show 9 ≤ k; omega)]; decide
end Go.Wire1
/- The contracts of package command's isVersion, isKind, isZero, isAllowed, faultOf, isKey, isPair, mostVal. -/
namespace Go.Proofs.YtbdkelffncmkhaaGreatDoor
open Go.RowKit Go.Wire1

/-- The table of kinds lies in memory. -/
def Knd (w : World) : Prop := ∀ i, i < 9 → w.cell? ⟨6, i * 2, none⟩ = some (.int .i64 (fieldsL.getD i 0 : Nat)) ∧ w.cell? ⟨6, i * 2 + 1, none⟩ = some (.int .i64 (fromL.getD i 0 : Nat))
theorem Knd.lt {w : World} (h : Knd w) : 6 < w.heap.size := cell_lt (h 0 (by omega)).1
theorem Knd.below {w w' : World} {B : Nat} (h : Knd w) (hb : Below B w w') (hB : w.heap.size ≤ B) : Knd w' := by
  have hl := h.lt
  intro i hi
  obtain ⟨h1, h2⟩ := h i hi
  exact ⟨by rw [hb.cell (p := ⟨6, i * 2, none⟩) (Nat.lt_of_lt_of_le hl hB)]; exact h1, by rw [hb.cell (p := ⟨6, i * 2 + 1, none⟩) (Nat.lt_of_lt_of_le hl hB)]; exact h2⟩

set_option maxHeartbeats 400000 in
set_option maxRecDepth 100000 in
theorem isVersion_any (v : Int) (w : World) :
    Calls Tryz.prog 68 #[.int .i64 v] w fun e w' => e = .returned (.bool (isVer v)) ∧ w = w' := by
  cases h1 : (v == 1) with
  | true =>
    have HR : Hid (isVer v = true) := by simp [Hid, isVer, h1]
    go_enter Tryz.func68, Tryz.ntmps68
    go_wp2
    go_ret
    exact ⟨by rw [HR.out]; rfl, rfl⟩
  | false =>
    have HR : Hid (isVer v = (v == 2)) := by simp [Hid, isVer, h1]
    go_enter Tryz.func68, Tryz.ntmps68
    go_wp2
    go_ret
    exact ⟨by rw [HR.out]; rfl, rfl⟩

set_option maxHeartbeats 400000 in
set_option maxRecDepth 100000 in
theorem isKind_any (v kind : Int) (w : World) (hK : Knd w) :
    Calls Tryz.prog 93 #[.int .i64 v, .int .i64 kind] w fun e w' => e = .returned (.bool (isKd v kind)) ∧ w = w' := by
  by_cases h1 : 0 ≤ kind
  · by_cases h2 : kind < 9
    · obtain ⟨k, rfl⟩ := Int.eq_ofNat_of_zero_le h1
      have h3 : k < 9 := by omega
      obtain ⟨_, hc⟩ := hK k h3
      have HR : Hid (isKd v (k : Int) = decide ((fromL.getD k 0 : Int) ≤ v)) := by simp [Hid, isKd, h2]
      generalize fromL.getD k 0 = fr at *
      go_enter Tryz.func93, Tryz.ntmps93
      go_wp2
      go_ret
      exact ⟨by rw [HR.out]; rfl, rfl⟩
    · have HR : Hid (isKd v kind = false) := by simp [Hid, isKd, h2]
      go_enter Tryz.func93, Tryz.ntmps93
      go_wp2
      go_ret
      exact ⟨by rw [HR.out]; first | rfl | (simp; omega), rfl⟩
  · have HR : Hid (isKd v kind = false) := by simp [Hid, isKd, h1]
    go_enter Tryz.func93, Tryz.ntmps93
    go_wp2
    go_ret
    exact ⟨by rw [HR.out]; first | rfl | (simp; omega), rfl⟩

set_option maxHeartbeats 400000 in
set_option maxRecDepth 100000 in
theorem isKey_any (k : ByteArray) (w : World) (hk : k.size ≤ 140737488351232) :
    Calls Tryz.prog 154 #[.string k] w fun e w' => e = .returned (.bool (isKeyB k)) ∧ w = w' := by
  by_cases h1 : 1 ≤ k.size
  · have HR : Hid (isKeyB k = decide ((k.size : Int) ≤ 64)) := by
      unfold isKeyB; rw [decide_eq_true h1, Bool.true_and, Hid]
      exact decide_eq_decide.2 (by omega)
    go_enter Tryz.func154, Tryz.ntmps154
    go_wp2
    go_ret
    exact ⟨by rw [HR.out]; rfl, rfl⟩
  · have HR : Hid (isKeyB k = false) := by simp [Hid, isKeyB, h1]
    go_enter Tryz.func154, Tryz.ntmps154
    go_wp2
    go_ret
    exact ⟨by rw [HR.out]; first | rfl | (simp; omega), rfl⟩

set_option maxHeartbeats 400000 in
set_option maxRecDepth 100000 in
theorem isPair_any (kind : Int) (k k2 : ByteArray) (w : World) :
    Calls Tryz.prog 98 #[.int .i64 kind, .string k, .string k2] w fun e w' => e = .returned (.bool (isPairB kind k k2)) ∧ w = w' := by
  by_cases h1 : kind = 8
  · subst h1
    have HR : Hid (isPairB 8 k k2 = Op.bytesLess k.toList k2.toList) := by simp [Hid, isPairB, tlt]
    go_enter Tryz.func98, Tryz.ntmps98
    go_wp2
    go_ret
    exact ⟨by rw [HR.out]; rfl, rfl⟩
  · have HR : Hid (isPairB kind k k2 = !(k.toList == k2.toList)) := by simp [Hid, isPairB, teq, h1]
    have g1 : (kind == 8) = false := by simpa using h1
    go_enter Tryz.func98, Tryz.ntmps98
    go_wp2
    go_ret
    exact ⟨by rw [HR.out]; rfl, rfl⟩

set_option maxHeartbeats 400000 in
set_option maxRecDepth 100000 in
theorem mostVal_any (v : Int) (w : World) :
    Calls Tryz.prog 84 #[.int .i64 v] w fun e w' => e = .returned (.int .i64 (mostV v : Nat)) ∧ w = w' := by
  by_cases h1 : v = 1
  · subst h1
    go_enter Tryz.func84, Tryz.ntmps84
    go_wp2
    go_ret
    exact ⟨rfl, rfl⟩
  · have HR : Hid (mostV v = 65536) := by simp [Hid, mostV, h1]
    have g1 : (v == 1) = false := by simpa using h1
    go_enter Tryz.func84, Tryz.ntmps84
    go_wp2
    go_ret
    exact ⟨by rw [HR.out]; rfl, rfl⟩

set_option maxHeartbeats 1000000 in
set_option maxRecDepth 100000 in
theorem isZero_any (c : Cm) (f : Nat) (w : World) (hf : f < 7) :
    Calls Tryz.prog 146 #[.agg #[.int .i64 c.kind, .int .i64 c.client, .int .i64 c.req, .string c.key, .string c.key2, .string c.val, .string c.old, .int .i64 c.n], .int .i64 (bitF f)] w fun e w' => e = .returned (.bool (zeroF c f)) ∧ Below w.heap.size w w' := by
  have B : ∀ (o : Obj), Below w.heap.size w (w.alloc o) := fun o => (Below.refl _ _).alloc (Nat.le_refl _) _
  rcases (by omega : f = 0 ∨ f = 1 ∨ f = 2 ∨ f = 3 ∨ f = 4 ∨ f = 5 ∨ f = 6) with rfl | rfl | rfl | rfl | rfl | rfl | rfl
  all_goals
    (first | rw [show bitF 0 = 1 from rfl] | rw [show bitF 1 = 2 from rfl] | rw [show bitF 2 = 4 from rfl] | rw [show bitF 3 = 8 from rfl] | rw [show bitF 4 = 16 from rfl] | rw [show bitF 5 = 32 from rfl] | rw [show bitF 6 = 64 from rfl])
    go_enter Tryz.func146, Tryz.ntmps146
    go_wp2
    go_ret
    exact ⟨rfl, B _⟩

set_option maxHeartbeats 1000000 in
set_option maxRecDepth 100000 in
theorem faultOf_any (f : Nat) (w : World) (hf : f < 7) :
    Calls Tryz.prog 148 #[.int .i64 (bitF f)] w fun e w' => e = .returned (.int .i64 (errF f : Nat)) ∧ w = w' := by
  rcases (by omega : f = 0 ∨ f = 1 ∨ f = 2 ∨ f = 3 ∨ f = 4 ∨ f = 5 ∨ f = 6) with rfl | rfl | rfl | rfl | rfl | rfl | rfl
  all_goals
    (first | rw [show bitF 0 = 1 from rfl] | rw [show bitF 1 = 2 from rfl] | rw [show bitF 2 = 4 from rfl] | rw [show bitF 3 = 8 from rfl] | rw [show bitF 4 = 16 from rfl] | rw [show bitF 5 = 32 from rfl] | rw [show bitF 6 = 64 from rfl])
    go_enter Tryz.func148, Tryz.ntmps148
    go_wp2
    go_ret
    exact ⟨rfl, rfl⟩

set_option maxHeartbeats 2000000 in
set_option maxRecDepth 100000 in
theorem isAllowed_any (v : Int) (c : Cm) (f : Nat) (w : World) (hf : f < 7) (hk : c.key.size ≤ 140737488351232) (hk2 : c.key2.size ≤ 140737488351232) :
    Calls Tryz.prog 147 #[.int .i64 v, .agg #[.int .i64 c.kind, .int .i64 c.client, .int .i64 c.req, .string c.key, .string c.key2, .string c.val, .string c.old, .int .i64 c.n], .int .i64 (bitF f)] w fun e w' => e = .returned (.bool (allowF v c f)) ∧ Below w.heap.size w w' := by
  have B : ∀ (o : Obj), Below w.heap.size w (w.alloc o) := fun o => (Below.refl _ _).alloc (Nat.le_refl _) _
  rcases (by omega : f = 0 ∨ f = 1 ∨ f = 2 ∨ f = 3 ∨ f = 4 ∨ f = 5 ∨ f = 6) with rfl | rfl | rfl | rfl | rfl | rfl | rfl
  · rw [show bitF 0 = 1 from rfl]
    by_cases h1 : 0 ≤ c.client
    · go_enter Tryz.func147, Tryz.ntmps147
      go_wp2
      go_ret
      exact ⟨by simp [allowF, h1], B _⟩
    · go_enter Tryz.func147, Tryz.ntmps147
      go_wp2
      go_ret
      exact ⟨by simp [allowF]; omega, B _⟩
  · rw [show bitF 1 = 2 from rfl]
    by_cases h1 : 0 ≤ c.req
    · go_enter Tryz.func147, Tryz.ntmps147
      go_wp2
      go_ret
      exact ⟨by simp [allowF, h1], B _⟩
    · go_enter Tryz.func147, Tryz.ntmps147
      go_wp2
      go_ret
      exact ⟨by simp [allowF]; omega, B _⟩
  · rw [show bitF 2 = 4 from rfl]
    go_enter Tryz.func147, Tryz.ntmps147
    go_wp2_with fail
    refine (isKey_any c.key _ hk).mono ?_
    rintro e w1 ⟨rfl, rfl⟩
    go_wp2
    go_ret
    exact ⟨rfl, B _⟩
  · rw [show bitF 3 = 8 from rfl]
    cases h1 : isKeyB c.key2 with
    | true =>
      go_enter Tryz.func147, Tryz.ntmps147
      go_wp2_with fail
      refine (isKey_any c.key2 _ hk2).mono ?_
      rintro e w1 ⟨rfl, rfl⟩
      rw [h1]
      go_wp2_with fail
      refine (isPair_any c.kind c.key c.key2 _).mono ?_
      rintro e w1 ⟨rfl, rfl⟩
      go_wp2
      go_ret
      exact ⟨by simp [allowF, h1], B _⟩
    | false =>
      go_enter Tryz.func147, Tryz.ntmps147
      go_wp2_with fail
      refine (isKey_any c.key2 _ hk2).mono ?_
      rintro e w1 ⟨rfl, rfl⟩
      rw [h1]
      go_wp2
      go_ret
      exact ⟨by simp [allowF, h1], B _⟩
  · rw [show bitF 4 = 16 from rfl]
    obtain ⟨V, hV⟩ : ∃ V, V = w.alloc (.cells #[.int .i64 c.kind, .int .i64 c.client, .int .i64 c.req, .string c.key, .string c.key2, .string c.val, .string c.old, .int .i64 c.n] 29) := ⟨_, rfl⟩
    have c5 : V.cell? ⟨w.heap.size, 5, none⟩ = some (.string c.val) := by rw [hV]; simp [go_sem]
    have BV : Hid (Below w.heap.size w V) := by rw [hV]; exact B _
    go_enter Tryz.func147, Tryz.ntmps147
    go_wp2
    rw [← hV]
    clear hV
    go_region_held3 (fun w' => w'.cell? ⟨w.heap.size, 5, none⟩ = some (.string c.val)) (first | go_keep) (first | (go_at_call 84; refine (mostVal_any v _).mono ?_; rintro e w1 ⟨rfl, rfl⟩))
    go_wp2
    go_ret
    exact ⟨by simp [allowF], BV.out.drew⟩
  · rw [show bitF 5 = 32 from rfl]
    obtain ⟨V, hV⟩ : ∃ V, V = w.alloc (.cells #[.int .i64 c.kind, .int .i64 c.client, .int .i64 c.req, .string c.key, .string c.key2, .string c.val, .string c.old, .int .i64 c.n] 29) := ⟨_, rfl⟩
    have c6 : V.cell? ⟨w.heap.size, 6, none⟩ = some (.string c.old) := by rw [hV]; simp [go_sem]
    have BV : Hid (Below w.heap.size w V) := by rw [hV]; exact B _
    go_enter Tryz.func147, Tryz.ntmps147
    go_wp2
    rw [← hV]
    clear hV
    go_region_held3 (fun w' => w'.cell? ⟨w.heap.size, 6, none⟩ = some (.string c.old)) (first | go_keep) (first | (go_at_call 84; refine (mostVal_any v _).mono ?_; rintro e w1 ⟨rfl, rfl⟩))
    go_wp2
    go_ret
    exact ⟨by simp [allowF], BV.out.drew⟩
  · rw [show bitF 6 = 64 from rfl]
    go_enter Tryz.func147, Tryz.ntmps147
    go_wp2
    go_ret
    exact ⟨rfl, B _⟩
end Go.Proofs.YtbdkelffncmkhaaGreatDoor
/- A command's scan in memory, and the contracts of its refuse, note, number, text, signed and kind. -/
namespace Go.Proofs.YtbdkelffncmkhaaGreatDoor
open Go.RowKit Go.Wire1

/-- A scan: its reader, its fault. -/
structure Scn (w : World) (g b : Nat) (sa : Option Addr) (n cap k : Nat) (f ft : Int) (l : List Int) (a : Nat → Addr) : Prop where
  ptr : w.cell? ⟨g, 0, none⟩ = some (.pointer (some ⟨b, 0, none⟩))
  fault : w.cell? ⟨g, 1, none⟩ = some (.int .i64 ft)
  thaw : w.frozen? ⟨g, 1, none⟩ = false
  rdr : Rdr w b sa n cap k f l a
  ne : g ≠ b
  sep : ∀ x, sa = some x → 0 < n → x.block ≠ g
  apart : ∀ i, i < 5 → (a i).block ≠ g
  six : 7 ≤ g

/-- Of what was there nothing but the blocks g and b has turned. -/
structure Turn (g b : Nat) (w w' : World) : Prop where
  os : w'.os = w.os
  tape : w'.tape = w.tape
  output : w'.output = w.output
  size : w.heap.size ≤ w'.heap.size
  block : ∀ k, k < w.heap.size → k ≠ g → k ≠ b → w'.heap[k]? = w.heap[k]?
theorem Turn.refl (g b : Nat) (w : World) : Turn g b w w := ⟨rfl, rfl, rfl, Nat.le_refl _, fun _ _ _ _ => rfl⟩
theorem Turn.trans {g b : Nat} {x y z : World} (h : Turn g b x y) (k : Turn g b y z) : Turn g b x z :=
  ⟨k.os.trans h.os, k.tape.trans h.tape, k.output.trans h.output, Nat.le_trans h.size k.size, fun i hi h1 h2 => (k.block i (Nat.lt_of_lt_of_le hi h.size) h1 h2).trans (h.block i hi h1 h2)⟩
theorem Turn.ofB {g b : Nat} {x y : World} (h : Touch b x y) : Turn g b x y := ⟨h.os, h.tape, h.output, h.size, fun i hi _ h2 => h.block i hi h2⟩
theorem Turn.ofG {g b : Nat} {x y : World} (h : Touch g x y) : Turn g b x y := ⟨h.os, h.tape, h.output, h.size, fun i hi h1 _ => h.block i hi h1⟩
theorem Turn.cell {g b : Nat} {x y : World} (h : Turn g b x y) {p : Addr} {v : Value} (hp : x.cell? p = some v) (h1 : p.block ≠ g) (h2 : p.block ≠ b) (hs : p.spot = none) : y.cell? p = some v := by
  obtain ⟨pb, po, ps⟩ := p
  obtain rfl : ps = none := hs
  rw [World.cell?_of_block (w := x) (h.block pb (cell_lt hp) h1 h2)]; exact hp
theorem Turn.below {g b B : Nat} {w0 x y : World} (h : Turn g b x y) (h0 : Below B w0 x) (hg : B ≤ g) (hb : B ≤ b) (hB : B ≤ x.heap.size) : Below B w0 y :=
  ⟨h.os.trans h0.os, h.tape.trans h0.tape, h.output.trans h0.output, Nat.le_trans h0.size h.size, fun i hi => (h.block i (by omega) (by omega) (by omega)).trans (h0.block i hi)⟩
theorem Turn.knd {g b : Nat} {x y : World} (h : Turn g b x y) (hk : Knd x) (hg : 7 ≤ g) (hb : 7 ≤ b) : Knd y := by
  intro i hi
  obtain ⟨h1, h2⟩ := hk i hi
  exact ⟨h.cell h1 (by show 6 ≠ g; omega) (by show 6 ≠ b; omega) rfl, h.cell h2 (by show 6 ≠ g; omega) (by show 6 ≠ b; omega) rfl⟩

section
variable {w w' : World} {g b : Nat} {sa : Option Addr} {n cap k : Nat} {f ft : Int} {l : List Int} {a : Nat → Addr}
theorem Scn.lt (h : Scn w g b sa n cap k f ft l a) : g < w.heap.size := cell_lt h.fault
/-- Behind a reading. -/
theorem Scn.read {k' : Nat} {f' : Int} (h : Scn w g b sa n cap k f ft l a) (ht : Touch b w w') (hr : Rdr w' b sa n cap k' f' l a) : Scn w' g b sa n cap k' f' ft l a := by
  have e : w'.heap[g]? = w.heap[g]? := ht.block g h.lt h.ne
  exact ⟨(World.cell?_of_block (a := ⟨g, 0, none⟩) e).trans h.ptr, (World.cell?_of_block (a := ⟨g, 1, none⟩) e).trans h.fault, (World.frozen?_of_block (a := ⟨g, 1, none⟩) e).trans h.thaw, hr, h.ne, h.sep, h.apart, h.six⟩
theorem Scn.drewN (h : Scn w g b sa n cap k f ft l a) (q : Nat) : Scn (w.drewN q) g b sa n cap k f ft l a := ⟨h.ptr, h.fault, h.thaw, h.rdr.drewN q, h.ne, h.sep, h.apart, h.six⟩
theorem Scn.drew (h : Scn w g b sa n cap k f ft l a) : Scn w.drew g b sa n cap k f ft l a := h.drewN 1
theorem Scn.below {C : Nat} (h : Scn w g b sa n cap k f ft l a) (hb : Below C w w') (hC : w.heap.size ≤ C) : Scn w' g b sa n cap k f ft l a := by
  have hl := h.lt
  have e : w'.heap[g]? = w.heap[g]? := hb.block g (by omega)
  exact ⟨(World.cell?_of_block (a := ⟨g, 0, none⟩) e).trans h.ptr, (World.cell?_of_block (a := ⟨g, 1, none⟩) e).trans h.fault, (World.frozen?_of_block (a := ⟨g, 1, none⟩) e).trans h.thaw, h.rdr.below hb hC, h.ne, h.sep, h.apart, h.six⟩
theorem Scn.set (h : Scn w g b sa n cap k f ft l a) (e : Int) : Scn (w.setCell ⟨g, 1, none⟩ (.int .i64 e)) g b sa n cap k f e l a ∧ Touch g w (w.setCell ⟨g, 1, none⟩ (.int .i64 e)) := by
  have ht : Touch g w (w.setCell ⟨g, 1, none⟩ (.int .i64 e)) := (Touch.refl g w).setB _
  refine ⟨⟨?_, World.cell?_setCell_same w ⟨g, 1, none⟩ _ h.fault, ?_, h.rdr.beside ht (fun e => h.ne e.symm) h.sep h.six h.apart, h.ne, h.sep, h.apart, h.six⟩, ht⟩
  · rw [World.cell?_setCell_other _ _ _ _ (by simp)]; exact h.ptr
  · rw [World.frozen?_setCell]; exact h.thaw
end

def refF (e ft : Int) : Int := if ft = 0 then e else ft
/-- What note makes of the scan's fault. -/
def noteF (own f ft : Int) : Int := if f = 0 then ft else if f = 14 ∨ f = 15 then refF own ft else refF f ft

section
variable (g b n cap k : Nat) (f ft : Int) (sa : Option Addr) (l : List Int) (a : Nat → Addr)
set_option maxHeartbeats 400000 in
set_option maxRecDepth 100000 in
theorem refuse_any (e : Int) (w : World) (h : Scn w g b sa n cap k f ft l a) :
    Calls Tryz.prog 94 #[.pointer (some ⟨g, 0, none⟩), .int .i64 e] w fun r w' => r = .returned (.tuple #[]) ∧ Touch g w w' ∧ Scn w' g b sa n cap k f (refF e ft) l a := by
  have c1 := h.fault
  have f1 := h.thaw
  have HS := hide h
  clear h
  by_cases h0 : ft = 0
  · subst h0
    have R := HS.out.set e
    go_enter Tryz.func94, Tryz.ntmps94
    go_wp2
    go_end0
    exact ⟨rfl, R.2, R.1⟩
  · have HE : Hid (refF e ft = ft) := by simp [Hid, refF, h0]
    rw [HE.out]
    have g0 : (ft == 0) = false := by simpa using h0
    clear h0
    go_enter Tryz.func94, Tryz.ntmps94
    go_wp2
    go_end0
    exact ⟨rfl, Touch.refl g w, HS.out⟩

set_option maxHeartbeats 1000000 in
set_option maxRecDepth 100000 in
theorem note_any (own : Int) (w : World) (h : Scn w g b sa n cap k f ft l a) :
    Calls Tryz.prog 92 #[.pointer (some ⟨g, 0, none⟩), .int .i64 own] w fun r w' => r = .returned (.tuple #[]) ∧ Touch g w w' ∧ Scn w' g b sa n cap k f (noteF own f ft) l a := by
  have c0 := h.ptr
  have HS := hide h
  clear h
  obtain ⟨z, hz⟩ : ∃ z, Hid (noteF own f ft = z) := ⟨_, rfl⟩
  rw [hz.out]
  by_cases h0 : f = 0
  · subst h0
    have HE : Hid (z = ft) := by rw [← hz.out]; simp [Hid, noteF]
    go_enter Tryz.func92, Tryz.ntmps92
    go_wp2_with fail
    refine (err_any b n cap k 0 sa l a _ HS.out.rdr).mono ?_
    rintro e w1 ⟨rfl, q, rfl⟩
    go_wp2
    go_end0
    exact ⟨rfl, (Touch.refl g w).drewN q, by rw [HE.out]; exact HS.out.drewN q⟩
  · by_cases h1 : f = 14
    · subst h1
      have HE : Hid (z = refF own ft) := by rw [← hz.out]; simp [Hid, noteF]
      go_enter Tryz.func92, Tryz.ntmps92
      go_wp2_with fail
      refine (err_any b n cap k 14 sa l a _ HS.out.rdr).mono ?_
      rintro e w1 ⟨rfl, q, hq⟩
      have T1 : Hid (Touch g w w1) := by rw [hq]; exact (Touch.refl g w).drewN q
      have S1 : Hid (Scn w1 g b sa n cap k 14 ft l a) := by rw [hq]; exact HS.out.drewN q
      clear hq c0
      go_wp2_with fail
      refine (refuse_any g b n cap k 14 ft sa l a own _ S1.out).mono ?_
      rintro e w2 ⟨rfl, T2, S2⟩
      have R2 : Hid (Touch g w w2 ∧ Scn w2 g b sa n cap k 14 z l a) := ⟨T1.out.trans T2, by rw [HE.out]; exact S2⟩
      clear T2 S2
      go_wp2
      go_end0
      exact ⟨rfl, R2.out⟩
    · by_cases h2 : f = 15
      · subst h2
        have HE : Hid (z = refF own ft) := by rw [← hz.out]; simp [Hid, noteF]
        go_enter Tryz.func92, Tryz.ntmps92
        go_wp2_with fail
        refine (err_any b n cap k 15 sa l a _ HS.out.rdr).mono ?_
        rintro e w1 ⟨rfl, q, hq⟩
        have T1 : Hid (Touch g w w1) := by rw [hq]; exact (Touch.refl g w).drewN q
        have S1 : Hid (Scn w1 g b sa n cap k 15 ft l a) := by rw [hq]; exact HS.out.drewN q
        clear hq c0
        go_wp2_with fail
        refine (refuse_any g b n cap k 15 ft sa l a own _ S1.out).mono ?_
        rintro e w2 ⟨rfl, T2, S2⟩
        have R2 : Hid (Touch g w w2 ∧ Scn w2 g b sa n cap k 15 z l a) := ⟨T1.out.trans T2, by rw [HE.out]; exact S2⟩
        clear T2 S2
        go_wp2
        go_end0
        exact ⟨rfl, R2.out⟩
      · have HE : Hid (z = refF f ft) := by rw [← hz.out]; simp [Hid, noteF, h0, h1, h2]
        have g0 : (f == 0) = false := by simpa using h0
        have g1 : (f == 14) = false := by simpa using h1
        have g2 : (f == 15) = false := by simpa using h2
        clear h0 h1 h2
        go_enter Tryz.func92, Tryz.ntmps92
        go_wp2_with fail
        refine (err_any b n cap k f sa l a _ HS.out.rdr).mono ?_
        rintro e w1 ⟨rfl, q, hq⟩
        have T1 : Hid (Touch g w w1) := by rw [hq]; exact (Touch.refl g w).drewN q
        have S1 : Hid (Scn w1 g b sa n cap k f ft l a) := by rw [hq]; exact HS.out.drewN q
        clear hq c0
        go_wp2_with fail
        refine (refuse_any g b n cap k f ft sa l a f _ S1.out).mono ?_
        rintro e w2 ⟨rfl, T2, S2⟩
        have R2 : Hid (Touch g w w2 ∧ Scn w2 g b sa n cap k f z l a) := ⟨T1.out.trans T2, by rw [HE.out]; exact S2⟩
        clear T2 S2
        go_wp2
        go_end0
        exact ⟨rfl, R2.out⟩
end
end Go.Proofs.YtbdkelffncmkhaaGreatDoor
