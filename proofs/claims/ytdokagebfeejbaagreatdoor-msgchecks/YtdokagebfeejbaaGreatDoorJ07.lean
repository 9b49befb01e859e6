/- Texts of the proof, joined. -/
import Derived.Test.YtdokagebfeejbaaGreatDoorJ05
import Derived.Test.YtdokagebfeejbaaGreatDoorJ01
import Derived.Lib.MinMaxS
import Derived.Laws.Concat
import Derived.Test.YtdokagebfeejbaaGreatDoorRows
import Derived.Test.YtdokagebfeejbaaGreatDoorJ03
import Derived.WalkKit
import Derived.WalkLawsBesides
import Derived.Deep.QuietTactic
import Derived.BigQuiet
import Derived.Deep.RegionHeld3
/- The contract of the reader's method Text. -/
namespace Go.Proofs.YtdokagebfeejbaaGreatDoor
open Go.RowKit Go.Wire1
namespace mText

theorem r_err {least most : Int} {l : List Int} {k i : Nat} (h : rT least most l k = .error i) : i < 5 := by
  unfold rT at h
  cases hd : dec (l.drop k) with
  | error j => rw [hd] at h; have := dec_err hd; simp at h; omega
  | ok p =>
    rw [hd] at h
    simp only at h
    split at h
    · split at h <;> simp at h; omega
    · simp at h; omega
theorem r_val {least most : Int} {l : List Int} {k m : Nat} {v : Value} (h : rT least most l k = .ok (v, m)) : ∃ z : ByteArray, v = .string z := by
  unfold rT at h
  cases hd : dec (l.drop k) with
  | error j => rw [hd] at h; simp at h
  | ok p =>
    rw [hd] at h
    simp only at h
    split at h
    · split at h <;> simp at h; exact ⟨_, h.1.symm⟩
    · simp at h

set_option maxHeartbeats 1000000 in
set_option maxRecDepth 100000 in
theorem catching (b B0 B1 B2 : Nat) (n1 : ¬ b = B1) (n2 : ¬ B0 = B1) (n3 : ¬ B2 = B1) (i : Nat) (hi : i < 5) (a : Nat → Addr) (w : World) (he : Errs w a) (h5 : 7 ≤ b) (hab : ∀ i, i < 5 → (a i).block ≠ b) (h5' : 7 ≤ B1) (hab' : ∀ i, i < 5 → (a i).block ≠ B1) (z : ByteArray) (k x f : Int)
    (d0 : w.cell? ⟨B0, 0, none⟩ = some (.pointer (some ⟨b, 0, none⟩))) (d1 : w.cell? ⟨B1, 0, none⟩ = some (.string z)) (d2 : w.cell? ⟨B2, 0, none⟩ = some (.int .i64 k)) (g1 : w.frozen? ⟨B1, 0, none⟩ = false)
    (c1 : w.cell? ⟨b, 1, none⟩ = some (.int .i64 x)) (f1 : w.frozen? ⟨b, 1, none⟩ = false) (c2 : w.cell? ⟨b, 2, none⟩ = some (.int .i64 f)) (f2 : w.frozen? ⟨b, 2, none⟩ = false) :
    CallsD Tryz.prog 138 #[.pointer (some ⟨B1, 0, none⟩), .pointer (some ⟨B0, 0, none⟩), .pointer (some ⟨B2, 0, none⟩)] (.panicking [{ v := errV (a i), recovered := false }]) w fun e u' w' =>
      e = .returned (.tuple #[]) ∧ u' = .panicking [{ v := errV (a i), recovered := true }] ∧ w' = ((w.setCell ⟨B1, 0, none⟩ (.string ⟨#[]⟩)).setCell ⟨b, 1, none⟩ (.int .i64 k)).setCell ⟨b, 2, none⟩ (.int .i64 (11 + (i : Int))) := by
  have he' : Errs (w.setCell ⟨B1, 0, none⟩ (.string ⟨#[]⟩)) a := he.only ((Only.refl B1 0 w).setCell _) h5' hab'
  have nn : ¬ B1 = b := fun e => n1 e.symm
  have q1 : (w.setCell ⟨B1, 0, none⟩ (.string ⟨#[]⟩)).cell? ⟨b, 1, none⟩ = some (.int .i64 x) := (World.cell?_setCell_other _ _ _ _ (by simp)).trans c1
  have q2 : (w.setCell ⟨B1, 0, none⟩ (.string ⟨#[]⟩)).cell? ⟨b, 2, none⟩ = some (.int .i64 f) := (World.cell?_setCell_other _ _ _ _ (by simp)).trans c2
  have p1 : (w.setCell ⟨B1, 0, none⟩ (.string ⟨#[]⟩)).frozen? ⟨b, 1, none⟩ = false := (World.frozen?_setCell _ _ _ _).trans f1
  have p2 : (w.setCell ⟨B1, 0, none⟩ (.string ⟨#[]⟩)).frozen? ⟨b, 2, none⟩ = false := (World.frozen?_setCell _ _ _ _).trans f2
  refine callsD_of_wpS Tryz.func138 rfl fun c₀ cs hu => ?_
  apply wpS_seq
  apply wpS_region
  simp [wpOpsS, go_sem, recoverD, hu, Tryz.ntmps138, Exit.thenS]
  refine wpS_of_wp ?_
  go_wp2_with fail
  refine (giveUp_any b k x f i hi a _ he' h5 hab q1 p1 q2 p2).mono ?_
  rintro e w1 ⟨rfl, rfl⟩
  go_wp2
  simp [bodyPostS, results, Tryz.results138]

set_option maxHeartbeats 1000000 in
set_option maxRecDepth 100000 in
theorem idle (B0 B1 B2 : Nat) (w : World) :
    CallsD Tryz.prog 138 #[.pointer (some ⟨B1, 0, none⟩), .pointer (some ⟨B0, 0, none⟩), .pointer (some ⟨B2, 0, none⟩)] .returning w fun e u' w' => e = .returned (.tuple #[]) ∧ u' = .returning ∧ w' = w := by
  refine callsD_of_wpS Tryz.func138 rfl fun c₀ cs hu => ?_
  apply wpS_seq
  apply wpS_region
  simp [wpOpsS, go_sem, recoverD, hu, Tryz.ntmps138, Exit.thenS]
  refine wpS_of_wp ?_
  go_wp2
  cases c₀
  simp_all [bodyPostS, results, Tryz.results138]

set_option maxHeartbeats 2000000 in
set_option maxRecDepth 100000 in
theorem any (least most : Int) (h1 : -9223372036854775808 ≤ least) (h2 : least ≤ 9223372036854775807) (h3 : -9223372036854775808 ≤ most) (h4 : most ≤ 9223372036854775807) (b n cap k : Nat) (f : Int) (sa : Option Addr) (l : List Int) (a : Nat → Addr) (w : World) (h : Rdr w b sa n cap k f l a) :
    Calls Tryz.prog 125 #[.pointer (some ⟨b, 0, none⟩), .int .i64 least, .int .i64 most] w fun e w' => e = .returned (Meth (.string ⟨#[]⟩) (rT least most l k) k f).1 ∧ Touch b w w' ∧ Rdr w' b sa n cap (Meth (.string ⟨#[]⟩) (rT least most l k) k f).2.1 (Meth (.string ⟨#[]⟩) (rT least most l k) k f).2.2 l a := by
  have hmf : ∀ (fn : Fn) (first cap : Array Value) (w : World), (Instr.makeFunc fn first cap).run Tryz.prog w = .ok (.func fn first cap) w := fun _ _ _ _ => rfl
  have hlt := h.lt
  have c2 := h.fault
  have c1 : w.cell? ⟨b, 1, none⟩ = some (.int .i64 (k : Int)) := h.ready.cur.2.1
  by_cases hf : f = 0
  · subst hf
    obtain ⟨hbel, d0, d1, d2, g1⟩ := new3 w (.pointer (some ⟨b, 0, none⟩)) (.string ⟨#[]⟩) (.int .i64 (k : Int)) 147 9 3
    have hR := h.below hbel (Nat.le_refl _)
    have HC := hide (text_any least most b 0 n cap sa l k a _ hR.ready h.capLe h.capMax h1 h2 h3 h4)
    go_enter_defers Tryz.func125, Tryz.ntmps125
    go_wp2_with fail
    refine (unhide HC).mono ?_
    rintro e w1 ⟨ho, k', hc1, hk', hout⟩
    have hle := h.ready.le
    have HT : Hid (Touch b w w1) := (Touch.ofBelow hbel).trans (Touch.ofOnly ho)
    have d0' := (World.cell?_of_block (a := ⟨w.heap.size, 0, none⟩) (ho.block w.heap.size (by omega))).trans d0
    have d1' := (World.cell?_of_block (a := ⟨w.heap.size + 1, 0, none⟩) (ho.block (w.heap.size + 1) (by omega))).trans d1
    have d2' := (World.cell?_of_block (a := ⟨w.heap.size + 1 + 1, 0, none⟩) (ho.block (w.heap.size + 1 + 1) (by omega))).trans d2
    have g1' := (World.frozen?_of_block (a := ⟨w.heap.size + 1, 0, none⟩) (ho.block (w.heap.size + 1) (by omega))).trans g1
    have c0' : w1.cell? ⟨b, 0, none⟩ = some (.slice sa n cap) := hc1.1
    have c1' : w1.cell? ⟨b, 1, none⟩ = some (.int .i64 (k' : Int)) := hc1.2.1
    have f1' : w1.frozen? ⟨b, 1, none⟩ = false := hc1.2.2
    have c2' := (ho.cell 2 (by decide)).trans hR.fault
    have f2' := (ho.frz 2).trans hR.thaw
    have HE := hide (hR.ready.errs.only ho hR.ready.five hR.ready.apart)
    have H5 := hide h.ready.five
    have HAB := hide h.ready.apart
    have HLT : Hid (∀ i, i < 5 → (a i).block < w.heap.size) := fun i hi => h.ready.errs.lt i hi
    have HR := hide h
    clear d0 d1 d2 g1 ho hc1 HC hR hbel c1 c2 h
    generalize hB1 : w.heap.size + 1 = B1 at *
    generalize hB2 : B1 + 1 = B2 at *
    generalize hB0 : w.heap.size = B0 at *
    have n1 : ¬ b = B1 := by omega
    have n2 : ¬ B0 = B1 := by omega
    have n3 : ¬ B2 = B1 := by omega
    have n4 : ¬ B1 = b := by omega
    have HZ : Hid (w.heap.size = B0 ∧ B0 < B1) := ⟨hB0, by omega⟩
    clear hB1 hB2 hB0
    cases hd : rT least most l k with
    | error i =>
      have HQ := hide (meth_err (Z := .string ⟨#[]⟩) (k := k) hd)
      rw [hd] at hout
      obtain rfl : e = _ := hout
      have hi : i < 5 := r_err hd
      clear hd
      go_wp2
      refine leaves_cons (f := 138) (args := #[.pointer (some ⟨B1, 0, none⟩), .pointer (some ⟨B0, 0, none⟩), .pointer (some ⟨B2, 0, none⟩)]) (by simp) (by simp [go_sem]) ?_
      refine (catching b B0 B1 B2 n1 n2 n3 i hi a w1 HE.out H5.out HAB.out (by have := HZ.out; have := H5.out; omega) (fun j hj => by have := HLT.out j hj; have := HZ.out; omega) ⟨#[]⟩ (k : Int) (k' : Int) 0 d0' d1' d2' g1' c1' f1' c2' f2').mono ?_
      rintro e u' w'' ⟨rfl, rfl, rfl⟩
      have x1 : (((w1.setCell ⟨B1, 0, none⟩ (.string ⟨#[]⟩)).setCell ⟨b, 1, none⟩ (.int .i64 (k : Int))).setCell ⟨b, 2, none⟩ (.int .i64 (11 + (i : Int)))).cell? ⟨B1, 0, none⟩ = some (.string ⟨#[]⟩) := by
        rw [World.cell?_setCell_other _ _ _ _ (by simp), World.cell?_setCell_other _ _ _ _ (by simp)]; exact World.cell?_setCell_same w1 ⟨B1, 0, none⟩ _ d1'
      have y0 : (w1.setCell ⟨B1, 0, none⟩ (.string ⟨#[]⟩)).cell? ⟨b, 1, none⟩ = some (.int .i64 (k' : Int)) := (World.cell?_setCell_other _ _ _ _ (by simp)).trans c1'
      have y1 : ((w1.setCell ⟨B1, 0, none⟩ (.string ⟨#[]⟩)).setCell ⟨b, 1, none⟩ (.int .i64 (k : Int))).cell? ⟨b, 2, none⟩ = some (.int .i64 0) := (World.cell?_setCell_other _ _ _ _ (by simp)).trans ((World.cell?_setCell_other _ _ _ _ (by simp)).trans c2')
      have hT : Touch b w (((w1.setCell ⟨B1, 0, none⟩ (.string ⟨#[]⟩)).setCell ⟨b, 1, none⟩ (.int .i64 (k : Int))).setCell ⟨b, 2, none⟩ (.int .i64 (11 + (i : Int)))) := ((HT.out.setNew _ (by have := HZ.out; omega)).setB _).setB _
      have hRR : Rdr (((w1.setCell ⟨B1, 0, none⟩ (.string ⟨#[]⟩)).setCell ⟨b, 1, none⟩ (.int .i64 (k : Int))).setCell ⟨b, 2, none⟩ (.int .i64 (11 + (i : Int)))) b sa n cap k (11 + (i : Int)) l a := by
        refine HR.out.moved hT ?_ ?_ ?_ ?_ ?_ hle
        · rw [World.cell?_setCell_other _ _ _ _ (by simp), World.cell?_setCell_other _ _ _ _ (by simp), World.cell?_setCell_other _ _ _ _ (by simp)]; exact c0'
        · rw [World.cell?_setCell_other _ _ _ _ (by simp)]; exact World.cell?_setCell_same _ ⟨b, 1, none⟩ _ y0
        · rw [World.frozen?_setCell, World.frozen?_setCell, World.frozen?_setCell]; exact f1'
        · exact World.cell?_setCell_same _ ⟨b, 2, none⟩ _ y1
        · rw [World.frozen?_setCell, World.frozen?_setCell, World.frozen?_setCell]; exact f2'
      simp [Leaves, settle, results, Tryz.results125, go_sem, x1]
      rw [HQ.out]
      exact ⟨rfl, hT, hRR⟩
    | ok p =>
      obtain ⟨v, m⟩ := p
      have HQ := hide (meth_ok (Z := .string ⟨#[]⟩) (k := k) hd)
      obtain ⟨z, rfl⟩ := r_val hd
      rw [hd] at hout
      obtain ⟨rfl, hkk⟩ := hout
      subst hkk
      clear hd
      go_wp2
      refine leaves_cons (f := 138) (args := #[.pointer (some ⟨B1, 0, none⟩), .pointer (some ⟨B0, 0, none⟩), .pointer (some ⟨B2, 0, none⟩)]) (by simp) (by simp [go_sem]) ?_
      refine (idle B0 B1 B2 _).mono ?_
      rintro e u' w'' ⟨rfl, rfl, rfl⟩
      have x1 : (w1.setCell ⟨B1, 0, none⟩ (.string z)).cell? ⟨B1, 0, none⟩ = some (.string z) := World.cell?_setCell_same w1 ⟨B1, 0, none⟩ _ d1'
      have hT : Touch b w (w1.setCell ⟨B1, 0, none⟩ (.string z)) := HT.out.setNew _ (by have := HZ.out; omega)
      have hRR : Rdr (w1.setCell ⟨B1, 0, none⟩ (.string z)) b sa n cap (k + m) 0 l a := by
        refine HR.out.moved hT ?_ ?_ ?_ ?_ ?_ hk'
        · rw [World.cell?_setCell_other _ _ _ _ (by simp)]; exact c0'
        · rw [World.cell?_setCell_other _ _ _ _ (by simp)]; exact c1'
        · rw [World.frozen?_setCell]; exact f1'
        · rw [World.cell?_setCell_other _ _ _ _ (by simp)]; exact c2'
        · rw [World.frozen?_setCell]; exact f2'
      simp only [Leaves, settle]
      simp [results, Tryz.results125, go_sem, x1]
      rw [HQ.out]
      exact ⟨rfl, hT, hRR⟩
  · have HQ := hide (meth_broken (Z := .string ⟨#[]⟩) (r := rT least most l k) (k := k) hf)
    have hb : (f != 0) = true := by rw [bne_iff_ne]; exact hf
    have HB : Hid (Below w.heap.size w ((w.alloc (.cells #[.pointer (some ⟨b, 0, none⟩)] 147)).alloc (.cells #[.string ⟨#[]⟩] 9))) := ((Below.refl _ _).alloc (Nat.le_refl _) _).alloc (by simp) _
    clear hf
    go_enter_defers Tryz.func125, Tryz.ntmps125
    go_wp2
    simp only [bodyPostD, Leaves]
    simp [results, Tryz.results125, go_sem]
    rw [HQ.out]
    exact ⟨rfl, Touch.ofBelow HB.out, h.below HB.out (Nat.le_refl _)⟩
end mText
end Go.Proofs.YtdokagebfeejbaaGreatDoor
/- The plain mathematics of texts and ranges of keys: the order of texts, what a command touches, which two conflict; nothing of the program is named here. -/
namespace Go.Wire1
open Go.RowKit Go.Lib

/-- The order of texts. -/
def tlt (x y : ByteArray) : Bool := Op.bytesLess x.toList y.toList
def teq (x y : ByteArray) : Bool := x.toList == y.toList

/-- A range of keys: the first key in it, the first key behind it, may it be written. -/
structure Tch where
  k : ByteArray
  e : ByteArray
  w : Bool

def tzero : ByteArray := ⟨#[0]⟩
def tnext (k : ByteArray) : ByteArray := k ++ tzero
def touchL (kind : Int) (k k2 : ByteArray) : List Tch :=
  if kind = 1 then [⟨k, tnext k, false⟩]
  else if 2 ≤ kind ∧ kind ≤ 5 then [⟨k, tnext k, true⟩]
  else if kind = 6 then [⟨k, tnext k, true⟩, ⟨k2, tnext k2, true⟩]
  else if kind = 7 then [⟨k, tnext k, false⟩, ⟨k2, tnext k2, true⟩]
  else if kind = 8 then (if tlt k k2 then [⟨k, k2, false⟩] else [])
  else []

/-- The program's look: the higher one of the first keys is below the lower one of the ends. -/
def meetB (x y : Tch) : Bool := tlt (maxS x.k y.k) (minS x.e y.e)
def hitB (x y : Tch) : Bool := (x.w || y.w) && meetB x y
def clashB (L M : List Tch) : Bool := L.any fun x => M.any fun y => hitB x y

/-- Does the key lie in the range? -/
def inB (k : ByteArray) (t : Tch) : Bool := (tlt t.k k || teq t.k k) && tlt k t.e

def lastKey (kind : Int) (k k2 : ByteArray) : ByteArray := if kind = 6 ∨ kind = 7 then k2 else k
/-- What the statement's own look over the first keys finds. -/
def inAny (k : ByteArray) (L : List Tch) : Bool := L.any (inB k)
def inWr (k : ByteArray) (L : List Tch) : Bool := L.any fun t => inB k t && t.w
def foundB (L M : List Tch) (keys : List ByteArray) : Bool := keys.any fun k => inAny k L && inAny k M && (inWr k L || inWr k M)
end Go.Wire1
/- The plain mathematics of package command's Check: which fields a kind has, the bounds, the first thing amiss; nothing of the program is named here. -/
namespace Go.Wire1
open Go.RowKit

/-- A command. -/
structure Cm where
  kind : Int
  client : Int
  req : Int
  key : ByteArray
  key2 : ByteArray
  val : ByteArray
  old : ByteArray
  n : Int

/-- The fields of a kind, as bits: 0 Client, 1 Req, 2 Key, 3 Key2, 4 Val, 5 Old, 6 N. -/
def fieldsL : List Nat := [0, 7, 23, 7, 71, 55, 15, 15, 15]
def fromL : List Nat := [1, 1, 1, 1, 1, 1, 2, 2, 2]
def isVer (v : Int) : Bool := (v == 1) || (v == 2)
def isKd (v kind : Int) : Bool := decide (0 ≤ kind) && (decide (kind < 9) && decide ((fromL.getD kind.toNat 0 : Int) ≤ v))
def hasF (kind : Int) (f : Nat) : Bool := (fieldsL.getD kind.toNat 0).testBit f
def bitF (f : Nat) : Int := ((2 ^ f : Nat) : Int)

def zeroF (c : Cm) (f : Nat) : Bool :=
  match f with
  | 0 => c.client == 0
  | 1 => c.req == 0
  | 2 => c.key.toList.isEmpty
  | 3 => c.key2.toList.isEmpty
  | 4 => c.val.toList.isEmpty
  | 5 => c.old.toList.isEmpty
  | _ => c.n == 0
def mostV (v : Int) : Nat := if v = 1 then 1024 else 65536
def isKeyB (k : ByteArray) : Bool := decide (1 ≤ k.size) && decide (k.size ≤ 64)
def isPairB (kind : Int) (k k2 : ByteArray) : Bool := if kind = 8 then tlt k k2 else !(teq k k2)
def allowF (v : Int) (c : Cm) (f : Nat) : Bool :=
  match f with
  | 0 => decide (0 ≤ c.client) && decide (c.client ≤ 65535)
  | 1 => decide (0 ≤ c.req) && decide (c.req ≤ 1073741824)
  | 2 => isKeyB c.key
  | 3 => isKeyB c.key2 && isPairB c.kind c.key c.key2
  | 4 => decide (c.val.size ≤ mostV v)
  | 5 => decide (c.old.size ≤ mostV v)
  | _ => true
def errF (f : Nat) : Nat := if f = 6 then 0 else 42 + f
/-- What is amiss with a field; 0: nothing. -/
def faultF (v : Int) (c : Cm) (f : Nat) : Nat := if hasF c.kind f then (if allowF v c f then 0 else errF f) else (if zeroF c f then 0 else 48)
def firstF (v : Int) (c : Cm) : Nat → Nat → Nat
  | 0, _ => 0
  | k + 1, f => if faultF v c f = 0 then firstF v c k (f + 1) else faultF v c f
def chk (v : Int) (c : Cm) : Nat := if isVer v then (if isKd v c.kind then firstF v c 7 0 else 41) else 2

theorem firstF_next {v : Int} {c : Cm} {f : Nat} (hf : f < 7) (h : firstF v c 7 0 = firstF v c (7 - f) f) (h0 : faultF v c f = 0) : firstF v c 7 0 = firstF v c (7 - (f + 1)) (f + 1) := by
  rw [h, show 7 - f = (7 - (f + 1)) + 1 by omega]
  simp only [firstF, h0, if_true]
theorem firstF_hit {v : Int} {c : Cm} {f : Nat} (hf : f < 7) (h : firstF v c 7 0 = firstF v c (7 - f) f) (h0 : faultF v c f ≠ 0) : firstF v c 7 0 = faultF v c f := by
  rw [h, show 7 - f = (7 - (f + 1)) + 1 by omega]
  simp only [firstF, h0, if_false]
theorem bits_has (F f : Nat) (hF : F < 128) (hf : f < 7) : bits .and .i64 (F : Int) (bitF f) = if F.testBit f then bitF f else 0 := by
  have h : ∀ F : Fin 128, ∀ f : Fin 7, bits .and .i64 (F.val : Int) (bitF f.val) = if F.val.testBit f.val then bitF f.val else 0 := by decide +kernel
  exact h ⟨F, hF⟩ ⟨f, hf⟩
theorem fields_lt (k : Nat) : fieldsL.getD k 0 < 128 := by
  by_cases h : k < 9
  · have : ∀ k : Fin 9, fieldsL.getD k.val 0 < 128 := by decide
    exact this ⟨k, h⟩
  · rw [List.getD, List.getElem?_eq_none (by show 9 ≤ k; omega)]; decide
end Go.Wire1
/- The contracts of package command's isVersion, isKind, isZero, isAllowed, faultOf, isKey, isPair, mostVal. -/
namespace Go.Proofs.YtdokagebfeejbaaGreatDoor
open Go.RowKit Go.Wire1

/-- The table of kinds lies in memory. -/
def Knd (w : World) : Prop := ∀ i, i < 9 → w.cell? ⟨6, i * 2, none⟩ = some (.int .i64 (fieldsL.getD i 0 : Nat)) ∧ w.cell? ⟨6, i * 2 + 1, none⟩ = some (.int .i64 (fromL.getD i 0 : Nat))
theorem Knd.lt {w : World} (h : Knd w) : 6 < w.heap.size := cell_lt (h 0 (by omega)).1
theorem Knd.below {w w' : World} {B : Nat} (h : Knd w) (hb : Below B w w') (hB : w.heap.size ≤ B) : Knd w' := by
  have hl := h.lt
  intro i hi
  obtain ⟨h1, h2⟩ := h i hi
  exact ⟨by rw [hb.cell (p := ⟨6, i * 2, none⟩) (Nat.lt_of_lt_of_le hl hB)]; exact h1, by rw [hb.cell (p := ⟨6, i * 2 + 1, none⟩) (Nat.lt_of_lt_of_le hl hB)]; exact h2⟩

set_option maxHeartbeats 400000 in
set_option maxRecDepth 100000 in
theorem isVersion_any (v : Int) (w : World) :
    Calls Tryz.prog 97 #[.int .i64 v] w fun e w' => e = .returned (.bool (isVer v)) ∧ w = w' := by
  cases h1 : (v == 1) with
  | true =>
    have HR : Hid (isVer v = true) := by simp [Hid, isVer, h1]
    go_enter Tryz.func97, Tryz.ntmps97
    go_wp2
    go_ret
    exact ⟨by rw [HR.out]; rfl, rfl⟩
  | false =>
    have HR : Hid (isVer v = (v == 2)) := by simp [Hid, isVer, h1]
    go_enter Tryz.func97, Tryz.ntmps97
    go_wp2
    go_ret
    exact ⟨by rw [HR.out]; rfl, rfl⟩

set_option maxHeartbeats 400000 in
set_option maxRecDepth 100000 in
theorem isKind_any (v kind : Int) (w : World) (hK : Knd w) :
    Calls Tryz.prog 122 #[.int .i64 v, .int .i64 kind] w fun e w' => e = .returned (.bool (isKd v kind)) ∧ w = w' := by
  by_cases h1 : 0 ≤ kind
  · by_cases h2 : kind < 9
    · obtain ⟨k, rfl⟩ := Int.eq_ofNat_of_zero_le h1
      have h3 : k < 9 := by omega
      obtain ⟨_, hc⟩ := hK k h3
      have HR : Hid (isKd v (k : Int) = decide ((fromL.getD k 0 : Int) ≤ v)) := by simp [Hid, isKd, h2]
      generalize fromL.getD k 0 = fr at *
      go_enter Tryz.func122, Tryz.ntmps122
      go_wp2
      go_ret
      exact ⟨by rw [HR.out]; rfl, rfl⟩
    · have HR : Hid (isKd v kind = false) := by simp [Hid, isKd, h2]
      go_enter Tryz.func122, Tryz.ntmps122
      go_wp2
      go_ret
      exact ⟨by rw [HR.out]; first | rfl | (simp; omega), rfl⟩
  · have HR : Hid (isKd v kind = false) := by simp [Hid, isKd, h1]
    go_enter Tryz.func122, Tryz.ntmps122
    go_wp2
    go_ret
    exact ⟨by rw [HR.out]; first | rfl | (simp; omega), rfl⟩

set_option maxHeartbeats 400000 in
set_option maxRecDepth 100000 in
theorem isKey_any (k : ByteArray) (w : World) (hk : k.size ≤ 140737488351232) :
    Calls Tryz.prog 183 #[.string k] w fun e w' => e = .returned (.bool (isKeyB k)) ∧ w = w' := by
  by_cases h1 : 1 ≤ k.size
  · have HR : Hid (isKeyB k = decide ((k.size : Int) ≤ 64)) := by
      unfold isKeyB; rw [decide_eq_true h1, Bool.true_and, Hid]
      exact decide_eq_decide.2 (by omega)
    go_enter Tryz.func183, Tryz.ntmps183
    go_wp2
    go_ret
    exact ⟨by rw [HR.out]; rfl, rfl⟩
  · have HR : Hid (isKeyB k = false) := by simp [Hid, isKeyB, h1]
    go_enter Tryz.func183, Tryz.ntmps183
    go_wp2
    go_ret
    exact ⟨by rw [HR.out]; first | rfl | (simp; omega), rfl⟩
set_option maxHeartbeats 400000 in
set_option maxRecDepth 100000 in
theorem isPair_any (kind : Int) (k k2 : ByteArray) (w : World) :
    Calls Tryz.prog 127 #[.int .i64 kind, .string k, .string k2] w fun e w' => e = .returned (.bool (isPairB kind k k2)) ∧ w = w' := by
  by_cases h1 : kind = 8
  · subst h1
    have HR : Hid (isPairB 8 k k2 = Op.bytesLess k.toList k2.toList) := by simp [Hid, isPairB, tlt]
    go_enter Tryz.func127, Tryz.ntmps127
    go_wp2
    go_ret
    exact ⟨by rw [HR.out]; rfl, rfl⟩
  · have HR : Hid (isPairB kind k k2 = !(k.toList == k2.toList)) := by simp [Hid, isPairB, teq, h1]
    have g1 : (kind == 8) = false := by simpa using h1
    go_enter Tryz.func127, Tryz.ntmps127
    go_wp2
    go_ret
    exact ⟨by rw [HR.out]; rfl, rfl⟩

set_option maxHeartbeats 400000 in
set_option maxRecDepth 100000 in
theorem mostVal_any (v : Int) (w : World) :
    Calls Tryz.prog 113 #[.int .i64 v] w fun e w' => e = .returned (.int .i64 (mostV v : Nat)) ∧ w = w' := by
  by_cases h1 : v = 1
  · subst h1
    go_enter Tryz.func113, Tryz.ntmps113
    go_wp2
    go_ret
    exact ⟨rfl, rfl⟩
  · have HR : Hid (mostV v = 65536) := by simp [Hid, mostV, h1]
    have g1 : (v == 1) = false := by simpa using h1
    go_enter Tryz.func113, Tryz.ntmps113
    go_wp2
    go_ret
    exact ⟨by rw [HR.out]; rfl, rfl⟩

set_option maxHeartbeats 1000000 in
set_option maxRecDepth 100000 in
theorem isZero_any (c : Cm) (f : Nat) (w : World) (hf : f < 7) :
    Calls Tryz.prog 175 #[.agg #[.int .i64 c.kind, .int .i64 c.client, .int .i64 c.req, .string c.key, .string c.key2, .string c.val, .string c.old, .int .i64 c.n], .int .i64 (bitF f)] w fun e w' => e = .returned (.bool (zeroF c f)) ∧ Below w.heap.size w w' := by
  have B : ∀ (o : Obj), Below w.heap.size w (w.alloc o) := fun o => (Below.refl _ _).alloc (Nat.le_refl _) _
  rcases (by omega : f = 0 ∨ f = 1 ∨ f = 2 ∨ f = 3 ∨ f = 4 ∨ f = 5 ∨ f = 6) with rfl | rfl | rfl | rfl | rfl | rfl | rfl
  all_goals
    (first | rw [show bitF 0 = 1 from rfl] | rw [show bitF 1 = 2 from rfl] | rw [show bitF 2 = 4 from rfl] | rw [show bitF 3 = 8 from rfl] | rw [show bitF 4 = 16 from rfl] | rw [show bitF 5 = 32 from rfl] | rw [show bitF 6 = 64 from rfl])
    go_enter Tryz.func175, Tryz.ntmps175
    go_wp2
    go_ret
    exact ⟨rfl, B _⟩
set_option maxHeartbeats 1000000 in
set_option maxRecDepth 100000 in
theorem faultOf_any (f : Nat) (w : World) (hf : f < 7) :
    Calls Tryz.prog 177 #[.int .i64 (bitF f)] w fun e w' => e = .returned (.int .i64 (errF f : Nat)) ∧ w = w' := by
  rcases (by omega : f = 0 ∨ f = 1 ∨ f = 2 ∨ f = 3 ∨ f = 4 ∨ f = 5 ∨ f = 6) with rfl | rfl | rfl | rfl | rfl | rfl | rfl
  all_goals
    (first | rw [show bitF 0 = 1 from rfl] | rw [show bitF 1 = 2 from rfl] | rw [show bitF 2 = 4 from rfl] | rw [show bitF 3 = 8 from rfl] | rw [show bitF 4 = 16 from rfl] | rw [show bitF 5 = 32 from rfl] | rw [show bitF 6 = 64 from rfl])
    go_enter Tryz.func177, Tryz.ntmps177
    go_wp2
    go_ret
    exact ⟨rfl, rfl⟩
set_option maxHeartbeats 2000000 in
set_option maxRecDepth 100000 in
theorem isAllowed_any (v : Int) (c : Cm) (f : Nat) (w : World) (hf : f < 7) (hk : c.key.size ≤ 140737488351232) (hk2 : c.key2.size ≤ 140737488351232) :
    Calls Tryz.prog 176 #[.int .i64 v, .agg #[.int .i64 c.kind, .int .i64 c.client, .int .i64 c.req, .string c.key, .string c.key2, .string c.val, .string c.old, .int .i64 c.n], .int .i64 (bitF f)] w fun e w' => e = .returned (.bool (allowF v c f)) ∧ Below w.heap.size w w' := by
  have B : ∀ (o : Obj), Below w.heap.size w (w.alloc o) := fun o => (Below.refl _ _).alloc (Nat.le_refl _) _
  rcases (by omega : f = 0 ∨ f = 1 ∨ f = 2 ∨ f = 3 ∨ f = 4 ∨ f = 5 ∨ f = 6) with rfl | rfl | rfl | rfl | rfl | rfl | rfl
  · rw [show bitF 0 = 1 from rfl]
    by_cases h1 : 0 ≤ c.client
    · go_enter Tryz.func176, Tryz.ntmps176
      go_wp2
      go_ret
      exact ⟨by simp [allowF, h1], B _⟩
    · go_enter Tryz.func176, Tryz.ntmps176
      go_wp2
      go_ret
      exact ⟨by simp [allowF]; omega, B _⟩
  · rw [show bitF 1 = 2 from rfl]
    by_cases h1 : 0 ≤ c.req
    · go_enter Tryz.func176, Tryz.ntmps176
      go_wp2
      go_ret
      exact ⟨by simp [allowF, h1], B _⟩
    · go_enter Tryz.func176, Tryz.ntmps176
      go_wp2
      go_ret
      exact ⟨by simp [allowF]; omega, B _⟩
  · rw [show bitF 2 = 4 from rfl]
    go_enter Tryz.func176, Tryz.ntmps176
    go_wp2_with fail
    refine (isKey_any c.key _ hk).mono ?_
    rintro e w1 ⟨rfl, rfl⟩
    go_wp2
    go_ret
    exact ⟨rfl, B _⟩
  · rw [show bitF 3 = 8 from rfl]
    cases h1 : isKeyB c.key2 with
    | true =>
      go_enter Tryz.func176, Tryz.ntmps176
      go_wp2_with fail
      refine (isKey_any c.key2 _ hk2).mono ?_
      rintro e w1 ⟨rfl, rfl⟩
      rw [h1]
      go_wp2_with fail
      refine (isPair_any c.kind c.key c.key2 _).mono ?_
      rintro e w1 ⟨rfl, rfl⟩
      go_wp2
      go_ret
      exact ⟨by simp [allowF, h1], B _⟩
    | false =>
      go_enter Tryz.func176, Tryz.ntmps176
      go_wp2_with fail
      refine (isKey_any c.key2 _ hk2).mono ?_
      rintro e w1 ⟨rfl, rfl⟩
      rw [h1]
      go_wp2
      go_ret
      exact ⟨by simp [allowF, h1], B _⟩
  · rw [show bitF 4 = 16 from rfl]
    obtain ⟨V, hV⟩ : ∃ V, V = w.alloc (.cells #[.int .i64 c.kind, .int .i64 c.client, .int .i64 c.req, .string c.key, .string c.key2, .string c.val, .string c.old, .int .i64 c.n] 27) := ⟨_, rfl⟩
    have c5 : V.cell? ⟨w.heap.size, 5, none⟩ = some (.string c.val) := by rw [hV]; simp [go_sem]
    have BV : Hid (Below w.heap.size w V) := by rw [hV]; exact B _
    go_enter Tryz.func176, Tryz.ntmps176
    go_wp2
    rw [← hV]
    clear hV
    go_region_held3 (fun w' => w'.cell? ⟨w.heap.size, 5, none⟩ = some (.string c.val)) (first | go_keep) (first | (go_at_call 113; refine (mostVal_any v _).mono ?_; rintro e w1 ⟨rfl, rfl⟩))
    go_wp2
    go_ret
    exact ⟨by simp [allowF], BV.out.drew⟩
  · rw [show bitF 5 = 32 from rfl]
    obtain ⟨V, hV⟩ : ∃ V, V = w.alloc (.cells #[.int .i64 c.kind, .int .i64 c.client, .int .i64 c.req, .string c.key, .string c.key2, .string c.val, .string c.old, .int .i64 c.n] 27) := ⟨_, rfl⟩
    have c6 : V.cell? ⟨w.heap.size, 6, none⟩ = some (.string c.old) := by rw [hV]; simp [go_sem]
    have BV : Hid (Below w.heap.size w V) := by rw [hV]; exact B _
    go_enter Tryz.func176, Tryz.ntmps176
    go_wp2
    rw [← hV]
    clear hV
    go_region_held3 (fun w' => w'.cell? ⟨w.heap.size, 6, none⟩ = some (.string c.old)) (first | go_keep) (first | (go_at_call 113; refine (mostVal_any v _).mono ?_; rintro e w1 ⟨rfl, rfl⟩))
    go_wp2
    go_ret
    exact ⟨by simp [allowF], BV.out.drew⟩
  · rw [show bitF 6 = 64 from rfl]
    go_enter Tryz.func176, Tryz.ntmps176
    go_wp2
    go_ret
    exact ⟨rfl, B _⟩
end Go.Proofs.YtdokagebfeejbaaGreatDoor
