/- Texts of the proof, joined. -/
import Derived.Test.YtnogdjpbnhnmaaaGreatDoorJ24
import Derived.Test.YtnogdjpbnhnmaaaGreatDoorJ13
import Derived.Test.YtnogdjpbnhnmaaaGreatDoorJ08
import Derived.Test.YtnogdjpbnhnmaaaGreatDoorJ20
import Derived.Test.YtnogdjpbnhnmaaaGreatDoorJ12
import Derived.Lib.AppendStr
import Derived.Lib.SliceRun
/- What a scan reads, as plain functions of the bytes. -/
namespace Go.Proofs.YtnogdjpbnhnmaaaGreatDoor
open Go.RowKit Go.Wire1

/-- A scan's state: the reader's place and fault, its own fault. -/
structure St where
  k : Nat
  f : Int
  ft : Int

def gU (most : Nat) (l : List Int) (s : St) : Nat × Nat × Int :=
  if s.f = 0 then (match dec (l.drop s.k) with | .ok (x, m) => if most < x then (0, s.k, 14) else (x, s.k + m, 0) | .error i => (0, s.k, 11 + (i : Int))) else (0, s.k, s.f)
def gI (l : List Int) (s : St) : Int × Nat × Int :=
  if s.f = 0 then (match dec (l.drop s.k) with | .ok (x, m) => (unzig x, s.k + m, 0) | .error i => (0, s.k, 11 + (i : Int))) else (0, s.k, s.f)
def gB (most : Int) (l : List Int) (s : St) : Int × Nat × Int :=
  if s.f = 0 then (if l.length ≤ s.k then (0, s.k, 11) else if most < l.getD s.k 0 then (0, s.k, 14) else (l.getD s.k 0, s.k + 1, 0)) else (0, s.k, s.f)
def gT (least most : Int) (l : List Int) (s : St) : ByteArray × Nat × Int :=
  if s.f = 0 then (match dec (l.drop s.k) with
    | .ok (x, m) => if least ≤ (x : Int) ∧ (x : Int) ≤ most then (if s.k + m + x ≤ l.length then (strOfNums ((l.drop (s.k + m)).take x), s.k + (m + x), 0) else (⟨#[]⟩, s.k, 11)) else (⟨#[]⟩, s.k, 15)
    | .error i => (⟨#[]⟩, s.k, 11 + (i : Int))) else (⟨#[]⟩, s.k, s.f)

def sNum (most : Nat) (own : Int) (l : List Int) (s : St) : Nat × St := ((gU most l s).1, ⟨(gU most l s).2.1, (gU most l s).2.2, noteF own (gU most l s).2.2 s.ft⟩)
def sInt (l : List Int) (s : St) : Int × St := ((gI l s).1, ⟨(gI l s).2.1, (gI l s).2.2, noteF 14 (gI l s).2.2 s.ft⟩)
def sTxt (least most own : Int) (l : List Int) (s : St) : ByteArray × St := ((gT least most l s).1, ⟨(gT least most l s).2.1, (gT least most l s).2.2, noteF own (gT least most l s).2.2 s.ft⟩)
def sKind (v : Int) (l : List Int) (s : St) : Int × St :=
  ((gB 255 l s).1, ⟨(gB 255 l s).2.1, (gB 255 l s).2.2, if isKd v (gB 255 l s).1 then noteF 41 (gB 255 l s).2.2 s.ft else refF 41 (noteF 41 (gB 255 l s).2.2 s.ft)⟩)

/-- A scan in the state s. -/
def Scs (w : World) (g b : Nat) (sa : Option Addr) (n cap : Nat) (l : List Int) (a : Nat → Addr) (s : St) : Prop := Scn w g b sa n cap s.k s.f s.ft l a

section
variable (g b n cap : Nat) (sa : Option Addr) (l : List Int) (a : Nat → Addr)
end
end Go.Proofs.YtnogdjpbnhnmaaaGreatDoor
/- The contract of the scan's key2. -/
namespace Go.Proofs.YtnogdjpbnhnmaaaGreatDoor
open Go.RowKit Go.Wire1

def k2A (key : ByteArray) (l : List Int) (s : St) : Nat × St := sNum key.size 45 l s
def k2T (key : ByteArray) (l : List Int) (s : St) : ByteArray × St := sTxt (1 - ((k2A key l s).1 : Int)) (64 - ((k2A key l s).1 : Int)) 45 l (k2A key l s).2
def k2K (key : ByteArray) (l : List Int) (s : St) : ByteArray := key.extract 0 (k2A key l s).1 ++ (k2T key l s).1
def k2F1 (key : ByteArray) (l : List Int) (s : St) : Int := if (k2A key l s).1 < shared key (k2K key l s) then refF 13 (k2T key l s).2.ft else (k2T key l s).2.ft
def k2F (kind : Int) (key : ByteArray) (l : List Int) (s : St) : Int := if isPairB kind key (k2K key l s) then k2F1 key l s else refF 45 (k2F1 key l s)
def sKey2 (kind : Int) (key : ByteArray) (l : List Int) (s : St) : ByteArray × St := (k2K key l s, ⟨(k2T key l s).2.k, (k2T key l s).2.f, k2F kind key l s⟩)

end Go.Proofs.YtnogdjpbnhnmaaaGreatDoor
/- A command's box beside a scan. -/
namespace Go.Proofs.YtnogdjpbnhnmaaaGreatDoor
open Go.RowKit Go.Wire1

theorem Turn.ofBelow {g b : Nat} {x y : World} (h : Below x.heap.size x y) : Turn g b x y := ⟨h.os, h.tape, h.output, h.size, fun i hi _ _ => h.block i hi⟩
theorem Turn.setNew {g b c o : Nat} {x y : World} (h : Turn g b x y) (v : Value) (hc : x.heap.size ≤ c) : Turn g b x (y.setCell ⟨c, o, none⟩ v) :=
  ⟨h.os, h.tape, h.output, by simpa [World.setCell] using h.size, fun i hi h1 h2 => (Below.heap_setCell _ _ _ _ (by show i ≠ c; omega)).trans (h.block i hi h1 h2)⟩

/-- A command in a block that may be written. -/
structure Bx (w : World) (q : Nat) (c : Cm) : Prop where
  box : CBox w q c.kind c.client c.req c.key c.key2 c.val c.old c.n
  thaw : ∀ o, w.frozen? ⟨q, o, none⟩ = false
def zeroC : Cm := ⟨0, 0, 0, ⟨#[]⟩, ⟨#[]⟩, ⟨#[]⟩, ⟨#[]⟩, 0⟩
theorem Bx.lt {w : World} {q : Nat} {c : Cm} (h : Bx w q c) : q < w.heap.size := cell_lt h.box.1
theorem Bx.of_block {w w' : World} {q : Nat} {c : Cm} (h : Bx w q c) (e : w'.heap[q]? = w.heap[q]?) : Bx w' q c := by
  have key : ∀ o, w'.cell? ⟨q, o, none⟩ = w.cell? ⟨q, o, none⟩ := fun o => World.cell?_of_block (a := ⟨q, o, none⟩) e
  refine ⟨?_, fun o => (World.frozen?_of_block (a := ⟨q, o, none⟩) e).trans (h.thaw o)⟩
  have hb := h.box
  unfold CBox at hb ⊢
  rw [key, key, key, key, key, key, key, key]
  exact hb
theorem Bx.turn {w w' : World} {q g b : Nat} {c : Cm} (h : Bx w q c) (T : Turn g b w w') (hg : q ≠ g) (hb : q ≠ b) : Bx w' q c := h.of_block (T.block q h.lt hg hb)
theorem Bx.beside {w w' : World} {q r : Nat} {c : Cm} (h : Bx w q c) (T : Touch r w w') (hr : q ≠ r) : Bx w' q c := h.of_block (T.block q h.lt hr)

section
variable {w : World} {q : Nat} {c : Cm}
theorem Bx.setThaw (h : Bx w q c) (p : Addr) (v : Value) : ∀ o, (w.setCell p v).frozen? ⟨q, o, none⟩ = false := fun o => by rw [World.frozen?_setCell]; exact h.thaw o
theorem Bx.client (h : Bx w q c) (x : Int) : Bx (w.setCell ⟨q, 1, none⟩ (.int .i64 x)) q { c with client := x } := by
  obtain ⟨h0, h1, h2, h3, h4, h5, h6, h7⟩ := h.box
  refine ⟨⟨?_, World.cell?_setCell_same w ⟨q, 1, none⟩ _ h1, ?_, ?_, ?_, ?_, ?_, ?_⟩, h.setThaw _ _⟩ <;> (rw [World.cell?_setCell_other _ _ _ _ (by simp)]; assumption)
theorem Bx.req (h : Bx w q c) (x : Int) : Bx (w.setCell ⟨q, 2, none⟩ (.int .i64 x)) q { c with req := x } := by
  obtain ⟨h0, h1, h2, h3, h4, h5, h6, h7⟩ := h.box
  refine ⟨⟨?_, ?_, World.cell?_setCell_same w ⟨q, 2, none⟩ _ h2, ?_, ?_, ?_, ?_, ?_⟩, h.setThaw _ _⟩ <;> (rw [World.cell?_setCell_other _ _ _ _ (by simp)]; assumption)
theorem Bx.key (h : Bx w q c) (x : ByteArray) : Bx (w.setCell ⟨q, 3, none⟩ (.string x)) q { c with key := x } := by
  obtain ⟨h0, h1, h2, h3, h4, h5, h6, h7⟩ := h.box
  refine ⟨⟨?_, ?_, ?_, World.cell?_setCell_same w ⟨q, 3, none⟩ _ h3, ?_, ?_, ?_, ?_⟩, h.setThaw _ _⟩ <;> (rw [World.cell?_setCell_other _ _ _ _ (by simp)]; assumption)
theorem Bx.key2 (h : Bx w q c) (x : ByteArray) : Bx (w.setCell ⟨q, 4, none⟩ (.string x)) q { c with key2 := x } := by
  obtain ⟨h0, h1, h2, h3, h4, h5, h6, h7⟩ := h.box
  refine ⟨⟨?_, ?_, ?_, ?_, World.cell?_setCell_same w ⟨q, 4, none⟩ _ h4, ?_, ?_, ?_⟩, h.setThaw _ _⟩ <;> (rw [World.cell?_setCell_other _ _ _ _ (by simp)]; assumption)
theorem Bx.val (h : Bx w q c) (x : ByteArray) : Bx (w.setCell ⟨q, 5, none⟩ (.string x)) q { c with val := x } := by
  obtain ⟨h0, h1, h2, h3, h4, h5, h6, h7⟩ := h.box
  refine ⟨⟨?_, ?_, ?_, ?_, ?_, World.cell?_setCell_same w ⟨q, 5, none⟩ _ h5, ?_, ?_⟩, h.setThaw _ _⟩ <;> (rw [World.cell?_setCell_other _ _ _ _ (by simp)]; assumption)
theorem Bx.old (h : Bx w q c) (x : ByteArray) : Bx (w.setCell ⟨q, 6, none⟩ (.string x)) q { c with old := x } := by
  obtain ⟨h0, h1, h2, h3, h4, h5, h6, h7⟩ := h.box
  refine ⟨⟨?_, ?_, ?_, ?_, ?_, ?_, World.cell?_setCell_same w ⟨q, 6, none⟩ _ h6, ?_⟩, h.setThaw _ _⟩ <;> (rw [World.cell?_setCell_other _ _ _ _ (by simp)]; assumption)
theorem Bx.n (h : Bx w q c) (x : Int) : Bx (w.setCell ⟨q, 7, none⟩ (.int .i64 x)) q { c with n := x } := by
  obtain ⟨h0, h1, h2, h3, h4, h5, h6, h7⟩ := h.box
  refine ⟨⟨?_, ?_, ?_, ?_, ?_, ?_, ?_, World.cell?_setCell_same w ⟨q, 7, none⟩ _ h7⟩, h.setThaw _ _⟩ <;> (rw [World.cell?_setCell_other _ _ _ _ (by simp)]; assumption)
end

/-- A scan beside blocks that are newer than it. -/
theorem Scs.fresh {w x y : World} {g b q : Nat} {sa : Option Addr} {n cap : Nat} {l : List Int} {a : Nat → Addr} {s s' : St} (h0 : Scs w g b sa n cap l a s) (hq : w.heap.size ≤ q) (h : Scs x g b sa n cap l a s') (T : Touch q x y) : Scs y g b sa n cap l a s' := by
  have hg := h0.lt
  have hb := h0.rdr.lt
  have hsix := h0.six
  have e : y.heap[g]? = x.heap[g]? := T.block g h.lt (by omega)
  exact ⟨(World.cell?_of_block (a := ⟨g, 0, none⟩) e).trans h.ptr, (World.cell?_of_block (a := ⟨g, 1, none⟩) e).trans h.fault, (World.frozen?_of_block (a := ⟨g, 1, none⟩) e).trans h.thaw,
    h.rdr.beside T (by omega) (fun z hz hn => by have := h0.rdr.ready.seg.lt hn hz; omega) (by omega) (fun i hi => by have := h0.rdr.ready.errs.lt i hi; omega), h.ne, h.sep, h.apart, h.six⟩

/-- In the midst of reading a command: w the world at the call, W the world now, the result at its first new block, the command's box at q. -/
structure Com (w W : World) (q g b : Nat) (sa : Option Addr) (n cap : Nat) (l : List Int) (a : Nat → Addr) (c : Cm) (s : St) : Prop where
  turn : Turn g b w W
  scs : Scs W g b sa n cap l a s
  box : Bx W q c
  res : Bx W w.heap.size zeroC
  new : w.heap.size < q
section
variable {w W W' : World} {q g b : Nat} {sa : Option Addr} {n cap : Nat} {l : List Int} {a : Nat → Addr} {c c' : Cm} {s s' s0 : St}
theorem Com.call (h : Com w W q g b sa n cap l a c s) (h0 : Scs w g b sa n cap l a s0) (T : Turn g b W W') (S : Scs W' g b sa n cap l a s') : Com w W' q g b sa n cap l a c s' := by
  have hg := h0.lt
  have hb := h0.rdr.lt
  have hn := h.new
  exact ⟨h.turn.trans T, S, h.box.turn T (by omega) (by omega), h.res.turn T (by omega) (by omega), h.new⟩
theorem Com.put (h : Com w W q g b sa n cap l a c s) (h0 : Scs w g b sa n cap l a s0) (o : Nat) (u : Value) (hb : Bx (W.setCell ⟨q, o, none⟩ u) q c') : Com w (W.setCell ⟨q, o, none⟩ u) q g b sa n cap l a c' s := by
  have hn := h.new
  have T : Touch q W (W.setCell ⟨q, o, none⟩ u) := (Touch.refl q W).setB _
  exact ⟨h.turn.setNew u (by omega), h0.fresh (by omega) h.scs T, hb, h.res.beside T (by omega), h.new⟩
end
end Go.Proofs.YtnogdjpbnhnmaaaGreatDoor
/- The scan's command, a leaf for each kind. -/
namespace Go.Proofs.YtnogdjpbnhnmaaaGreatDoor
open Go.RowKit Go.Wire1

end Go.Proofs.YtnogdjpbnhnmaaaGreatDoor
/- The contract of the scan's command. -/
namespace Go.Proofs.YtnogdjpbnhnmaaaGreatDoor
open Go.RowKit Go.Wire1

def sTail (v x : Int) (cl rq : Nat) (ky : ByteArray) (l : List Int) (s : St) : Cm × St :=
  if x = 6 ∨ x = 7 ∨ x = 8 then (⟨x, cl, rq, ky, (sKey2 x ky l s).1, ⟨#[]⟩, ⟨#[]⟩, 0⟩, (sKey2 x ky l s).2)
  else if x = 5 then (⟨x, cl, rq, ky, ⟨#[]⟩, (sTxt 0 (mostV v : Nat) 46 l (sTxt 0 (mostV v : Nat) 47 l s).2).1, (sTxt 0 (mostV v : Nat) 47 l s).1, 0⟩, (sTxt 0 (mostV v : Nat) 46 l (sTxt 0 (mostV v : Nat) 47 l s).2).2)
  else if x = 2 then (⟨x, cl, rq, ky, ⟨#[]⟩, (sTxt 0 (mostV v : Nat) 46 l s).1, ⟨#[]⟩, 0⟩, (sTxt 0 (mostV v : Nat) 46 l s).2)
  else if x = 4 then (⟨x, cl, rq, ky, ⟨#[]⟩, ⟨#[]⟩, ⟨#[]⟩, (sInt l s).1⟩, (sInt l s).2)
  else (⟨x, cl, rq, ky, ⟨#[]⟩, ⟨#[]⟩, ⟨#[]⟩, 0⟩, s)
def sAll (v x : Int) (l : List Int) (s : St) : Cm × St :=
  sTail v x (sNum 65535 42 l s).1 (sNum 1073741824 43 l (sNum 65535 42 l s).2).1 (sTxt 1 64 44 l (sNum 1073741824 43 l (sNum 65535 42 l s).2).2).1 l (sTxt 1 64 44 l (sNum 1073741824 43 l (sNum 65535 42 l s).2).2).2
/-- What a scan reads as a command. -/
def sCmd (v : Int) (l : List Int) (s : St) : Cm × St :=
  if (sKind v l s).2.ft = 0 ∧ (sKind v l s).1 ≠ 0 then sAll v (sKind v l s).1 l (sKind v l s).2
  else (⟨(sKind v l s).1, 0, 0, ⟨#[]⟩, ⟨#[]⟩, ⟨#[]⟩, ⟨#[]⟩, 0⟩, (sKind v l s).2)

theorem isKd_range {v k : Int} (h : isKd v k = true) : 0 ≤ k ∧ k < 9 := by
  unfold isKd at h
  simp only [Bool.and_eq_true, decide_eq_true_eq] at h
  exact ⟨h.1, h.2.1⟩

end Go.Proofs.YtnogdjpbnhnmaaaGreatDoor
/- The contracts of bytes.Clone and of NewReader. -/
namespace Go.Proofs.YtnogdjpbnhnmaaaGreatDoor
open Go.RowKit Go.Wire1 Go.Lib

end Go.Proofs.YtnogdjpbnhnmaaaGreatDoor
/- The contract of Decode. -/
namespace Go.Proofs.YtnogdjpbnhnmaaaGreatDoor
open Go.RowKit Go.Wire1

/-- Decode's answer. -/
def decC (v : Int) (l : List Int) : Cm × Nat × Int :=
  if isVer v then (if (sCmd v (l.take 131281) ⟨0, 0, 0⟩).2.ft = 0 then ((sCmd v (l.take 131281) ⟨0, 0, 0⟩).1, (sCmd v (l.take 131281) ⟨0, 0, 0⟩).2.k, 0) else (zeroC, 0, (sCmd v (l.take 131281) ⟨0, 0, 0⟩).2.ft)) else (zeroC, 0, 2)

end Go.Proofs.YtnogdjpbnhnmaaaGreatDoor
/- What Decode takes is what Encode writes: the mathematics. -/
namespace Go.Proofs.YtnogdjpbnhnmaaaGreatDoor
open Go.RowKit Go.Wire1

end Go.Proofs.YtnogdjpbnhnmaaaGreatDoor
/- What Decode takes is what Encode writes: the mathematics, second part. -/
namespace Go.Proofs.YtnogdjpbnhnmaaaGreatDoor
open Go.RowKit Go.Wire1

/-- The fields behind Key: which a kind has, and that each is allowed. -/
def TailOk (v : Int) (c : Cm) : Prop :=
  (if 6 ≤ c.kind then 1 ≤ c.key2.size ∧ c.key2.size ≤ 64 ∧ isPairB c.kind c.key c.key2 = true else c.key2 = ⟨#[]⟩) ∧
  (if c.kind = 2 ∨ c.kind = 5 then c.val.size ≤ mostV v else c.val = ⟨#[]⟩) ∧
  (if c.kind = 5 then c.old.size ≤ mostV v else c.old = ⟨#[]⟩) ∧ (if c.kind = 4 then True else c.n = 0)
end Go.Proofs.YtnogdjpbnhnmaaaGreatDoor
/- What Encode writes is read back, and each beginning of it ends too early: the mathematics. -/
namespace Go.Proofs.YtnogdjpbnhnmaaaGreatDoor
open Go.RowKit Go.Wire1

/-- A scan that has come to the bytes' end too early. -/
def Bad (s : St) : Prop := s.f = 11 ∧ s.ft = 11
theorem empty_of {s : ByteArray} (h : s.toList.isEmpty = true) : s = ⟨#[]⟩ := by
  rw [Lib.toList_data, List.isEmpty_iff] at h
  apply ByteArray.ext
  apply Array.toList_inj.1
  exact h
theorem zero_of {v k : Int} {c : Cm} {f : Nat} (h : faultF v c f = 0) (hk : c.kind = k) (hh : hasF k f = false) : zeroF c f = true := by
  unfold faultF at h
  rw [hk, hh] at h
  cases hz : zeroF c f with
  | true => rfl
  | false => rw [hz] at h; simp at h
theorem allow_of {v k : Int} {c : Cm} {f : Nat} (h : faultF v c f = 0) (hf : f < 6) (hk : c.kind = k) (hh : hasF k f = true) : allowF v c f = true := has_allow h hf (by rw [hk]; exact hh)
/-- Which fields a command that Check takes has. -/
theorem tailOk_of {v : Int} {c : Cm} (h : chk v c = 0) (h0 : c.kind ≠ 0) : TailOk v c := by
  obtain ⟨hv, hk, hf⟩ := chk_zero h
  have hr := isKd_range hk
  have g3 := hf 3 (by omega)
  have g4 := hf 4 (by omega)
  have g5 := hf 5 (by omega)
  have g6 := hf 6 (by omega)
  clear hf h hk
  have h8 : c.kind = 1 ∨ c.kind = 2 ∨ c.kind = 3 ∨ c.kind = 4 ∨ c.kind = 5 ∨ c.kind = 6 ∨ c.kind = 7 ∨ c.kind = 8 := by omega
  unfold TailOk
  rcases h8 with h | h | h | h | h | h | h | h <;> refine ⟨?_, ?_, ?_, ?_⟩ <;> split <;> rename_i q
  all_goals first
    | (exfalso; omega)
    | trivial
    | exact empty_of (zero_of g3 h (by decide))
    | exact empty_of (zero_of g4 h (by decide))
    | exact empty_of (zero_of g5 h (by decide))
    | (have z := zero_of g6 h (by decide); simpa [zeroF] using z)
    | (have z := allow_of g4 (by decide) h (by decide); simpa [allowF] using z)
    | (have z := allow_of g5 (by decide) h (by decide); simpa [allowF] using z)
    | (have z := allow_of g3 (by decide) h (by decide); simp only [allowF, isKeyB, Bool.and_eq_true, decide_eq_true_eq] at z; exact ⟨z.1.1, z.1.2, z.2⟩)
end Go.Proofs.YtnogdjpbnhnmaaaGreatDoor
