import Derived.Test.YtibfdoggolkljaaGreatDoorJ23
set_option maxHeartbeats 4000000
set_option maxRecDepth 100000
namespace Go.Proofs.YtibfdoggolkljaaGreatDoor
open Go.RowKit Go.Wire1
structure Ms where
 kind : Int
 row : Int
 num : Int
 x : Int
 y : Int
 p : Int
 q : Int
 st : Int
 sm : Bool
 c : Cm
 sq : Int
 dl : List Int
def mgc (m : Ms) (u : Value) : List Value := [.int .i64 m.kind, .int .i64 m.row, .int .i64 m.num, .int .i64 m.x, .int .i64 m.y, .int .i64 m.p, .int .i64 m.q, .int .i64 m.st, .bool m.sm, .int .i64 m.c.kind, .int .i64 m.c.client, .int .i64 m.c.req, .string m.c.key, .string m.c.key2, .string m.c.val, .string m.c.old, .int .i64 m.c.n, .int .i64 m.sq, u]
def zeroM : Ms := ⟨0, 0, 0, 0, 0, 0, 0, 0, false, zeroC, 0, []⟩
def ldc (c : Cm) (sq : Int) (u : Value) : List Value := [.int .i64 c.kind, .int .i64 c.client, .int .i64 c.req, .string c.key, .string c.key2, .string c.val, .string c.old, .int .i64 c.n, .int .i64 sq, u]
def shK (m : Ms) : Nat := if m.kind = 1 ∨ m.kind = 3 then 1 else if m.kind = 2 then 2 else if m.kind = 4 ∨ m.kind = 6 then 3 else if m.kind = 5 then 4 else if m.kind = 7 then (if m.st = 0 then 5 else 6) else if m.kind = 8 then 7 else 0
def shT : Nat → TypeId
 | 1 => 78
 | 2 => 80
 | 3 => 82
 | 4 => 84
 | 5 => 85
 | 6 => 87
 | 7 => 89
 | _ => 91
def hdc (m : Ms) : List Value := [.int .i64 m.kind, .int .i64 m.row, .int .i64 m.num]
def shC (m : Ms) (u : Value) : Nat → List Value
 | 1 => [.int .i64 m.kind, .int .i64 m.row, .int .i64 m.num, .int .i64 m.x, .int .i64 m.y, .int .i64 m.c.kind, .int .i64 m.c.client, .int .i64 m.c.req, .string m.c.key, .string m.c.key2, .string m.c.val, .string m.c.old, .int .i64 m.c.n, .int .i64 m.sq, u]
 | 2 => [.int .i64 m.kind, .int .i64 m.row, .int .i64 m.num, .int .i64 m.x, .int .i64 m.y, .int .i64 m.sq, u]
 | 3 => [.int .i64 m.kind, .int .i64 m.row, .int .i64 m.num, .int .i64 m.x, .int .i64 m.y]
 | 4 => [.int .i64 m.kind, .int .i64 m.row, .int .i64 m.num, .int .i64 m.c.kind, .int .i64 m.c.client, .int .i64 m.c.req, .string m.c.key, .string m.c.key2, .string m.c.val, .string m.c.old, .int .i64 m.c.n, .int .i64 m.sq, u]
 | 5 => [.int .i64 m.kind, .int .i64 m.row, .int .i64 m.num, .int .i64 m.x, .int .i64 m.y]
 | 6 => vtc m.kind m.row m.num m.x m.y m.st m.sm m.p m.q m.c m.sq u
 | 7 => [.int .i64 m.kind, .int .i64 m.row, .int .i64 m.num, .int .i64 m.x, .int .i64 m.y, .int .i64 m.p, .int .i64 m.q]
 | _ => [.int .i64 m.kind, .int .i64 m.row, .int .i64 m.num]
def shV (m : Ms) (u : Value) : Value := .iface (shT (shK m)) (.agg (shC m u (shK m)).toArray)
def only (m : Ms) : Nat → Ms
 | 1 => ⟨m.kind, m.row, m.num, m.x, m.y, 0, 0, 0, false, m.c, m.sq, m.dl⟩
 | 2 => ⟨m.kind, m.row, m.num, m.x, m.y, 0, 0, 0, false, zeroC, m.sq, m.dl⟩
 | 3 => ⟨m.kind, m.row, m.num, m.x, m.y, 0, 0, 0, false, zeroC, 0, []⟩
 | 4 => ⟨m.kind, m.row, m.num, 0, 0, 0, 0, 0, false, m.c, m.sq, m.dl⟩
 | 5 => ⟨m.kind, m.row, m.num, m.x, m.y, 0, 0, 0, false, zeroC, 0, []⟩
 | 6 => m
 | 7 => ⟨m.kind, m.row, m.num, m.x, m.y, m.p, m.q, 0, false, zeroC, 0, []⟩
 | _ => ⟨m.kind, m.row, m.num, 0, 0, 0, 0, 0, false, zeroC, 0, []⟩
def hasD : Nat → Bool
 | 1 => true
 | 2 => true
 | 4 => true
 | 6 => true
 | _ => false
def onlyU (u : Value) (k : Nat) : Value := if hasD k then u else .slice none 0 0
def rdTold (v n row num : Int) (l : List Int) (f : Int) : Ms × List Int × Int :=
 match iBalF v n 7 row l f with
 | ((x, y), l1, f1) => match iVote v l1 f1 with
  | ((st, sm), l2, f2) => if st = 0 then (⟨7, row, num, x, y, 0, 0, 0, false, zeroC, 0, []⟩, l2, f2) else
   match iBal v l2 f2 with
   | ((p, q), l3, f3) => match iLoad v n (st != 1) l3 (refF (unl (voteB n row x y st sm p q) 54) f3) with
    | ((c, sq, dl), l4, f4) => (⟨7, row, num, x, y, p, q, st, sm, c, sq, dl⟩, l4, f4)
def rdMsg (v n : Int) (l : List Int) (f : Int) : Ms × List Int × Int :=
 match iHead v n l f with
 | ((k, row, num), l1, f1) =>
  if k = 1 then (match iBalF v n 1 row l1 f1 with
   | ((x, y), l2, f2) => match iLoad v n false l2 f2 with
    | ((c, sq, dl), l3, f3) => (⟨1, row, num, x, y, 0, 0, 0, false, c, sq, dl⟩, l3, f3))
  else if k = 3 then (match iBalF v n 3 row l1 f1 with
   | ((x, y), l2, f2) => match iLoad v n true l2 f2 with
    | ((c, sq, dl), l3, f3) => (⟨3, row, num, x, y, 0, 0, 0, false, c, sq, dl⟩, l3, f3))
  else if k = 2 then (match iBalF v n 2 row l1 f1 with
   | ((x, y), l2, f2) => match iAttr v n false l2 f2 with
    | ((sq, dl), l3, f3) => (⟨2, row, num, x, y, 0, 0, 0, false, zeroC, sq, dl⟩, l3, f3))
  else if k = 4 then (match iBalF v n 4 row l1 f1 with
   | ((x, y), l2, f2) => (⟨4, row, num, x, y, 0, 0, 0, false, zeroC, 0, []⟩, l2, f2))
  else if k = 6 then (match iBalF v n 6 row l1 f1 with
   | ((x, y), l2, f2) => (⟨6, row, num, x, y, 0, 0, 0, false, zeroC, 0, []⟩, l2, f2))
  else if k = 5 then (match iLoad v n true l1 f1 with
   | ((c, sq, dl), l2, f2) => (⟨5, row, num, 0, 0, 0, 0, 0, false, c, sq, dl⟩, l2, f2))
  else if k = 7 then rdTold v n row num l1 f1
  else if k = 8 then (match iBalF v n 8 row l1 f1 with
   | ((x, y), l2, f2) => match iBal v l2 f2 with
    | ((p, q), l3, f3) => (⟨8, row, num, x, y, p, q, 0, false, zeroC, 0, []⟩, l3, refF (unl (nackB n row x y p q) 54) f3))
  else (⟨k, row, num, 0, 0, 0, 0, 0, false, zeroC, 0, []⟩, l1, f1)
section
variable (w0 : World) (g : Nat) (v n : Int) (l : List Int)
def ShPost (w0 w : World) (g : Nat) (v n : Int) (R : Ms × List Int × Int) (r : Ending) (w' : World) : Prop := ∃ u, r = .returned (shV R.1 u) ∧ DV w' w.heap.size u R.1.dl ∧ Touch g w w' ∧ Scx w0 w' g (Vf v n) R.2.1 R.2.2
theorem told_any (a : Nat → Addr) (row num : Int) (f : Int) (w : World) (he : Errs w0 a) (hKc : Knd w0) (hK : Kmd w0) (h : Scx w0 w g (Vf v n) l f) :
  Calls Tryz.prog 42 #[.pointer (some ⟨g, 0, none⟩), .agg #[.int .i64 7, .int .i64 row, .int .i64 num]] w fun r w' => ShPost w0 w g v n (rdTold v n row num l f) r w' := by
 obtain ⟨⟨x, y⟩, l1, f1, e1⟩ : ∃ b l1 f1, iBalF v n 7 row l f = (b, l1, f1) := ⟨_, _, _, rfl⟩
 obtain ⟨⟨st, sm⟩, l2, f2, e2⟩ : ∃ b l2 f2, iVote v l1 f1 = (b, l2, f2) := ⟨_, _, _, rfl⟩
 by_cases h0 : st = 0
 ·subst h0
  have eR : rdTold v n row num l f = (⟨7, row, num, x, y, 0, 0, 0, false, zeroC, 0, []⟩, l2, f2) := by unfold rdTold; simp only [e1, e2, if_true]
  rw [eR]
  have key : ∀ r w', (∃ u, r = .returned (.iface 85 (.agg #[.int .i64 7, .int .i64 row, .int .i64 num, .int .i64 x, .int .i64 y])) ∧ DV w' w.heap.size u [] ∧ Touch g w w' ∧ Scx w0 w' g (Vf v n) l2 f2) → ShPost w0 w g v n (⟨7, row, num, x, y, 0, 0, 0, false, zeroC, 0, []⟩, l2, f2) r w' := by
   rintro r w' ⟨u, rfl, D, T, S⟩
   exact ⟨u, rfl, D, T, S⟩
  by_cases hv : v = 1
  ·have e3 : vote1 l1 f1 = ((0, sm), l2, f2) := by have := e2; unfold iVote at this; rwa [if_pos hv] at this
   exact (told_none1 w0 g v n l a 7 row num f w (by decide) he hKc hK h x y l1 f1 e1 hv sm l2 f2 e3).mono key
  ·have e3 : vote2 l1 f1 = ((0, sm), l2, f2) := by have := e2; unfold iVote at this; rwa [if_neg hv] at this
   exact (told_none2 w0 g v n l a 7 row num f w (by decide) he hKc hK h x y l1 f1 e1 hv sm l2 f2 e3).mono key
 ·obtain ⟨⟨p, q⟩, l3, f3, e3⟩ : ∃ b l3 f3, iBal v l2 f2 = (b, l3, f3) := ⟨_, _, _, rfl⟩
  obtain ⟨⟨c, sq, dl⟩, l4, f4, e4⟩ : ∃ b l4 f4, iLoad v n (st != 1) l3 (refF (unl (voteB n row x y st sm p q) 54) f3) = (b, l4, f4) := ⟨_, _, _, rfl⟩
  have eR : rdTold v n row num l f = (⟨7, row, num, x, y, p, q, st, sm, c, sq, dl⟩, l4, f4) := by unfold rdTold; simp only [e1, e2, e3, e4, if_neg h0]
  rw [eR]
  have hk6 : ∀ u, shV ⟨7, row, num, x, y, p, q, st, sm, c, sq, dl⟩ u = .iface 87 (.agg (vtc 7 row num x y st sm p q c sq u).toArray) := by
   intro u
   have hk : shK ⟨7, row, num, x, y, p, q, st, sm, c, sq, dl⟩ = 6 := by unfold shK; simp [h0]
   unfold shV
   rw [hk]
   rfl
  have key : ∀ r w', (∃ u, r = .returned (.iface 87 (.agg (vtc 7 row num x y st sm p q c sq u).toArray)) ∧ DV w' w.heap.size u dl ∧ Touch g w w' ∧ Scx w0 w' g (Vf v n) l4 f4) → ShPost w0 w g v n (⟨7, row, num, x, y, p, q, st, sm, c, sq, dl⟩, l4, f4) r w' := by
   rintro r w' ⟨u, rfl, D, T, S⟩
   exact ⟨u, by rw [hk6], D, T, S⟩
  have g0 : (st == 0) = false := by rw [beq_eq_false_iff_ne]; exact h0
  by_cases hv : v = 1
  ·have e5 : vote1 l1 f1 = ((st, sm), l2, f2) := by have := e2; unfold iVote at this; rwa [if_pos hv] at this
   have e6 : iTwo l2 f2 = ((p, q), l3, f3) := by have := e3; unfold iBal at this; rwa [if_pos hv] at this
   exact (told_full1 w0 g v n l a 7 row num f w (by decide) he hKc hK h x y l1 f1 e1 hv st sm l2 f2 e5 g0 p q l3 f3 e6 _ _ rfl rfl _ rfl c sq dl l4 f4 e4).mono key
  ·have e5 : vote2 l1 f1 = ((st, sm), l2, f2) := by have := e2; unfold iVote at this; rwa [if_neg hv] at this
   have e6 : iPack l2 f2 = ((p, q), l3, f3) := by have := e3; unfold iBal at this; rwa [if_neg hv] at this
   exact (told_full2 w0 g v n l a 7 row num f w (by decide) he hKc hK h x y l1 f1 e1 hv st sm l2 f2 e5 g0 p q l3 f3 e6 _ _ rfl rfl _ rfl c sq dl l4 f4 e4).mono key
theorem shape_told (a : Nat → Addr) (f : Int) (w : World) (row num : Int) (l1 : List Int) (f1 : Int) (he : Errs w0 a) (hKc : Knd w0) (hK : Kmd w0) (h : Scx w0 w g (Vf v n) l f) (e1 : Hid (iHead v n l f = ((7, row, num), l1, f1))) :
  Calls Tryz.prog 20 #[.pointer (some ⟨g, 0, none⟩)] w fun r w' => ShPost w0 w g v n (rdTold v n row num l1 f1) r w' := by
 have HX := hide h
 have HE := hide he
 have HKm := hide hK
 have HKc := hide hKc
 obtain ⟨R, hR⟩ : ∃ R, Hid (rdTold v n row num l1 f1 = R) := ⟨_, rfl⟩
 have TL := fun W (hS : Scx w0 W g (Vf v n) l1 f1) => told_any w0 g v n l1 a row num f1 W HE.out HKc.out HKm.out hS
 rw [hR.out] at TL ⊢
 have HTL := hide TL
 clear h he hK hKc TL
 go_enter Tryz.func20, Tryz.ntmps20
 go_wp2_with fail
 refine (shead_any w0 g v n l a f _ HE.out HKm.out HX.out).mono ?_
 rintro r w1 ⟨rfl, T1, S1⟩
 rw [e1.out] at S1 ⊢
 simp only at S1 ⊢
 obtain ⟨X, hX⟩ : ∃ X, X = w1.alloc (.cells #[.int .i64 7, .int .i64 row, .int .i64 num] 72) := ⟨_, rfl⟩
 have BX : Hid (Below w1.heap.size w1 X) := by rw [hX]; exact (Below.refl _ _).alloc zN _
 have HT1 : Hid (Touch g w X) := T1.trans (Touch.ofBelow BX.out)
 have HS1 : Hid (Scx w0 X g (Vf v n) l1 f1) := S1.below BX.out
 have HH1 : Hid (Blk X w1.heap.size [.int .i64 7, .int .i64 row, .int .i64 num]) := by rw [hX]; exact blk_new w1 72 [.int .i64 7, .int .i64 row, .int .i64 num]
 have hwX : Hid (w.heap.size ≤ X.heap.size) := HT1.out.size
 clear T1 S1 HX BX
 have h0 := HH1.out.cell 0 _ rfl
 have h1 := HH1.out.cell 1 _ rfl
 have h2 := HH1.out.cell 2 _ rfl
 go_upto_region 2 with fail
 rw [← hX]
 clear hX
 go_wp2_with fail
 refine (HTL.out X HS1.out).mono ?_
 rintro r w2 ⟨u, rfl, D, T, S⟩
 have RR : Hid (DV w2 w.heap.size u R.1.dl ∧ Touch g w w2 ∧ Scx w0 w2 g (Vf v n) R.2.1 R.2.2) := ⟨D.less hwX.out, HT1.out.trans T, S⟩
 clear D T S
 obtain ⟨SV, hSV⟩ : ∃ SV, Hid (shV R.1 u = SV) := ⟨_, rfl⟩
 rw [hSV.out]
 go_wp2
 go_ret
 exact ⟨u, by rw [hSV.out]; rfl, RR.out⟩
end
end Go.Proofs.YtibfdoggolkljaaGreatDoor
