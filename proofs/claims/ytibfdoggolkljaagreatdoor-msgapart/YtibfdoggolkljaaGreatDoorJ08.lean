import Derived.WalkKit
import Derived.WalkLawsBesides
import Derived.Deep.QuietTactic
import Derived.BigQuiet
import Derived.Deep.RegionHeld3
import Derived.Test.YtibfdoggolkljaaGreatDoorJ07
set_option maxHeartbeats 2000000
set_option maxRecDepth 100000
namespace Go.Proofs.YtibfdoggolkljaaGreatDoor
open Go.RowKit Go.Wire1
def Knd (w : World) : Prop := ∀ i, i < 9 → w.cell? ⟨6, i * 2, none⟩ = some (.int .i64 (fieldsL.getD i 0 : Nat)) ∧ w.cell? ⟨6, i * 2 + 1, none⟩ = some (.int .i64 (fromL.getD i 0 : Nat))
theorem Knd.lt {w : World} (h : Knd w) : 6 < w.heap.size := cell_lt (h 0 (by omega)).1
theorem Knd.below {w w' : World} {B : Nat} (h : Knd w) (hb : Below B w w') (hB : w.heap.size ≤ B) : Knd w' := by
 have hl := h.lt
 intro i hi
 obtain ⟨h1, h2⟩ := h i hi
 exact ⟨by rw [hb.cell (p := ⟨6, i * 2, none⟩) (Nat.lt_of_lt_of_le hl hB)]; exact h1, by rw [hb.cell (p := ⟨6, i * 2 + 1, none⟩) (Nat.lt_of_lt_of_le hl hB)]; exact h2⟩
theorem isVersion_any (v : Int) (w : World) :
  Calls Tryz.prog 69 #[.int .i64 v] w fun e w' => e = .returned (.bool (isVer v)) ∧ w = w' := by
 cases h1 : (v == 1) with
 | true =>
  have HR : Hid (isVer v = true) := by simp [Hid, isVer, h1]
  go_enter Tryz.func69, Tryz.ntmps69
  go_wp2
  go_ret
  exact ⟨by rw [HR.out]; rfl, rfl⟩
 | false =>
  have HR : Hid (isVer v = (v == 2)) := by simp [Hid, isVer, h1]
  go_enter Tryz.func69, Tryz.ntmps69
  go_wp2
  go_ret
  exact ⟨by rw [HR.out]; rfl, rfl⟩
theorem isKind_any (v kind : Int) (w : World) (hK : Knd w) :
  Calls Tryz.prog 94 #[.int .i64 v, .int .i64 kind] w fun e w' => e = .returned (.bool (isKd v kind)) ∧ w = w' := by
 by_cases h1 : 0 ≤ kind
 ·by_cases h2 : kind < 9
  ·obtain ⟨k, rfl⟩ := zI h1
   have h3 : k < 9 := by omega
   obtain ⟨_, hc⟩ := hK k h3
   have HR : Hid (isKd v (k : Int) = decide ((fromL.getD k 0 : Int) ≤ v)) := by simp [Hid, isKd, h2]
   generalize fromL.getD k 0 = fr at *
   go_enter Tryz.func94, Tryz.ntmps94
   go_wp2
   go_ret
   exact ⟨by rw [HR.out]; rfl, rfl⟩
  ·have HR : Hid (isKd v kind = false) := by simp [Hid, isKd, h2]
   go_enter Tryz.func94, Tryz.ntmps94
   go_wp2
   go_ret
   exact ⟨by rw [HR.out]; first | rfl | (simp; omega), rfl⟩
 ·have HR : Hid (isKd v kind = false) := by simp [Hid, isKd, h1]
  go_enter Tryz.func94, Tryz.ntmps94
  go_wp2
  go_ret
  exact ⟨by rw [HR.out]; first | rfl | (simp; omega), rfl⟩
theorem isKey_any (k : ByteArray) (w : World) (hk : k.size ≤ 140737488351232) :
  Calls Tryz.prog 155 #[.string k] w fun e w' => e = .returned (.bool (isKeyB k)) ∧ w = w' := by
 by_cases h1 : 1 ≤ k.size
 ·have HR : Hid (isKeyB k = decide ((k.size : Int) ≤ 64)) := by
   unfold isKeyB; rw [decide_eq_true h1, Bool.true_and, Hid]
   exact decide_eq_decide.2 (by omega)
  go_enter Tryz.func155, Tryz.ntmps155
  go_wp2
  go_ret
  exact ⟨by rw [HR.out]; rfl, rfl⟩
 ·have HR : Hid (isKeyB k = false) := by simp [Hid, isKeyB, h1]
  go_enter Tryz.func155, Tryz.ntmps155
  go_wp2
  go_ret
  exact ⟨by rw [HR.out]; first | rfl | (simp; omega), rfl⟩
theorem isPair_any (kind : Int) (k k2 : ByteArray) (w : World) :
  Calls Tryz.prog 99 #[.int .i64 kind, .string k, .string k2] w fun e w' => e = .returned (.bool (isPairB kind k k2)) ∧ w = w' := by
 by_cases h1 : kind = 8
 ·subst h1
  have HR : Hid (isPairB 8 k k2 = Op.bytesLess k.toList k2.toList) := by simp [Hid, isPairB, tlt]
  go_enter Tryz.func99, Tryz.ntmps99
  go_wp2
  go_ret
  exact ⟨by rw [HR.out]; rfl, rfl⟩
 ·have HR : Hid (isPairB kind k k2 = !(k.toList == k2.toList)) := by simp [Hid, isPairB, teq, h1]
  have g1 : (kind == 8) = false := by simpa using h1
  go_enter Tryz.func99, Tryz.ntmps99
  go_wp2
  go_ret
  exact ⟨by rw [HR.out]; rfl, rfl⟩
theorem mostVal_any (v : Int) (w : World) :
  Calls Tryz.prog 85 #[.int .i64 v] w fun e w' => e = .returned (.int .i64 (mostV v : Nat)) ∧ w = w' := by
 by_cases h1 : v = 1
 ·subst h1
  go_enter Tryz.func85, Tryz.ntmps85
  go_wp2
  go_ret
  exact ⟨rfl, rfl⟩
 ·have HR : Hid (mostV v = 65536) := by simp [Hid, mostV, h1]
  have g1 : (v == 1) = false := by simpa using h1
  go_enter Tryz.func85, Tryz.ntmps85
  go_wp2
  go_ret
  exact ⟨by rw [HR.out]; rfl, rfl⟩
theorem isZero_any (c : Cm) (f : Nat) (w : World) (hf : f < 7) :
  Calls Tryz.prog 147 #[.agg #[.int .i64 c.kind, .int .i64 c.client, .int .i64 c.req, .string c.key, .string c.key2, .string c.val, .string c.old, .int .i64 c.n], .int .i64 (bitF f)] w fun e w' => e = .returned (.bool (zeroF c f)) ∧ Below w.heap.size w w' := by
 have B : ∀ (o : Obj), Below w.heap.size w (w.alloc o) := fun o => (Below.refl _ _).alloc zN _
 rcases (by omega : f = 0 ∨ f = 1 ∨ f = 2 ∨ f = 3 ∨ f = 4 ∨ f = 5 ∨ f = 6) with rfl | rfl | rfl | rfl | rfl | rfl | rfl
 all_goals
  (first | rw [show bitF 0 = 1 from rfl] | rw [show bitF 1 = 2 from rfl] | rw [show bitF 2 = 4 from rfl] | rw [show bitF 3 = 8 from rfl] | rw [show bitF 4 = 16 from rfl] | rw [show bitF 5 = 32 from rfl] | rw [show bitF 6 = 64 from rfl])
  go_enter Tryz.func147, Tryz.ntmps147
  go_wp2
  go_ret
  exact ⟨rfl, B _⟩
theorem faultOf_any (f : Nat) (w : World) (hf : f < 7) :
  Calls Tryz.prog 149 #[.int .i64 (bitF f)] w fun e w' => e = .returned (.int .i64 (errF f : Nat)) ∧ w = w' := by
 rcases (by omega : f = 0 ∨ f = 1 ∨ f = 2 ∨ f = 3 ∨ f = 4 ∨ f = 5 ∨ f = 6) with rfl | rfl | rfl | rfl | rfl | rfl | rfl
 all_goals
  (first | rw [show bitF 0 = 1 from rfl] | rw [show bitF 1 = 2 from rfl] | rw [show bitF 2 = 4 from rfl] | rw [show bitF 3 = 8 from rfl] | rw [show bitF 4 = 16 from rfl] | rw [show bitF 5 = 32 from rfl] | rw [show bitF 6 = 64 from rfl])
  go_enter Tryz.func149, Tryz.ntmps149
  go_wp2
  go_ret
  exact ⟨rfl, rfl⟩
theorem isAllowed_any (v : Int) (c : Cm) (f : Nat) (w : World) (hf : f < 7) (hk : c.key.size ≤ 140737488351232) (hk2 : c.key2.size ≤ 140737488351232) :
  Calls Tryz.prog 148 #[.int .i64 v, .agg #[.int .i64 c.kind, .int .i64 c.client, .int .i64 c.req, .string c.key, .string c.key2, .string c.val, .string c.old, .int .i64 c.n], .int .i64 (bitF f)] w fun e w' => e = .returned (.bool (allowF v c f)) ∧ Below w.heap.size w w' := by
 have B : ∀ (o : Obj), Below w.heap.size w (w.alloc o) := fun o => (Below.refl _ _).alloc zN _
 rcases (by omega : f = 0 ∨ f = 1 ∨ f = 2 ∨ f = 3 ∨ f = 4 ∨ f = 5 ∨ f = 6) with rfl | rfl | rfl | rfl | rfl | rfl | rfl
 ·rw [show bitF 0 = 1 from rfl]
  by_cases h1 : 0 ≤ c.client
  ·go_enter Tryz.func148, Tryz.ntmps148
   go_wp2
   go_ret
   exact ⟨by simp [allowF, h1], B _⟩
  ·go_enter Tryz.func148, Tryz.ntmps148
   go_wp2
   go_ret
   exact ⟨by simp [allowF]; omega, B _⟩
 ·rw [show bitF 1 = 2 from rfl]
  by_cases h1 : 0 ≤ c.req
  ·go_enter Tryz.func148, Tryz.ntmps148
   go_wp2
   go_ret
   exact ⟨by simp [allowF, h1], B _⟩
  ·go_enter Tryz.func148, Tryz.ntmps148
   go_wp2
   go_ret
   exact ⟨by simp [allowF]; omega, B _⟩
 ·rw [show bitF 2 = 4 from rfl]
  go_enter Tryz.func148, Tryz.ntmps148
  go_wp2_with fail
  refine (isKey_any c.key _ hk).mono ?_
  rintro e w1 ⟨rfl, rfl⟩
  go_wp2
  go_ret
  exact ⟨rfl, B _⟩
 ·rw [show bitF 3 = 8 from rfl]
  cases h1 : isKeyB c.key2 with
  | true =>
   go_enter Tryz.func148, Tryz.ntmps148
   go_wp2_with fail
   refine (isKey_any c.key2 _ hk2).mono ?_
   rintro e w1 ⟨rfl, rfl⟩
   rw [h1]
   go_wp2_with fail
   refine (isPair_any c.kind c.key c.key2 _).mono ?_
   rintro e w1 ⟨rfl, rfl⟩
   go_wp2
   go_ret
   exact ⟨by simp [allowF, h1], B _⟩
  | false =>
   go_enter Tryz.func148, Tryz.ntmps148
   go_wp2_with fail
   refine (isKey_any c.key2 _ hk2).mono ?_
   rintro e w1 ⟨rfl, rfl⟩
   rw [h1]
   go_wp2
   go_ret
   exact ⟨by simp [allowF, h1], B _⟩
 ·rw [show bitF 4 = 16 from rfl]
  obtain ⟨V, hV⟩ : ∃ V, V = w.alloc (.cells #[.int .i64 c.kind, .int .i64 c.client, .int .i64 c.req, .string c.key, .string c.key2, .string c.val, .string c.old, .int .i64 c.n] 27) := ⟨_, rfl⟩
  have c5 : V.cell? ⟨w.heap.size, 5, none⟩ = some (.string c.val) := by rw [hV]; simp [go_sem]
  have BV : Hid (Below w.heap.size w V) := by rw [hV]; exact B _
  go_enter Tryz.func148, Tryz.ntmps148
  go_wp2
  rw [← hV]
  clear hV
  go_region_held3 (fun w' => w'.cell? ⟨w.heap.size, 5, none⟩ = some (.string c.val)) (first | go_keep) (first | (go_at_call 85; refine (mostVal_any v _).mono ?_; rintro e w1 ⟨rfl, rfl⟩))
  go_wp2
  go_ret
  exact ⟨by simp [allowF], BV.out.drew⟩
 ·rw [show bitF 5 = 32 from rfl]
  obtain ⟨V, hV⟩ : ∃ V, V = w.alloc (.cells #[.int .i64 c.kind, .int .i64 c.client, .int .i64 c.req, .string c.key, .string c.key2, .string c.val, .string c.old, .int .i64 c.n] 27) := ⟨_, rfl⟩
  have c6 : V.cell? ⟨w.heap.size, 6, none⟩ = some (.string c.old) := by rw [hV]; simp [go_sem]
  have BV : Hid (Below w.heap.size w V) := by rw [hV]; exact B _
  go_enter Tryz.func148, Tryz.ntmps148
  go_wp2
  rw [← hV]
  clear hV
  go_region_held3 (fun w' => w'.cell? ⟨w.heap.size, 6, none⟩ = some (.string c.old)) (first | go_keep) (first | (go_at_call 85; refine (mostVal_any v _).mono ?_; rintro e w1 ⟨rfl, rfl⟩))
  go_wp2
  go_ret
  exact ⟨by simp [allowF], BV.out.drew⟩
 ·rw [show bitF 6 = 64 from rfl]
  go_enter Tryz.func148, Tryz.ntmps148
  go_wp2
  go_ret
  exact ⟨rfl, B _⟩
open Go.RowKit Go.Wire1
structure Scn (w : World) (g b : Nat) (sa : Option Addr) (n cap k : Nat) (f ft : Int) (l : List Int) (a : Nat → Addr) : Prop where
 ptr : w.cell? ⟨g, 0, none⟩ = some (.pointer (some ⟨b, 0, none⟩))
 fault : w.cell? ⟨g, 1, none⟩ = some (.int .i64 ft)
 thaw : w.frozen? ⟨g, 1, none⟩ = false
 rdr : Rdr w b sa n cap k f l a
 ne : g ≠ b
 sep : ∀ x, sa = some x → 0 < n → x.block ≠ g
 apart : ∀ i, i < 5 → (a i).block ≠ g
 six : 7 ≤ g
structure Turn (g b : Nat) (w w' : World) : Prop where
 os : w'.os = w.os
 tape : w'.tape = w.tape
 output : w'.output = w.output
 size : w.heap.size ≤ w'.heap.size
 block : ∀ k, k < w.heap.size → k ≠ g → k ≠ b → w'.heap[k]? = w.heap[k]?
theorem Turn.refl (g b : Nat) (w : World) : Turn g b w w := ⟨rfl, rfl, rfl, Nat.le_refl _, fun _ _ _ _ => rfl⟩
theorem Turn.trans {g b : Nat} {x y z : World} (h : Turn g b x y) (k : Turn g b y z) : Turn g b x z :=
 ⟨k.os.trans h.os, k.tape.trans h.tape, k.output.trans h.output, Nat.le_trans h.size k.size, fun i hi h1 h2 => (k.block i (Nat.lt_of_lt_of_le hi h.size) h1 h2).trans (h.block i hi h1 h2)⟩
theorem Turn.ofB {g b : Nat} {x y : World} (h : Touch b x y) : Turn g b x y := ⟨h.os, h.tape, h.output, h.size, fun i hi _ h2 => h.block i hi h2⟩
theorem Turn.ofG {g b : Nat} {x y : World} (h : Touch g x y) : Turn g b x y := ⟨h.os, h.tape, h.output, h.size, fun i hi h1 _ => h.block i hi h1⟩
theorem Turn.cell {g b : Nat} {x y : World} (h : Turn g b x y) {p : Addr} {v : Value} (hp : x.cell? p = some v) (h1 : p.block ≠ g) (h2 : p.block ≠ b) (hs : p.spot = none) : y.cell? p = some v := by
 obtain ⟨pb, po, ps⟩ := p
 obtain rfl : ps = none := hs
 rw [World.cell?_of_block (w := x) (h.block pb (cell_lt hp) h1 h2)]; exact hp
theorem Turn.below {g b B : Nat} {w0 x y : World} (h : Turn g b x y) (h0 : Below B w0 x) (hg : B ≤ g) (hb : B ≤ b) (hB : B ≤ x.heap.size) : Below B w0 y :=
 ⟨h.os.trans h0.os, h.tape.trans h0.tape, h.output.trans h0.output, Nat.le_trans h0.size h.size, fun i hi => (h.block i (by omega) (by omega) (by omega)).trans (h0.block i hi)⟩
theorem Turn.knd {g b : Nat} {x y : World} (h : Turn g b x y) (hk : Knd x) (hg : 7 ≤ g) (hb : 7 ≤ b) : Knd y := by
 intro i hi
 obtain ⟨h1, h2⟩ := hk i hi
 exact ⟨h.cell h1 (by show 6 ≠ g; omega) (by show 6 ≠ b; omega) rfl, h.cell h2 (by show 6 ≠ g; omega) (by show 6 ≠ b; omega) rfl⟩
section
variable {w w' : World} {g b : Nat} {sa : Option Addr} {n cap k : Nat} {f ft : Int} {l : List Int} {a : Nat → Addr}
theorem Scn.lt (h : Scn w g b sa n cap k f ft l a) : g < w.heap.size := cell_lt h.fault
theorem Scn.read {k' : Nat} {f' : Int} (h : Scn w g b sa n cap k f ft l a) (ht : Touch b w w') (hr : Rdr w' b sa n cap k' f' l a) : Scn w' g b sa n cap k' f' ft l a := by
 have e : w'.heap[g]? = w.heap[g]? := ht.block g h.lt h.ne
 exact ⟨(World.cell?_of_block (a := ⟨g, 0, none⟩) e).trans h.ptr, (World.cell?_of_block (a := ⟨g, 1, none⟩) e).trans h.fault, (World.frozen?_of_block (a := ⟨g, 1, none⟩) e).trans h.thaw, hr, h.ne, h.sep, h.apart, h.six⟩
theorem Scn.drewN (h : Scn w g b sa n cap k f ft l a) (q : Nat) : Scn (w.drewN q) g b sa n cap k f ft l a := ⟨h.ptr, h.fault, h.thaw, h.rdr.drewN q, h.ne, h.sep, h.apart, h.six⟩
theorem Scn.drew (h : Scn w g b sa n cap k f ft l a) : Scn w.drew g b sa n cap k f ft l a := h.drewN 1
theorem Scn.below {C : Nat} (h : Scn w g b sa n cap k f ft l a) (hb : Below C w w') (hC : w.heap.size ≤ C) : Scn w' g b sa n cap k f ft l a := by
 have hl := h.lt
 have e : w'.heap[g]? = w.heap[g]? := hb.block g (by omega)
 exact ⟨(World.cell?_of_block (a := ⟨g, 0, none⟩) e).trans h.ptr, (World.cell?_of_block (a := ⟨g, 1, none⟩) e).trans h.fault, (World.frozen?_of_block (a := ⟨g, 1, none⟩) e).trans h.thaw, h.rdr.below hb hC, h.ne, h.sep, h.apart, h.six⟩
theorem Scn.set (h : Scn w g b sa n cap k f ft l a) (e : Int) : Scn (w.setCell ⟨g, 1, none⟩ (.int .i64 e)) g b sa n cap k f e l a ∧ Touch g w (w.setCell ⟨g, 1, none⟩ (.int .i64 e)) := by
 have ht : Touch g w (w.setCell ⟨g, 1, none⟩ (.int .i64 e)) := (Touch.refl g w).setB _
 refine ⟨⟨?_, World.cell?_setCell_same w ⟨g, 1, none⟩ _ h.fault, ?_, h.rdr.beside ht (fun e => h.ne e.symm) h.sep h.six h.apart, h.ne, h.sep, h.apart, h.six⟩, ht⟩
 ·rw [zO _ _ _ _ (by simp)]; exact h.ptr
 ·rw [World.frozen?_setCell]; exact h.thaw
end
def refF (e ft : Int) : Int := if ft = 0 then e else ft
def noteF (own f ft : Int) : Int := if f = 0 then ft else if f = 14 ∨ f = 15 then refF own ft else refF f ft
section
variable (g b n cap k : Nat) (f ft : Int) (sa : Option Addr) (l : List Int) (a : Nat → Addr)
theorem refuse_any (e : Int) (w : World) (h : Scn w g b sa n cap k f ft l a) :
  Calls Tryz.prog 95 #[.pointer (some ⟨g, 0, none⟩), .int .i64 e] w fun r w' => r = .returned (.tuple #[]) ∧ Touch g w w' ∧ Scn w' g b sa n cap k f (refF e ft) l a := by
 have c1 := h.fault
 have f1 := h.thaw
 have HS := hide h
 clear h
 by_cases h0 : ft = 0
 ·subst h0
  have R := HS.out.set e
  go_enter Tryz.func95, Tryz.ntmps95
  go_wp2
  go_end0
  exact ⟨rfl, R.2, R.1⟩
 ·have HE : Hid (refF e ft = ft) := by simp [Hid, refF, h0]
  rw [HE.out]
  have g0 : (ft == 0) = false := by simpa using h0
  clear h0
  go_enter Tryz.func95, Tryz.ntmps95
  go_wp2
  go_end0
  exact ⟨rfl, Touch.refl g w, HS.out⟩
theorem note_any (own : Int) (w : World) (h : Scn w g b sa n cap k f ft l a) :
  Calls Tryz.prog 93 #[.pointer (some ⟨g, 0, none⟩), .int .i64 own] w fun r w' => r = .returned (.tuple #[]) ∧ Touch g w w' ∧ Scn w' g b sa n cap k f (noteF own f ft) l a := by
 have c0 := h.ptr
 have HS := hide h
 clear h
 obtain ⟨z, hz⟩ : ∃ z, Hid (noteF own f ft = z) := ⟨_, rfl⟩
 rw [hz.out]
 by_cases h0 : f = 0
 ·subst h0
  have HE : Hid (z = ft) := by rw [← hz.out]; simp [Hid, noteF]
  go_enter Tryz.func93, Tryz.ntmps93
  go_wp2_with fail
  refine (err_any b n cap k 0 sa l a _ HS.out.rdr).mono ?_
  rintro e w1 ⟨rfl, q, rfl⟩
  go_wp2
  go_end0
  exact ⟨rfl, (Touch.refl g w).drewN q, by rw [HE.out]; exact HS.out.drewN q⟩
 ·by_cases h1 : f = 14
  ·subst h1
   have HE : Hid (z = refF own ft) := by rw [← hz.out]; simp [Hid, noteF]
   go_enter Tryz.func93, Tryz.ntmps93
   go_wp2_with fail
   refine (err_any b n cap k 14 sa l a _ HS.out.rdr).mono ?_
   rintro e w1 ⟨rfl, q, hq⟩
   have T1 : Hid (Touch g w w1) := by rw [hq]; exact (Touch.refl g w).drewN q
   have S1 : Hid (Scn w1 g b sa n cap k 14 ft l a) := by rw [hq]; exact HS.out.drewN q
   clear hq c0
   go_wp2_with fail
   refine (refuse_any g b n cap k 14 ft sa l a own _ S1.out).mono ?_
   rintro e w2 ⟨rfl, T2, S2⟩
   have R2 : Hid (Touch g w w2 ∧ Scn w2 g b sa n cap k 14 z l a) := ⟨T1.out.trans T2, by rw [HE.out]; exact S2⟩
   clear T2 S2
   go_wp2
   go_end0
   exact ⟨rfl, R2.out⟩
  ·by_cases h2 : f = 15
   ·subst h2
    have HE : Hid (z = refF own ft) := by rw [← hz.out]; simp [Hid, noteF]
    go_enter Tryz.func93, Tryz.ntmps93
    go_wp2_with fail
    refine (err_any b n cap k 15 sa l a _ HS.out.rdr).mono ?_
    rintro e w1 ⟨rfl, q, hq⟩
    have T1 : Hid (Touch g w w1) := by rw [hq]; exact (Touch.refl g w).drewN q
    have S1 : Hid (Scn w1 g b sa n cap k 15 ft l a) := by rw [hq]; exact HS.out.drewN q
    clear hq c0
    go_wp2_with fail
    refine (refuse_any g b n cap k 15 ft sa l a own _ S1.out).mono ?_
    rintro e w2 ⟨rfl, T2, S2⟩
    have R2 : Hid (Touch g w w2 ∧ Scn w2 g b sa n cap k 15 z l a) := ⟨T1.out.trans T2, by rw [HE.out]; exact S2⟩
    clear T2 S2
    go_wp2
    go_end0
    exact ⟨rfl, R2.out⟩
   ·have HE : Hid (z = refF f ft) := by rw [← hz.out]; simp [Hid, noteF, h0, h1, h2]
    have g0 : (f == 0) = false := by simpa using h0
    have g1 : (f == 14) = false := by simpa using h1
    have g2 : (f == 15) = false := by simpa using h2
    clear h0 h1 h2
    go_enter Tryz.func93, Tryz.ntmps93
    go_wp2_with fail
    refine (err_any b n cap k f sa l a _ HS.out.rdr).mono ?_
    rintro e w1 ⟨rfl, q, hq⟩
    have T1 : Hid (Touch g w w1) := by rw [hq]; exact (Touch.refl g w).drewN q
    have S1 : Hid (Scn w1 g b sa n cap k f ft l a) := by rw [hq]; exact HS.out.drewN q
    clear hq c0
    go_wp2_with fail
    refine (refuse_any g b n cap k f ft sa l a f _ S1.out).mono ?_
    rintro e w2 ⟨rfl, T2, S2⟩
    have R2 : Hid (Touch g w w2 ∧ Scn w2 g b sa n cap k f z l a) := ⟨T1.out.trans T2, by rw [HE.out]; exact S2⟩
    clear T2 S2
    go_wp2
    go_end0
    exact ⟨rfl, R2.out⟩
end
open Go.RowKit Go.Wire1
structure Sc (w0 w : World) (g : Nat) (V : Nat → Option Value) (sa : Option Addr) (n cap : Nat) (l : List Int) (f : Int) : Prop where
 rest : w.cell? ⟨g, 0, none⟩ = some (.slice sa n cap)
 flt : w.cell? ⟨g, 1, none⟩ = some (.int .i64 f)
 more : ∀ j, 2 ≤ j → w.cell? ⟨g, j, none⟩ = V j
 thaw : ∀ j, w.frozen? ⟨g, j, none⟩ = false
 low : Below w0.heap.size w0 w
 hg : w0.heap.size ≤ g
 seg : Seg w0 sa n l
 src : Src sa n cap
 byt : Byt l
section
variable {w0 w w' : World} {g : Nat} {V : Nat → Option Value} {sa : Option Addr} {n cap : Nat} {l : List Int} {f : Int}
theorem Sc.lt (h : Sc w0 w g V sa n cap l f) : g < w.heap.size := cell_lt h.flt
theorem Sc.drewN (h : Sc w0 w g V sa n cap l f) (q : Nat) : Sc w0 (w.drewN q) g V sa n cap l f :=
 ⟨h.rest, h.flt, h.more, h.thaw, ⟨h.low.os, h.low.tape, h.low.output, h.low.size, h.low.block⟩, h.hg, h.seg, h.src, h.byt⟩
theorem Sc.drew (h : Sc w0 w g V sa n cap l f) : Sc w0 w.drew g V sa n cap l f := h.drewN 1
theorem Sc.below (h : Sc w0 w g V sa n cap l f) (hb : Below w.heap.size w w') : Sc w0 w' g V sa n cap l f := by
 have e : w'.heap[g]? = w.heap[g]? := hb.block g h.lt
 have c : ∀ j, w'.cell? ⟨g, j, none⟩ = w.cell? ⟨g, j, none⟩ := fun j => World.cell?_of_block (a := ⟨g, j, none⟩) e
 exact ⟨(c 0).trans h.rest, (c 1).trans h.flt, fun j hj => (c j).trans (h.more j hj), fun j => (World.frozen?_of_block (a := ⟨g, j, none⟩) e).trans (h.thaw j), (Touch.ofBelow hb).below h.hg h.low, h.hg, h.seg, h.src, h.byt⟩
theorem Sc.other {c o : Nat} (h : Sc w0 w g V sa n cap l f) (u : Value) (hc : c ≠ g) (h0 : w0.heap.size ≤ c) : Sc w0 (w.setCell ⟨c, o, none⟩ u) g V sa n cap l f := by
 have e : (w.setCell ⟨c, o, none⟩ u).heap[g]? = w.heap[g]? := Below.heap_setCell _ _ _ _ (by show g ≠ c; omega)
 have k : ∀ j, (w.setCell ⟨c, o, none⟩ u).cell? ⟨g, j, none⟩ = w.cell? ⟨g, j, none⟩ := fun j => World.cell?_of_block (a := ⟨g, j, none⟩) e
 exact ⟨(k 0).trans h.rest, (k 1).trans h.flt, fun j hj => (k j).trans (h.more j hj), fun j => (World.frozen?_of_block (a := ⟨g, j, none⟩) e).trans (h.thaw j), h.low.setCell (by show w0.heap.size ≤ c; omega) _, h.hg, h.seg, h.src, h.byt⟩
theorem Sc.setF (h : Sc w0 w g V sa n cap l f) (e : Int) : Sc w0 (w.setCell ⟨g, 1, none⟩ (.int .i64 e)) g V sa n cap l e ∧ Touch g w (w.setCell ⟨g, 1, none⟩ (.int .i64 e)) := by
 have ht : Touch g w (w.setCell ⟨g, 1, none⟩ (.int .i64 e)) := (Touch.refl g w).setB _
 refine ⟨⟨?_, World.cell?_setCell_same w ⟨g, 1, none⟩ _ h.flt, fun j hj => ?_, fun j => ?_, ht.below h.hg h.low, h.hg, h.seg, h.src, h.byt⟩, ht⟩
 ·rw [zO _ _ _ _ (by simp)]; exact h.rest
 ·rw [zO _ _ _ _ (by intro q; injection q with _ q2 _; omega)]; exact h.more j hj
 ·rw [World.frozen?_setCell]; exact h.thaw j
theorem Sc.setR (h : Sc w0 w g V sa n cap l f) {sa' : Option Addr} {n' cap' : Nat} {l' : List Int} (hs : Seg w0 sa' n' l') (hc : Src sa' n' cap') (hy : Byt l') : Sc w0 (w.setCell ⟨g, 0, none⟩ (.slice sa' n' cap')) g V sa' n' cap' l' f ∧ Touch g w (w.setCell ⟨g, 0, none⟩ (.slice sa' n' cap')) := by
 have ht : Touch g w (w.setCell ⟨g, 0, none⟩ (.slice sa' n' cap')) := (Touch.refl g w).setB _
 refine ⟨⟨World.cell?_setCell_same w ⟨g, 0, none⟩ _ h.rest, ?_, fun j hj => ?_, fun j => ?_, ht.below h.hg h.low, h.hg, hs, hc, hy⟩, ht⟩
 ·rw [zO _ _ _ _ (by simp)]; exact h.flt
 ·rw [zO _ _ _ _ (by intro q; injection q with _ q2 _; omega)]; exact h.more j hj
 ·rw [World.frozen?_setCell]; exact h.thaw j
end
section
variable (w0 : World) (g : Nat) (V : Nat → Option Value) (sa : Option Addr) (n cap : Nat) (l : List Int)
theorem irefuse_any (f e : Int) (w : World) (h : Sc w0 w g V sa n cap l f) :
  Calls Tryz.prog 21 #[.pointer (some ⟨g, 0, none⟩), .int .i64 e] w fun r w' => r = .returned (.tuple #[]) ∧ Touch g w w' ∧ Sc w0 w' g V sa n cap l (refF e f) := by
 have c1 := h.flt
 have t1 := h.thaw 1
 have HS := hide h
 clear h
 by_cases h0 : f = 0
 ·have R : Hid (Sc w0 (w.setCell ⟨g, 1, none⟩ (.int .i64 e)) g V sa n cap l (refF e f) ∧ Touch g w (w.setCell ⟨g, 1, none⟩ (.int .i64 e))) := by
   have : refF e f = e := by unfold refF; rw [if_pos h0]
   rw [this]; exact HS.out.setF e
  subst h0
  go_enter Tryz.func21, Tryz.ntmps21
  go_wp2
  go_end0
  exact ⟨rfl, R.out.2, R.out.1⟩
 ·have R : Hid (Sc w0 w g V sa n cap l (refF e f)) := by
   have : refF e f = f := by unfold refF; rw [if_neg h0]
   rw [this]; exact HS.out
  go_enter Tryz.func21, Tryz.ntmps21
  have g0 : (f == 0) = false := by simpa using h0
  clear h0
  go_wp2
  go_end0
  exact ⟨rfl, Touch.refl _ _, R.out⟩
end
def Scx (w0 w : World) (g : Nat) (V : Nat → Option Value) (l : List Int) (f : Int) : Prop := ∃ sa n cap, Sc w0 w g V sa n cap l f
section
variable (w0 : World) (g : Nat) (V : Nat → Option Value) (l : List Int)
theorem ipass_any (k : Nat) (f e : Int) (w : World) (hk : k ≤ l.length) (h : Scx w0 w g V l f) :
  Calls Tryz.prog 65 #[.pointer (some ⟨g, 0, none⟩), .int .i64 k, .int .i64 e] w fun r w' => r = .returned (.tuple #[]) ∧ Touch g w w' ∧ Scx w0 w' g V (l.drop k) (refF e f) := by
 obtain ⟨sa, n, cap, h⟩ := h
 have hl : l.length = n := h.seg.1
 have c0 := h.rest
 have t0 := h.thaw 0
 have HS := hide h
 have hsrc := h.src
 have hseg := h.seg
 have hbyt := h.byt
 clear h
 rcases hsrc with ⟨hn, hc⟩ | ⟨⟨b, off, rfl⟩, hc1, hc2⟩
 ·subst hn hc
  obtain rfl : k = 0 := by omega
  obtain rfl : l = [] := List.length_eq_zero_iff.1 hl
  have R := hide (HS.out.setR (sa' := sa) (n' := 0) (cap' := 0) (l' := []) hseg (.inl ⟨rfl, rfl⟩) hbyt)
  clear hseg hbyt
  cases sa with
  | none =>
   go_enter Tryz.func65, Tryz.ntmps65
   go_wp2_with fail
   refine (irefuse_any w0 g V none 0 0 [] f e _ R.out.1).mono ?_
   rintro r w1 ⟨rfl, T1, S1⟩
   have F := hide (And.intro (R.out.2.trans T1) S1)
   clear T1 S1
   go_wp2
   go_end0
   exact ⟨rfl, F.out.1, _, _, _, F.out.2⟩
  | some ad =>
   go_enter Tryz.func65, Tryz.ntmps65
   go_wp2_with fail
   refine (irefuse_any w0 g V (some ad) 0 0 [] f e _ R.out.1).mono ?_
   rintro r w1 ⟨rfl, T1, S1⟩
   have F := hide (And.intro (R.out.2.trans T1) S1)
   clear T1 S1
   go_wp2
   go_end0
   exact ⟨rfl, F.out.1, _, _, _, F.out.2⟩
 ·unfold maxLen at hc2
  have hkn : k ≤ n := by omega
  have Y : Hid (Byt (l.drop k)) := byt_drop hbyt k
  by_cases hck : cap = k
  ·obtain rfl : n = k := by omega
   subst hck
   have e0 : Hid (l.drop cap = []) := List.drop_eq_nil_of_le (by omega)
   rw [e0.out] at Y ⊢
   have R := hide (HS.out.setR (sa' := some ⟨b, off, none⟩) (n' := cap - cap) (cap' := 0) (l' := []) (by rw [Nat.sub_self]; exact seg_empty _ _) (.inl ⟨Nat.sub_self _, rfl⟩) Y.out)
   clear hseg hbyt e0
   go_enter Tryz.func65, Tryz.ntmps65
   go_wp2_with fail
   refine (irefuse_any w0 g V _ _ _ [] f e _ (by first | exact R.out.1 | (have q := R.out.1; simp only [Nat.sub_self] at q; exact q))).mono ?_
   rintro r w1 ⟨rfl, T1, S1⟩
   have F := hide (And.intro (Touch.trans (by first | exact R.out.2 | (have q := R.out.2; simp only [Nat.sub_self] at q; exact q)) T1) S1)
   clear T1 S1
   go_wp2
   go_end0
   exact ⟨rfl, F.out.1, _, _, _, F.out.2⟩
  ·have R := hide (HS.out.setR (sa' := some ⟨b, off + k, none⟩) (n' := n - k) (cap' := cap - k) (l' := l.drop k) (hseg.from hkn) (.inr ⟨⟨b, off + k, rfl⟩, by omega, by unfold maxLen; omega⟩) Y.out)
   have hlt : k < cap := by omega
   clear hseg hbyt
   go_enter Tryz.func65, Tryz.ntmps65
   go_wp2_with fail
   refine (irefuse_any w0 g V _ _ _ (l.drop k) f e _ R.out.1).mono ?_
   rintro r w1 ⟨rfl, T1, S1⟩
   have F := hide (And.intro (R.out.2.trans T1) S1)
   clear T1 S1
   go_wp2
   go_end0
   exact ⟨rfl, F.out.1, _, _, _, F.out.2⟩
def iNext (l : List Int) (f : Int) : Int × List Int × Int := if f = 0 then (match l with | [] => (0, [], 11) | x :: r => (x, r, 0)) else (0, l, f)
def iNum (l : List Int) (f : Int) : Nat × List Int × Int := if f = 0 then (match dec l with | .ok (x, m) => (x, l.drop m, 0) | .error i => (0, l, 11 + (i : Int))) else (0, l, f)
theorem inext_any (f : Int) (w : World) (h : Scx w0 w g V l f) :
  Calls Tryz.prog 46 #[.pointer (some ⟨g, 0, none⟩)] w fun r w' => r = .returned (.int .i64 (iNext l f).1) ∧ Touch g w w' ∧ Scx w0 w' g V (iNext l f).2.1 (iNext l f).2.2 := by
 by_cases h0 : f = 0
 ·subst h0
  cases l with
  | nil =>
   have e : Hid (iNext [] 0 = (0, [], 11)) := rfl
   rw [e.out]
   obtain ⟨sa, n, cap, h⟩ := h
   obtain rfl : 0 = n := h.seg.1
   have c0 := h.rest
   have HS := hide h
   clear h
   go_enter Tryz.func46, Tryz.ntmps46
   go_wp2_with fail
   refine (irefuse_any w0 g V sa 0 cap [] 0 11 _ HS.out).mono ?_
   rintro r w1 ⟨rfl, T1, S1⟩
   have c1 : w1.cell? ⟨g, 1, none⟩ = some (.int .i64 11) := S1.flt
   have F : Hid (Touch g w w1 ∧ Sc w0 w1 g V sa 0 cap [] 11) := ⟨T1, S1⟩
   clear T1 S1
   go_wp2
   go_ret
   exact ⟨rfl, F.out.1, _, _, _, F.out.2⟩
  | cons x r =>
   have e : Hid (iNext (x :: r) 0 = (x, r, 0)) := rfl
   rw [e.out]
   have HX := hide h
   obtain ⟨sa, n, cap, h⟩ := h
   have hn : r.length + 1 = n := h.seg.1
   have c0 := h.rest
   have c1 := h.flt
   obtain ⟨b, off, rfl, hc⟩ := (h.seg.below h.low zN).2.2 (by omega)
   have d0 : w.cell? ⟨b, off, none⟩ = some (.int .u8 x) := by have := hc 0 (by omega); simpa using this
   have hx := h.byt x (by simp)
   clear h hc
   have hn0 : ((n : Int) == 0) = false := by rw [beq_eq_false_iff_ne]; omega
   have hnp : 0 < n := by omega
   go_enter Tryz.func46, Tryz.ntmps46
   go_wp2_with fail
   refine (ipass_any w0 g V (x :: r) 1 0 0 _ (by simp) HX.out).mono ?_
   rintro q w1 ⟨rfl, T1, S1⟩
   have F : Hid (Touch g w w1 ∧ Scx w0 w1 g V r 0) := ⟨T1, S1⟩
   clear T1 S1
   go_wp2
   go_ret
   exact ⟨rfl, F.out⟩
 ·have e : Hid (iNext l f = (0, l, f)) := by show _ = _; unfold iNext; rw [if_neg h0]
  rw [e.out]
  have HX := hide h
  obtain ⟨sa, n, cap, h⟩ := h
  have c0 := h.rest
  have c1 := h.flt
  have HS := hide h
  clear h
  have g0 : (f == 0) = false := by simpa using h0
  have g1 : (f != 0) = true := by simpa using h0
  by_cases hn : n = 0
  ·subst hn
   go_enter Tryz.func46, Tryz.ntmps46
   go_wp2_with fail
   refine (irefuse_any w0 g V sa 0 cap l f 11 _ HS.out).mono ?_
   rintro r w1 ⟨rfl, T1, S1⟩
   have ef : Hid (refF 11 f = f) := by simp [Hid, refF, h0]
   rw [ef.out] at S1
   have c2 : w1.cell? ⟨g, 1, none⟩ = some (.int .i64 f) := S1.flt
   have F : Hid (Touch g w w1 ∧ Sc w0 w1 g V sa 0 cap l f) := ⟨T1, S1⟩
   clear T1 S1 h0 c0 c1
   go_wp2
   go_ret
   exact ⟨rfl, F.out.1, _, _, _, F.out.2⟩
  ·have hn0 : ((n : Int) == 0) = false := by rw [beq_eq_false_iff_ne]; omega
   clear h0
   go_enter Tryz.func46, Tryz.ntmps46
   go_wp2
   go_ret
   exact ⟨rfl, Touch.refl _ _, HX.out⟩
theorem inumber_any (a : Nat → Addr) (f : Int) (w : World) (he : Errs w0 a) (h : Scx w0 w g V l f) :
  Calls Tryz.prog 56 #[.pointer (some ⟨g, 0, none⟩)] w fun r w' => r = .returned (.int .u64 ((iNum l f).1 : Nat)) ∧ Touch g w w' ∧ Scx w0 w' g V (iNum l f).2.1 (iNum l f).2.2 := by
 have HX := hide h
 obtain ⟨sa, n, cap, h⟩ := h
 have c0 := h.rest
 have c1 := h.flt
 have HS := hide h
 have HE := hide he
 clear h he
 by_cases h0 : f = 0
 ·subst h0
  cases hd : dec l with
  | ok p =>
   obtain ⟨x, m⟩ := p
   have e : Hid (iNum l 0 = (x, l.drop m, 0)) := by show _ = _; unfold iNum; rw [if_pos rfl, hd]
   rw [e.out]
   have hm := dec_len HS.out.byt hd
   have HD := hide hd
   clear e hd
   go_enter Tryz.func56, Tryz.ntmps56
   go_wp2_with fail
   refine (getUint_any n cap sa l a _ (HS.out.seg.below HS.out.low zN) HS.out.byt (HE.out.below HS.out.low zN)).mono ?_
   rintro r w1 ⟨hb1, h2⟩
   rw [HD.out] at h2
   obtain rfl := h2
   have H1 : Hid (Scx w0 w1 g V l 0) := by obtain ⟨sa, n, cap, q⟩ := HX.out; exact ⟨sa, n, cap, q.below hb1⟩
   have T0 := hide (Touch.ofBelow (b := g) hb1)
   clear hb1
   go_wp2_with fail
   refine (ipass_any w0 g V l m 0 0 _ hm.2.2 H1.out).mono ?_
   rintro q w2 ⟨rfl, T1, S1⟩
   have F : Hid (Touch g w w2 ∧ Scx w0 w2 g V (l.drop m) 0) := ⟨T0.out.trans T1, S1⟩
   clear T1 S1
   go_wp2
   go_ret
   exact ⟨rfl, F.out⟩
  | error i =>
   have e : Hid (iNum l 0 = (0, l, 11 + (i : Int))) := by show _ = _; unfold iNum; rw [if_pos rfl, hd]
   rw [e.out]
   have HD := hide hd
   clear e hd
   go_enter Tryz.func56, Tryz.ntmps56
   go_wp2_with fail
   refine (getUint_any n cap sa l a _ (HS.out.seg.below HS.out.low zN) HS.out.byt (HE.out.below HS.out.low zN)).mono ?_
   rintro r w1 ⟨hb1, h2⟩
   rw [HD.out] at h2
   obtain rfl := h2
   have H1 : Hid (Scx w0 w1 g V l 0) := by obtain ⟨sa, n, cap, q⟩ := HX.out; exact ⟨sa, n, cap, q.below hb1⟩
   have T0 := hide (Touch.ofBelow (b := g) hb1)
   clear hb1
   go_wp2_with fail
   refine (ipass_any w0 g V l 0 0 (11 + (i : Int)) _ (Nat.zero_le _) H1.out).mono ?_
   rintro q w2 ⟨rfl, T1, S1⟩
   have F : Hid (Touch g w w2 ∧ Scx w0 w2 g V l (11 + (i : Int))) := ⟨T0.out.trans T1, S1⟩
   clear T1 S1
   go_wp2
   go_ret
   exact ⟨rfl, F.out⟩
 ·have e : Hid (iNum l f = (0, l, f)) := by show _ = _; unfold iNum; rw [if_neg h0]
  rw [e.out]
  have g1 : (f != 0) = true := by simpa using h0
  clear h0
  go_enter Tryz.func56, Tryz.ntmps56
  go_wp2
  go_ret
  exact ⟨rfl, Touch.refl _ _, HX.out⟩
end
end Go.Proofs.YtibfdoggolkljaaGreatDoor
