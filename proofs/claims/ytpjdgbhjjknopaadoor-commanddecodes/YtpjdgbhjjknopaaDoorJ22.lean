/- Texts of the proof, joined. -/
import Derived.Test.YtpjdgbhjjknopaaDoorJ17
import Derived.Test.YtpjdgbhjjknopaaDoorJ18
import Derived.Test.YtpjdgbhjjknopaaDoorJ19
import Derived.Test.YtpjdgbhjjknopaaDoorJ20
import Derived.Test.YtpjdgbhjjknopaaDoorJ21
/- A command's scan in memory, and the contracts of its refuse, note, number, text, signed and kind. -/
namespace Go.Proofs.YtpjdgbhjjknopaaDoor
open Go.RowKit Go.Wire1

/-- A scan: its reader, its fault. -/
structure Scn (w : World) (g b : Nat) (sa : Option Addr) (n cap k : Nat) (f ft : Int) (l : List Int) (a : Nat → Addr) : Prop where
  ptr : w.cell? ⟨g, 0, none⟩ = some (.pointer (some ⟨b, 0, none⟩))
  fault : w.cell? ⟨g, 1, none⟩ = some (.int .i64 ft)
  thaw : w.frozen? ⟨g, 1, none⟩ = false
  rdr : Rdr w b sa n cap k f l a
  ne : g ≠ b
  sep : ∀ x, sa = some x → 0 < n → x.block ≠ g
  apart : ∀ i, i < 5 → (a i).block ≠ g
  six : 6 ≤ g

/-- Of what was there nothing but the blocks g and b has turned. -/
structure Turn (g b : Nat) (w w' : World) : Prop where
  os : w'.os = w.os
  tape : w'.tape = w.tape
  output : w'.output = w.output
  size : w.heap.size ≤ w'.heap.size
  block : ∀ k, k < w.heap.size → k ≠ g → k ≠ b → w'.heap[k]? = w.heap[k]?
theorem Turn.refl (g b : Nat) (w : World) : Turn g b w w := ⟨rfl, rfl, rfl, Nat.le_refl _, fun _ _ _ _ => rfl⟩
theorem Turn.trans {g b : Nat} {x y z : World} (h : Turn g b x y) (k : Turn g b y z) : Turn g b x z :=
  ⟨k.os.trans h.os, k.tape.trans h.tape, k.output.trans h.output, Nat.le_trans h.size k.size, fun i hi h1 h2 => (k.block i (Nat.lt_of_lt_of_le hi h.size) h1 h2).trans (h.block i hi h1 h2)⟩
theorem Turn.ofB {g b : Nat} {x y : World} (h : Touch b x y) : Turn g b x y := ⟨h.os, h.tape, h.output, h.size, fun i hi _ h2 => h.block i hi h2⟩
theorem Turn.ofG {g b : Nat} {x y : World} (h : Touch g x y) : Turn g b x y := ⟨h.os, h.tape, h.output, h.size, fun i hi h1 _ => h.block i hi h1⟩
theorem Turn.cell {g b : Nat} {x y : World} (h : Turn g b x y) {p : Addr} {v : Value} (hp : x.cell? p = some v) (h1 : p.block ≠ g) (h2 : p.block ≠ b) (hs : p.spot = none) : y.cell? p = some v := by
  obtain ⟨pb, po, ps⟩ := p
  obtain rfl : ps = none := hs
  rw [World.cell?_of_block (w := x) (h.block pb (cell_lt hp) h1 h2)]; exact hp
theorem Turn.below {g b B : Nat} {w0 x y : World} (h : Turn g b x y) (h0 : Below B w0 x) (hg : B ≤ g) (hb : B ≤ b) (hB : B ≤ x.heap.size) : Below B w0 y :=
  ⟨h.os.trans h0.os, h.tape.trans h0.tape, h.output.trans h0.output, Nat.le_trans h0.size h.size, fun i hi => (h.block i (by omega) (by omega) (by omega)).trans (h0.block i hi)⟩
theorem Turn.knd {g b : Nat} {x y : World} (h : Turn g b x y) (hk : Knd x) (hg : 6 ≤ g) (hb : 6 ≤ b) : Knd y := by
  intro i hi
  obtain ⟨h1, h2⟩ := hk i hi
  exact ⟨h.cell h1 (by show 0 ≠ g; omega) (by show 0 ≠ b; omega) rfl, h.cell h2 (by show 0 ≠ g; omega) (by show 0 ≠ b; omega) rfl⟩

section
variable {w w' : World} {g b : Nat} {sa : Option Addr} {n cap k : Nat} {f ft : Int} {l : List Int} {a : Nat → Addr}
theorem Scn.lt (h : Scn w g b sa n cap k f ft l a) : g < w.heap.size := cell_lt h.fault
/-- Behind a reading. -/
theorem Scn.read {k' : Nat} {f' : Int} (h : Scn w g b sa n cap k f ft l a) (ht : Touch b w w') (hr : Rdr w' b sa n cap k' f' l a) : Scn w' g b sa n cap k' f' ft l a := by
  have e : w'.heap[g]? = w.heap[g]? := ht.block g h.lt h.ne
  exact ⟨(World.cell?_of_block (a := ⟨g, 0, none⟩) e).trans h.ptr, (World.cell?_of_block (a := ⟨g, 1, none⟩) e).trans h.fault, (World.frozen?_of_block (a := ⟨g, 1, none⟩) e).trans h.thaw, hr, h.ne, h.sep, h.apart, h.six⟩
theorem Scn.drewN (h : Scn w g b sa n cap k f ft l a) (q : Nat) : Scn (w.drewN q) g b sa n cap k f ft l a := ⟨h.ptr, h.fault, h.thaw, h.rdr.drewN q, h.ne, h.sep, h.apart, h.six⟩
theorem Scn.drew (h : Scn w g b sa n cap k f ft l a) : Scn w.drew g b sa n cap k f ft l a := h.drewN 1
theorem Scn.below {C : Nat} (h : Scn w g b sa n cap k f ft l a) (hb : Below C w w') (hC : w.heap.size ≤ C) : Scn w' g b sa n cap k f ft l a := by
  have hl := h.lt
  have e : w'.heap[g]? = w.heap[g]? := hb.block g (by omega)
  exact ⟨(World.cell?_of_block (a := ⟨g, 0, none⟩) e).trans h.ptr, (World.cell?_of_block (a := ⟨g, 1, none⟩) e).trans h.fault, (World.frozen?_of_block (a := ⟨g, 1, none⟩) e).trans h.thaw, h.rdr.below hb hC, h.ne, h.sep, h.apart, h.six⟩
theorem Scn.set (h : Scn w g b sa n cap k f ft l a) (e : Int) : Scn (w.setCell ⟨g, 1, none⟩ (.int .i64 e)) g b sa n cap k f e l a ∧ Touch g w (w.setCell ⟨g, 1, none⟩ (.int .i64 e)) := by
  have ht : Touch g w (w.setCell ⟨g, 1, none⟩ (.int .i64 e)) := (Touch.refl g w).setB _
  refine ⟨⟨?_, World.cell?_setCell_same w ⟨g, 1, none⟩ _ h.fault, ?_, h.rdr.beside ht (fun e => h.ne e.symm) h.sep h.six h.apart, h.ne, h.sep, h.apart, h.six⟩, ht⟩
  · rw [World.cell?_setCell_other _ _ _ _ (by simp)]; exact h.ptr
  · rw [World.frozen?_setCell]; exact h.thaw
end

def refF (e ft : Int) : Int := if ft = 0 then e else ft
/-- What note makes of the scan's fault. -/
def noteF (own f ft : Int) : Int := if f = 0 then ft else if f = 14 ∨ f = 15 then refF own ft else refF f ft

section
variable (g b n cap k : Nat) (f ft : Int) (sa : Option Addr) (l : List Int) (a : Nat → Addr)
set_option maxHeartbeats 400000 in
set_option maxRecDepth 100000 in
theorem refuse_any (e : Int) (w : World) (h : Scn w g b sa n cap k f ft l a) :
    Calls Tryd.prog 34 #[.pointer (some ⟨g, 0, none⟩), .int .i64 e] w fun r w' => r = .returned (.tuple #[]) ∧ Touch g w w' ∧ Scn w' g b sa n cap k f (refF e ft) l a := by
  have c1 := h.fault
  have f1 := h.thaw
  have HS := hide h
  clear h
  by_cases h0 : ft = 0
  · subst h0
    have R := HS.out.set e
    go_enter Tryd.func34, Tryd.ntmps34
    go_wp2
    go_end0
    exact ⟨rfl, R.2, R.1⟩
  · have HE : Hid (refF e ft = ft) := by simp [Hid, refF, h0]
    rw [HE.out]
    have g0 : (ft == 0) = false := by simpa using h0
    clear h0
    go_enter Tryd.func34, Tryd.ntmps34
    go_wp2
    go_end0
    exact ⟨rfl, Touch.refl g w, HS.out⟩

set_option maxHeartbeats 1000000 in
set_option maxRecDepth 100000 in
theorem note_any (own : Int) (w : World) (h : Scn w g b sa n cap k f ft l a) :
    Calls Tryd.prog 32 #[.pointer (some ⟨g, 0, none⟩), .int .i64 own] w fun r w' => r = .returned (.tuple #[]) ∧ Touch g w w' ∧ Scn w' g b sa n cap k f (noteF own f ft) l a := by
  have c0 := h.ptr
  have HS := hide h
  clear h
  obtain ⟨z, hz⟩ : ∃ z, Hid (noteF own f ft = z) := ⟨_, rfl⟩
  rw [hz.out]
  by_cases h0 : f = 0
  · subst h0
    have HE : Hid (z = ft) := by rw [← hz.out]; simp [Hid, noteF]
    go_enter Tryd.func32, Tryd.ntmps32
    go_wp2_with fail
    refine (err_any b n cap k 0 sa l a _ HS.out.rdr).mono ?_
    rintro e w1 ⟨rfl, q, rfl⟩
    go_wp2
    go_end0
    exact ⟨rfl, (Touch.refl g w).drewN q, by rw [HE.out]; exact HS.out.drewN q⟩
  · by_cases h1 : f = 14
    · subst h1
      have HE : Hid (z = refF own ft) := by rw [← hz.out]; simp [Hid, noteF]
      go_enter Tryd.func32, Tryd.ntmps32
      go_wp2_with fail
      refine (err_any b n cap k 14 sa l a _ HS.out.rdr).mono ?_
      rintro e w1 ⟨rfl, q, hq⟩
      have T1 : Hid (Touch g w w1) := by rw [hq]; exact (Touch.refl g w).drewN q
      have S1 : Hid (Scn w1 g b sa n cap k 14 ft l a) := by rw [hq]; exact HS.out.drewN q
      clear hq c0
      go_wp2_with fail
      refine (refuse_any g b n cap k 14 ft sa l a own _ S1.out).mono ?_
      rintro e w2 ⟨rfl, T2, S2⟩
      have R2 : Hid (Touch g w w2 ∧ Scn w2 g b sa n cap k 14 z l a) := ⟨T1.out.trans T2, by rw [HE.out]; exact S2⟩
      clear T2 S2
      go_wp2
      go_end0
      exact ⟨rfl, R2.out⟩
    · by_cases h2 : f = 15
      · subst h2
        have HE : Hid (z = refF own ft) := by rw [← hz.out]; simp [Hid, noteF]
        go_enter Tryd.func32, Tryd.ntmps32
        go_wp2_with fail
        refine (err_any b n cap k 15 sa l a _ HS.out.rdr).mono ?_
        rintro e w1 ⟨rfl, q, hq⟩
        have T1 : Hid (Touch g w w1) := by rw [hq]; exact (Touch.refl g w).drewN q
        have S1 : Hid (Scn w1 g b sa n cap k 15 ft l a) := by rw [hq]; exact HS.out.drewN q
        clear hq c0
        go_wp2_with fail
        refine (refuse_any g b n cap k 15 ft sa l a own _ S1.out).mono ?_
        rintro e w2 ⟨rfl, T2, S2⟩
        have R2 : Hid (Touch g w w2 ∧ Scn w2 g b sa n cap k 15 z l a) := ⟨T1.out.trans T2, by rw [HE.out]; exact S2⟩
        clear T2 S2
        go_wp2
        go_end0
        exact ⟨rfl, R2.out⟩
      · have HE : Hid (z = refF f ft) := by rw [← hz.out]; simp [Hid, noteF, h0, h1, h2]
        have g0 : (f == 0) = false := by simpa using h0
        have g1 : (f == 14) = false := by simpa using h1
        have g2 : (f == 15) = false := by simpa using h2
        clear h0 h1 h2
        go_enter Tryd.func32, Tryd.ntmps32
        go_wp2_with fail
        refine (err_any b n cap k f sa l a _ HS.out.rdr).mono ?_
        rintro e w1 ⟨rfl, q, hq⟩
        have T1 : Hid (Touch g w w1) := by rw [hq]; exact (Touch.refl g w).drewN q
        have S1 : Hid (Scn w1 g b sa n cap k f ft l a) := by rw [hq]; exact HS.out.drewN q
        clear hq c0
        go_wp2_with fail
        refine (refuse_any g b n cap k f ft sa l a f _ S1.out).mono ?_
        rintro e w2 ⟨rfl, T2, S2⟩
        have R2 : Hid (Touch g w w2 ∧ Scn w2 g b sa n cap k f z l a) := ⟨T1.out.trans T2, by rw [HE.out]; exact S2⟩
        clear T2 S2
        go_wp2
        go_end0
        exact ⟨rfl, R2.out⟩
end
end Go.Proofs.YtpjdgbhjjknopaaDoor
