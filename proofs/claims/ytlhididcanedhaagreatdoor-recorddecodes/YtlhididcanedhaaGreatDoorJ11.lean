/- Texts of the proof, joined. -/
import Derived.Test.YtlhididcanedhaaGreatDoorJ09
import Derived.Test.YtlhididcanedhaaGreatDoorJ10
import Derived.Test.YtlhididcanedhaaGreatDoorJ05
import Derived.Test.YtlhididcanedhaaGreatDoorJ02
/- The contract of the reader's method Text. -/
namespace Go.Proofs.YtlhididcanedhaaGreatDoor
open Go.RowKit Go.Wire1
namespace mText

theorem r_err {least most : Int} {l : List Int} {k i : Nat} (h : rT least most l k = .error i) : i < 5 := by
  unfold rT at h
  cases hd : dec (l.drop k) with
  | error j => rw [hd] at h; have := dec_err hd; simp at h; omega
  | ok p =>
    rw [hd] at h
    simp only at h
    split at h
    · split at h <;> simp at h; omega
    · simp at h; omega
theorem r_val {least most : Int} {l : List Int} {k m : Nat} {v : Value} (h : rT least most l k = .ok (v, m)) : ∃ z : ByteArray, v = .string z := by
  unfold rT at h
  cases hd : dec (l.drop k) with
  | error j => rw [hd] at h; simp at h
  | ok p =>
    rw [hd] at h
    simp only at h
    split at h
    · split at h <;> simp at h; exact ⟨_, h.1.symm⟩
    · simp at h

set_option maxHeartbeats 1000000 in
set_option maxRecDepth 100000 in
theorem catching (b B0 B1 B2 : Nat) (n1 : ¬ b = B1) (n2 : ¬ B0 = B1) (n3 : ¬ B2 = B1) (i : Nat) (hi : i < 5) (a : Nat → Addr) (w : World) (he : Errs w a) (h5 : 8 ≤ b) (hab : ∀ i, i < 5 → (a i).block ≠ b) (h5' : 8 ≤ B1) (hab' : ∀ i, i < 5 → (a i).block ≠ B1) (z : ByteArray) (k x f : Int)
    (d0 : w.cell? ⟨B0, 0, none⟩ = some (.pointer (some ⟨b, 0, none⟩))) (d1 : w.cell? ⟨B1, 0, none⟩ = some (.string z)) (d2 : w.cell? ⟨B2, 0, none⟩ = some (.int .i64 k)) (g1 : w.frozen? ⟨B1, 0, none⟩ = false)
    (c1 : w.cell? ⟨b, 1, none⟩ = some (.int .i64 x)) (f1 : w.frozen? ⟨b, 1, none⟩ = false) (c2 : w.cell? ⟨b, 2, none⟩ = some (.int .i64 f)) (f2 : w.frozen? ⟨b, 2, none⟩ = false) :
    CallsD Tryz.prog 183 #[.pointer (some ⟨B1, 0, none⟩), .pointer (some ⟨B0, 0, none⟩), .pointer (some ⟨B2, 0, none⟩)] (.panicking [{ v := errV (a i), recovered := false }]) w fun e u' w' =>
      e = .returned (.tuple #[]) ∧ u' = .panicking [{ v := errV (a i), recovered := true }] ∧ w' = ((w.setCell ⟨B1, 0, none⟩ (.string ⟨#[]⟩)).setCell ⟨b, 1, none⟩ (.int .i64 k)).setCell ⟨b, 2, none⟩ (.int .i64 (11 + (i : Int))) := by
  have he' : Errs (w.setCell ⟨B1, 0, none⟩ (.string ⟨#[]⟩)) a := he.only ((Only.refl B1 0 w).setCell _) h5' hab'
  have nn : ¬ B1 = b := fun e => n1 e.symm
  have q1 : (w.setCell ⟨B1, 0, none⟩ (.string ⟨#[]⟩)).cell? ⟨b, 1, none⟩ = some (.int .i64 x) := (World.cell?_setCell_other _ _ _ _ (by simp)).trans c1
  have q2 : (w.setCell ⟨B1, 0, none⟩ (.string ⟨#[]⟩)).cell? ⟨b, 2, none⟩ = some (.int .i64 f) := (World.cell?_setCell_other _ _ _ _ (by simp)).trans c2
  have p1 : (w.setCell ⟨B1, 0, none⟩ (.string ⟨#[]⟩)).frozen? ⟨b, 1, none⟩ = false := (World.frozen?_setCell _ _ _ _).trans f1
  have p2 : (w.setCell ⟨B1, 0, none⟩ (.string ⟨#[]⟩)).frozen? ⟨b, 2, none⟩ = false := (World.frozen?_setCell _ _ _ _).trans f2
  refine callsD_of_wpS Tryz.func183 rfl fun c₀ cs hu => ?_
  apply wpS_seq
  apply wpS_region
  simp [wpOpsS, go_sem, recoverD, hu, Tryz.ntmps183, Exit.thenS]
  refine wpS_of_wp ?_
  go_wp2_with fail
  refine (giveUp_any b k x f i hi a _ he' h5 hab q1 p1 q2 p2).mono ?_
  rintro e w1 ⟨rfl, rfl⟩
  go_wp2
  simp [bodyPostS, results, Tryz.results183]

set_option maxHeartbeats 1000000 in
set_option maxRecDepth 100000 in
theorem idle (B0 B1 B2 : Nat) (w : World) :
    CallsD Tryz.prog 183 #[.pointer (some ⟨B1, 0, none⟩), .pointer (some ⟨B0, 0, none⟩), .pointer (some ⟨B2, 0, none⟩)] .returning w fun e u' w' => e = .returned (.tuple #[]) ∧ u' = .returning ∧ w' = w := by
  refine callsD_of_wpS Tryz.func183 rfl fun c₀ cs hu => ?_
  apply wpS_seq
  apply wpS_region
  simp [wpOpsS, go_sem, recoverD, hu, Tryz.ntmps183, Exit.thenS]
  refine wpS_of_wp ?_
  go_wp2
  cases c₀
  simp_all [bodyPostS, results, Tryz.results183]

set_option maxHeartbeats 2000000 in
set_option maxRecDepth 100000 in
theorem any (least most : Int) (h1 : -9223372036854775808 ≤ least) (h2 : least ≤ 9223372036854775807) (h3 : -9223372036854775808 ≤ most) (h4 : most ≤ 9223372036854775807) (b n cap k : Nat) (f : Int) (sa : Option Addr) (l : List Int) (a : Nat → Addr) (w : World) (h : Rdr w b sa n cap k f l a) :
    Calls Tryz.prog 171 #[.pointer (some ⟨b, 0, none⟩), .int .i64 least, .int .i64 most] w fun e w' => e = .returned (Meth (.string ⟨#[]⟩) (rT least most l k) k f).1 ∧ Touch b w w' ∧ Rdr w' b sa n cap (Meth (.string ⟨#[]⟩) (rT least most l k) k f).2.1 (Meth (.string ⟨#[]⟩) (rT least most l k) k f).2.2 l a := by
  have hmf : ∀ (fn : Fn) (first cap : Array Value) (w : World), (Instr.makeFunc fn first cap).run Tryz.prog w = .ok (.func fn first cap) w := fun _ _ _ _ => rfl
  have hlt := h.lt
  have c2 := h.fault
  have c1 : w.cell? ⟨b, 1, none⟩ = some (.int .i64 (k : Int)) := h.ready.cur.2.1
  by_cases hf : f = 0
  · subst hf
    obtain ⟨hbel, d0, d1, d2, g1⟩ := new3 w (.pointer (some ⟨b, 0, none⟩)) (.string ⟨#[]⟩) (.int .i64 (k : Int)) 142 9 3
    have hR := h.below hbel (Nat.le_refl _)
    have HC := hide (text_any least most b 0 n cap sa l k a _ hR.ready h.capLe h.capMax h1 h2 h3 h4)
    go_enter_defers Tryz.func171, Tryz.ntmps171
    go_wp2_with fail
    refine (unhide HC).mono ?_
    rintro e w1 ⟨ho, k', hc1, hk', hout⟩
    have hle := h.ready.le
    have HT : Hid (Touch b w w1) := (Touch.ofBelow hbel).trans (Touch.ofOnly ho)
    have d0' := (World.cell?_of_block (a := ⟨w.heap.size, 0, none⟩) (ho.block w.heap.size (by omega))).trans d0
    have d1' := (World.cell?_of_block (a := ⟨w.heap.size + 1, 0, none⟩) (ho.block (w.heap.size + 1) (by omega))).trans d1
    have d2' := (World.cell?_of_block (a := ⟨w.heap.size + 1 + 1, 0, none⟩) (ho.block (w.heap.size + 1 + 1) (by omega))).trans d2
    have g1' := (World.frozen?_of_block (a := ⟨w.heap.size + 1, 0, none⟩) (ho.block (w.heap.size + 1) (by omega))).trans g1
    have c0' : w1.cell? ⟨b, 0, none⟩ = some (.slice sa n cap) := hc1.1
    have c1' : w1.cell? ⟨b, 1, none⟩ = some (.int .i64 (k' : Int)) := hc1.2.1
    have f1' : w1.frozen? ⟨b, 1, none⟩ = false := hc1.2.2
    have c2' := (ho.cell 2 (by decide)).trans hR.fault
    have f2' := (ho.frz 2).trans hR.thaw
    have HE := hide (hR.ready.errs.only ho hR.ready.five hR.ready.apart)
    have H5 := hide h.ready.five
    have HAB := hide h.ready.apart
    have HLT : Hid (∀ i, i < 5 → (a i).block < w.heap.size) := fun i hi => h.ready.errs.lt i hi
    have HR := hide h
    clear d0 d1 d2 g1 ho hc1 HC hR hbel c1 c2 h
    generalize hB1 : w.heap.size + 1 = B1 at *
    generalize hB2 : B1 + 1 = B2 at *
    generalize hB0 : w.heap.size = B0 at *
    have n1 : ¬ b = B1 := by omega
    have n2 : ¬ B0 = B1 := by omega
    have n3 : ¬ B2 = B1 := by omega
    have n4 : ¬ B1 = b := by omega
    have HZ : Hid (w.heap.size = B0 ∧ B0 < B1) := ⟨hB0, by omega⟩
    clear hB1 hB2 hB0
    cases hd : rT least most l k with
    | error i =>
      have HQ := hide (meth_err (Z := .string ⟨#[]⟩) (k := k) hd)
      rw [hd] at hout
      obtain rfl : e = _ := hout
      have hi : i < 5 := r_err hd
      clear hd
      go_wp2
      refine leaves_cons (f := 183) (args := #[.pointer (some ⟨B1, 0, none⟩), .pointer (some ⟨B0, 0, none⟩), .pointer (some ⟨B2, 0, none⟩)]) (by simp) (by simp [go_sem]) ?_
      refine (catching b B0 B1 B2 n1 n2 n3 i hi a w1 HE.out H5.out HAB.out (by have := HZ.out; have := H5.out; omega) (fun j hj => by have := HLT.out j hj; have := HZ.out; omega) ⟨#[]⟩ (k : Int) (k' : Int) 0 d0' d1' d2' g1' c1' f1' c2' f2').mono ?_
      rintro e u' w'' ⟨rfl, rfl, rfl⟩
      have x1 : (((w1.setCell ⟨B1, 0, none⟩ (.string ⟨#[]⟩)).setCell ⟨b, 1, none⟩ (.int .i64 (k : Int))).setCell ⟨b, 2, none⟩ (.int .i64 (11 + (i : Int)))).cell? ⟨B1, 0, none⟩ = some (.string ⟨#[]⟩) := by
        rw [World.cell?_setCell_other _ _ _ _ (by simp), World.cell?_setCell_other _ _ _ _ (by simp)]; exact World.cell?_setCell_same w1 ⟨B1, 0, none⟩ _ d1'
      have y0 : (w1.setCell ⟨B1, 0, none⟩ (.string ⟨#[]⟩)).cell? ⟨b, 1, none⟩ = some (.int .i64 (k' : Int)) := (World.cell?_setCell_other _ _ _ _ (by simp)).trans c1'
      have y1 : ((w1.setCell ⟨B1, 0, none⟩ (.string ⟨#[]⟩)).setCell ⟨b, 1, none⟩ (.int .i64 (k : Int))).cell? ⟨b, 2, none⟩ = some (.int .i64 0) := (World.cell?_setCell_other _ _ _ _ (by simp)).trans ((World.cell?_setCell_other _ _ _ _ (by simp)).trans c2')
      have hT : Touch b w (((w1.setCell ⟨B1, 0, none⟩ (.string ⟨#[]⟩)).setCell ⟨b, 1, none⟩ (.int .i64 (k : Int))).setCell ⟨b, 2, none⟩ (.int .i64 (11 + (i : Int)))) := ((HT.out.setNew _ (by have := HZ.out; omega)).setB _).setB _
      have hRR : Rdr (((w1.setCell ⟨B1, 0, none⟩ (.string ⟨#[]⟩)).setCell ⟨b, 1, none⟩ (.int .i64 (k : Int))).setCell ⟨b, 2, none⟩ (.int .i64 (11 + (i : Int)))) b sa n cap k (11 + (i : Int)) l a := by
        refine HR.out.moved hT ?_ ?_ ?_ ?_ ?_ hle
        · rw [World.cell?_setCell_other _ _ _ _ (by simp), World.cell?_setCell_other _ _ _ _ (by simp), World.cell?_setCell_other _ _ _ _ (by simp)]; exact c0'
        · rw [World.cell?_setCell_other _ _ _ _ (by simp)]; exact World.cell?_setCell_same _ ⟨b, 1, none⟩ _ y0
        · rw [World.frozen?_setCell, World.frozen?_setCell, World.frozen?_setCell]; exact f1'
        · exact World.cell?_setCell_same _ ⟨b, 2, none⟩ _ y1
        · rw [World.frozen?_setCell, World.frozen?_setCell, World.frozen?_setCell]; exact f2'
      simp [Leaves, settle, results, Tryz.results171, go_sem, x1]
      rw [HQ.out]
      exact ⟨rfl, hT, hRR⟩
    | ok p =>
      obtain ⟨v, m⟩ := p
      have HQ := hide (meth_ok (Z := .string ⟨#[]⟩) (k := k) hd)
      obtain ⟨z, rfl⟩ := r_val hd
      rw [hd] at hout
      obtain ⟨rfl, hkk⟩ := hout
      subst hkk
      clear hd
      go_wp2
      refine leaves_cons (f := 183) (args := #[.pointer (some ⟨B1, 0, none⟩), .pointer (some ⟨B0, 0, none⟩), .pointer (some ⟨B2, 0, none⟩)]) (by simp) (by simp [go_sem]) ?_
      refine (idle B0 B1 B2 _).mono ?_
      rintro e u' w'' ⟨rfl, rfl, rfl⟩
      have x1 : (w1.setCell ⟨B1, 0, none⟩ (.string z)).cell? ⟨B1, 0, none⟩ = some (.string z) := World.cell?_setCell_same w1 ⟨B1, 0, none⟩ _ d1'
      have hT : Touch b w (w1.setCell ⟨B1, 0, none⟩ (.string z)) := HT.out.setNew _ (by have := HZ.out; omega)
      have hRR : Rdr (w1.setCell ⟨B1, 0, none⟩ (.string z)) b sa n cap (k + m) 0 l a := by
        refine HR.out.moved hT ?_ ?_ ?_ ?_ ?_ hk'
        · rw [World.cell?_setCell_other _ _ _ _ (by simp)]; exact c0'
        · rw [World.cell?_setCell_other _ _ _ _ (by simp)]; exact c1'
        · rw [World.frozen?_setCell]; exact f1'
        · rw [World.cell?_setCell_other _ _ _ _ (by simp)]; exact c2'
        · rw [World.frozen?_setCell]; exact f2'
      simp only [Leaves, settle]
      simp [results, Tryz.results171, go_sem, x1]
      rw [HQ.out]
      exact ⟨rfl, hT, hRR⟩
  · have HQ := hide (meth_broken (Z := .string ⟨#[]⟩) (r := rT least most l k) (k := k) hf)
    have hb : (f != 0) = true := by rw [bne_iff_ne]; exact hf
    have HB : Hid (Below w.heap.size w ((w.alloc (.cells #[.pointer (some ⟨b, 0, none⟩)] 142)).alloc (.cells #[.string ⟨#[]⟩] 9))) := ((Below.refl _ _).alloc (Nat.le_refl _) _).alloc (by simp) _
    clear hf
    go_enter_defers Tryz.func171, Tryz.ntmps171
    go_wp2
    simp only [bodyPostD, Leaves]
    simp [results, Tryz.results171, go_sem]
    rw [HQ.out]
    exact ⟨rfl, Touch.ofBelow HB.out, h.below HB.out (Nat.le_refl _)⟩
end mText
end Go.Proofs.YtlhididcanedhaaGreatDoor
/- A command's scan in memory, and the contracts of its refuse, note, number, text, signed and kind. -/
namespace Go.Proofs.YtlhididcanedhaaGreatDoor
open Go.RowKit Go.Wire1

/-- A scan: its reader, its fault. -/
structure Scn (w : World) (g b : Nat) (sa : Option Addr) (n cap k : Nat) (f ft : Int) (l : List Int) (a : Nat → Addr) : Prop where
  ptr : w.cell? ⟨g, 0, none⟩ = some (.pointer (some ⟨b, 0, none⟩))
  fault : w.cell? ⟨g, 1, none⟩ = some (.int .i64 ft)
  thaw : w.frozen? ⟨g, 1, none⟩ = false
  rdr : Rdr w b sa n cap k f l a
  ne : g ≠ b
  sep : ∀ x, sa = some x → 0 < n → x.block ≠ g
  apart : ∀ i, i < 5 → (a i).block ≠ g
  six : 8 ≤ g

/-- Of what was there nothing but the blocks g and b has turned. -/
structure Turn (g b : Nat) (w w' : World) : Prop where
  os : w'.os = w.os
  tape : w'.tape = w.tape
  output : w'.output = w.output
  size : w.heap.size ≤ w'.heap.size
  block : ∀ k, k < w.heap.size → k ≠ g → k ≠ b → w'.heap[k]? = w.heap[k]?
theorem Turn.refl (g b : Nat) (w : World) : Turn g b w w := ⟨rfl, rfl, rfl, Nat.le_refl _, fun _ _ _ _ => rfl⟩
theorem Turn.trans {g b : Nat} {x y z : World} (h : Turn g b x y) (k : Turn g b y z) : Turn g b x z :=
  ⟨k.os.trans h.os, k.tape.trans h.tape, k.output.trans h.output, Nat.le_trans h.size k.size, fun i hi h1 h2 => (k.block i (Nat.lt_of_lt_of_le hi h.size) h1 h2).trans (h.block i hi h1 h2)⟩
theorem Turn.ofB {g b : Nat} {x y : World} (h : Touch b x y) : Turn g b x y := ⟨h.os, h.tape, h.output, h.size, fun i hi _ h2 => h.block i hi h2⟩
theorem Turn.ofG {g b : Nat} {x y : World} (h : Touch g x y) : Turn g b x y := ⟨h.os, h.tape, h.output, h.size, fun i hi h1 _ => h.block i hi h1⟩
theorem Turn.cell {g b : Nat} {x y : World} (h : Turn g b x y) {p : Addr} {v : Value} (hp : x.cell? p = some v) (h1 : p.block ≠ g) (h2 : p.block ≠ b) (hs : p.spot = none) : y.cell? p = some v := by
  obtain ⟨pb, po, ps⟩ := p
  obtain rfl : ps = none := hs
  rw [World.cell?_of_block (w := x) (h.block pb (cell_lt hp) h1 h2)]; exact hp
theorem Turn.below {g b B : Nat} {w0 x y : World} (h : Turn g b x y) (h0 : Below B w0 x) (hg : B ≤ g) (hb : B ≤ b) (hB : B ≤ x.heap.size) : Below B w0 y :=
  ⟨h.os.trans h0.os, h.tape.trans h0.tape, h.output.trans h0.output, Nat.le_trans h0.size h.size, fun i hi => (h.block i (by omega) (by omega) (by omega)).trans (h0.block i hi)⟩
theorem Turn.knd {g b : Nat} {x y : World} (h : Turn g b x y) (hk : Knd x) (hg : 8 ≤ g) (hb : 8 ≤ b) : Knd y := by
  intro i hi
  obtain ⟨h1, h2⟩ := hk i hi
  exact ⟨h.cell h1 (by show 1 ≠ g; omega) (by show 1 ≠ b; omega) rfl, h.cell h2 (by show 1 ≠ g; omega) (by show 1 ≠ b; omega) rfl⟩

section
variable {w w' : World} {g b : Nat} {sa : Option Addr} {n cap k : Nat} {f ft : Int} {l : List Int} {a : Nat → Addr}
theorem Scn.lt (h : Scn w g b sa n cap k f ft l a) : g < w.heap.size := cell_lt h.fault
/-- Behind a reading. -/
theorem Scn.read {k' : Nat} {f' : Int} (h : Scn w g b sa n cap k f ft l a) (ht : Touch b w w') (hr : Rdr w' b sa n cap k' f' l a) : Scn w' g b sa n cap k' f' ft l a := by
  have e : w'.heap[g]? = w.heap[g]? := ht.block g h.lt h.ne
  exact ⟨(World.cell?_of_block (a := ⟨g, 0, none⟩) e).trans h.ptr, (World.cell?_of_block (a := ⟨g, 1, none⟩) e).trans h.fault, (World.frozen?_of_block (a := ⟨g, 1, none⟩) e).trans h.thaw, hr, h.ne, h.sep, h.apart, h.six⟩
theorem Scn.drewN (h : Scn w g b sa n cap k f ft l a) (q : Nat) : Scn (w.drewN q) g b sa n cap k f ft l a := ⟨h.ptr, h.fault, h.thaw, h.rdr.drewN q, h.ne, h.sep, h.apart, h.six⟩
theorem Scn.drew (h : Scn w g b sa n cap k f ft l a) : Scn w.drew g b sa n cap k f ft l a := h.drewN 1
theorem Scn.below {C : Nat} (h : Scn w g b sa n cap k f ft l a) (hb : Below C w w') (hC : w.heap.size ≤ C) : Scn w' g b sa n cap k f ft l a := by
  have hl := h.lt
  have e : w'.heap[g]? = w.heap[g]? := hb.block g (by omega)
  exact ⟨(World.cell?_of_block (a := ⟨g, 0, none⟩) e).trans h.ptr, (World.cell?_of_block (a := ⟨g, 1, none⟩) e).trans h.fault, (World.frozen?_of_block (a := ⟨g, 1, none⟩) e).trans h.thaw, h.rdr.below hb hC, h.ne, h.sep, h.apart, h.six⟩
theorem Scn.set (h : Scn w g b sa n cap k f ft l a) (e : Int) : Scn (w.setCell ⟨g, 1, none⟩ (.int .i64 e)) g b sa n cap k f e l a ∧ Touch g w (w.setCell ⟨g, 1, none⟩ (.int .i64 e)) := by
  have ht : Touch g w (w.setCell ⟨g, 1, none⟩ (.int .i64 e)) := (Touch.refl g w).setB _
  refine ⟨⟨?_, World.cell?_setCell_same w ⟨g, 1, none⟩ _ h.fault, ?_, h.rdr.beside ht (fun e => h.ne e.symm) h.sep h.six h.apart, h.ne, h.sep, h.apart, h.six⟩, ht⟩
  · rw [World.cell?_setCell_other _ _ _ _ (by simp)]; exact h.ptr
  · rw [World.frozen?_setCell]; exact h.thaw
end

def refF (e ft : Int) : Int := if ft = 0 then e else ft
/-- What note makes of the scan's fault. -/
def noteF (own f ft : Int) : Int := if f = 0 then ft else if f = 14 ∨ f = 15 then refF own ft else refF f ft

section
variable (g b n cap k : Nat) (f ft : Int) (sa : Option Addr) (l : List Int) (a : Nat → Addr)
set_option maxHeartbeats 400000 in
set_option maxRecDepth 100000 in
theorem refuse_any (e : Int) (w : World) (h : Scn w g b sa n cap k f ft l a) :
    Calls Tryz.prog 169 #[.pointer (some ⟨g, 0, none⟩), .int .i64 e] w fun r w' => r = .returned (.tuple #[]) ∧ Touch g w w' ∧ Scn w' g b sa n cap k f (refF e ft) l a := by
  have c1 := h.fault
  have f1 := h.thaw
  have HS := hide h
  clear h
  by_cases h0 : ft = 0
  · subst h0
    have R := HS.out.set e
    go_enter Tryz.func169, Tryz.ntmps169
    go_wp2
    go_end0
    exact ⟨rfl, R.2, R.1⟩
  · have HE : Hid (refF e ft = ft) := by simp [Hid, refF, h0]
    rw [HE.out]
    have g0 : (ft == 0) = false := by simpa using h0
    clear h0
    go_enter Tryz.func169, Tryz.ntmps169
    go_wp2
    go_end0
    exact ⟨rfl, Touch.refl g w, HS.out⟩

set_option maxHeartbeats 1000000 in
set_option maxRecDepth 100000 in
theorem note_any (own : Int) (w : World) (h : Scn w g b sa n cap k f ft l a) :
    Calls Tryz.prog 168 #[.pointer (some ⟨g, 0, none⟩), .int .i64 own] w fun r w' => r = .returned (.tuple #[]) ∧ Touch g w w' ∧ Scn w' g b sa n cap k f (noteF own f ft) l a := by
  have c0 := h.ptr
  have HS := hide h
  clear h
  obtain ⟨z, hz⟩ : ∃ z, Hid (noteF own f ft = z) := ⟨_, rfl⟩
  rw [hz.out]
  by_cases h0 : f = 0
  · subst h0
    have HE : Hid (z = ft) := by rw [← hz.out]; simp [Hid, noteF]
    go_enter Tryz.func168, Tryz.ntmps168
    go_wp2_with fail
    refine (err_any b n cap k 0 sa l a _ HS.out.rdr).mono ?_
    rintro e w1 ⟨rfl, q, rfl⟩
    go_wp2
    go_end0
    exact ⟨rfl, (Touch.refl g w).drewN q, by rw [HE.out]; exact HS.out.drewN q⟩
  · by_cases h1 : f = 14
    · subst h1
      have HE : Hid (z = refF own ft) := by rw [← hz.out]; simp [Hid, noteF]
      go_enter Tryz.func168, Tryz.ntmps168
      go_wp2_with fail
      refine (err_any b n cap k 14 sa l a _ HS.out.rdr).mono ?_
      rintro e w1 ⟨rfl, q, hq⟩
      have T1 : Hid (Touch g w w1) := by rw [hq]; exact (Touch.refl g w).drewN q
      have S1 : Hid (Scn w1 g b sa n cap k 14 ft l a) := by rw [hq]; exact HS.out.drewN q
      clear hq c0
      go_wp2_with fail
      refine (refuse_any g b n cap k 14 ft sa l a own _ S1.out).mono ?_
      rintro e w2 ⟨rfl, T2, S2⟩
      have R2 : Hid (Touch g w w2 ∧ Scn w2 g b sa n cap k 14 z l a) := ⟨T1.out.trans T2, by rw [HE.out]; exact S2⟩
      clear T2 S2
      go_wp2
      go_end0
      exact ⟨rfl, R2.out⟩
    · by_cases h2 : f = 15
      · subst h2
        have HE : Hid (z = refF own ft) := by rw [← hz.out]; simp [Hid, noteF]
        go_enter Tryz.func168, Tryz.ntmps168
        go_wp2_with fail
        refine (err_any b n cap k 15 sa l a _ HS.out.rdr).mono ?_
        rintro e w1 ⟨rfl, q, hq⟩
        have T1 : Hid (Touch g w w1) := by rw [hq]; exact (Touch.refl g w).drewN q
        have S1 : Hid (Scn w1 g b sa n cap k 15 ft l a) := by rw [hq]; exact HS.out.drewN q
        clear hq c0
        go_wp2_with fail
        refine (refuse_any g b n cap k 15 ft sa l a own _ S1.out).mono ?_
        rintro e w2 ⟨rfl, T2, S2⟩
        have R2 : Hid (Touch g w w2 ∧ Scn w2 g b sa n cap k 15 z l a) := ⟨T1.out.trans T2, by rw [HE.out]; exact S2⟩
        clear T2 S2
        go_wp2
        go_end0
        exact ⟨rfl, R2.out⟩
      · have HE : Hid (z = refF f ft) := by rw [← hz.out]; simp [Hid, noteF, h0, h1, h2]
        have g0 : (f == 0) = false := by simpa using h0
        have g1 : (f == 14) = false := by simpa using h1
        have g2 : (f == 15) = false := by simpa using h2
        clear h0 h1 h2
        go_enter Tryz.func168, Tryz.ntmps168
        go_wp2_with fail
        refine (err_any b n cap k f sa l a _ HS.out.rdr).mono ?_
        rintro e w1 ⟨rfl, q, hq⟩
        have T1 : Hid (Touch g w w1) := by rw [hq]; exact (Touch.refl g w).drewN q
        have S1 : Hid (Scn w1 g b sa n cap k f ft l a) := by rw [hq]; exact HS.out.drewN q
        clear hq c0
        go_wp2_with fail
        refine (refuse_any g b n cap k f ft sa l a f _ S1.out).mono ?_
        rintro e w2 ⟨rfl, T2, S2⟩
        have R2 : Hid (Touch g w w2 ∧ Scn w2 g b sa n cap k f z l a) := ⟨T1.out.trans T2, by rw [HE.out]; exact S2⟩
        clear T2 S2
        go_wp2
        go_end0
        exact ⟨rfl, R2.out⟩
end
end Go.Proofs.YtlhididcanedhaaGreatDoor
/- The plain mathematics of a command's bytes; nothing of the program is named here. -/
namespace Go.Wire1
open Go.RowKit

/-- A text's bytes, as numbers. -/
def tx (s : ByteArray) : List Int := s.data.toList.map fun b => (b.toNat : Int)
theorem tx_len (s : ByteArray) : (tx s).length = s.size := by
  show (s.data.toList.map _).length = s.data.size
  rw [List.length_map, Array.length_toList]
/-- A text as an item: its length, its bytes. -/
def ptx (s : ByteArray) : List Int := enc s.size ++ tx s
/-- How many bytes two texts share at their beginning. -/
def shL : List UInt8 → List UInt8 → Nat
  | a :: x, b :: y => if a = b then shL x y + 1 else 0
  | _, _ => 0
def shared (k k2 : ByteArray) : Nat := shL k.data.toList k2.data.toList
theorem shL_le : ∀ x y : List UInt8, shL x y ≤ x.length ∧ shL x y ≤ y.length
  | [], _ => by simp [shL]
  | _ :: _, [] => by simp [shL]
  | a :: x, b :: y => by
    have := shL_le x y
    simp only [shL]
    split <;> simp <;> omega
theorem shared_le (k k2 : ByteArray) : shared k k2 ≤ k.size ∧ shared k k2 ≤ k2.size := by
  have := shL_le k.data.toList k2.data.toList
  rw [← Lib.size_eq, ← Lib.size_eq] at this
  exact this
theorem shL_drop : ∀ (i : Nat) (x y : List UInt8), i < x.length → i < y.length → shL (x.drop i) (y.drop i) = if x.getD i 0 = y.getD i 0 then shL (x.drop (i + 1)) (y.drop (i + 1)) + 1 else 0 := by
  intro i x y hx hy
  rw [List.drop_eq_getElem_cons hx, List.drop_eq_getElem_cons hy, List.getD, List.getD, List.getElem?_eq_getElem hx, List.getElem?_eq_getElem hy]
  rfl
theorem shL_end (i : Nat) (x y : List UInt8) (h : x.length ≤ i ∨ y.length ≤ i) : shL (x.drop i) (y.drop i) = 0 := by
  rcases h with h | h
  · rw [List.drop_eq_nil_of_le h]; rfl
  · rw [List.drop_eq_nil_of_le h]; cases x.drop i <;> rfl

def restC (c : Cm) : List Int :=
  if 6 ≤ c.kind then enc (shared c.key c.key2) ++ ptx (c.key2.extract (shared c.key c.key2) c.key2.size)
  else if c.kind = 5 then ptx c.old ++ ptx c.val
  else if c.kind = 2 then ptx c.val
  else if c.kind = 4 then enc (zig c.n)
  else []
/-- The bytes of a command. -/
def encC (c : Cm) : List Int := if c.kind = 0 then [0] else [c.kind] ++ enc c.client.toNat ++ enc c.req.toNat ++ ptx c.key ++ restC c

theorem chk_zero {v : Int} {c : Cm} (h : chk v c = 0) : (v = 1 ∨ v = 2) ∧ isKd v c.kind = true ∧ ∀ f, f < 7 → faultF v c f = 0 := by
  unfold chk at h
  cases h1 : isVer v with
  | false => rw [h1] at h; simp at h
  | true =>
    cases h2 : isKd v c.kind with
    | false => rw [h1, h2] at h; simp at h
    | true =>
      rw [h1, h2] at h
      simp only [if_true] at h
      refine ⟨by simpa [isVer] using h1, rfl, ?_⟩
      have go : ∀ k f, firstF v c k f = 0 → ∀ j, f ≤ j → j < f + k → faultF v c j = 0 := by
        intro k
        induction k with
        | zero => intro f _ j h1 h2; omega
        | succ k ih =>
          intro f hf j h1 h2
          simp only [firstF] at hf
          by_cases h0 : faultF v c f = 0
          · rw [if_pos h0] at hf
            by_cases e : j = f
            · rw [e]; exact h0
            · exact ih (f + 1) hf j (by omega) (by omega)
          · rw [if_neg h0] at hf; exact absurd hf h0
      exact fun f hf => go 7 0 h f (by omega) (by omega)
theorem has_allow {v : Int} {c : Cm} {f : Nat} (h : faultF v c f = 0) (hf : f < 6) (hh : hasF c.kind f = true) : allowF v c f = true := by
  unfold faultF at h
  rw [hh] at h
  simp only [if_true] at h
  cases ha : allowF v c f with
  | true => rfl
  | false =>
    rw [ha] at h
    simp only [Bool.false_eq_true, if_false, errF] at h
    split at h <;> omega
/-- What a command that Check takes is. -/
structure Sound (c : Cm) : Prop where
  k0 : 0 ≤ c.kind
  k8 : c.kind ≤ 8
  client : c.kind ≠ 0 → 0 ≤ c.client ∧ c.client ≤ 65535
  req : c.kind ≠ 0 → 0 ≤ c.req ∧ c.req ≤ 1073741824
  key : c.kind ≠ 0 → 1 ≤ c.key.size ∧ c.key.size ≤ 64
  key2 : 6 ≤ c.kind → 1 ≤ c.key2.size ∧ c.key2.size ≤ 64 ∧ isPairB c.kind c.key c.key2 = true
  val : c.kind = 2 ∨ c.kind = 5 → c.val.size ≤ 65536
  old : c.kind = 5 → c.old.size ≤ 65536
theorem hasT (k : Fin 9) : (k.val ≠ 0 → hasF (k.val : Int) 0 = true ∧ hasF (k.val : Int) 1 = true ∧ hasF (k.val : Int) 2 = true) ∧ (6 ≤ k.val → hasF (k.val : Int) 3 = true) ∧ (k.val = 2 ∨ k.val = 5 → hasF (k.val : Int) 4 = true) ∧ (k.val = 5 → hasF (k.val : Int) 5 = true) := by
  revert k; decide
theorem sound_of {v : Int} {c : Cm} (h : chk v c = 0) : Sound c := by
  obtain ⟨hv, hk, hf⟩ := chk_zero h
  simp only [isKd, Bool.and_eq_true, decide_eq_true_eq] at hk
  obtain ⟨k, hkk⟩ := Int.eq_ofNat_of_zero_le hk.1
  have hk9 : k < 9 := by omega
  obtain ⟨t1, t2, t3, t4⟩ := hasT ⟨k, hk9⟩
  simp only at t1 t2 t3 t4
  rw [show ((k : Nat) : Int) = c.kind from hkk.symm] at t1 t2 t3 t4
  have hm : mostV v ≤ 65536 := by unfold mostV; split <;> omega
  refine ⟨hk.1, by omega, fun hn => ?_, fun hn => ?_, fun hn => ?_, fun hn => ?_, fun hn => ?_, fun hn => ?_⟩
  · have := has_allow (hf 0 (by omega)) (by omega) (t1 (by omega)).1
    simpa [allowF] using this
  · have := has_allow (hf 1 (by omega)) (by omega) (t1 (by omega)).2.1
    simpa [allowF] using this
  · have := has_allow (hf 2 (by omega)) (by omega) (t1 (by omega)).2.2
    simp only [allowF, isKeyB, Bool.and_eq_true, decide_eq_true_eq] at this
    exact this
  · have := has_allow (hf 3 (by omega)) (by omega) (t2 (by omega))
    simp only [allowF, isKeyB, Bool.and_eq_true, decide_eq_true_eq] at this
    exact ⟨this.1.1, this.1.2, this.2⟩
  · have := has_allow (hf 4 (by omega)) (by omega) (t3 (by omega))
    simp only [allowF, decide_eq_true_eq] at this
    omega
  · have := has_allow (hf 5 (by omega)) (by omega) (t4 (by omega))
    simp only [allowF, decide_eq_true_eq] at this
    omega
end Go.Wire1
