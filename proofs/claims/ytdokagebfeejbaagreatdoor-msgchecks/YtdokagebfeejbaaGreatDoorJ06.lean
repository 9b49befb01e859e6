/- Texts of the proof, joined. -/
import Derived.Test.YtdokagebfeejbaaGreatDoorJ05
/- The contract of the reader's method Int. -/
namespace Go.Proofs.YtdokagebfeejbaaGreatDoor
open Go.RowKit Go.Wire1
namespace mInt

theorem signedV_any (b o n cap : Nat) (sa : Option Addr) (l : List Int) (k : Nat) (a : Nat → Addr) (w : World) (h : Ready w b o sa n cap k l a) :
    Calls Tryz.prog 141 #[.pointer (some ⟨b, o, none⟩)] w fun e w' => Only b (o + 1) w w' ∧ ∃ k', Cur w' b o sa n cap k' ∧ k' ≤ n ∧ OutV a (rI l k) e k k' := by
  refine (signed_any b o n cap sa l k a w h.cur h.seg h.sep h.byt h.le h.errs h.five h.apart).mono ?_
  rintro e w' ⟨ho, k', hc, hk, hout⟩
  refine ⟨ho, k', hc, hk, ?_⟩
  unfold rI
  cases hd : dec (l.drop k) with
  | error i => rw [hd] at hout; exact hout
  | ok p => rw [hd] at hout; exact hout
theorem r_err {l : List Int} {k i : Nat} (h : rI l k = .error i) : i < 5 := by
  unfold rI at h
  cases hd : dec (l.drop k) with
  | error j => rw [hd] at h; have := dec_err hd; simp at h; omega
  | ok p => rw [hd] at h; simp at h
theorem r_val {l : List Int} {k m : Nat} {v : Value} (h : rI l k = .ok (v, m)) : ∃ z : Int, v = .int .i64 z := by
  unfold rI at h
  cases hd : dec (l.drop k) with
  | error j => rw [hd] at h; simp at h
  | ok p => rw [hd] at h; simp at h; exact ⟨_, h.1.symm⟩

set_option maxHeartbeats 1000000 in
set_option maxRecDepth 100000 in
theorem catching (b B0 B1 B2 : Nat) (n1 : ¬ b = B1) (n2 : ¬ B0 = B1) (n3 : ¬ B2 = B1) (i : Nat) (hi : i < 5) (a : Nat → Addr) (w : World) (he : Errs w a) (h5 : 7 ≤ b) (hab : ∀ i, i < 5 → (a i).block ≠ b) (h5' : 7 ≤ B1) (hab' : ∀ i, i < 5 → (a i).block ≠ B1) (z : Int) (k x f : Int)
    (d0 : w.cell? ⟨B0, 0, none⟩ = some (.pointer (some ⟨b, 0, none⟩))) (d1 : w.cell? ⟨B1, 0, none⟩ = some (.int .i64 z)) (d2 : w.cell? ⟨B2, 0, none⟩ = some (.int .i64 k)) (g1 : w.frozen? ⟨B1, 0, none⟩ = false)
    (c1 : w.cell? ⟨b, 1, none⟩ = some (.int .i64 x)) (f1 : w.frozen? ⟨b, 1, none⟩ = false) (c2 : w.cell? ⟨b, 2, none⟩ = some (.int .i64 f)) (f2 : w.frozen? ⟨b, 2, none⟩ = false) :
    CallsD Tryz.prog 140 #[.pointer (some ⟨B1, 0, none⟩), .pointer (some ⟨B0, 0, none⟩), .pointer (some ⟨B2, 0, none⟩)] (.panicking [{ v := errV (a i), recovered := false }]) w fun e u' w' =>
      e = .returned (.tuple #[]) ∧ u' = .panicking [{ v := errV (a i), recovered := true }] ∧ w' = ((w.setCell ⟨B1, 0, none⟩ (.int .i64 0)).setCell ⟨b, 1, none⟩ (.int .i64 k)).setCell ⟨b, 2, none⟩ (.int .i64 (11 + (i : Int))) := by
  have he' : Errs (w.setCell ⟨B1, 0, none⟩ (.int .i64 0)) a := he.only ((Only.refl B1 0 w).setCell _) h5' hab'
  have nn : ¬ B1 = b := fun e => n1 e.symm
  have q1 : (w.setCell ⟨B1, 0, none⟩ (.int .i64 0)).cell? ⟨b, 1, none⟩ = some (.int .i64 x) := (World.cell?_setCell_other _ _ _ _ (by simp)).trans c1
  have q2 : (w.setCell ⟨B1, 0, none⟩ (.int .i64 0)).cell? ⟨b, 2, none⟩ = some (.int .i64 f) := (World.cell?_setCell_other _ _ _ _ (by simp)).trans c2
  have p1 : (w.setCell ⟨B1, 0, none⟩ (.int .i64 0)).frozen? ⟨b, 1, none⟩ = false := (World.frozen?_setCell _ _ _ _).trans f1
  have p2 : (w.setCell ⟨B1, 0, none⟩ (.int .i64 0)).frozen? ⟨b, 2, none⟩ = false := (World.frozen?_setCell _ _ _ _).trans f2
  refine callsD_of_wpS Tryz.func140 rfl fun c₀ cs hu => ?_
  apply wpS_seq
  apply wpS_region
  simp [wpOpsS, go_sem, recoverD, hu, Tryz.ntmps140, Exit.thenS]
  refine wpS_of_wp ?_
  go_wp2_with fail
  refine (giveUp_any b k x f i hi a _ he' h5 hab q1 p1 q2 p2).mono ?_
  rintro e w1 ⟨rfl, rfl⟩
  go_wp2
  simp [bodyPostS, results, Tryz.results140]

set_option maxHeartbeats 1000000 in
set_option maxRecDepth 100000 in
theorem idle (B0 B1 B2 : Nat) (w : World) :
    CallsD Tryz.prog 140 #[.pointer (some ⟨B1, 0, none⟩), .pointer (some ⟨B0, 0, none⟩), .pointer (some ⟨B2, 0, none⟩)] .returning w fun e u' w' => e = .returned (.tuple #[]) ∧ u' = .returning ∧ w' = w := by
  refine callsD_of_wpS Tryz.func140 rfl fun c₀ cs hu => ?_
  apply wpS_seq
  apply wpS_region
  simp [wpOpsS, go_sem, recoverD, hu, Tryz.ntmps140, Exit.thenS]
  refine wpS_of_wp ?_
  go_wp2
  cases c₀
  simp_all [bodyPostS, results, Tryz.results140]

set_option maxHeartbeats 2000000 in
set_option maxRecDepth 100000 in
theorem any (b n cap k : Nat) (f : Int) (sa : Option Addr) (l : List Int) (a : Nat → Addr) (w : World) (h : Rdr w b sa n cap k f l a) :
    Calls Tryz.prog 128 #[.pointer (some ⟨b, 0, none⟩)] w fun e w' => e = .returned (Meth (.int .i64 0) (rI l k) k f).1 ∧ Touch b w w' ∧ Rdr w' b sa n cap (Meth (.int .i64 0) (rI l k) k f).2.1 (Meth (.int .i64 0) (rI l k) k f).2.2 l a := by
  have hmf : ∀ (fn : Fn) (first cap : Array Value) (w : World), (Instr.makeFunc fn first cap).run Tryz.prog w = .ok (.func fn first cap) w := fun _ _ _ _ => rfl
  have hlt := h.lt
  have c2 := h.fault
  have c1 : w.cell? ⟨b, 1, none⟩ = some (.int .i64 (k : Int)) := h.ready.cur.2.1
  by_cases hf : f = 0
  · subst hf
    obtain ⟨hbel, d0, d1, d2, g1⟩ := new3 w (.pointer (some ⟨b, 0, none⟩)) (.int .i64 0) (.int .i64 (k : Int)) 147 2 3
    have hR := h.below hbel (Nat.le_refl _)
    have HC := hide (signedV_any b 0 n cap sa l k a _ hR.ready)
    go_enter_defers Tryz.func128, Tryz.ntmps128
    go_wp2_with fail
    refine (unhide HC).mono ?_
    rintro e w1 ⟨ho, k', hc1, hk', hout⟩
    have hle := h.ready.le
    have HT : Hid (Touch b w w1) := (Touch.ofBelow hbel).trans (Touch.ofOnly ho)
    have d0' := (World.cell?_of_block (a := ⟨w.heap.size, 0, none⟩) (ho.block w.heap.size (by omega))).trans d0
    have d1' := (World.cell?_of_block (a := ⟨w.heap.size + 1, 0, none⟩) (ho.block (w.heap.size + 1) (by omega))).trans d1
    have d2' := (World.cell?_of_block (a := ⟨w.heap.size + 1 + 1, 0, none⟩) (ho.block (w.heap.size + 1 + 1) (by omega))).trans d2
    have g1' := (World.frozen?_of_block (a := ⟨w.heap.size + 1, 0, none⟩) (ho.block (w.heap.size + 1) (by omega))).trans g1
    have c0' : w1.cell? ⟨b, 0, none⟩ = some (.slice sa n cap) := hc1.1
    have c1' : w1.cell? ⟨b, 1, none⟩ = some (.int .i64 (k' : Int)) := hc1.2.1
    have f1' : w1.frozen? ⟨b, 1, none⟩ = false := hc1.2.2
    have c2' := (ho.cell 2 (by decide)).trans hR.fault
    have f2' := (ho.frz 2).trans hR.thaw
    have HE := hide (hR.ready.errs.only ho hR.ready.five hR.ready.apart)
    have H5 := hide h.ready.five
    have HAB := hide h.ready.apart
    have HLT : Hid (∀ i, i < 5 → (a i).block < w.heap.size) := fun i hi => h.ready.errs.lt i hi
    have HR := hide h
    clear d0 d1 d2 g1 ho hc1 HC hR hbel c1 c2 h
    generalize hB1 : w.heap.size + 1 = B1 at *
    generalize hB2 : B1 + 1 = B2 at *
    generalize hB0 : w.heap.size = B0 at *
    have n1 : ¬ b = B1 := by omega
    have n2 : ¬ B0 = B1 := by omega
    have n3 : ¬ B2 = B1 := by omega
    have n4 : ¬ B1 = b := by omega
    have HZ : Hid (w.heap.size = B0 ∧ B0 < B1) := ⟨hB0, by omega⟩
    clear hB1 hB2 hB0
    cases hd : rI l k with
    | error i =>
      have HQ := hide (meth_err (Z := .int .i64 0) (k := k) hd)
      rw [hd] at hout
      obtain rfl : e = _ := hout
      have hi : i < 5 := r_err hd
      clear hd
      go_wp2
      refine leaves_cons (f := 140) (args := #[.pointer (some ⟨B1, 0, none⟩), .pointer (some ⟨B0, 0, none⟩), .pointer (some ⟨B2, 0, none⟩)]) (by simp) (by simp [go_sem]) ?_
      refine (catching b B0 B1 B2 n1 n2 n3 i hi a w1 HE.out H5.out HAB.out (by have := HZ.out; have := H5.out; omega) (fun j hj => by have := HLT.out j hj; have := HZ.out; omega) 0 (k : Int) (k' : Int) 0 d0' d1' d2' g1' c1' f1' c2' f2').mono ?_
      rintro e u' w'' ⟨rfl, rfl, rfl⟩
      have x1 : (((w1.setCell ⟨B1, 0, none⟩ (.int .i64 0)).setCell ⟨b, 1, none⟩ (.int .i64 (k : Int))).setCell ⟨b, 2, none⟩ (.int .i64 (11 + (i : Int)))).cell? ⟨B1, 0, none⟩ = some (.int .i64 0) := by
        rw [World.cell?_setCell_other _ _ _ _ (by simp), World.cell?_setCell_other _ _ _ _ (by simp)]; exact World.cell?_setCell_same w1 ⟨B1, 0, none⟩ _ d1'
      have y0 : (w1.setCell ⟨B1, 0, none⟩ (.int .i64 0)).cell? ⟨b, 1, none⟩ = some (.int .i64 (k' : Int)) := (World.cell?_setCell_other _ _ _ _ (by simp)).trans c1'
      have y1 : ((w1.setCell ⟨B1, 0, none⟩ (.int .i64 0)).setCell ⟨b, 1, none⟩ (.int .i64 (k : Int))).cell? ⟨b, 2, none⟩ = some (.int .i64 0) := (World.cell?_setCell_other _ _ _ _ (by simp)).trans ((World.cell?_setCell_other _ _ _ _ (by simp)).trans c2')
      have hT : Touch b w (((w1.setCell ⟨B1, 0, none⟩ (.int .i64 0)).setCell ⟨b, 1, none⟩ (.int .i64 (k : Int))).setCell ⟨b, 2, none⟩ (.int .i64 (11 + (i : Int)))) := ((HT.out.setNew _ (by have := HZ.out; omega)).setB _).setB _
      have hRR : Rdr (((w1.setCell ⟨B1, 0, none⟩ (.int .i64 0)).setCell ⟨b, 1, none⟩ (.int .i64 (k : Int))).setCell ⟨b, 2, none⟩ (.int .i64 (11 + (i : Int)))) b sa n cap k (11 + (i : Int)) l a := by
        refine HR.out.moved hT ?_ ?_ ?_ ?_ ?_ hle
        · rw [World.cell?_setCell_other _ _ _ _ (by simp), World.cell?_setCell_other _ _ _ _ (by simp), World.cell?_setCell_other _ _ _ _ (by simp)]; exact c0'
        · rw [World.cell?_setCell_other _ _ _ _ (by simp)]; exact World.cell?_setCell_same _ ⟨b, 1, none⟩ _ y0
        · rw [World.frozen?_setCell, World.frozen?_setCell, World.frozen?_setCell]; exact f1'
        · exact World.cell?_setCell_same _ ⟨b, 2, none⟩ _ y1
        · rw [World.frozen?_setCell, World.frozen?_setCell, World.frozen?_setCell]; exact f2'
      simp [Leaves, settle, results, Tryz.results128, go_sem, x1]
      rw [HQ.out]
      exact ⟨rfl, hT, hRR⟩
    | ok p =>
      obtain ⟨v, m⟩ := p
      have HQ := hide (meth_ok (Z := .int .i64 0) (k := k) hd)
      obtain ⟨z, rfl⟩ := r_val hd
      rw [hd] at hout
      obtain ⟨rfl, hkk⟩ := hout
      subst hkk
      clear hd
      go_wp2
      refine leaves_cons (f := 140) (args := #[.pointer (some ⟨B1, 0, none⟩), .pointer (some ⟨B0, 0, none⟩), .pointer (some ⟨B2, 0, none⟩)]) (by simp) (by simp [go_sem]) ?_
      refine (idle B0 B1 B2 _).mono ?_
      rintro e u' w'' ⟨rfl, rfl, rfl⟩
      have x1 : (w1.setCell ⟨B1, 0, none⟩ (.int .i64 z)).cell? ⟨B1, 0, none⟩ = some (.int .i64 z) := World.cell?_setCell_same w1 ⟨B1, 0, none⟩ _ d1'
      have hT : Touch b w (w1.setCell ⟨B1, 0, none⟩ (.int .i64 z)) := HT.out.setNew _ (by have := HZ.out; omega)
      have hRR : Rdr (w1.setCell ⟨B1, 0, none⟩ (.int .i64 z)) b sa n cap (k + m) 0 l a := by
        refine HR.out.moved hT ?_ ?_ ?_ ?_ ?_ hk'
        · rw [World.cell?_setCell_other _ _ _ _ (by simp)]; exact c0'
        · rw [World.cell?_setCell_other _ _ _ _ (by simp)]; exact c1'
        · rw [World.frozen?_setCell]; exact f1'
        · rw [World.cell?_setCell_other _ _ _ _ (by simp)]; exact c2'
        · rw [World.frozen?_setCell]; exact f2'
      simp only [Leaves, settle]
      simp [results, Tryz.results128, go_sem, x1]
      rw [HQ.out]
      exact ⟨rfl, hT, hRR⟩
  · have HQ := hide (meth_broken (Z := .int .i64 0) (r := rI l k) (k := k) hf)
    have hb : (f != 0) = true := by rw [bne_iff_ne]; exact hf
    have HB : Hid (Below w.heap.size w ((w.alloc (.cells #[.pointer (some ⟨b, 0, none⟩)] 147)).alloc (.cells #[.int .i64 0] 2))) := ((Below.refl _ _).alloc (Nat.le_refl _) _).alloc (by simp) _
    clear hf
    go_enter_defers Tryz.func128, Tryz.ntmps128
    go_wp2
    simp only [bodyPostD, Leaves]
    simp [results, Tryz.results128, go_sem]
    rw [HQ.out]
    exact ⟨rfl, Touch.ofBelow HB.out, h.below HB.out (Nat.le_refl _)⟩
end mInt
end Go.Proofs.YtdokagebfeejbaaGreatDoor
/- The contract of the reader's method Byte. -/
namespace Go.Proofs.YtdokagebfeejbaaGreatDoor
open Go.RowKit Go.Wire1
namespace mByte

theorem r_err {most : Int} {l : List Int} {k i : Nat} (h : rB most l k = .error i) : i < 5 := by
  unfold rB at h
  split at h
  · simp at h; omega
  · split at h <;> simp at h; omega
theorem r_val {most : Int} {l : List Int} {k m : Nat} {v : Value} (h : rB most l k = .ok (v, m)) : ∃ z : Int, v = .int .i64 z := by
  unfold rB at h
  split at h
  · simp at h
  · split at h <;> simp at h; exact ⟨_, h.1.symm⟩

set_option maxHeartbeats 1000000 in
set_option maxRecDepth 100000 in
theorem catching (b B0 B1 B2 : Nat) (n1 : ¬ b = B1) (n2 : ¬ B0 = B1) (n3 : ¬ B2 = B1) (i : Nat) (hi : i < 5) (a : Nat → Addr) (w : World) (he : Errs w a) (h5 : 7 ≤ b) (hab : ∀ i, i < 5 → (a i).block ≠ b) (h5' : 7 ≤ B1) (hab' : ∀ i, i < 5 → (a i).block ≠ B1) (z : Int) (k x f : Int)
    (d0 : w.cell? ⟨B0, 0, none⟩ = some (.pointer (some ⟨b, 0, none⟩))) (d1 : w.cell? ⟨B1, 0, none⟩ = some (.int .i64 z)) (d2 : w.cell? ⟨B2, 0, none⟩ = some (.int .i64 k)) (g1 : w.frozen? ⟨B1, 0, none⟩ = false)
    (c1 : w.cell? ⟨b, 1, none⟩ = some (.int .i64 x)) (f1 : w.frozen? ⟨b, 1, none⟩ = false) (c2 : w.cell? ⟨b, 2, none⟩ = some (.int .i64 f)) (f2 : w.frozen? ⟨b, 2, none⟩ = false) :
    CallsD Tryz.prog 133 #[.pointer (some ⟨B1, 0, none⟩), .pointer (some ⟨B0, 0, none⟩), .pointer (some ⟨B2, 0, none⟩)] (.panicking [{ v := errV (a i), recovered := false }]) w fun e u' w' =>
      e = .returned (.tuple #[]) ∧ u' = .panicking [{ v := errV (a i), recovered := true }] ∧ w' = ((w.setCell ⟨B1, 0, none⟩ (.int .i64 0)).setCell ⟨b, 1, none⟩ (.int .i64 k)).setCell ⟨b, 2, none⟩ (.int .i64 (11 + (i : Int))) := by
  have he' : Errs (w.setCell ⟨B1, 0, none⟩ (.int .i64 0)) a := he.only ((Only.refl B1 0 w).setCell _) h5' hab'
  have nn : ¬ B1 = b := fun e => n1 e.symm
  have q1 : (w.setCell ⟨B1, 0, none⟩ (.int .i64 0)).cell? ⟨b, 1, none⟩ = some (.int .i64 x) := (World.cell?_setCell_other _ _ _ _ (by simp)).trans c1
  have q2 : (w.setCell ⟨B1, 0, none⟩ (.int .i64 0)).cell? ⟨b, 2, none⟩ = some (.int .i64 f) := (World.cell?_setCell_other _ _ _ _ (by simp)).trans c2
  have p1 : (w.setCell ⟨B1, 0, none⟩ (.int .i64 0)).frozen? ⟨b, 1, none⟩ = false := (World.frozen?_setCell _ _ _ _).trans f1
  have p2 : (w.setCell ⟨B1, 0, none⟩ (.int .i64 0)).frozen? ⟨b, 2, none⟩ = false := (World.frozen?_setCell _ _ _ _).trans f2
  refine callsD_of_wpS Tryz.func133 rfl fun c₀ cs hu => ?_
  apply wpS_seq
  apply wpS_region
  simp [wpOpsS, go_sem, recoverD, hu, Tryz.ntmps133, Exit.thenS]
  refine wpS_of_wp ?_
  go_wp2_with fail
  refine (giveUp_any b k x f i hi a _ he' h5 hab q1 p1 q2 p2).mono ?_
  rintro e w1 ⟨rfl, rfl⟩
  go_wp2
  simp [bodyPostS, results, Tryz.results133]

set_option maxHeartbeats 1000000 in
set_option maxRecDepth 100000 in
theorem idle (B0 B1 B2 : Nat) (w : World) :
    CallsD Tryz.prog 133 #[.pointer (some ⟨B1, 0, none⟩), .pointer (some ⟨B0, 0, none⟩), .pointer (some ⟨B2, 0, none⟩)] .returning w fun e u' w' => e = .returned (.tuple #[]) ∧ u' = .returning ∧ w' = w := by
  refine callsD_of_wpS Tryz.func133 rfl fun c₀ cs hu => ?_
  apply wpS_seq
  apply wpS_region
  simp [wpOpsS, go_sem, recoverD, hu, Tryz.ntmps133, Exit.thenS]
  refine wpS_of_wp ?_
  go_wp2
  cases c₀
  simp_all [bodyPostS, results, Tryz.results133]

set_option maxHeartbeats 2000000 in
set_option maxRecDepth 100000 in
theorem any (most : Int) (b n cap k : Nat) (f : Int) (sa : Option Addr) (l : List Int) (a : Nat → Addr) (w : World) (h : Rdr w b sa n cap k f l a) :
    Calls Tryz.prog 120 #[.pointer (some ⟨b, 0, none⟩), .int .i64 most] w fun e w' => e = .returned (Meth (.int .i64 0) (rB most l k) k f).1 ∧ Touch b w w' ∧ Rdr w' b sa n cap (Meth (.int .i64 0) (rB most l k) k f).2.1 (Meth (.int .i64 0) (rB most l k) k f).2.2 l a := by
  have hmf : ∀ (fn : Fn) (first cap : Array Value) (w : World), (Instr.makeFunc fn first cap).run Tryz.prog w = .ok (.func fn first cap) w := fun _ _ _ _ => rfl
  have hlt := h.lt
  have c2 := h.fault
  have c1 : w.cell? ⟨b, 1, none⟩ = some (.int .i64 (k : Int)) := h.ready.cur.2.1
  by_cases hf : f = 0
  · subst hf
    obtain ⟨hbel, d0, d1, d2, g1⟩ := new3 w (.pointer (some ⟨b, 0, none⟩)) (.int .i64 0) (.int .i64 (k : Int)) 147 3 3
    have hR := h.below hbel (Nat.le_refl _)
    have HC := hide (byteTo_any most b 0 n cap sa l k a _ hR.ready)
    go_enter_defers Tryz.func120, Tryz.ntmps120
    go_wp2_with fail
    refine (unhide HC).mono ?_
    rintro e w1 ⟨ho, k', hc1, hk', hout⟩
    have hle := h.ready.le
    have HT : Hid (Touch b w w1) := (Touch.ofBelow hbel).trans (Touch.ofOnly ho)
    have d0' := (World.cell?_of_block (a := ⟨w.heap.size, 0, none⟩) (ho.block w.heap.size (by omega))).trans d0
    have d1' := (World.cell?_of_block (a := ⟨w.heap.size + 1, 0, none⟩) (ho.block (w.heap.size + 1) (by omega))).trans d1
    have d2' := (World.cell?_of_block (a := ⟨w.heap.size + 1 + 1, 0, none⟩) (ho.block (w.heap.size + 1 + 1) (by omega))).trans d2
    have g1' := (World.frozen?_of_block (a := ⟨w.heap.size + 1, 0, none⟩) (ho.block (w.heap.size + 1) (by omega))).trans g1
    have c0' : w1.cell? ⟨b, 0, none⟩ = some (.slice sa n cap) := hc1.1
    have c1' : w1.cell? ⟨b, 1, none⟩ = some (.int .i64 (k' : Int)) := hc1.2.1
    have f1' : w1.frozen? ⟨b, 1, none⟩ = false := hc1.2.2
    have c2' := (ho.cell 2 (by decide)).trans hR.fault
    have f2' := (ho.frz 2).trans hR.thaw
    have HE := hide (hR.ready.errs.only ho hR.ready.five hR.ready.apart)
    have H5 := hide h.ready.five
    have HAB := hide h.ready.apart
    have HLT : Hid (∀ i, i < 5 → (a i).block < w.heap.size) := fun i hi => h.ready.errs.lt i hi
    have HR := hide h
    clear d0 d1 d2 g1 ho hc1 HC hR hbel c1 c2 h
    generalize hB1 : w.heap.size + 1 = B1 at *
    generalize hB2 : B1 + 1 = B2 at *
    generalize hB0 : w.heap.size = B0 at *
    have n1 : ¬ b = B1 := by omega
    have n2 : ¬ B0 = B1 := by omega
    have n3 : ¬ B2 = B1 := by omega
    have n4 : ¬ B1 = b := by omega
    have HZ : Hid (w.heap.size = B0 ∧ B0 < B1) := ⟨hB0, by omega⟩
    clear hB1 hB2 hB0
    cases hd : rB most l k with
    | error i =>
      have HQ := hide (meth_err (Z := .int .i64 0) (k := k) hd)
      rw [hd] at hout
      obtain rfl : e = _ := hout
      have hi : i < 5 := r_err hd
      clear hd
      go_wp2
      refine leaves_cons (f := 133) (args := #[.pointer (some ⟨B1, 0, none⟩), .pointer (some ⟨B0, 0, none⟩), .pointer (some ⟨B2, 0, none⟩)]) (by simp) (by simp [go_sem]) ?_
      refine (catching b B0 B1 B2 n1 n2 n3 i hi a w1 HE.out H5.out HAB.out (by have := HZ.out; have := H5.out; omega) (fun j hj => by have := HLT.out j hj; have := HZ.out; omega) 0 (k : Int) (k' : Int) 0 d0' d1' d2' g1' c1' f1' c2' f2').mono ?_
      rintro e u' w'' ⟨rfl, rfl, rfl⟩
      have x1 : (((w1.setCell ⟨B1, 0, none⟩ (.int .i64 0)).setCell ⟨b, 1, none⟩ (.int .i64 (k : Int))).setCell ⟨b, 2, none⟩ (.int .i64 (11 + (i : Int)))).cell? ⟨B1, 0, none⟩ = some (.int .i64 0) := by
        rw [World.cell?_setCell_other _ _ _ _ (by simp), World.cell?_setCell_other _ _ _ _ (by simp)]; exact World.cell?_setCell_same w1 ⟨B1, 0, none⟩ _ d1'
      have y0 : (w1.setCell ⟨B1, 0, none⟩ (.int .i64 0)).cell? ⟨b, 1, none⟩ = some (.int .i64 (k' : Int)) := (World.cell?_setCell_other _ _ _ _ (by simp)).trans c1'
      have y1 : ((w1.setCell ⟨B1, 0, none⟩ (.int .i64 0)).setCell ⟨b, 1, none⟩ (.int .i64 (k : Int))).cell? ⟨b, 2, none⟩ = some (.int .i64 0) := (World.cell?_setCell_other _ _ _ _ (by simp)).trans ((World.cell?_setCell_other _ _ _ _ (by simp)).trans c2')
      have hT : Touch b w (((w1.setCell ⟨B1, 0, none⟩ (.int .i64 0)).setCell ⟨b, 1, none⟩ (.int .i64 (k : Int))).setCell ⟨b, 2, none⟩ (.int .i64 (11 + (i : Int)))) := ((HT.out.setNew _ (by have := HZ.out; omega)).setB _).setB _
      have hRR : Rdr (((w1.setCell ⟨B1, 0, none⟩ (.int .i64 0)).setCell ⟨b, 1, none⟩ (.int .i64 (k : Int))).setCell ⟨b, 2, none⟩ (.int .i64 (11 + (i : Int)))) b sa n cap k (11 + (i : Int)) l a := by
        refine HR.out.moved hT ?_ ?_ ?_ ?_ ?_ hle
        · rw [World.cell?_setCell_other _ _ _ _ (by simp), World.cell?_setCell_other _ _ _ _ (by simp), World.cell?_setCell_other _ _ _ _ (by simp)]; exact c0'
        · rw [World.cell?_setCell_other _ _ _ _ (by simp)]; exact World.cell?_setCell_same _ ⟨b, 1, none⟩ _ y0
        · rw [World.frozen?_setCell, World.frozen?_setCell, World.frozen?_setCell]; exact f1'
        · exact World.cell?_setCell_same _ ⟨b, 2, none⟩ _ y1
        · rw [World.frozen?_setCell, World.frozen?_setCell, World.frozen?_setCell]; exact f2'
      simp [Leaves, settle, results, Tryz.results120, go_sem, x1]
      rw [HQ.out]
      exact ⟨rfl, hT, hRR⟩
    | ok p =>
      obtain ⟨v, m⟩ := p
      have HQ := hide (meth_ok (Z := .int .i64 0) (k := k) hd)
      obtain ⟨z, rfl⟩ := r_val hd
      rw [hd] at hout
      obtain ⟨rfl, hkk⟩ := hout
      subst hkk
      clear hd
      go_wp2
      refine leaves_cons (f := 133) (args := #[.pointer (some ⟨B1, 0, none⟩), .pointer (some ⟨B0, 0, none⟩), .pointer (some ⟨B2, 0, none⟩)]) (by simp) (by simp [go_sem]) ?_
      refine (idle B0 B1 B2 _).mono ?_
      rintro e u' w'' ⟨rfl, rfl, rfl⟩
      have x1 : (w1.setCell ⟨B1, 0, none⟩ (.int .i64 z)).cell? ⟨B1, 0, none⟩ = some (.int .i64 z) := World.cell?_setCell_same w1 ⟨B1, 0, none⟩ _ d1'
      have hT : Touch b w (w1.setCell ⟨B1, 0, none⟩ (.int .i64 z)) := HT.out.setNew _ (by have := HZ.out; omega)
      have hRR : Rdr (w1.setCell ⟨B1, 0, none⟩ (.int .i64 z)) b sa n cap (k + m) 0 l a := by
        refine HR.out.moved hT ?_ ?_ ?_ ?_ ?_ hk'
        · rw [World.cell?_setCell_other _ _ _ _ (by simp)]; exact c0'
        · rw [World.cell?_setCell_other _ _ _ _ (by simp)]; exact c1'
        · rw [World.frozen?_setCell]; exact f1'
        · rw [World.cell?_setCell_other _ _ _ _ (by simp)]; exact c2'
        · rw [World.frozen?_setCell]; exact f2'
      simp only [Leaves, settle]
      simp [results, Tryz.results120, go_sem, x1]
      rw [HQ.out]
      exact ⟨rfl, hT, hRR⟩
  · have HQ := hide (meth_broken (Z := .int .i64 0) (r := rB most l k) (k := k) hf)
    have hb : (f != 0) = true := by rw [bne_iff_ne]; exact hf
    have HB : Hid (Below w.heap.size w ((w.alloc (.cells #[.pointer (some ⟨b, 0, none⟩)] 147)).alloc (.cells #[.int .i64 0] 3))) := ((Below.refl _ _).alloc (Nat.le_refl _) _).alloc (by simp) _
    clear hf
    go_enter_defers Tryz.func120, Tryz.ntmps120
    go_wp2
    simp only [bodyPostD, Leaves]
    simp [results, Tryz.results120, go_sem]
    rw [HQ.out]
    exact ⟨rfl, Touch.ofBelow HB.out, h.below HB.out (Nat.le_refl _)⟩
end mByte
end Go.Proofs.YtdokagebfeejbaaGreatDoor
