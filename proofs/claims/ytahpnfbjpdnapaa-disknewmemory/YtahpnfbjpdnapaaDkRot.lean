/- The contract of the disk's method Rot. -/
import Derived.Test.YtahpnfbjpdnapaaDkMeth
import Derived.Laws.BitsAllLaws
namespace Go.Proofs.Ytahpnfbjpdnapaa
open Go.RowKit Go.Wire1 Go.MuLone

/-- A byte with the bits of x turned. -/
def rotZ (c x : Int) : Int := bits .xor .u8 c x
theorem rotZ_eq {c : Int} (hc : 0 ≤ c ∧ c < 256) {x : Nat} (hx : x < 256) : rotZ c (x : Int) = ((c.toNat ^^^ x : Nat) : Int) := by
  unfold rotZ; rw [u8_xor c x hc.1 hc.2 (by omega) (by omega)]; rfl
theorem rotZ_byte {c : Int} (hc : 0 ≤ c ∧ c < 256) {x : Nat} (hx : x < 256) : 0 ≤ rotZ c (x : Int) ∧ rotZ c (x : Int) < 256 := by
  rw [rotZ_eq hc hx]
  have := Nat.xor_lt_two_pow (n := 8) (x := c.toNat) (y := x) (by omega) (by omega)
  omega
theorem rotZ_twice {c : Int} (hc : 0 ≤ c ∧ c < 256) {x : Nat} (hx : x < 256) : rotZ (rotZ c (x : Int)) (x : Int) = c := by
  rw [rotZ_eq (rotZ_byte hc hx) hx, rotZ_eq hc hx, Int.toNat_natCast, Nat.xor_assoc, Nat.xor_self, Nat.xor_zero]; omega

section
variable (w : World) (b : Nat) (pv : Value) (l : List Int) (m E0 : Nat)

set_option maxHeartbeats 1000000 in
set_option maxRecDepth 100000 in
theorem rot_low (z x : Int) (h : Dsk 0 w b pv l m E0) (hz : z < 0) :
    Calls Try.prog 23 #[.pointer (some ⟨b, 0, none⟩), .int .i64 z, .int .i64 x] w fun r w' => r = .returned (.int .i64 93) ∧ Below w.heap.size w w' := by
  obtain ⟨sa, cap, rfl⟩ := own_shape h.own
  have c0 := h.box.cell 0 _ rfl
  have c2 := h.box.cell 2 _ rfl
  have c3 := h.box.cell 3 _ rfl
  have f0 := h.box.thaw 0
  have f2 := h.box.thaw 2
  have R := hide h.still
  have L1 : Hid ((w.setCell ⟨b, 0, none⟩ (.int .i32 1)).cell? ⟨b, 0, none⟩ = some (.int .i32 1)) := (h.lock 1).dsk.box.cell 0 _ rfl
  clear h
  go_enter_defers Try.func23, Try.ntmps23
  go_wp2_with (go_at_call 24; refine (lock_free Try.muLib ⟨b, 0, none⟩ _ c0 f0).mono ?_; rintro e w' ⟨rfl, rfl⟩)
  refine leaves_cons (f := 25) (args := #[.pointer (some ⟨b, 0, none⟩)]) (by simp) (by simp [go_sem]) ?_
  refine (unlock_deferred Try.muLib ⟨b, 0, none⟩ .returning _ (by exact L1.out) (by simp [f0])).mono ?_
  rintro e u' w'' ⟨rfl, rfl, rfl⟩
  exact ⟨_, results_tmp rfl _ _ _, rfl, R.out⟩

set_option maxHeartbeats 1000000 in
set_option maxRecDepth 100000 in
theorem rot_high (z x : Int) (h : Dsk 0 w b pv l m E0) (hz : ¬ z < 0) (hz2 : (l.length : Int) ≤ z) :
    Calls Try.prog 23 #[.pointer (some ⟨b, 0, none⟩), .int .i64 z, .int .i64 x] w fun r w' => r = .returned (.int .i64 93) ∧ Below w.heap.size w w' := by
  obtain ⟨sa, cap, rfl⟩ := own_shape h.own
  have c0 := h.box.cell 0 _ rfl
  have c2 := h.box.cell 2 _ rfl
  have c3 := h.box.cell 3 _ rfl
  have f0 := h.box.thaw 0
  have f2 := h.box.thaw 2
  have R := hide h.still
  have L1 : Hid ((w.setCell ⟨b, 0, none⟩ (.int .i32 1)).cell? ⟨b, 0, none⟩ = some (.int .i32 1)) := (h.lock 1).dsk.box.cell 0 _ rfl
  clear h
  generalize hn : l.length = n at *
  clear hn
  go_enter_defers Try.func23, Try.ntmps23
  go_wp2_with (go_at_call 24; refine (lock_free Try.muLib ⟨b, 0, none⟩ _ c0 f0).mono ?_; rintro e w' ⟨rfl, rfl⟩)
  refine leaves_cons (f := 25) (args := #[.pointer (some ⟨b, 0, none⟩)]) (by simp) (by simp [go_sem]) ?_
  refine (unlock_deferred Try.muLib ⟨b, 0, none⟩ .returning _ (by exact L1.out) (by simp [f0])).mono ?_
  rintro e u' w'' ⟨rfl, rfl, rfl⟩
  exact ⟨_, results_tmp rfl _ _ _, rfl, R.out⟩

set_option maxHeartbeats 1000000 in
set_option maxRecDepth 100000 in
theorem rot_zero (z x : Int) (h : Dsk 0 w b pv l m E0) (hz : ¬ z < 0) (hz2 : z < (l.length : Int)) (hx : x < 1) :
    Calls Try.prog 23 #[.pointer (some ⟨b, 0, none⟩), .int .i64 z, .int .i64 x] w fun r w' => r = .returned (.int .i64 94) ∧ Below w.heap.size w w' := by
  obtain ⟨sa, cap, rfl⟩ := own_shape h.own
  have c0 := h.box.cell 0 _ rfl
  have c2 := h.box.cell 2 _ rfl
  have c3 := h.box.cell 3 _ rfl
  have f0 := h.box.thaw 0
  have f2 := h.box.thaw 2
  have R := hide h.still
  have L1 : Hid ((w.setCell ⟨b, 0, none⟩ (.int .i32 1)).cell? ⟨b, 0, none⟩ = some (.int .i32 1)) := (h.lock 1).dsk.box.cell 0 _ rfl
  clear h
  generalize hn : l.length = n at *
  clear hn
  have hz3 : ¬ ((n : Int) ≤ z) := by omega
  go_enter_defers Try.func23, Try.ntmps23
  go_wp2_with (go_at_call 24; refine (lock_free Try.muLib ⟨b, 0, none⟩ _ c0 f0).mono ?_; rintro e w' ⟨rfl, rfl⟩)
  refine leaves_cons (f := 25) (args := #[.pointer (some ⟨b, 0, none⟩)]) (by simp) (by simp [go_sem]) ?_
  refine (unlock_deferred Try.muLib ⟨b, 0, none⟩ .returning _ (by exact L1.out) (by simp [f0])).mono ?_
  rintro e u' w'' ⟨rfl, rfl, rfl⟩
  exact ⟨_, results_tmp rfl _ _ _, rfl, R.out⟩

set_option maxHeartbeats 1000000 in
set_option maxRecDepth 100000 in
theorem rot_wide (z x : Int) (h : Dsk 0 w b pv l m E0) (hz : ¬ z < 0) (hz2 : z < (l.length : Int)) (hx : ¬ x < 1) (hx2 : 255 < x) :
    Calls Try.prog 23 #[.pointer (some ⟨b, 0, none⟩), .int .i64 z, .int .i64 x] w fun r w' => r = .returned (.int .i64 94) ∧ Below w.heap.size w w' := by
  obtain ⟨sa, cap, rfl⟩ := own_shape h.own
  have c0 := h.box.cell 0 _ rfl
  have c2 := h.box.cell 2 _ rfl
  have c3 := h.box.cell 3 _ rfl
  have f0 := h.box.thaw 0
  have f2 := h.box.thaw 2
  have R := hide h.still
  have L1 : Hid ((w.setCell ⟨b, 0, none⟩ (.int .i32 1)).cell? ⟨b, 0, none⟩ = some (.int .i32 1)) := (h.lock 1).dsk.box.cell 0 _ rfl
  clear h
  generalize hn : l.length = n at *
  clear hn
  have hz3 : ¬ ((n : Int) ≤ z) := by omega
  go_enter_defers Try.func23, Try.ntmps23
  go_wp2_with (go_at_call 24; refine (lock_free Try.muLib ⟨b, 0, none⟩ _ c0 f0).mono ?_; rintro e w' ⟨rfl, rfl⟩)
  refine leaves_cons (f := 25) (args := #[.pointer (some ⟨b, 0, none⟩)]) (by simp) (by simp [go_sem]) ?_
  refine (unlock_deferred Try.muLib ⟨b, 0, none⟩ .returning _ (by exact L1.out) (by simp [f0])).mono ?_
  rintro e u' w'' ⟨rfl, rfl, rfl⟩
  exact ⟨_, results_tmp rfl _ _ _, rfl, R.out⟩

set_option maxHeartbeats 1000000 in
set_option maxRecDepth 100000 in
theorem rot_yes (k x : Nat) (h : Dsk 0 w b pv l m E0) (hk : k < l.length) (hx : 1 ≤ x) (hx2 : x ≤ 255) :
    Calls Try.prog 23 #[.pointer (some ⟨b, 0, none⟩), .int .i64 (k : Int), .int .i64 (x : Int)] w fun r w' => r = .returned (.int .i64 0) ∧ Dst 0 w w' b pv pv (l.set k (rotZ (l.getD k 0) (x : Int))) m E0 := by
  obtain ⟨g, cap, rfl⟩ : ∃ g cap, pv = .slice (some ⟨g, 0, none⟩) l.length cap := by
    rcases h.own.2 with ⟨_, h0⟩ | ⟨g, cap, _, e, _⟩
    · omega
    · exact ⟨g, cap, e⟩
  have c0 := h.box.cell 0 _ rfl
  have c2 := h.box.cell 2 _ rfl
  have c3 := h.box.cell 3 _ rfl
  have f0 := h.box.thaw 0
  have f2 := h.box.thaw 2
  have cg : w.cell? ⟨g, k, none⟩ = some (.int .u8 (l.getD k 0)) := by
    rw [h.own.cellAt k (by omega)]; simp [List.getElem?_eq_getElem hk]
  have fg : w.frozen? ⟨g, k, none⟩ = false := by
    rcases h.own.2 with ⟨e, _⟩ | ⟨g', cap', cur, e, _, hh, _⟩
    · cases e
    · cases e; exact frozen_of_row w g k cur 5 hh
  have hgb : g ≠ b := fun e => h.far (by rw [e]; rfl)
  have hbg : b ≠ g := fun e => hgb e.symm
  have hb := byt_at h.byt k
  have h1 := h.lock 1
  have h2 := h1.trans (h1.dsk.rot k (rotZ (l.getD k 0) (x : Int)) (rotZ_byte hb (by omega)))
  have R := hide (h2.trans (h2.dsk.lock 0))
  have L1 : Hid (((w.setCell ⟨b, 0, none⟩ (.int .i32 1)).setCell ⟨g, k, none⟩ (.int .u8 (rotZ (l.getD k 0) (x : Int)))).cell? ⟨b, 0, none⟩ = some (.int .i32 1)) := h2.dsk.box.cell 0 _ rfl
  have hw : IntKind.u8.wrap (x : Int) = (x : Int) := by simp only [IntKind.wrap_u8]; omega
  clear h1 h2 h
  generalize l.getD k 0 = c at *
  obtain ⟨zz, hzz⟩ : ∃ zz, zz = rotZ c (x : Int) := ⟨_, rfl⟩
  rw [← hzz] at R L1 ⊢
  have hzz2 : bits .xor .u8 c (x : Int) = zz := by rw [hzz]; rfl
  clear hzz
  generalize l.length = n at *
  have q1 : ¬ ((n : Int) ≤ (k : Int)) := by omega
  have q2 : ¬ ((x : Int) < 1) := by omega
  have q3 : ¬ (255 < (x : Int)) := by omega
  go_enter_defers Try.func23, Try.ntmps23
  go_wp2_with (go_at_call 24; refine (lock_free Try.muLib ⟨b, 0, none⟩ _ c0 f0).mono ?_; rintro e w' ⟨rfl, rfl⟩)
  refine leaves_cons (f := 25) (args := #[.pointer (some ⟨b, 0, none⟩)]) (by simp) (by simp [go_sem]) ?_
  refine (unlock_deferred Try.muLib ⟨b, 0, none⟩ .returning _ (by exact L1.out) (by simp [f0])).mono ?_
  rintro e u' w'' ⟨rfl, rfl, rfl⟩
  exact ⟨_, results_tmp rfl _ _ _, rfl, R.out⟩
end
end Go.Proofs.Ytahpnfbjpdnapaa
