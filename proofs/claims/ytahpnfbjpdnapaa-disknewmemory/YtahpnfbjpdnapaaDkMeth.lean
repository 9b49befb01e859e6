/- The contracts of the disk's methods Sync, Cut, Crash, Rot. -/
import Derived.Test.YtahpnfbjpdnapaaDkMem
import Derived.Test.YtahpnfbjpdnapaaDkLocks
import Derived.Test.YtahpnfbjpdnapaaRows
import Derived.Conc.MuLone
import Derived.WalkKit
import Derived.Deep.RegionHeld3
import Derived.Deep.QuietTactic
import Derived.BigQuiet
namespace Go.Proofs.Ytahpnfbjpdnapaa
open Go.RowKit Go.Wire1 Go.MuLone

section
variable (w : World) (b : Nat) (pv : Value) (l : List Int) (m E0 : Nat)

set_option maxHeartbeats 1000000 in
set_option maxRecDepth 100000 in
theorem sync_any (h : Dsk 0 w b pv l m E0) :
    Calls Try.prog 20 #[.pointer (some ⟨b, 0, none⟩)] w fun r w' => r = .returned (.tuple #[]) ∧ Dst 0 w w' b pv pv l l.length E0 := by
  obtain ⟨sa, cap, rfl⟩ := own_shape h.own
  have c0 := h.box.cell 0 _ rfl
  have c2 := h.box.cell 2 _ rfl
  have c3 := h.box.cell 3 _ rfl
  have f0 := h.box.thaw 0
  have f3 := h.box.thaw 3
  have h1 := h.lock 1
  have h2 := h1.trans (h1.dsk.mark (Nat.le_refl _))
  have R := hide (h2.trans (h2.dsk.lock 0))
  have L1 : Hid (((w.setCell ⟨b, 0, none⟩ (.int .i32 1)).setCell ⟨b, 3, none⟩ (.int .i64 (l.length : Int))).cell? ⟨b, 0, none⟩ = some (.int .i32 1)) := h2.dsk.box.cell 0 _ rfl
  clear h1 h2 h
  generalize hn : l.length = n at *
  clear hn
  go_enter_defers Try.func20, Try.ntmps20
  go_wp2_with (go_at_call 24; refine (lock_free Try.muLib ⟨b, 0, none⟩ _ c0 f0).mono ?_; rintro e w' ⟨rfl, rfl⟩)
  refine leaves_cons (f := 25) (args := #[.pointer (some ⟨b, 0, none⟩)]) (by simp) (by simp [go_sem]) ?_
  refine (unlock_deferred Try.muLib ⟨b, 0, none⟩ .returning _ L1.out (by simp [f0])).mono ?_
  rintro e u' w'' ⟨rfl, rfl, rfl⟩
  exact ⟨_, results_none rfl _ _ _, rfl, R.out⟩

set_option maxHeartbeats 1000000 in
set_option maxRecDepth 100000 in
theorem cut_no (z : Int) (h : Dsk 0 w b pv l m E0) (hz : z < m ∨ (l.length : Int) < z) :
    Calls Try.prog 22 #[.pointer (some ⟨b, 0, none⟩), .int .i64 z] w fun r w' => r = .returned (.int .i64 93) ∧ Below w.heap.size w w' := by
  obtain ⟨sa, cap, rfl⟩ := own_shape h.own
  have c0 := h.box.cell 0 _ rfl
  have c2 := h.box.cell 2 _ rfl
  have c3 := h.box.cell 3 _ rfl
  have f0 := h.box.thaw 0
  have h1 := h.lock 1
  have R := hide h.still
  have L1 : Hid ((w.setCell ⟨b, 0, none⟩ (.int .i32 1)).cell? ⟨b, 0, none⟩ = some (.int .i32 1)) := h1.dsk.box.cell 0 _ rfl
  clear h1 h
  generalize hn : l.length = n at *
  clear hn
  by_cases hz1 : z < (m : Int)
  · clear hz
    go_enter_defers Try.func22, Try.ntmps22
    go_wp2_with (go_at_call 24; refine (lock_free Try.muLib ⟨b, 0, none⟩ _ c0 f0).mono ?_; rintro e w' ⟨rfl, rfl⟩)
    refine leaves_cons (f := 25) (args := #[.pointer (some ⟨b, 0, none⟩)]) (by simp) (by simp [go_sem]) ?_
    refine (unlock_deferred Try.muLib ⟨b, 0, none⟩ .returning _ L1.out (by simp [f0])).mono ?_
    rintro e u' w'' ⟨rfl, rfl, rfl⟩
    exact ⟨_, results_tmp rfl _ _ _, rfl, R.out⟩
  · have hz2 : (n : Int) < z := by omega
    clear hz
    go_enter_defers Try.func22, Try.ntmps22
    go_wp2_with (go_at_call 24; refine (lock_free Try.muLib ⟨b, 0, none⟩ _ c0 f0).mono ?_; rintro e w' ⟨rfl, rfl⟩)
    refine leaves_cons (f := 25) (args := #[.pointer (some ⟨b, 0, none⟩)]) (by simp) (by simp [go_sem]) ?_
    refine (unlock_deferred Try.muLib ⟨b, 0, none⟩ .returning _ L1.out (by simp [f0])).mono ?_
    rintro e u' w'' ⟨rfl, rfl, rfl⟩
    exact ⟨_, results_tmp rfl _ _ _, rfl, R.out⟩

set_option maxHeartbeats 1000000 in
set_option maxRecDepth 100000 in
theorem cut_yes (k : Nat) (h : Dsk 0 w b pv l m E0) (hk : k ≤ l.length) (hm : m ≤ k) :
    Calls Try.prog 22 #[.pointer (some ⟨b, 0, none⟩), .int .i64 (k : Int)] w fun r w' => r = .returned (.int .i64 0) ∧ ∃ pv', Dst 0 w w' b pv pv' (l.take k) m E0 := by
  obtain ⟨sa, cap, rfl, hcap, _, _⟩ := seg_own h.own
  have c0 := h.box.cell 0 _ rfl
  have c2 := h.box.cell 2 _ rfl
  have c3 := h.box.cell 3 _ rfl
  have f0 := h.box.thaw 0
  have f2 := h.box.thaw 2
  have h1 := h.lock 1
  have h2 := h1.trans (h1.dsk.cut hk hm)
  have R := hide (h2.trans (h2.dsk.lock 0))
  have L1 : Hid (((w.setCell ⟨b, 0, none⟩ (.int .i32 1)).setCell ⟨b, 2, none⟩ (.slice sa k cap)).cell? ⟨b, 0, none⟩ = some (.int .i32 1)) := h2.dsk.box.cell 0 _ rfl
  have ht := h.top
  clear h1 h2 h
  generalize hn : l.length = n at *
  clear hn
  have q1 : ¬ ((k : Int) < (m : Int)) := by omega
  have q2 : ¬ ((n : Int) < (k : Int)) := by omega
  go_enter_defers Try.func22, Try.ntmps22
  go_wp2_with (go_at_call 24; refine (lock_free Try.muLib ⟨b, 0, none⟩ _ c0 f0).mono ?_; rintro e w' ⟨rfl, rfl⟩)
  refine leaves_cons (f := 25) (args := #[.pointer (some ⟨b, 0, none⟩)]) (by simp) (by simp [go_sem]) ?_
  refine (unlock_deferred Try.muLib ⟨b, 0, none⟩ .returning _ L1.out (by simp [f0])).mono ?_
  rintro e u' w'' ⟨rfl, rfl, rfl⟩
  exact ⟨_, results_tmp rfl _ _ _, rfl, _, R.out⟩
end
end Go.Proofs.Ytahpnfbjpdnapaa
