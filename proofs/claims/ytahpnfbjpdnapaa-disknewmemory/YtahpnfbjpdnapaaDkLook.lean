/- The contracts of the disk's method Look and of New. -/
import Derived.Test.YtahpnfbjpdnapaaDkMeth
import Derived.Test.YtahpnfbjpdnapaaDkClone
namespace Go.Proofs.Ytahpnfbjpdnapaa
open Go.RowKit Go.Wire1 Go.MuLone

section
variable (w : World) (b : Nat) (pv : Value) (l : List Int) (m E0 : Nat)

theorem look_own {w w2 : World} {b : Nat} {pv : Value} {l : List Int} {m E0 : Nat} {v : Value} {n : Nat} {xs : List Value} {u : Value} (h : Dsk 0 w b pv l m E0) (ho : w2.ownsRow (w.setCell ⟨b, 0, none⟩ (.int .i32 1)).heap.size 5 1 v n xs) : (w2.setCell ⟨b, 0, none⟩ u).ownsRow w.heap.size 5 1 v n xs := by
  have e : (w.setCell ⟨b, 0, none⟩ (.int .i32 1)).heap.size = w.heap.size := by simp [World.setCell]
  rw [e] at ho
  exact own_box ho (fun e2 => by have := (ho.lt b e2).1; have := h.box.lt; omega)

set_option maxHeartbeats 1000000 in
set_option maxRecDepth 100000 in
theorem look_any (h : Dsk 0 w b pv l m E0) :
    Calls Try.prog 7 #[.pointer (some ⟨b, 0, none⟩)] w fun r w' => ∃ v, r = .returned (.tuple #[v, .int .i64 (m : Int)]) ∧ w'.ownsRow w.heap.size 5 1 v l.length (l.map (Value.int .u8)) ∧ Below w.heap.size w w' := by
  obtain ⟨sa, cap, rfl, _, _, hs⟩ := seg_own h.own
  have c0 := h.box.cell 0 _ rfl
  have c2 := h.box.cell 2 _ rfl
  have c3 := h.box.cell 3 _ rfl
  have f0 := h.box.thaw 0
  have f2 := h.box.thaw 2
  have hnil : sa = none → l.length = 0 := fun e => by
    rcases h.own.2 with ⟨_, h0⟩ | ⟨g, cap', _, e2, _⟩
    · exact h0
    · rw [e] at e2; cases e2
  have ht := h.top
  have SG : Hid (Seg (w.setCell ⟨b, 0, none⟩ (.int .i32 1)) sa l.length l) := by
    obtain ⟨sa', cap', e, _, _, hs'⟩ := seg_own (h.lock 1).dsk.own
    cases e
    exact hs'
  have HK := hide h
  have HI : Hid (b < (w.setCell ⟨b, 0, none⟩ (.int .i32 1)).heap.size) := by have := h.box.lt; show b < _; simpa [World.setCell] using this
  have L0 : Hid ((w.setCell ⟨b, 0, none⟩ (.int .i32 1)).cell? ⟨b, 0, none⟩ = some (.int .i32 1)) := (h.lock 1).dsk.box.cell 0 _ rfl
  have HNL := hide hnil
  have e2 : (w.setCell ⟨b, 0, none⟩ (.int .i32 1)).cell? ⟨b, 2, none⟩ = some (.slice sa l.length cap) := (h.lock 1).dsk.box.cell 2 _ rfl
  have e3 : (w.setCell ⟨b, 0, none⟩ (.int .i32 1)).cell? ⟨b, 3, none⟩ = some (.int .i64 (m : Int)) := (h.lock 1).dsk.box.cell 3 _ rfl
  clear h hs hnil
  go_enter_defers Try.func7, Try.ntmps7
  go_wp2_with (go_at_call 24; refine (lock_free Try.muLib ⟨b, 0, none⟩ _ c0 f0).mono ?_; rintro e w' ⟨rfl, rfl⟩)
  go_region_held3 (fun w' => w'.cell? ⟨b, 2, none⟩ = some (.slice sa l.length cap) ∧ w'.cell? ⟨b, 3, none⟩ = some (.int .i64 (m : Int))) (first | exact ⟨e2, e3⟩ | go_keep | (refine ⟨?_, ?_⟩ <;> (rw [hb0.cell (by exact HI.out)]; assumption))) ((go_at_call 26; refine (clone_any sa l.length cap l _ (by exact SG.out) (by omega) (by exact HNL.out)).mono ?_; rintro e w2 ⟨v, rfl, hown, hb0⟩))
  have hb1 : Below w.heap.size (w.setCell ⟨b, 0, none⟩ (.int .i32 1)) w2 := ⟨hb0.os, hb0.tape, hb0.output, hb0.size, fun k hk => hb0.block k (by show k < (w.setCell ⟨b, 0, none⟩ (.int .i32 1)).heap.size; simpa [World.setCell] using hk)⟩
  have R := hide (HK.out.relock hb1)
  have OW := hide hown
  have L1 : Hid (w2.cell? ⟨b, 0, none⟩ = some (.int .i32 1)) := (hb1.cell (p := ⟨b, 0, none⟩) (by have := HK.out.box.lt; exact this)).trans L0.out
  have g0 : w2.frozen? ⟨b, 0, none⟩ = false := (hb1.frozen (p := ⟨b, 0, none⟩) (by have := HK.out.box.lt; exact this)).trans ((HK.out.lock 1).dsk.box.thaw 0)
  clear hown hb0 hb1 L0 SG e2 e3
  go_wp2
  refine leaves_cons (f := 25) (args := #[.pointer (some ⟨b, 0, none⟩)]) (by simp) (by simp [go_sem]) ?_
  refine (unlock_deferred Try.muLib ⟨b, 0, none⟩ .returning _ (by exact L1.out) (by simp [g0])).mono ?_
  rintro e u' w'' ⟨rfl, rfl, rfl⟩
  exact ⟨_, results_tmp2 rfl _ _ _, _, rfl, look_own HK.out OW.out, R.out⟩
end

theorem dsk_new (w : World) (T : TypeId) (E0 : Nat) (hE : E0 ≤ w.heap.size) : Dsk 0 (w.alloc (.cells #[.int .i32 0, .int .u32 0, .slice none 0 0, .int .i64 0] T)) w.heap.size (.slice none 0 0) [] 0 E0 :=
  ⟨blk_new w T [.int .i32 0, .int .u32 0, .slice none 0 0, .int .i64 0], World.ownsRow_nil _ _ _ _, (by intro e; cases e), Nat.le_refl _, Nat.zero_le _, hE, fun z hz => by cases hz⟩
set_option maxHeartbeats 1000000 in
set_option maxRecDepth 100000 in
theorem new_any (w : World) (E0 : Nat) (hE : E0 ≤ w.heap.size) :
    Calls Try.prog 16 #[] w fun r w' => r = .returned (.pointer (some ⟨w.heap.size, 0, none⟩)) ∧ Dsk 0 w' w.heap.size (.slice none 0 0) [] 0 E0 ∧ Below w.heap.size w w' ∧ w'.heap.size = w.heap.size + 1 := by
  have R := hide (dsk_new w 62 E0 hE)
  have B : Hid (Below w.heap.size w (w.alloc (.cells #[.int .i32 0, .int .u32 0, .slice none 0 0, .int .i64 0] 62))) := (Below.refl _ _).alloc (Nat.le_refl _) _
  go_enter Try.func16, Try.ntmps16
  go_wp2
  go_ret
  exact ⟨rfl, R.out, B.out, by simp⟩
end Go.Proofs.Ytahpnfbjpdnapaa
