/- The contracts of a stream's takeMagic, takeVersion, takeSum, State, of isVersion and NewStream. -/
import Derived.Test.YtiajkdjljilndaaDoorFrMem
namespace Go.Proofs.YtiajkdjljilndaaDoor
open Go.RowKit Go.Wire1 Go.Crc2 Go.Frm

theorem x_bne {x y : Int} (h : ¬ x = y) : (x != y) = true := by simpa using h
set_option maxHeartbeats 2000000 in
set_option maxRecDepth 100000 in
theorem takeMagic_any (w : World) (b : Nat) (s : Sm) (pv : Value) (E0 : Nat) (x : Int) (h : Str w b s pv E0) (hk : s.held < 2) :
    Calls Tryd.prog 32 #[.pointer (some ⟨b, 0, none⟩), .int .u8 x] w fun r w' => r = .returned (.tuple #[]) ∧ ∃ pv', Stp w w' b (s.tMagic x) pv pv' E0 := by
  have c3 := h.at_ 3 _ rfl
  by_cases hx : x = ([77, 84] : List Int).getD s.held 0
  · have E : Hid (s.tMagic x = if s.held + 1 = 2 then { s.keep x with part := 1 } else s.keep x) := if_pos hx
    have HK := hide (keep_any w b s pv E0 x h (by omega))
    rcases (by omega : s.held = 0 ∨ s.held = 1) with q | q
    · replace c3 : w.cell? ⟨b, 3, none⟩ = some (.int .i64 0) := by rw [q] at c3; exact c3
      rw [q] at hx
      obtain rfl : x = 77 := hx
      have hq := hide q
      clear q hk h
      go_enter Tryd.func32, Tryd.ntmps32
      go_wp2_with fail
      refine HK.out.mono ?_
      rintro r w1 ⟨rfl, S1⟩
      have d3 : w1.cell? ⟨b, 3, none⟩ = some (.int .i64 1) := by have := S1.str.at_ 3 _ rfl; rw [show (s.keep 77).held = 1 by simp [Sm.keep, hq.out]] at this; exact this
      have H1 := hide S1
      clear S1
      go_wp2
      go_end0
      exact ⟨rfl, pv, by rw [E.out, if_neg (by rw [hq.out]; decide)]; exact H1.out⟩
    · replace c3 : w.cell? ⟨b, 3, none⟩ = some (.int .i64 1) := by rw [q] at c3; exact c3
      rw [q] at hx
      obtain rfl : x = 84 := hx
      have hq := hide q
      clear q hk h
      go_enter Tryd.func32, Tryd.ntmps32
      go_wp2_with fail
      refine HK.out.mono ?_
      rintro r w1 ⟨rfl, S1⟩
      have d3 : w1.cell? ⟨b, 3, none⟩ = some (.int .i64 2) := by have := S1.str.at_ 3 _ rfl; rw [show (s.keep 84).held = 2 by simp [Sm.keep, hq.out]] at this; exact this
      have d4 := S1.str.at_ 4 _ rfl
      have t4 := S1.str.box.thaw 4
      have H1 := hide (S1.trans (S1.str.put 4 (.int .i64 1) { s.keep 84 with part := 1 } rfl rfl S1.str.six))
      clear S1
      go_wp2
      go_end0
      exact ⟨rfl, pv, by rw [E.out, if_pos (by rw [hq.out])]; exact H1.out⟩
  · have E : Hid (s.tMagic x = brk s.place 71) := if_neg hx
    have HK := hide (break_any w b s pv E0 71 h)
    rcases (by omega : s.held = 0 ∨ s.held = 1) with q | q
    · replace c3 : w.cell? ⟨b, 3, none⟩ = some (.int .i64 0) := by rw [q] at c3; exact c3
      rw [q] at hx
      have hx' : (x != ((((⟨#[77, 84]⟩ : ByteArray)[0]'(by decide)).toNat : Nat) : Int)) = true := x_bne hx
      clear q hk h hx
      go_enter Tryd.func32, Tryd.ntmps32
      go_wp2_with fail
      refine HK.out.mono ?_
      rintro r w1 ⟨rfl, S1⟩
      have H1 := hide S1
      clear S1
      go_wp2
      (try simp only [Exit.inBlock, Exit.then]); refine bodyPost_ret (results_none rfl _ _ _) rfl ?_
      exact ⟨rfl, _, by rw [E.out]; exact H1.out⟩
    · replace c3 : w.cell? ⟨b, 3, none⟩ = some (.int .i64 1) := by rw [q] at c3; exact c3
      rw [q] at hx
      have hx' : (x != ((((⟨#[77, 84]⟩ : ByteArray)[1]'(by decide)).toNat : Nat) : Int)) = true := x_bne hx
      clear q hk h hx
      go_enter Tryd.func32, Tryd.ntmps32
      go_wp2_with fail
      refine HK.out.mono ?_
      rintro r w1 ⟨rfl, S1⟩
      have H1 := hide S1
      clear S1
      go_wp2
      (try simp only [Exit.inBlock, Exit.then]); refine bodyPost_ret (results_none rfl _ _ _) rfl ?_
      exact ⟨rfl, _, by rw [E.out]; exact H1.out⟩

set_option maxHeartbeats 2000000 in
set_option maxRecDepth 100000 in
theorem takeVersion_any (w : World) (b : Nat) (s : Sm) (pv : Value) (E0 : Nat) (x : Int) (h : Str w b s pv E0) (hk : s.held < 6) (hb : 0 ≤ x ∧ x < 256) :
    Calls Tryd.prog 33 #[.pointer (some ⟨b, 0, none⟩), .int .u8 x] w fun r w' => r = .returned (.tuple #[]) ∧ ∃ pv', Stp w w' b (s.tVersion x) pv pv' E0 := by
  have c0 := h.at_ 0 _ rfl
  obtain ⟨n, rfl⟩ := Int.eq_ofNat_of_zero_le hb.1
  by_cases hx : (n : Int) = (s.v : Int)
  · have E : Hid (s.tVersion (n : Int) = { s.keep (n : Int) with part := 2 }) := if_pos hx
    have HK := hide (keep_any w b s pv E0 (n : Int) h hk)
    rw [← hx] at c0
    clear hx h hk
    go_enter Tryd.func33, Tryd.ntmps33
    go_wp2_with fail
    refine HK.out.mono ?_
    rintro r w1 ⟨rfl, S1⟩
    have d4 := S1.str.at_ 4 _ rfl
    have t4 := S1.str.box.thaw 4
    have H1 := hide (S1.trans (S1.str.put 4 (.int .i64 2) { s.keep (n : Int) with part := 2 } rfl rfl S1.str.six))
    clear S1
    go_wp2
    go_end0
    exact ⟨rfl, pv, by rw [E.out]; exact H1.out⟩
  · have E : Hid (s.tVersion (n : Int) = brk s.place 72) := if_neg hx
    have HK := hide (break_any w b s pv E0 72 h)
    have hx' : ((n : Int) != (s.v : Int)) = true := x_bne hx
    clear hx h hk
    go_enter Tryd.func33, Tryd.ntmps33
    go_wp2_with fail
    refine HK.out.mono ?_
    rintro r w1 ⟨rfl, S1⟩
    have H1 := hide S1
    clear S1
    go_wp2
    (try simp only [Exit.inBlock, Exit.then]); refine bodyPost_ret (results_none rfl _ _ _) rfl ?_
    exact ⟨rfl, _, by rw [E.out]; exact H1.out⟩

theorem x_shr8 (a : R) : ((a.toNat : Int)) / 256 = (((a >>> 8).toNat : Nat) : Int) := by
  rw [BitVec.toNat_ushiftRight, Nat.shiftRight_eq_div_pow]; omega

set_option maxHeartbeats 2000000 in
set_option maxRecDepth 100000 in
theorem takeSum_any (w : World) (b : Nat) (s : Sm) (pv : Value) (E0 : Nat) (x : Int) (h : Str w b s pv E0) (h1 : 0 < s.left) (h2 : s.left ≤ 4) (h3 : s.held ≤ 4611686018427387904) :
    Calls Tryd.prog 36 #[.pointer (some ⟨b, 0, none⟩), .int .u8 x] w fun r w' => r = .returned (.tuple #[]) ∧ ∃ pv', Stp w w' b (s.tSum x) pv pv' E0 := by
  have c13 := h.c13
  by_cases hx : x = ((s.sum.toNat % 256 : Nat) : Int)
  · have E : Hid (s.tSum x = if s.left - 1 = 0 then { s.shift with part := 5 } else s.shift) := if_pos hx
    have c3 := h.at_ 3 _ rfl
    have c5 := h.at_ 5 _ rfl
    have c4 := h.at_ 4 _ rfl
    have t3 := h.box.thaw 3
    have t4 := h.box.thaw 4
    have t5 := h.box.thaw 5
    have t13 := h.box.thaw 13
    have S1 := h.put 13 (nr (s.sum >>> 8)) { s with sum := s.sum >>> 8 } (by simp [cellsS, h.six]) rfl h.six
    have S2 := S1.trans (S1.str.put 3 (.int .i64 ((s.held : Int) + 1)) { s with sum := s.sum >>> 8, held := s.held + 1 } rfl rfl h.six)
    have S3 := S2.trans (S2.str.put 5 (.int .i64 ((s.left : Int) - 1)) s.shift (by simp only [cellsS, Sm.shift]; rw [Int.ofNat_sub h1]; rfl) rfl h.six)
    have H3 := hide S3
    have H4 := hide (S3.trans (S3.str.put 4 (.int .i64 5) { s.shift with part := 5 } rfl rfl h.six))
    have e8 := x_shr8 s.sum
    have b1 := r_lt s.sum
    have b2 := r_lt (s.sum >>> 8)
    simp only [nr] at *
    generalize (s.sum >>> 8).toNat = m8 at *
    generalize s.sum.toNat = m at *
    have hm : ((m % 256 : Nat) : Int) = (m : Int) % 256 := by omega
    rw [hm] at hx
    subst hx
    clear S1 S2 S3 h hm
    rw [← e8] at H3 H4
    by_cases hl : s.left = 1
    · have hq := hide hl
      have c5' : w.cell? ⟨b, 5, none⟩ = some (.int .i64 1) := by rw [hl] at c5; exact c5
      rw [hl] at H3 H4
      clear c5 hl
      go_enter Tryd.func36, Tryd.ntmps36
      go_wp2
      go_end0
      refine ⟨rfl, pv, ?_⟩
      rw [E.out, if_pos (by rw [hq.out])]
      exact H4.out
    · have hq := hide hl
      have hl' : ((s.left : Int) - 1 == 0) = false := by simp; omega
      go_enter Tryd.func36, Tryd.ntmps36
      go_wp2
      go_end0
      refine ⟨rfl, pv, ?_⟩
      rw [E.out, if_neg (by have := hq.out; omega)]
      exact H3.out
  · have E : Hid (s.tSum x = brk s.place 74) := if_neg hx
    have HK := hide (break_any w b s pv E0 74 h)
    have b1 := r_lt s.sum
    simp only [nr] at *
    generalize s.sum.toNat = m at *
    have hm : ((m % 256 : Nat) : Int) = (m : Int) % 256 := by omega
    rw [hm] at hx
    have hx' : (x != (m : Int) % 256) = true := x_bne hx
    clear hx h hm
    go_enter Tryd.func36, Tryd.ntmps36
    go_wp2_with fail
    refine HK.out.mono ?_
    rintro r w1 ⟨rfl, S1⟩
    have H1 := hide S1
    clear S1
    go_wp2
    (try simp only [Exit.inBlock, Exit.then]); refine bodyPost_ret (results_none rfl _ _ _) rfl ?_
    exact ⟨rfl, _, by rw [E.out]; exact H1.out⟩

set_option maxHeartbeats 2000000 in
set_option maxRecDepth 100000 in
theorem state_any (w : World) (b : Nat) (s : Sm) (pv : Value) (E0 : Nat) (h : Str w b s pv E0) :
    Calls Tryd.prog 23 #[.pointer (some ⟨b, 0, none⟩)] w fun r w' => r = .returned (.tuple #[.int .i64 (s.fault : Int), .int .i64 (s.place : Int), .int .i64 (s.held : Int)]) ∧ ∃ q, w' = w.drewN q := by
  have c1 := h.at_ 1 _ rfl
  have c2 := h.at_ 2 _ rfl
  have c3 := h.at_ 3 _ rfl
  clear h
  go_enter Tryd.func23, Tryd.ntmps23
  go_wp2
  go_quiet (fail)
  go_wp2
  go_ret3
  exact ⟨rfl, _, rfl⟩

def verB (v : Int) : Bool := decide (0 ≤ v ∧ v ≤ 2)
set_option maxHeartbeats 2000000 in
set_option maxRecDepth 100000 in
theorem isVersion_any (v : Int) (w : World) : Calls Tryd.prog 28 #[.int .i64 v] w fun r w' => r = .returned (.bool (verB v)) ∧ w = w' := by
  by_cases h0 : 0 ≤ v
  · by_cases h2 : v ≤ 2
    · have E : Hid (verB v = true) := by show _ = _; unfold verB; simp [h0, h2]
      go_enter Tryd.func28, Tryd.ntmps28
      go_wp2
      go_ret
      exact ⟨by rw [E.out]; rfl, rfl⟩
    · have E : Hid (verB v = false) := by show _ = _; unfold verB; simp [h2]
      go_enter Tryd.func28, Tryd.ntmps28
      go_wp2
      go_ret
      exact ⟨by rw [E.out]; rfl, rfl⟩
  · have E : Hid (verB v = false) := by show _ = _; unfold verB; simp [h0]
    go_enter Tryd.func28, Tryd.ntmps28
    go_wp2
    go_ret
    exact ⟨by rw [E.out]; rfl, rfl⟩

set_option maxHeartbeats 2000000 in
set_option maxRecDepth 100000 in
theorem newStream_no (v : Int) (w : World) (hv : verB v = false) : Calls Tryd.prog 20 #[.int .i64 v] w fun r w' => r = .returned (.pointer none) ∧ w = w' := by
  go_enter Tryd.func20, Tryd.ntmps20
  go_wp2_with fail
  refine (isVersion_any v _).mono ?_
  rintro r w1 ⟨rfl, rfl⟩
  rw [hv]
  clear hv
  go_wp2
  go_ret
  exact ⟨rfl, rfl⟩

set_option maxHeartbeats 2000000 in
set_option maxRecDepth 100000 in
theorem newStream_yes (v : Nat) (w : World) (hv : v ≤ 2) (E0 : Nat) (hE : E0 ≤ w.heap.size) : Calls Tryd.prog 20 #[.int .i64 (v : Int)] w fun r w' => r = .returned (.pointer (some ⟨w.heap.size, 0, none⟩)) ∧
    Str w' w.heap.size (fresh v 0) (.slice none 0 0) E0 ∧ Below w.heap.size w w' ∧ w'.heap.size = w.heap.size + 1 := by
  have E : Hid (verB (v : Int) = true) := by show _ = _; unfold verB; simp; omega
  have R : Hid (Str (w.alloc (.cells (cellsS (fresh v 0) (.slice none 0 0)).toArray 64)) w.heap.size (fresh v 0) (.slice none 0 0) E0) :=
    ⟨blk_new _ _ _, World.ownsRow_nil _ _ _ _, (by intro e; cases e), rfl, hE, fun _ => rfl⟩
  clear hv hE
  go_enter Tryd.func20, Tryd.ntmps20
  go_wp2_with fail
  refine (isVersion_any (v : Int) _).mono ?_
  rintro r w1 ⟨rfl, rfl⟩
  rw [E.out]
  go_wp2
  go_ret
  exact ⟨rfl, R.out, (Below.refl _ _).alloc (Nat.le_refl _) _, by simp⟩
end Go.Proofs.YtiajkdjljilndaaDoor
