/- The contract of a stream's takeLength. -/
import Derived.Test.YtiajkdjljilndaaDoorFrTake
namespace Go.Proofs.YtiajkdjljilndaaDoor
open Go.RowKit Go.Wire1 Go.Crc2 Go.Frm

theorem Str.segHead {w : World} {b : Nat} {s : Sm} {pv : Value} {E0 : Nat} (h : Str w b s pv E0) (k : Nat) (h2 : k ≤ 6) : Seg w (some ⟨b, 6, none⟩) k (s.head.take k) := by
  have h6 := h.six
  refine ⟨by rw [List.length_take]; omega, by unfold maxLen; omega, fun _ => ⟨b, 6, rfl, fun j hj => ?_⟩⟩
  rw [h.chead j (by omega)]
  simp [hj]
theorem Str.segTail {w : World} {b : Nat} {s : Sm} {pv : Value} {E0 : Nat} (h : Str w b s pv E0) (k : Nat) (h1 : 3 ≤ k) (h2 : k ≤ 6) : Seg w (some ⟨b, 9, none⟩) (k - 3) ((s.head.take k).drop 3) := (h.segHead k h2).from h1
theorem Str.on {w w' : World} {b : Nat} {s : Sm} {pv : Value} {E0 : Nat} (h : Str w b s pv E0) (hb : Below w.heap.size w w') : Str w' b s pv E0 :=
  ⟨h.box.on hb, own_other h.own (fun k hk => hb.block k (h.own.lt k hk).2), h.far, h.six, h.low, h.nil_⟩
theorem Stp.on {w w1 w' : World} {b : Nat} {s : Sm} {pv pv' : Value} {E0 : Nat} (h : Stp w w1 b s pv pv' E0) (hb : Below w1.heap.size w1 w') : Stp w w' b s pv pv' E0 :=
  ⟨h.str.on hb, h.tch.trans (Tch.ofBelow (r := pv'.ownBlock) hb) h.lat, h.lat⟩

set_option maxRecDepth 100000 in
theorem slice_head (b k : Nat) (h4 : 4 ≤ k) (h6 : k ≤ 6) : ∀ W : World, (Instr.sliceAt 62 (.pointer (some ⟨b, 6, none⟩)) (some (.int .i64 3)) (some (.int .i64 (k : Int))) none).run Tryd.prog W = .ok (.slice (some ⟨b, 9, none⟩) (k - 3) 3) W := fun W => by
  rw [run_sliceAt_array_lh W 62 ⟨b, 6, none⟩ Tryd.underlying62 .i64 .i64 3 (k : Int) (by omega) (by omega) (by show (k : Int) ≤ 6; omega)]
  have hs : (sizeOf (Tryd.prog.elem 62)).run Tryd.prog W = .ok 1 W := by kernel_rfl
  rw [hs]
  show Result.ok (slicedAt _ _ _ 6 1) W = _
  simp [slicedAt, Addr.add]

set_option maxRecDepth 100000 in
theorem slice_first (b k : Nat) (h6 : k ≤ 6) : ∀ W : World, (Instr.sliceAt 62 (.pointer (some ⟨b, 6, none⟩)) none (some (.int .i64 (k : Int))) none).run Tryd.prog W = .ok (.slice (some ⟨b, 6, none⟩) k 6) W := fun W => by
  rw [run_sliceAt_array_h W 62 ⟨b, 6, none⟩ Tryd.underlying62 .i64 (k : Int) (by omega) (by show (k : Int) ≤ 6; omega)]
  have hs : (sizeOf (Tryd.prog.elem 62)).run Tryd.prog W = .ok 1 W := by kernel_rfl
  rw [hs]
  show Result.ok (slicedAt _ _ _ 6 1) W = _
  simp [slicedAt, Addr.add]

set_option maxHeartbeats 4000000 in
set_option maxRecDepth 100000 in
theorem takeLength_form (w : World) (b : Nat) (s : Sm) (pv : Value) (E0 : Nat) (x : Int) (a : Nat → Addr) (h : Str w b s pv E0) (h1 : 3 ≤ s.held) (h2 : s.held < 6) (hy : Byt (((s.keep x).head.take (s.held + 1)).drop 3)) (hy2 : Byt ((s.keep x).head.take (s.held + 1))) (en : Env w a E0) (hd : dec (((s.keep x).head.take (s.held + 1)).drop 3) = .error 2) :
    Calls Tryd.prog 34 #[.pointer (some ⟨b, 0, none⟩), .int .u8 x] w fun r w' => r = .returned (.tuple #[]) ∧ ∃ pv', Stp w w' b (brk (s.keep x).place 13) pv pv' E0 := by
  have hkk0 : (s.keep x).held = s.held + 1 := rfl
  have HK := hide (keep_any w b s pv E0 x h h2)
  have EN := hide en
  have HL := hide h
  have k4 : 4 ≤ s.held + 1 := by omega
  have k6 : s.held + 1 ≤ 6 := by omega
  have hkk := hide hkk0
  clear hkk0
  have HY := hide hy
  have HY2 := hide hy2
  clear en h hy hy2 h1 h2
  generalize s.held + 1 = k at *
  generalize s.keep x = s1 at *
  have hsl := slice_head b k k4 k6
  go_enter Tryd.func34, Tryd.ntmps34
  go_wp2_with fail
  refine HK.out.mono ?_
  rintro r w1 ⟨rfl, S1⟩
  have EN1 := hide (EN.out.below (S1.below HL.out))
  have c3 : w1.cell? ⟨b, 3, none⟩ = some (.int .i64 (k : Int)) := by have := S1.str.at_ 3 _ rfl; rw [hkk.out] at this; exact this
  have SG := hide (S1.str.segTail k (by omega) k6)
  have H1 := hide S1
  clear S1 EN HL HK
  go_wp2
  go_region_held3 (fun w' => w'.cell? ⟨b, 3, none⟩ = some (.int .i64 (k : Int))) (first | go_keep | (rw [hb0.cell (by exact cell_lt c3)]; assumption)) ((go_at_call 45; refine (getUint_any (k - 3) _ _ _ a _ (by exact SG.out) (by exact HY.out) (by exact (EN1.out.drewN 1).errs)).mono ?_; rintro e w2 ⟨hb0, hg⟩; rw [hd] at hg; obtain rfl : e = _ := hg))
  have hb : Below w1.heap.size w1 w2 := ⟨hb0.os, hb0.tape, hb0.output, hb0.size, hb0.block⟩
  have H2 := hide (H1.out.on hb)
  have EN2 := hide (EN1.out.below (hb.mono (Nat.le_trans H1.out.str.low (Nat.le_of_lt H1.out.str.box.lt))))
  have d3 : w2.cell? ⟨b, 3, none⟩ = some (.int .i64 (k : Int)) := (hb.cell (p := ⟨b, 3, none⟩) (cell_lt c3)).trans c3
  clear H1 SG EN1 c3 hb0 hb
  have HB := hide (break_any w2 b s1 pv E0 13 H2.out.str)
  go_wp2_with fail
  refine HB.out.mono ?_
  rintro r w3 ⟨rfl, S3⟩
  have H3 := hide (H2.out.trans S3)
  clear S3
  go_wp2
  go_end0
  exact ⟨rfl, _, H3.out⟩

set_option maxHeartbeats 4000000 in
set_option maxRecDepth 100000 in
theorem takeLength_large (w : World) (b : Nat) (s : Sm) (pv : Value) (E0 : Nat) (x : Int) (a : Nat → Addr) (h : Str w b s pv E0) (_h1 : 3 ≤ s.held) (h2 : s.held < 6) (hy : Byt (((s.keep x).head.take (s.held + 1)).drop 3)) (hy2 : Byt ((s.keep x).head.take (s.held + 1))) (en : Env w a E0) (hd : dec (((s.keep x).head.take (s.held + 1)).drop 3) = .error 0) (h6 : s.held + 1 = 6) :
    Calls Tryd.prog 34 #[.pointer (some ⟨b, 0, none⟩), .int .u8 x] w fun r w' => r = .returned (.tuple #[]) ∧ ∃ pv', Stp w w' b (brk (s.keep x).place 73) pv pv' E0 := by
  have hkk0 : (s.keep x).held = s.held + 1 := rfl
  have HK := hide (keep_any w b s pv E0 x h h2)
  have EN := hide en
  have HL := hide h
  have k4 : 4 ≤ s.held + 1 := by omega
  have k6 : s.held + 1 ≤ 6 := by omega
  have hkk := hide hkk0
  clear hkk0
  have HY := hide hy
  have HY2 := hide hy2
  clear en h hy hy2 _h1 h2
  generalize s.held + 1 = k at *
  generalize s.keep x = s1 at *
  have hsl := slice_head b k k4 k6
  have hq : ((k : Int) == 6) = true := by simp; omega
  clear h6
  go_enter Tryd.func34, Tryd.ntmps34
  go_wp2_with fail
  refine HK.out.mono ?_
  rintro r w1 ⟨rfl, S1⟩
  have EN1 := hide (EN.out.below (S1.below HL.out))
  have c3 : w1.cell? ⟨b, 3, none⟩ = some (.int .i64 (k : Int)) := by have := S1.str.at_ 3 _ rfl; rw [hkk.out] at this; exact this
  have SG := hide (S1.str.segTail k (by omega) k6)
  have H1 := hide S1
  clear S1 EN HL HK
  go_wp2
  go_region_held3 (fun w' => w'.cell? ⟨b, 3, none⟩ = some (.int .i64 (k : Int))) (first | go_keep | (rw [hb0.cell (by exact cell_lt c3)]; assumption)) ((go_at_call 45; refine (getUint_any (k - 3) _ _ _ a _ (by exact SG.out) (by exact HY.out) (by exact (EN1.out.drewN 1).errs)).mono ?_; rintro e w2 ⟨hb0, hg⟩; rw [hd] at hg; obtain rfl : e = _ := hg))
  have hb : Below w1.heap.size w1 w2 := ⟨hb0.os, hb0.tape, hb0.output, hb0.size, hb0.block⟩
  have H2 := hide (H1.out.on hb)
  have EN2 := hide (EN1.out.below (hb.mono (Nat.le_trans H1.out.str.low (Nat.le_of_lt H1.out.str.box.lt))))
  have d3 : w2.cell? ⟨b, 3, none⟩ = some (.int .i64 (k : Int)) := (hb.cell (p := ⟨b, 3, none⟩) (cell_lt c3)).trans c3
  clear H1 SG EN1 c3 hb0 hb
  have HB := hide (break_any w2 b s1 pv E0 73 H2.out.str)
  go_wp2_with fail
  refine HB.out.mono ?_
  rintro r w3 ⟨rfl, S3⟩
  have H3 := hide (H2.out.trans S3)
  clear S3
  go_wp2
  go_end0
  exact ⟨rfl, _, H3.out⟩

set_option maxHeartbeats 4000000 in
set_option maxRecDepth 100000 in
theorem takeLength_more (w : World) (b : Nat) (s : Sm) (pv : Value) (E0 : Nat) (x : Int) (a : Nat → Addr) (h : Str w b s pv E0) (h1 : 3 ≤ s.held) (h2 : s.held < 6) (hy : Byt (((s.keep x).head.take (s.held + 1)).drop 3)) (hy2 : Byt ((s.keep x).head.take (s.held + 1))) (en : Env w a E0) (hd : dec (((s.keep x).head.take (s.held + 1)).drop 3) = .error 0) (h6 : s.held + 1 ≠ 6) :
    Calls Tryd.prog 34 #[.pointer (some ⟨b, 0, none⟩), .int .u8 x] w fun r w' => r = .returned (.tuple #[]) ∧ ∃ pv', Stp w w' b (s.keep x) pv pv' E0 := by
  have hkk0 : (s.keep x).held = s.held + 1 := rfl
  have HK := hide (keep_any w b s pv E0 x h h2)
  have EN := hide en
  have HL := hide h
  have k4 : 4 ≤ s.held + 1 := by omega
  have k6 : s.held + 1 ≤ 6 := by omega
  have hkk := hide hkk0
  clear hkk0
  have HY := hide hy
  have HY2 := hide hy2
  clear en h hy hy2 h1 h2
  generalize s.held + 1 = k at *
  generalize s.keep x = s1 at *
  have hsl := slice_head b k k4 k6
  have hq : ((k : Int) == 6) = false := by simp; omega
  clear h6
  go_enter Tryd.func34, Tryd.ntmps34
  go_wp2_with fail
  refine HK.out.mono ?_
  rintro r w1 ⟨rfl, S1⟩
  have EN1 := hide (EN.out.below (S1.below HL.out))
  have c3 : w1.cell? ⟨b, 3, none⟩ = some (.int .i64 (k : Int)) := by have := S1.str.at_ 3 _ rfl; rw [hkk.out] at this; exact this
  have SG := hide (S1.str.segTail k (by omega) k6)
  have H1 := hide S1
  clear S1 EN HL HK
  go_wp2
  go_region_held3 (fun w' => w'.cell? ⟨b, 3, none⟩ = some (.int .i64 (k : Int))) (first | go_keep | (rw [hb0.cell (by exact cell_lt c3)]; assumption)) ((go_at_call 45; refine (getUint_any (k - 3) _ _ _ a _ (by exact SG.out) (by exact HY.out) (by exact (EN1.out.drewN 1).errs)).mono ?_; rintro e w2 ⟨hb0, hg⟩; rw [hd] at hg; obtain rfl : e = _ := hg))
  have hb : Below w1.heap.size w1 w2 := ⟨hb0.os, hb0.tape, hb0.output, hb0.size, hb0.block⟩
  have H2 := hide (H1.out.on hb)
  have EN2 := hide (EN1.out.below (hb.mono (Nat.le_trans H1.out.str.low (Nat.le_of_lt H1.out.str.box.lt))))
  have d3 : w2.cell? ⟨b, 3, none⟩ = some (.int .i64 (k : Int)) := (hb.cell (p := ⟨b, 3, none⟩) (cell_lt c3)).trans c3
  clear H1 SG EN1 c3 hb0 hb
  go_wp2
  go_end0
  exact ⟨rfl, _, H2.out⟩

set_option maxHeartbeats 4000000 in
set_option maxRecDepth 100000 in
theorem takeLength_wide (w : World) (b : Nat) (s : Sm) (pv : Value) (E0 : Nat) (x : Int) (a : Nat → Addr) (h : Str w b s pv E0) (h1 : 3 ≤ s.held) (h2 : s.held < 6) (hy : Byt (((s.keep x).head.take (s.held + 1)).drop 3)) (hy2 : Byt ((s.keep x).head.take (s.held + 1))) (en : Env w a E0) (hd : dec (((s.keep x).head.take (s.held + 1)).drop 3) = .error 1) :
    Calls Tryd.prog 34 #[.pointer (some ⟨b, 0, none⟩), .int .u8 x] w fun r w' => r = .returned (.tuple #[]) ∧ ∃ pv', Stp w w' b (s.keep x) pv pv' E0 := by
  have hkk0 : (s.keep x).held = s.held + 1 := rfl
  have HK := hide (keep_any w b s pv E0 x h h2)
  have EN := hide en
  have HL := hide h
  have k4 : 4 ≤ s.held + 1 := by omega
  have k6 : s.held + 1 ≤ 6 := by omega
  have hkk := hide hkk0
  clear hkk0
  have HY := hide hy
  have HY2 := hide hy2
  clear en h hy hy2 h1 h2
  generalize s.held + 1 = k at *
  generalize s.keep x = s1 at *
  have hsl := slice_head b k k4 k6
  go_enter Tryd.func34, Tryd.ntmps34
  go_wp2_with fail
  refine HK.out.mono ?_
  rintro r w1 ⟨rfl, S1⟩
  have EN1 := hide (EN.out.below (S1.below HL.out))
  have c3 : w1.cell? ⟨b, 3, none⟩ = some (.int .i64 (k : Int)) := by have := S1.str.at_ 3 _ rfl; rw [hkk.out] at this; exact this
  have SG := hide (S1.str.segTail k (by omega) k6)
  have H1 := hide S1
  clear S1 EN HL HK
  go_wp2
  go_region_held3 (fun w' => w'.cell? ⟨b, 3, none⟩ = some (.int .i64 (k : Int))) (first | go_keep | (rw [hb0.cell (by exact cell_lt c3)]; assumption)) ((go_at_call 45; refine (getUint_any (k - 3) _ _ _ a _ (by exact SG.out) (by exact HY.out) (by exact (EN1.out.drewN 1).errs)).mono ?_; rintro e w2 ⟨hb0, hg⟩; rw [hd] at hg; obtain rfl : e = _ := hg))
  have hb : Below w1.heap.size w1 w2 := ⟨hb0.os, hb0.tape, hb0.output, hb0.size, hb0.block⟩
  have H2 := hide (H1.out.on hb)
  have EN2 := hide (EN1.out.below (hb.mono (Nat.le_trans H1.out.str.low (Nat.le_of_lt H1.out.str.box.lt))))
  have d3 : w2.cell? ⟨b, 3, none⟩ = some (.int .i64 (k : Int)) := (hb.cell (p := ⟨b, 3, none⟩) (cell_lt c3)).trans c3
  clear H1 SG EN1 c3 hb0 hb
  go_wp2
  go_end0
  exact ⟨rfl, _, H2.out⟩

set_option maxHeartbeats 4000000 in
set_option maxRecDepth 100000 in
theorem takeLength_big (w : World) (b : Nat) (s : Sm) (pv : Value) (E0 : Nat) (x : Int) (a : Nat → Addr) (h : Str w b s pv E0) (h1 : 3 ≤ s.held) (h2 : s.held < 6) (hy : Byt (((s.keep x).head.take (s.held + 1)).drop 3)) (hy2 : Byt ((s.keep x).head.take (s.held + 1))) (en : Env w a E0) (n m : Nat) (hd : dec (((s.keep x).head.take (s.held + 1)).drop 3) = .ok (n, m)) (hn : 1048576 < n) :
    Calls Tryd.prog 34 #[.pointer (some ⟨b, 0, none⟩), .int .u8 x] w fun r w' => r = .returned (.tuple #[]) ∧ ∃ pv', Stp w w' b (brk (s.keep x).place 73) pv pv' E0 := by
  have hkk0 : (s.keep x).held = s.held + 1 := rfl
  have HK := hide (keep_any w b s pv E0 x h h2)
  have EN := hide en
  have HL := hide h
  have k4 : 4 ≤ s.held + 1 := by omega
  have k6 : s.held + 1 ≤ 6 := by omega
  have hkk := hide hkk0
  clear hkk0
  have HY := hide hy
  have HY2 := hide hy2
  clear en h hy hy2 h1 h2
  generalize s.held + 1 = k at *
  generalize s.keep x = s1 at *
  have hsl := slice_head b k k4 k6
  go_enter Tryd.func34, Tryd.ntmps34
  go_wp2_with fail
  refine HK.out.mono ?_
  rintro r w1 ⟨rfl, S1⟩
  have EN1 := hide (EN.out.below (S1.below HL.out))
  have c3 : w1.cell? ⟨b, 3, none⟩ = some (.int .i64 (k : Int)) := by have := S1.str.at_ 3 _ rfl; rw [hkk.out] at this; exact this
  have SG := hide (S1.str.segTail k (by omega) k6)
  have H1 := hide S1
  clear S1 EN HL HK
  go_wp2
  go_region_held3 (fun w' => w'.cell? ⟨b, 3, none⟩ = some (.int .i64 (k : Int))) (first | go_keep | (rw [hb0.cell (by exact cell_lt c3)]; assumption)) ((go_at_call 45; refine (getUint_any (k - 3) _ _ _ a _ (by exact SG.out) (by exact HY.out) (by exact (EN1.out.drewN 1).errs)).mono ?_; rintro e w2 ⟨hb0, hg⟩; rw [hd] at hg; obtain rfl : e = _ := hg))
  have hb : Below w1.heap.size w1 w2 := ⟨hb0.os, hb0.tape, hb0.output, hb0.size, hb0.block⟩
  have H2 := hide (H1.out.on hb)
  have EN2 := hide (EN1.out.below (hb.mono (Nat.le_trans H1.out.str.low (Nat.le_of_lt H1.out.str.box.lt))))
  have d3 : w2.cell? ⟨b, 3, none⟩ = some (.int .i64 (k : Int)) := (hb.cell (p := ⟨b, 3, none⟩) (cell_lt c3)).trans c3
  clear H1 SG EN1 c3 hb0 hb
  have HB := hide (break_any w2 b s1 pv E0 73 H2.out.str)
  go_wp2_with fail
  refine HB.out.mono ?_
  rintro r w3 ⟨rfl, S3⟩
  have H3 := hide (H2.out.trans S3)
  clear S3
  go_wp2
  go_end0
  exact ⟨rfl, _, H3.out⟩

set_option maxHeartbeats 4000000 in
set_option maxRecDepth 100000 in
theorem takeLength_ok (w : World) (b : Nat) (s : Sm) (pv : Value) (E0 : Nat) (x : Int) (a : Nat → Addr) (h : Str w b s pv E0) (h1 : 3 ≤ s.held) (h2 : s.held < 6) (hy : Byt (((s.keep x).head.take (s.held + 1)).drop 3)) (hy2 : Byt ((s.keep x).head.take (s.held + 1))) (en : Env w a E0) (n m : Nat) (hd : dec (((s.keep x).head.take (s.held + 1)).drop 3) = .ok (n, m)) (hn : ¬ 1048576 < n) :
    Calls Tryd.prog 34 #[.pointer (some ⟨b, 0, none⟩), .int .u8 x] w fun r w' => r = .returned (.tuple #[]) ∧ ∃ pv', Stp w w' b ((s.keep x).long n) pv pv' E0 := by
  have hkk0 : (s.keep x).held = s.held + 1 := rfl
  have HK := hide (keep_any w b s pv E0 x h h2)
  have EN := hide en
  have HL := hide h
  have k4 : 4 ≤ s.held + 1 := by omega
  have k6 : s.held + 1 ≤ 6 := by omega
  have hkk := hide hkk0
  clear hkk0
  have HY := hide hy
  have HY2 := hide hy2
  clear en h hy hy2 h1 h2
  generalize s.held + 1 = k at *
  generalize s.keep x = s1 at *
  have hsl := slice_head b k k4 k6
  go_enter Tryd.func34, Tryd.ntmps34
  go_wp2_with fail
  refine HK.out.mono ?_
  rintro r w1 ⟨rfl, S1⟩
  have EN1 := hide (EN.out.below (S1.below HL.out))
  have c3 : w1.cell? ⟨b, 3, none⟩ = some (.int .i64 (k : Int)) := by have := S1.str.at_ 3 _ rfl; rw [hkk.out] at this; exact this
  have SG := hide (S1.str.segTail k (by omega) k6)
  have H1 := hide S1
  clear S1 EN HL HK
  go_wp2
  go_region_held3 (fun w' => w'.cell? ⟨b, 3, none⟩ = some (.int .i64 (k : Int))) (first | go_keep | (rw [hb0.cell (by exact cell_lt c3)]; assumption)) ((go_at_call 45; refine (getUint_any (k - 3) _ _ _ a _ (by exact SG.out) (by exact HY.out) (by exact (EN1.out.drewN 1).errs)).mono ?_; rintro e w2 ⟨hb0, hg⟩; rw [hd] at hg; obtain rfl : e = _ := hg))
  have hb : Below w1.heap.size w1 w2 := ⟨hb0.os, hb0.tape, hb0.output, hb0.size, hb0.block⟩
  have H2 := hide (H1.out.on hb)
  have EN2 := hide (EN1.out.below (hb.mono (Nat.le_trans H1.out.str.low (Nat.le_of_lt H1.out.str.box.lt))))
  have d3 : w2.cell? ⟨b, 3, none⟩ = some (.int .i64 (k : Int)) := (hb.cell (p := ⟨b, 3, none⟩) (cell_lt c3)).trans c3
  clear H1 SG EN1 c3 hb0 hb
  have c4 := H2.out.str.at_ 4 _ rfl
  have c5 := H2.out.str.at_ 5 _ rfl
  have t4 := H2.out.str.box.thaw 4
  have t5 := H2.out.str.box.thaw 5
  have S3 := H2.out.trans (H2.out.str.put 4 (.int .i64 3) { s1 with part := 3 } rfl rfl H2.out.str.six)
  have S4 := S3.trans (S3.str.put 5 (.int .i64 (n : Int)) { s1 with part := 3, left := n } rfl rfl H2.out.str.six)
  have hnn : (1048576 < (n : Int)) = False := by simp; omega
  go_wp2
  have EN4 := EN2.out.below (((Below.refl _ _).setCell (p := ⟨b, 4, none⟩) H2.out.str.low (.int .i64 3)).setCell (p := ⟨b, 5, none⟩) H2.out.str.low (.int .i64 (n : Int)))
  have hL6 := hide H2.out.str.six
  clear H2 S3
  generalize (w2.setCell ⟨b, 4, none⟩ (.int .i64 3)).setCell ⟨b, 5, none⟩ (.int .i64 (n : Int)) = W4 at *
  have SG2 := hide (S4.str.segHead k k6)
  have S5 := (S4.trans (S4.str.put 13 (nr (upd 0#32 (s1.head.take k))) (s1.long n) (by simp [cellsS, hL6.out, Sm.long, hkk.out]) rfl hL6.out)).drewN 1
  have H5 := hide S5
  have HE4 := hide EN4
  have e3 : W4.cell? ⟨b, 3, none⟩ = some (.int .i64 (k : Int)) := by have := S4.str.at_ 3 _ rfl; rw [show ({ s1 with part := 3, left := n } : Sm).held = k from hkk.out] at this; exact this
  have e13 : W4.cell? ⟨b, 13, none⟩ = some (nr s1.sum) := S4.str.c13
  have f13 : W4.frozen? ⟨b, 13, none⟩ = false := S4.str.box.thaw 13
  clear S4 S5 EN4 EN2
  obtain ⟨u, hu⟩ : ∃ u, Hid (upd 0#32 (s1.head.take k) = u) := ⟨_, rfl⟩
  rw [hu.out] at H5
  simp only [nr] at e13 H5
  generalize s1.sum.toNat = u1 at *
  have hsf := slice_first b k k6
  go_region_held3 (fun w' => w'.cell? ⟨b, 3, none⟩ = some (.int .i64 (k : Int))) (first | exact e3 | exact (World.cell?_setCell_other W4 _ _ _ (by simp)).trans e3 | go_keep) ((go_at_call 31; refine (sum_any _ k _ _ _ (by exact SG2.out) (by exact HY2.out) (by exact HE4.out.hal)).mono ?_; rintro e w4 ⟨rfl, rfl⟩; rw [hu.out]; simp only [nr]))
  all_goals go_wp2
  all_goals go_end0
  all_goals exact ⟨rfl, _, H5.out⟩

/-- takeLength. -/
theorem takeLength_any (w : World) (b : Nat) (s : Sm) (pv : Value) (E0 : Nat) (x : Int) (a : Nat → Addr) (h : Str w b s pv E0) (h1 : 3 ≤ s.held) (h2 : s.held < 6) (hy : Byt ((s.keep x).head.take (s.held + 1))) (en : Env w a E0) :
    Calls Tryd.prog 34 #[.pointer (some ⟨b, 0, none⟩), .int .u8 x] w fun r w' => r = .returned (.tuple #[]) ∧ ∃ pv', Stp w w' b (s.tLength x) pv pv' E0 := by
  have hy3 := byt_drop hy 3
  have hk : (s.keep x).held = s.held + 1 := rfl
  unfold Sm.tLength
  cases hd : dec (((s.keep x).head.take (s.held + 1)).drop 3) with
  | ok p =>
    obtain ⟨n, m⟩ := p
    simp only [Sm.tLength']
    by_cases hn : 1048576 < n
    · rw [if_pos hn]; exact takeLength_big w b s pv E0 x a h h1 h2 hy3 hy en n m hd hn
    · rw [if_neg hn]; exact takeLength_ok w b s pv E0 x a h h1 h2 hy3 hy en n m hd hn
  | error i =>
    have hi := dec_err hd
    rcases (by omega : i = 0 ∨ i = 1 ∨ i = 2) with rfl | rfl | rfl
    · simp only [Sm.tLength', hk]
      by_cases h6 : s.held + 1 = 6
      · rw [if_pos h6]; exact takeLength_large w b s pv E0 x a h h1 h2 hy3 hy en hd h6
      · rw [if_neg h6]; exact takeLength_more w b s pv E0 x a h h1 h2 hy3 hy en hd h6
    · exact takeLength_wide w b s pv E0 x a h h1 h2 hy3 hy en hd
    · exact takeLength_form w b s pv E0 x a h h1 h2 hy3 hy en hd
end Go.Proofs.YtiajkdjljilndaaDoor
