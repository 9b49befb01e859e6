/- Texts of the proof, joined. -/
import Derived.Test.YtnjihfbghaefoaaGreatDoorJ40
import Derived.Maps.AppendAt
/- The statements' play of a log: num, size, open. -/
namespace Go.Proofs.YtnjihfbghaefoaaGreatDoor
open Go.RowKit Go.Wire1 Go.MuLone

set_option maxHeartbeats 8000000 in
set_option maxRecDepth 100000 in
theorem num10_any (e : Int) (w : World) :
    Calls Tryz.prog 13 #[.int .i64 e] w fun e' w' => e' = .returned (.int .i64 e) ∧ w = w' := by
  go_enter Tryz.func13, Tryz.ntmps13
  go_wp2
  go_ret
  exact ⟨rfl, rfl⟩
set_option maxHeartbeats 8000000 in
set_option maxRecDepth 100000 in
theorem psize_any (w : World) (pb b : Nat) (pv : Value) (l : List Int) (m E0 : Nat) (c2 : w.cell? ⟨pb, 2, none⟩ = some (.pointer (some ⟨b, 0, none⟩))) (hd : Dsk 0 w b pv l m E0) :
    Calls Tryz.prog 12 #[.pointer (some ⟨pb, 0, none⟩)] w fun e w' => e = .returned (.int .i64 (l.length : Int)) ∧ Below w.heap.size w w' := by
  have HD := hide hd
  have htp := hd.top
  clear hd
  go_enter Tryz.func12, Tryz.ntmps12
  go_wp2_with fail
  refine (look_any _ b pv l m _ HD.out).mono ?_
  rintro e w1 ⟨v, rfl, ho, hb1⟩
  obtain ⟨va, vc, rfl⟩ := own_shape ho
  have B1 := hide hb1
  clear ho hb1
  go_wp2
  go_ret
  exact ⟨rfl, B1.out⟩

/-- A play in memory. -/
def plL (id n : Int) (d l : Value) (rs fr : Value) (to : Int) : List Value := [.int .i64 id, .int .i64 n, d, l, rs, fr, .int .i64 to]
/-- A play whose log is open: its blocks, and that they are different ones. -/
structure Ply (w : World) (pb b lb : Nat) (id n : Int) (k : Int) (pv rs fr : Value) (l : List Int) (m to E0 : Nat) : Prop where
  box : Blk w pb (plL id n (.pointer (some ⟨b, 0, none⟩)) (.pointer (some ⟨lb, 0, none⟩)) rs fr to)
  log : Blk w lb (lgL b n k)
  d : Dsk 0 w b pv l m E0
  pl : pb ≠ lb
  pd : pb ≠ b ∧ some pb ≠ pv.ownBlock
  ld : lb ≠ b ∧ some lb ≠ pv.ownBlock
  low : E0 ≤ pb ∧ E0 ≤ lb
theorem Ply.later {w w' : World} {pb b lb : Nat} {id n k : Int} {pv rs fr : Value} {l : List Int} {m to E0 : Nat} (h : Ply w pb b lb id n k pv rs fr l m to E0) (hb : Below w.heap.size w w') : Ply w' pb b lb id n k pv rs fr l m to E0 :=
  ⟨h.box.on hb, h.log.on hb, h.d.later hb, h.pl, h.pd, h.ld, h.low⟩
set_option maxHeartbeats 8000000 in
set_option maxRecDepth 100000 in
theorem open_yes (w : World) (pb E0 : Nat) (id n : Int) (hE : E0 ≤ pb) (hp : Blk w pb (plL 0 0 (.pointer none) (.pointer none) (.slice none 0 0) (.slice none 0 0) 0)) (hGE : ∀ W, Below E0 w W → Glb W) (n1 : 1 ≤ n) (n7 : n ≤ 7) (j0 : 0 ≤ id) (j1 : id < n) :
    Calls Tryz.prog 9 #[.pointer (some ⟨pb, 0, none⟩), .int .i64 id, .int .i64 n] w fun e w' => e = .returned (.bool true) ∧ ∃ b lb pv fr, Ply w' pb b lb id n 0 pv (.slice none 0 0) fr (frR (hdR id n)) (frR (hdR id n)).length (frR (hdR id n)).length E0 ∧ Below E0 w w' := by
  obtain ⟨i0, hi, hz0, hz1, hz2⟩ := info_parts Tryz.info3
  have hpl := hide hp.lt
  obtain ⟨FR, hFR⟩ : ∃ FR, FR = frR (hdR id n) := ⟨_, rfl⟩
  rw [← hFR]
  have HFL : Hid (0 < FR.length) := by rw [hFR]; exact (frR_len (hd_zero (n := n) (id := id) (by omega) (by omega) (by omega) (by omega))).1
  have HFR := hide hFR
  clear hFR
  have q1 : ¬ n < 1 := by omega
  have q2 : ¬ 7 < n := by omega
  have q3 : ¬ id < 0 := by omega
  have q4 : ¬ n ≤ id := by omega
  obtain ⟨W1, hW1⟩ : ∃ W1, W1 = (w.setCell ⟨pb, 0, none⟩ (.int .i64 id)).setCell ⟨pb, 1, none⟩ (.int .i64 n) := ⟨_, rfl⟩
  have Z1 : Hid (W1.heap.size = w.heap.size) := by show _ = _; rw [hW1]; simp [World.setCell]
  have P1 : Hid (Blk W1 pb (plL id n (.pointer none) (.pointer none) (.slice none 0 0) (.slice none 0 0) 0)) := by rw [hW1]; exact (hp.setAt 0 _).setAt 1 _
  have T1 : Hid (∀ k, k ≠ pb → W1.heap[k]? = w.heap[k]?) := fun k hk => by rw [hW1, Below.heap_setCell _ _ _ _ (by exact hk), Below.heap_setCell _ _ _ _ (by exact hk)]
  have O1 : Hid (W1.os = w.os ∧ W1.tape = w.tape ∧ W1.output = w.output) := by rw [hW1]; exact ⟨rfl, rfl, rfl⟩
  have BE1 : Hid (Below E0 w W1) := ⟨O1.out.1, O1.out.2.1, O1.out.2.2, by rw [Z1.out]; exact Nat.le_refl _, fun k hk => T1.out k (by omega)⟩
  have GE : Hid (∀ W, Below E0 w W → Glb W) := by
    show ∀ W, _
    intro W hW
    exact hGE W hW
  have c0 := hp.cell 0 _ rfl
  have c1 := hp.cell 1 _ rfl
  have f0 := hp.thaw 0
  have f1 := hp.thaw 1
  have HW1 := hide hW1
  clear hp hW1 hGE
  go_enter Tryz.func9, Tryz.ntmps9
  go_wp2_with fail
  rw [← HW1.out]
  clear c0 c1 f0 f1
  refine (new_any _ E0 (by have := Z1.out; have := hpl.out; omega)).mono ?_
  rintro e w2 ⟨rfl, d2, hb2, hz2⟩
  obtain ⟨b, hb⟩ : ∃ b, b = W1.heap.size := ⟨_, rfl⟩
  rw [← hb] at d2 ⊢
  have hpb : Hid (pb ≠ b) := by have h1 := P1.out.lt; show pb ≠ b; omega
  have P2 := hide (P1.out.on hb2)
  obtain ⟨W3, hW3⟩ : ∃ W3, W3 = w2.setCell ⟨pb, 2, none⟩ (.pointer (some ⟨b, 0, none⟩)) := ⟨_, rfl⟩
  have P3 : Hid (Blk W3 pb (plL id n (.pointer (some ⟨b, 0, none⟩)) (.pointer none) (.slice none 0 0) (.slice none 0 0) 0)) := by rw [hW3]; exact P2.out.setAt 2 _
  have D3 : Hid (Dsk 0 W3 b (.slice none 0 0) [] 0 E0) := d2.on (by rw [hW3]; exact Below.heap_setCell _ _ _ _ (fun e => hpb.out e.symm)) (fun k hk => by cases hk)
  have BE3 : Hid (Below E0 w W3) := by
    have h1 : Below E0 w w2 := BE1.out.trans (hb2.mono (by have := Z1.out; have := hpl.out; omega))
    refine ⟨?_, ?_, ?_, ?_, fun k hk => ?_⟩
    · rw [hW3]; exact h1.os
    · rw [hW3]; exact h1.tape
    · rw [hW3]; exact h1.output
    · rw [hW3]; have := h1.size; simpa [World.setCell] using this
    · rw [hW3, Below.heap_setCell _ _ _ _ (by show k ≠ pb; omega)]; exact h1.block k hk
  have c2 := P2.out.cell 2 _ rfl
  have f2 := P2.out.thaw 2
  have HW3 := hide hW3
  have zb : Hid (b < W3.heap.size ∧ w.heap.size ≤ b) := ⟨D3.out.box.lt, by have := Z1.out; omega⟩
  clear d2 hb2 hz2 hW3 hb
  go_wp2_with fail
  rw [← HW3.out]
  clear c2 f2
  refine (create_new _ b _ 0 E0 id n D3.out (GE.out _ BE3.out) (by omega) (by omega) (by omega) (by omega)).mono ?_
  rintro e w4 ⟨lb, pv, rfl, hlb, lg4, k4, hpl4⟩
  have P4 : Hid (Blk w4 pb (plL id n (.pointer (some ⟨b, 0, none⟩)) (.pointer none) (.slice none 0 0) (.slice none 0 0) 0)) := P3.out.of_block (k4.tch.block pb P3.out.lt hpb.out (fun e => by cases e))
  have hpl5 : Hid (pb ≠ lb) := by have := P3.out.lt; show pb ≠ lb; omega
  have hbl : Hid (lb ≠ b) := by have := zb.out; show lb ≠ b; omega
  have hpv : Hid (some pb ≠ pv.ownBlock) := fun e => by
    rcases k4.lat with e2 | e2
    · rw [e2] at e; cases e
    · have := e2 pb e.symm; have := P3.out.lt; omega
  have hlv : Hid (some lb ≠ pv.ownBlock) := fun e => hpl4 e.symm
  have BE4 := hide (BE3.out.trans (k4.below D3.out))
  obtain ⟨W5, hW5⟩ : ∃ W5, W5 = w4.setCell ⟨pb, 3, none⟩ (.pointer (some ⟨lb, 0, none⟩)) := ⟨_, rfl⟩
  have P5 : Hid (Blk W5 pb (plL id n (.pointer (some ⟨b, 0, none⟩)) (.pointer (some ⟨lb, 0, none⟩)) (.slice none 0 0) (.slice none 0 0) 0)) := by rw [hW5]; exact P4.out.setAt 3 _
  have T5 : Hid (∀ k, k ≠ pb → W5.heap[k]? = w4.heap[k]?) := fun k hk => by rw [hW5, Below.heap_setCell _ _ _ _ (by exact hk)]
  rw [← HFR.out] at k4
  have D5 : Hid (Dsk 0 W5 b pv FR FR.length E0) := k4.dsk.on (T5.out b (fun e => hpb.out e.symm)) (fun k hk => T5.out k (fun e => hpv.out (by rw [← e]; exact hk.symm)))
  have L5 : Hid (Blk W5 lb (lgL b n 0)) := lg4.of_block (T5.out lb (fun e => hpl5.out e.symm))
  have BE5 : Hid (Below E0 w W5) := by
    refine ⟨?_, ?_, ?_, ?_, fun k hk => ?_⟩
    · rw [hW5]; exact BE4.out.os
    · rw [hW5]; exact BE4.out.tape
    · rw [hW5]; exact BE4.out.output
    · rw [hW5]; have := BE4.out.size; simpa [World.setCell] using this
    · rw [T5.out k (by omega)]; exact BE4.out.block k hk
  have Z5 : Hid (W5.heap.size = w4.heap.size) := by show _ = _; rw [hW5]; simp [World.setCell]
  have c3 := P4.out.cell 3 _ rfl
  have f3 := P4.out.thaw 3
  have c5 := P4.out.cell 5 _ rfl
  have HW5 := hide hW5
  have hElb : Hid (E0 ≤ lb) := by have := P3.out.lt; show E0 ≤ lb; omega
  have hflt := D5.out.top
  clear lg4 k4 hpl4 hlb hW5
  have NIL : Hid (W5.ownsRow E0 3 1 (.slice none 0 0) 0 []) := World.ownsRow_nil _ _ _ _
  have HE5 : Hid (E0 ≤ W5.heap.size) := by have := P5.out.lt; show E0 ≤ _; omega
  go_wp2_with (first
    | (go_at_call 13; refine (num10_any _ _).mono ?_; rintro e w' ⟨rfl, rfl⟩)
    | (at_builtin; rw [← HW5.out]; refine wpList_append_own _ rfl _ _ 28 rfl E0 3 i0 (.int .i64 0) 1 8 Tryz.underlying28 hi hz0 hz1 hz2 rfl (by decide) _ _ _ rfl (NIL.out.alloc _) ⟨w4.heap.size, 0, none⟩ 1 1 [.int .i64 0] rfl rfl ?c1 ?c2 ?c3 ?c4 ?c5 ?_))
  case c1 =>
    intro j u hj
    match j, hj with
    | 0, hj =>
      simp at hj; subst hj
      have := (blk_new W5 3 [.int .i64 0]).cell 0 _ rfl
      rw [Z5.out] at this
      simpa [Addr.add] using this
  case c2 => intro u hu; simp at hu; subst hu; rfl
  case c3 => unfold maxLen; omega
  case c4 => simp
  case c5 => have := HE5.out; simp; omega
  intro v6 w6 ho6 hg6 _
  have B56 : Hid (Below W5.heap.size W5 w6) := by
    have h := (World.grownBy_alloc W5 (.cells #[.int .i64 0] 3) none).trans hg6
    exact ⟨h.os, h.tape, h.output, h.size, fun k hk => h.block k hk (fun e => by cases e)⟩
  obtain ⟨va, vc, rfl⟩ := own_shape ho6
  have P6 := hide (P5.out.on B56.out)
  have L6 := hide (L5.out.on B56.out)
  have D6 := hide (D5.out.later B56.out)
  have BE6 := hide (BE5.out.trans (B56.out.mono HE5.out))
  clear ho6 hg6 c3 f3 c5 P4 BE4
  obtain ⟨fv, hfv⟩ : ∃ fv, fv = Value.slice va (0 + 1) vc := ⟨_, rfl⟩
  obtain ⟨W7, hW7⟩ : ∃ W7, W7 = w6.setCell ⟨pb, 5, none⟩ fv := ⟨_, rfl⟩
  have P7 : Hid (Blk W7 pb (plL id n (.pointer (some ⟨b, 0, none⟩)) (.pointer (some ⟨lb, 0, none⟩)) (.slice none 0 0) fv 0)) := by rw [hW7]; exact P6.out.setAt 5 _
  have T7 : Hid (∀ k, k ≠ pb → W7.heap[k]? = w6.heap[k]?) := fun k hk => by rw [hW7, Below.heap_setCell _ _ _ _ (by exact hk)]
  have D7 : Hid (Dsk 0 W7 b pv FR FR.length E0) := D6.out.on (T7.out b (fun e => hpb.out e.symm)) (fun k hk => T7.out k (fun e => hpv.out (by rw [← e]; exact hk.symm)))
  have L7 : Hid (Blk W7 lb (lgL b n 0)) := L6.out.of_block (T7.out lb (fun e => hpl5.out e.symm))
  have BE7 : Hid (Below E0 w W7) := by
    refine ⟨?_, ?_, ?_, ?_, fun k hk => ?_⟩
    · rw [hW7]; exact BE6.out.os
    · rw [hW7]; exact BE6.out.tape
    · rw [hW7]; exact BE6.out.output
    · rw [hW7]; have := BE6.out.size; simpa [World.setCell] using this
    · rw [T7.out k (by omega)]; exact BE6.out.block k hk
  have c65 := P6.out.cell 5 _ rfl
  have f65 := P6.out.thaw 5
  have c72 := P7.out.cell 2 _ rfl
  have HFV := hide hfv
  have HW7 := hide hW7
  clear hfv hW7
  go_wp2_with fail
  simp only [← HFV.out]
  rw [← HW7.out]
  clear c65 f65
  refine (psize_any _ pb b pv FR FR.length E0 c72 D7.out).mono ?_
  rintro e w8 ⟨rfl, hb8⟩
  have P8 := hide (P7.out.on hb8)
  have L8 := hide (L7.out.on hb8)
  have D8 := hide (D7.out.later hb8)
  have BE8 := hide (BE7.out.trans (hb8.mono (by have := P7.out.lt; omega)))
  obtain ⟨W9, hW9⟩ : ∃ W9, W9 = w8.setCell ⟨pb, 6, none⟩ (.int .i64 (FR.length : Int)) := ⟨_, rfl⟩
  have P9 : Hid (Blk W9 pb (plL id n (.pointer (some ⟨b, 0, none⟩)) (.pointer (some ⟨lb, 0, none⟩)) (.slice none 0 0) fv FR.length)) := by rw [hW9]; exact P8.out.setAt 6 _
  have T9 : Hid (∀ k, k ≠ pb → W9.heap[k]? = w8.heap[k]?) := fun k hk => by rw [hW9, Below.heap_setCell _ _ _ _ (by exact hk)]
  have D9 : Hid (Dsk 0 W9 b pv FR FR.length E0) := D8.out.on (T9.out b (fun e => hpb.out e.symm)) (fun k hk => T9.out k (fun e => hpv.out (by rw [← e]; exact hk.symm)))
  have L9 : Hid (Blk W9 lb (lgL b n 0)) := L8.out.of_block (T9.out lb (fun e => hpl5.out e.symm))
  have BE9 : Hid (Below E0 w W9) := by
    refine ⟨?_, ?_, ?_, ?_, fun k hk => ?_⟩
    · rw [hW9]; exact BE8.out.os
    · rw [hW9]; exact BE8.out.tape
    · rw [hW9]; exact BE8.out.output
    · rw [hW9]; have := BE8.out.size; simpa [World.setCell] using this
    · rw [T9.out k (by omega)]; exact BE8.out.block k hk
  have c86 := P8.out.cell 6 _ rfl
  have f86 := P8.out.thaw 6
  have c82 := P8.out.cell 2 _ rfl
  have HW9 := hide hW9
  clear hW9 hb8 c72
  go_wp2_with fail
  rw [← HW9.out]
  clear c86 f86 c82
  refine (look_any _ b pv FR FR.length _ D9.out).mono ?_
  rintro e w10 ⟨v10, rfl, ho10, hb10⟩
  obtain ⟨vd, ve, rfl⟩ := own_shape ho10
  have PL : Hid (Ply w10 pb b lb id n 0 pv (.slice none 0 0) fv FR FR.length FR.length E0) := Ply.later ⟨P9.out, L9.out, D9.out, hpl5.out, ⟨hpb.out, hpv.out⟩, ⟨hbl.out, hlv.out⟩, ⟨hE, hElb.out⟩⟩ hb10
  have BE10 := hide (BE9.out.trans (hb10.mono (by have := P9.out.lt; omega)))
  have c106 := PL.out.box.cell 6 _ rfl
  obtain ⟨fn, hfn⟩ : ∃ fn, FR.length = fn := ⟨_, rfl⟩
  have HFN := hide hfn
  have q9 : (0 : Int) < (fn : Int) := by have := HFL.out; omega
  rw [hfn] at c106 hflt ⊢
  clear ho10 hb10 hfn
  go_wp2
  go_ret
  exact ⟨rfl, b, lb, pv, fv, PL.out, BE10.out⟩

set_option maxHeartbeats 8000000 in
set_option maxRecDepth 100000 in
theorem open_a (w : World) (pb E0 : Nat) (id n : Int) (hE : E0 ≤ pb) (hp : Blk w pb (plL 0 0 (.pointer none) (.pointer none) (.slice none 0 0) (.slice none 0 0) 0)) (hGE : ∀ W, Below E0 w W → Glb W) (q1 : n < 1) :
    Calls Tryz.prog 9 #[.pointer (some ⟨pb, 0, none⟩), .int .i64 id, .int .i64 n] w fun e w' => e = .returned (.bool true) ∧ ∃ b lb pv fr, Ply w' pb b lb 1 3 0 pv (.slice none 0 0) fr (frR (hdR 1 3)) (frR (hdR 1 3)).length (frR (hdR 1 3)).length E0 ∧ Below E0 w w' := by
  obtain ⟨i0, hi, hz0, hz1, hz2⟩ := info_parts Tryz.info3
  have hpl := hide hp.lt
  obtain ⟨FR, hFR⟩ : ∃ FR, FR = frR (hdR 1 3) := ⟨_, rfl⟩
  rw [← hFR]
  have HFL : Hid (0 < FR.length) := by rw [hFR]; exact (frR_len (hd_zero (n := 3) (id := 1) (by omega) (by omega) (by omega) (by omega))).1
  have HFR := hide hFR
  clear hFR
  obtain ⟨W1, hW1⟩ : ∃ W1, W1 = (w.setCell ⟨pb, 0, none⟩ (.int .i64 1)).setCell ⟨pb, 1, none⟩ (.int .i64 3) := ⟨_, rfl⟩
  have Z1 : Hid (W1.heap.size = w.heap.size) := by show _ = _; rw [hW1]; simp [World.setCell]
  have P1 : Hid (Blk W1 pb (plL 1 3 (.pointer none) (.pointer none) (.slice none 0 0) (.slice none 0 0) 0)) := by rw [hW1]; exact (hp.setAt 0 _).setAt 1 _
  have T1 : Hid (∀ k, k ≠ pb → W1.heap[k]? = w.heap[k]?) := fun k hk => by rw [hW1, Below.heap_setCell _ _ _ _ (by exact hk), Below.heap_setCell _ _ _ _ (by exact hk)]
  have O1 : Hid (W1.os = w.os ∧ W1.tape = w.tape ∧ W1.output = w.output) := by rw [hW1]; exact ⟨rfl, rfl, rfl⟩
  have BE1 : Hid (Below E0 w W1) := ⟨O1.out.1, O1.out.2.1, O1.out.2.2, by rw [Z1.out]; exact Nat.le_refl _, fun k hk => T1.out k (by omega)⟩
  have GE : Hid (∀ W, Below E0 w W → Glb W) := by
    show ∀ W, _
    intro W hW
    exact hGE W hW
  have c0 := hp.cell 0 _ rfl
  have c1 := hp.cell 1 _ rfl
  have f0 := hp.thaw 0
  have f1 := hp.thaw 1
  have HW1 := hide hW1
  clear hp hW1 hGE
  go_enter Tryz.func9, Tryz.ntmps9
  go_wp2_with fail
  rw [← HW1.out]
  clear c0 c1 f0 f1
  refine (new_any _ E0 (by have := Z1.out; have := hpl.out; omega)).mono ?_
  rintro e w2 ⟨rfl, d2, hb2, hz2⟩
  obtain ⟨b, hb⟩ : ∃ b, b = W1.heap.size := ⟨_, rfl⟩
  rw [← hb] at d2 ⊢
  have hpb : Hid (pb ≠ b) := by have h1 := P1.out.lt; show pb ≠ b; omega
  have P2 := hide (P1.out.on hb2)
  obtain ⟨W3, hW3⟩ : ∃ W3, W3 = w2.setCell ⟨pb, 2, none⟩ (.pointer (some ⟨b, 0, none⟩)) := ⟨_, rfl⟩
  have P3 : Hid (Blk W3 pb (plL 1 3 (.pointer (some ⟨b, 0, none⟩)) (.pointer none) (.slice none 0 0) (.slice none 0 0) 0)) := by rw [hW3]; exact P2.out.setAt 2 _
  have D3 : Hid (Dsk 0 W3 b (.slice none 0 0) [] 0 E0) := d2.on (by rw [hW3]; exact Below.heap_setCell _ _ _ _ (fun e => hpb.out e.symm)) (fun k hk => by cases hk)
  have BE3 : Hid (Below E0 w W3) := by
    have h1 : Below E0 w w2 := BE1.out.trans (hb2.mono (by have := Z1.out; have := hpl.out; omega))
    refine ⟨?_, ?_, ?_, ?_, fun k hk => ?_⟩
    · rw [hW3]; exact h1.os
    · rw [hW3]; exact h1.tape
    · rw [hW3]; exact h1.output
    · rw [hW3]; have := h1.size; simpa [World.setCell] using this
    · rw [hW3, Below.heap_setCell _ _ _ _ (by show k ≠ pb; omega)]; exact h1.block k hk
  have c2 := P2.out.cell 2 _ rfl
  have f2 := P2.out.thaw 2
  have HW3 := hide hW3
  have zb : Hid (b < W3.heap.size ∧ w.heap.size ≤ b) := ⟨D3.out.box.lt, by have := Z1.out; omega⟩
  clear d2 hb2 hz2 hW3 hb
  go_wp2_with fail
  rw [← HW3.out]
  clear c2 f2
  refine (create_new _ b _ 0 E0 1 3 D3.out (GE.out _ BE3.out) (by omega) (by omega) (by omega) (by omega)).mono ?_
  rintro e w4 ⟨lb, pv, rfl, hlb, lg4, k4, hpl4⟩
  have P4 : Hid (Blk w4 pb (plL 1 3 (.pointer (some ⟨b, 0, none⟩)) (.pointer none) (.slice none 0 0) (.slice none 0 0) 0)) := P3.out.of_block (k4.tch.block pb P3.out.lt hpb.out (fun e => by cases e))
  have hpl5 : Hid (pb ≠ lb) := by have := P3.out.lt; show pb ≠ lb; omega
  have hbl : Hid (lb ≠ b) := by have := zb.out; show lb ≠ b; omega
  have hpv : Hid (some pb ≠ pv.ownBlock) := fun e => by
    rcases k4.lat with e2 | e2
    · rw [e2] at e; cases e
    · have := e2 pb e.symm; have := P3.out.lt; omega
  have hlv : Hid (some lb ≠ pv.ownBlock) := fun e => hpl4 e.symm
  have BE4 := hide (BE3.out.trans (k4.below D3.out))
  obtain ⟨W5, hW5⟩ : ∃ W5, W5 = w4.setCell ⟨pb, 3, none⟩ (.pointer (some ⟨lb, 0, none⟩)) := ⟨_, rfl⟩
  have P5 : Hid (Blk W5 pb (plL 1 3 (.pointer (some ⟨b, 0, none⟩)) (.pointer (some ⟨lb, 0, none⟩)) (.slice none 0 0) (.slice none 0 0) 0)) := by rw [hW5]; exact P4.out.setAt 3 _
  have T5 : Hid (∀ k, k ≠ pb → W5.heap[k]? = w4.heap[k]?) := fun k hk => by rw [hW5, Below.heap_setCell _ _ _ _ (by exact hk)]
  rw [← HFR.out] at k4
  have D5 : Hid (Dsk 0 W5 b pv FR FR.length E0) := k4.dsk.on (T5.out b (fun e => hpb.out e.symm)) (fun k hk => T5.out k (fun e => hpv.out (by rw [← e]; exact hk.symm)))
  have L5 : Hid (Blk W5 lb (lgL b 3 0)) := lg4.of_block (T5.out lb (fun e => hpl5.out e.symm))
  have BE5 : Hid (Below E0 w W5) := by
    refine ⟨?_, ?_, ?_, ?_, fun k hk => ?_⟩
    · rw [hW5]; exact BE4.out.os
    · rw [hW5]; exact BE4.out.tape
    · rw [hW5]; exact BE4.out.output
    · rw [hW5]; have := BE4.out.size; simpa [World.setCell] using this
    · rw [T5.out k (by omega)]; exact BE4.out.block k hk
  have Z5 : Hid (W5.heap.size = w4.heap.size) := by show _ = _; rw [hW5]; simp [World.setCell]
  have c3 := P4.out.cell 3 _ rfl
  have f3 := P4.out.thaw 3
  have c5 := P4.out.cell 5 _ rfl
  have HW5 := hide hW5
  have hElb : Hid (E0 ≤ lb) := by have := P3.out.lt; show E0 ≤ lb; omega
  have hflt := D5.out.top
  clear lg4 k4 hpl4 hlb hW5
  have NIL : Hid (W5.ownsRow E0 3 1 (.slice none 0 0) 0 []) := World.ownsRow_nil _ _ _ _
  have HE5 : Hid (E0 ≤ W5.heap.size) := by have := P5.out.lt; show E0 ≤ _; omega
  go_wp2_with (first
    | (go_at_call 13; refine (num10_any _ _).mono ?_; rintro e w' ⟨rfl, rfl⟩)
    | (at_builtin; rw [← HW5.out]; refine wpList_append_own _ rfl _ _ 28 rfl E0 3 i0 (.int .i64 0) 1 8 Tryz.underlying28 hi hz0 hz1 hz2 rfl (by decide) _ _ _ rfl (NIL.out.alloc _) ⟨w4.heap.size, 0, none⟩ 1 1 [.int .i64 0] rfl rfl ?c1 ?c2 ?c3 ?c4 ?c5 ?_))
  case c1 =>
    intro j u hj
    match j, hj with
    | 0, hj =>
      simp at hj; subst hj
      have := (blk_new W5 3 [.int .i64 0]).cell 0 _ rfl
      rw [Z5.out] at this
      simpa [Addr.add] using this
  case c2 => intro u hu; simp at hu; subst hu; rfl
  case c3 => unfold maxLen; omega
  case c4 => simp
  case c5 => have := HE5.out; simp; omega
  intro v6 w6 ho6 hg6 _
  have B56 : Hid (Below W5.heap.size W5 w6) := by
    have h := (World.grownBy_alloc W5 (.cells #[.int .i64 0] 3) none).trans hg6
    exact ⟨h.os, h.tape, h.output, h.size, fun k hk => h.block k hk (fun e => by cases e)⟩
  obtain ⟨va, vc, rfl⟩ := own_shape ho6
  have P6 := hide (P5.out.on B56.out)
  have L6 := hide (L5.out.on B56.out)
  have D6 := hide (D5.out.later B56.out)
  have BE6 := hide (BE5.out.trans (B56.out.mono HE5.out))
  clear ho6 hg6 c3 f3 c5 P4 BE4
  obtain ⟨fv, hfv⟩ : ∃ fv, fv = Value.slice va (0 + 1) vc := ⟨_, rfl⟩
  obtain ⟨W7, hW7⟩ : ∃ W7, W7 = w6.setCell ⟨pb, 5, none⟩ fv := ⟨_, rfl⟩
  have P7 : Hid (Blk W7 pb (plL 1 3 (.pointer (some ⟨b, 0, none⟩)) (.pointer (some ⟨lb, 0, none⟩)) (.slice none 0 0) fv 0)) := by rw [hW7]; exact P6.out.setAt 5 _
  have T7 : Hid (∀ k, k ≠ pb → W7.heap[k]? = w6.heap[k]?) := fun k hk => by rw [hW7, Below.heap_setCell _ _ _ _ (by exact hk)]
  have D7 : Hid (Dsk 0 W7 b pv FR FR.length E0) := D6.out.on (T7.out b (fun e => hpb.out e.symm)) (fun k hk => T7.out k (fun e => hpv.out (by rw [← e]; exact hk.symm)))
  have L7 : Hid (Blk W7 lb (lgL b 3 0)) := L6.out.of_block (T7.out lb (fun e => hpl5.out e.symm))
  have BE7 : Hid (Below E0 w W7) := by
    refine ⟨?_, ?_, ?_, ?_, fun k hk => ?_⟩
    · rw [hW7]; exact BE6.out.os
    · rw [hW7]; exact BE6.out.tape
    · rw [hW7]; exact BE6.out.output
    · rw [hW7]; have := BE6.out.size; simpa [World.setCell] using this
    · rw [T7.out k (by omega)]; exact BE6.out.block k hk
  have c65 := P6.out.cell 5 _ rfl
  have f65 := P6.out.thaw 5
  have c72 := P7.out.cell 2 _ rfl
  have HFV := hide hfv
  have HW7 := hide hW7
  clear hfv hW7
  go_wp2_with fail
  simp only [← HFV.out]
  rw [← HW7.out]
  clear c65 f65
  refine (psize_any _ pb b pv FR FR.length E0 c72 D7.out).mono ?_
  rintro e w8 ⟨rfl, hb8⟩
  have P8 := hide (P7.out.on hb8)
  have L8 := hide (L7.out.on hb8)
  have D8 := hide (D7.out.later hb8)
  have BE8 := hide (BE7.out.trans (hb8.mono (by have := P7.out.lt; omega)))
  obtain ⟨W9, hW9⟩ : ∃ W9, W9 = w8.setCell ⟨pb, 6, none⟩ (.int .i64 (FR.length : Int)) := ⟨_, rfl⟩
  have P9 : Hid (Blk W9 pb (plL 1 3 (.pointer (some ⟨b, 0, none⟩)) (.pointer (some ⟨lb, 0, none⟩)) (.slice none 0 0) fv FR.length)) := by rw [hW9]; exact P8.out.setAt 6 _
  have T9 : Hid (∀ k, k ≠ pb → W9.heap[k]? = w8.heap[k]?) := fun k hk => by rw [hW9, Below.heap_setCell _ _ _ _ (by exact hk)]
  have D9 : Hid (Dsk 0 W9 b pv FR FR.length E0) := D8.out.on (T9.out b (fun e => hpb.out e.symm)) (fun k hk => T9.out k (fun e => hpv.out (by rw [← e]; exact hk.symm)))
  have L9 : Hid (Blk W9 lb (lgL b 3 0)) := L8.out.of_block (T9.out lb (fun e => hpl5.out e.symm))
  have BE9 : Hid (Below E0 w W9) := by
    refine ⟨?_, ?_, ?_, ?_, fun k hk => ?_⟩
    · rw [hW9]; exact BE8.out.os
    · rw [hW9]; exact BE8.out.tape
    · rw [hW9]; exact BE8.out.output
    · rw [hW9]; have := BE8.out.size; simpa [World.setCell] using this
    · rw [T9.out k (by omega)]; exact BE8.out.block k hk
  have c86 := P8.out.cell 6 _ rfl
  have f86 := P8.out.thaw 6
  have c82 := P8.out.cell 2 _ rfl
  have HW9 := hide hW9
  clear hW9 hb8 c72
  go_wp2_with fail
  rw [← HW9.out]
  clear c86 f86 c82
  refine (look_any _ b pv FR FR.length _ D9.out).mono ?_
  rintro e w10 ⟨v10, rfl, ho10, hb10⟩
  obtain ⟨vd, ve, rfl⟩ := own_shape ho10
  have PL : Hid (Ply w10 pb b lb 1 3 0 pv (.slice none 0 0) fv FR FR.length FR.length E0) := Ply.later ⟨P9.out, L9.out, D9.out, hpl5.out, ⟨hpb.out, hpv.out⟩, ⟨hbl.out, hlv.out⟩, ⟨hE, hElb.out⟩⟩ hb10
  have BE10 := hide (BE9.out.trans (hb10.mono (by have := P9.out.lt; omega)))
  have c106 := PL.out.box.cell 6 _ rfl
  obtain ⟨fn, hfn⟩ : ∃ fn, FR.length = fn := ⟨_, rfl⟩
  have HFN := hide hfn
  have q9 : (0 : Int) < (fn : Int) := by have := HFL.out; omega
  rw [hfn] at c106 hflt ⊢
  clear ho10 hb10 hfn
  go_wp2
  go_ret
  exact ⟨rfl, b, lb, pv, fv, PL.out, BE10.out⟩

set_option maxHeartbeats 8000000 in
set_option maxRecDepth 100000 in
theorem open_b (w : World) (pb E0 : Nat) (id n : Int) (hE : E0 ≤ pb) (hp : Blk w pb (plL 0 0 (.pointer none) (.pointer none) (.slice none 0 0) (.slice none 0 0) 0)) (hGE : ∀ W, Below E0 w W → Glb W) (q1 : ¬ n < 1) (q2 : 7 < n) :
    Calls Tryz.prog 9 #[.pointer (some ⟨pb, 0, none⟩), .int .i64 id, .int .i64 n] w fun e w' => e = .returned (.bool true) ∧ ∃ b lb pv fr, Ply w' pb b lb 1 3 0 pv (.slice none 0 0) fr (frR (hdR 1 3)) (frR (hdR 1 3)).length (frR (hdR 1 3)).length E0 ∧ Below E0 w w' := by
  obtain ⟨i0, hi, hz0, hz1, hz2⟩ := info_parts Tryz.info3
  have hpl := hide hp.lt
  obtain ⟨FR, hFR⟩ : ∃ FR, FR = frR (hdR 1 3) := ⟨_, rfl⟩
  rw [← hFR]
  have HFL : Hid (0 < FR.length) := by rw [hFR]; exact (frR_len (hd_zero (n := 3) (id := 1) (by omega) (by omega) (by omega) (by omega))).1
  have HFR := hide hFR
  clear hFR
  obtain ⟨W1, hW1⟩ : ∃ W1, W1 = (w.setCell ⟨pb, 0, none⟩ (.int .i64 1)).setCell ⟨pb, 1, none⟩ (.int .i64 3) := ⟨_, rfl⟩
  have Z1 : Hid (W1.heap.size = w.heap.size) := by show _ = _; rw [hW1]; simp [World.setCell]
  have P1 : Hid (Blk W1 pb (plL 1 3 (.pointer none) (.pointer none) (.slice none 0 0) (.slice none 0 0) 0)) := by rw [hW1]; exact (hp.setAt 0 _).setAt 1 _
  have T1 : Hid (∀ k, k ≠ pb → W1.heap[k]? = w.heap[k]?) := fun k hk => by rw [hW1, Below.heap_setCell _ _ _ _ (by exact hk), Below.heap_setCell _ _ _ _ (by exact hk)]
  have O1 : Hid (W1.os = w.os ∧ W1.tape = w.tape ∧ W1.output = w.output) := by rw [hW1]; exact ⟨rfl, rfl, rfl⟩
  have BE1 : Hid (Below E0 w W1) := ⟨O1.out.1, O1.out.2.1, O1.out.2.2, by rw [Z1.out]; exact Nat.le_refl _, fun k hk => T1.out k (by omega)⟩
  have GE : Hid (∀ W, Below E0 w W → Glb W) := by
    show ∀ W, _
    intro W hW
    exact hGE W hW
  have c0 := hp.cell 0 _ rfl
  have c1 := hp.cell 1 _ rfl
  have f0 := hp.thaw 0
  have f1 := hp.thaw 1
  have HW1 := hide hW1
  clear hp hW1 hGE
  go_enter Tryz.func9, Tryz.ntmps9
  go_wp2_with fail
  rw [← HW1.out]
  clear c0 c1 f0 f1
  refine (new_any _ E0 (by have := Z1.out; have := hpl.out; omega)).mono ?_
  rintro e w2 ⟨rfl, d2, hb2, hz2⟩
  obtain ⟨b, hb⟩ : ∃ b, b = W1.heap.size := ⟨_, rfl⟩
  rw [← hb] at d2 ⊢
  have hpb : Hid (pb ≠ b) := by have h1 := P1.out.lt; show pb ≠ b; omega
  have P2 := hide (P1.out.on hb2)
  obtain ⟨W3, hW3⟩ : ∃ W3, W3 = w2.setCell ⟨pb, 2, none⟩ (.pointer (some ⟨b, 0, none⟩)) := ⟨_, rfl⟩
  have P3 : Hid (Blk W3 pb (plL 1 3 (.pointer (some ⟨b, 0, none⟩)) (.pointer none) (.slice none 0 0) (.slice none 0 0) 0)) := by rw [hW3]; exact P2.out.setAt 2 _
  have D3 : Hid (Dsk 0 W3 b (.slice none 0 0) [] 0 E0) := d2.on (by rw [hW3]; exact Below.heap_setCell _ _ _ _ (fun e => hpb.out e.symm)) (fun k hk => by cases hk)
  have BE3 : Hid (Below E0 w W3) := by
    have h1 : Below E0 w w2 := BE1.out.trans (hb2.mono (by have := Z1.out; have := hpl.out; omega))
    refine ⟨?_, ?_, ?_, ?_, fun k hk => ?_⟩
    · rw [hW3]; exact h1.os
    · rw [hW3]; exact h1.tape
    · rw [hW3]; exact h1.output
    · rw [hW3]; have := h1.size; simpa [World.setCell] using this
    · rw [hW3, Below.heap_setCell _ _ _ _ (by show k ≠ pb; omega)]; exact h1.block k hk
  have c2 := P2.out.cell 2 _ rfl
  have f2 := P2.out.thaw 2
  have HW3 := hide hW3
  have zb : Hid (b < W3.heap.size ∧ w.heap.size ≤ b) := ⟨D3.out.box.lt, by have := Z1.out; omega⟩
  clear d2 hb2 hz2 hW3 hb
  go_wp2_with fail
  rw [← HW3.out]
  clear c2 f2
  refine (create_new _ b _ 0 E0 1 3 D3.out (GE.out _ BE3.out) (by omega) (by omega) (by omega) (by omega)).mono ?_
  rintro e w4 ⟨lb, pv, rfl, hlb, lg4, k4, hpl4⟩
  have P4 : Hid (Blk w4 pb (plL 1 3 (.pointer (some ⟨b, 0, none⟩)) (.pointer none) (.slice none 0 0) (.slice none 0 0) 0)) := P3.out.of_block (k4.tch.block pb P3.out.lt hpb.out (fun e => by cases e))
  have hpl5 : Hid (pb ≠ lb) := by have := P3.out.lt; show pb ≠ lb; omega
  have hbl : Hid (lb ≠ b) := by have := zb.out; show lb ≠ b; omega
  have hpv : Hid (some pb ≠ pv.ownBlock) := fun e => by
    rcases k4.lat with e2 | e2
    · rw [e2] at e; cases e
    · have := e2 pb e.symm; have := P3.out.lt; omega
  have hlv : Hid (some lb ≠ pv.ownBlock) := fun e => hpl4 e.symm
  have BE4 := hide (BE3.out.trans (k4.below D3.out))
  obtain ⟨W5, hW5⟩ : ∃ W5, W5 = w4.setCell ⟨pb, 3, none⟩ (.pointer (some ⟨lb, 0, none⟩)) := ⟨_, rfl⟩
  have P5 : Hid (Blk W5 pb (plL 1 3 (.pointer (some ⟨b, 0, none⟩)) (.pointer (some ⟨lb, 0, none⟩)) (.slice none 0 0) (.slice none 0 0) 0)) := by rw [hW5]; exact P4.out.setAt 3 _
  have T5 : Hid (∀ k, k ≠ pb → W5.heap[k]? = w4.heap[k]?) := fun k hk => by rw [hW5, Below.heap_setCell _ _ _ _ (by exact hk)]
  rw [← HFR.out] at k4
  have D5 : Hid (Dsk 0 W5 b pv FR FR.length E0) := k4.dsk.on (T5.out b (fun e => hpb.out e.symm)) (fun k hk => T5.out k (fun e => hpv.out (by rw [← e]; exact hk.symm)))
  have L5 : Hid (Blk W5 lb (lgL b 3 0)) := lg4.of_block (T5.out lb (fun e => hpl5.out e.symm))
  have BE5 : Hid (Below E0 w W5) := by
    refine ⟨?_, ?_, ?_, ?_, fun k hk => ?_⟩
    · rw [hW5]; exact BE4.out.os
    · rw [hW5]; exact BE4.out.tape
    · rw [hW5]; exact BE4.out.output
    · rw [hW5]; have := BE4.out.size; simpa [World.setCell] using this
    · rw [T5.out k (by omega)]; exact BE4.out.block k hk
  have Z5 : Hid (W5.heap.size = w4.heap.size) := by show _ = _; rw [hW5]; simp [World.setCell]
  have c3 := P4.out.cell 3 _ rfl
  have f3 := P4.out.thaw 3
  have c5 := P4.out.cell 5 _ rfl
  have HW5 := hide hW5
  have hElb : Hid (E0 ≤ lb) := by have := P3.out.lt; show E0 ≤ lb; omega
  have hflt := D5.out.top
  clear lg4 k4 hpl4 hlb hW5
  have NIL : Hid (W5.ownsRow E0 3 1 (.slice none 0 0) 0 []) := World.ownsRow_nil _ _ _ _
  have HE5 : Hid (E0 ≤ W5.heap.size) := by have := P5.out.lt; show E0 ≤ _; omega
  go_wp2_with (first
    | (go_at_call 13; refine (num10_any _ _).mono ?_; rintro e w' ⟨rfl, rfl⟩)
    | (at_builtin; rw [← HW5.out]; refine wpList_append_own _ rfl _ _ 28 rfl E0 3 i0 (.int .i64 0) 1 8 Tryz.underlying28 hi hz0 hz1 hz2 rfl (by decide) _ _ _ rfl (NIL.out.alloc _) ⟨w4.heap.size, 0, none⟩ 1 1 [.int .i64 0] rfl rfl ?c1 ?c2 ?c3 ?c4 ?c5 ?_))
  case c1 =>
    intro j u hj
    match j, hj with
    | 0, hj =>
      simp at hj; subst hj
      have := (blk_new W5 3 [.int .i64 0]).cell 0 _ rfl
      rw [Z5.out] at this
      simpa [Addr.add] using this
  case c2 => intro u hu; simp at hu; subst hu; rfl
  case c3 => unfold maxLen; omega
  case c4 => simp
  case c5 => have := HE5.out; simp; omega
  intro v6 w6 ho6 hg6 _
  have B56 : Hid (Below W5.heap.size W5 w6) := by
    have h := (World.grownBy_alloc W5 (.cells #[.int .i64 0] 3) none).trans hg6
    exact ⟨h.os, h.tape, h.output, h.size, fun k hk => h.block k hk (fun e => by cases e)⟩
  obtain ⟨va, vc, rfl⟩ := own_shape ho6
  have P6 := hide (P5.out.on B56.out)
  have L6 := hide (L5.out.on B56.out)
  have D6 := hide (D5.out.later B56.out)
  have BE6 := hide (BE5.out.trans (B56.out.mono HE5.out))
  clear ho6 hg6 c3 f3 c5 P4 BE4
  obtain ⟨fv, hfv⟩ : ∃ fv, fv = Value.slice va (0 + 1) vc := ⟨_, rfl⟩
  obtain ⟨W7, hW7⟩ : ∃ W7, W7 = w6.setCell ⟨pb, 5, none⟩ fv := ⟨_, rfl⟩
  have P7 : Hid (Blk W7 pb (plL 1 3 (.pointer (some ⟨b, 0, none⟩)) (.pointer (some ⟨lb, 0, none⟩)) (.slice none 0 0) fv 0)) := by rw [hW7]; exact P6.out.setAt 5 _
  have T7 : Hid (∀ k, k ≠ pb → W7.heap[k]? = w6.heap[k]?) := fun k hk => by rw [hW7, Below.heap_setCell _ _ _ _ (by exact hk)]
  have D7 : Hid (Dsk 0 W7 b pv FR FR.length E0) := D6.out.on (T7.out b (fun e => hpb.out e.symm)) (fun k hk => T7.out k (fun e => hpv.out (by rw [← e]; exact hk.symm)))
  have L7 : Hid (Blk W7 lb (lgL b 3 0)) := L6.out.of_block (T7.out lb (fun e => hpl5.out e.symm))
  have BE7 : Hid (Below E0 w W7) := by
    refine ⟨?_, ?_, ?_, ?_, fun k hk => ?_⟩
    · rw [hW7]; exact BE6.out.os
    · rw [hW7]; exact BE6.out.tape
    · rw [hW7]; exact BE6.out.output
    · rw [hW7]; have := BE6.out.size; simpa [World.setCell] using this
    · rw [T7.out k (by omega)]; exact BE6.out.block k hk
  have c65 := P6.out.cell 5 _ rfl
  have f65 := P6.out.thaw 5
  have c72 := P7.out.cell 2 _ rfl
  have HFV := hide hfv
  have HW7 := hide hW7
  clear hfv hW7
  go_wp2_with fail
  simp only [← HFV.out]
  rw [← HW7.out]
  clear c65 f65
  refine (psize_any _ pb b pv FR FR.length E0 c72 D7.out).mono ?_
  rintro e w8 ⟨rfl, hb8⟩
  have P8 := hide (P7.out.on hb8)
  have L8 := hide (L7.out.on hb8)
  have D8 := hide (D7.out.later hb8)
  have BE8 := hide (BE7.out.trans (hb8.mono (by have := P7.out.lt; omega)))
  obtain ⟨W9, hW9⟩ : ∃ W9, W9 = w8.setCell ⟨pb, 6, none⟩ (.int .i64 (FR.length : Int)) := ⟨_, rfl⟩
  have P9 : Hid (Blk W9 pb (plL 1 3 (.pointer (some ⟨b, 0, none⟩)) (.pointer (some ⟨lb, 0, none⟩)) (.slice none 0 0) fv FR.length)) := by rw [hW9]; exact P8.out.setAt 6 _
  have T9 : Hid (∀ k, k ≠ pb → W9.heap[k]? = w8.heap[k]?) := fun k hk => by rw [hW9, Below.heap_setCell _ _ _ _ (by exact hk)]
  have D9 : Hid (Dsk 0 W9 b pv FR FR.length E0) := D8.out.on (T9.out b (fun e => hpb.out e.symm)) (fun k hk => T9.out k (fun e => hpv.out (by rw [← e]; exact hk.symm)))
  have L9 : Hid (Blk W9 lb (lgL b 3 0)) := L8.out.of_block (T9.out lb (fun e => hpl5.out e.symm))
  have BE9 : Hid (Below E0 w W9) := by
    refine ⟨?_, ?_, ?_, ?_, fun k hk => ?_⟩
    · rw [hW9]; exact BE8.out.os
    · rw [hW9]; exact BE8.out.tape
    · rw [hW9]; exact BE8.out.output
    · rw [hW9]; have := BE8.out.size; simpa [World.setCell] using this
    · rw [T9.out k (by omega)]; exact BE8.out.block k hk
  have c86 := P8.out.cell 6 _ rfl
  have f86 := P8.out.thaw 6
  have c82 := P8.out.cell 2 _ rfl
  have HW9 := hide hW9
  clear hW9 hb8 c72
  go_wp2_with fail
  rw [← HW9.out]
  clear c86 f86 c82
  refine (look_any _ b pv FR FR.length _ D9.out).mono ?_
  rintro e w10 ⟨v10, rfl, ho10, hb10⟩
  obtain ⟨vd, ve, rfl⟩ := own_shape ho10
  have PL : Hid (Ply w10 pb b lb 1 3 0 pv (.slice none 0 0) fv FR FR.length FR.length E0) := Ply.later ⟨P9.out, L9.out, D9.out, hpl5.out, ⟨hpb.out, hpv.out⟩, ⟨hbl.out, hlv.out⟩, ⟨hE, hElb.out⟩⟩ hb10
  have BE10 := hide (BE9.out.trans (hb10.mono (by have := P9.out.lt; omega)))
  have c106 := PL.out.box.cell 6 _ rfl
  obtain ⟨fn, hfn⟩ : ∃ fn, FR.length = fn := ⟨_, rfl⟩
  have HFN := hide hfn
  have q9 : (0 : Int) < (fn : Int) := by have := HFL.out; omega
  rw [hfn] at c106 hflt ⊢
  clear ho10 hb10 hfn
  go_wp2
  go_ret
  exact ⟨rfl, b, lb, pv, fv, PL.out, BE10.out⟩

set_option maxHeartbeats 8000000 in
set_option maxRecDepth 100000 in
theorem open_c (w : World) (pb E0 : Nat) (id n : Int) (hE : E0 ≤ pb) (hp : Blk w pb (plL 0 0 (.pointer none) (.pointer none) (.slice none 0 0) (.slice none 0 0) 0)) (hGE : ∀ W, Below E0 w W → Glb W) (q1 : ¬ n < 1) (q2 : ¬ 7 < n) (q3 : id < 0) :
    Calls Tryz.prog 9 #[.pointer (some ⟨pb, 0, none⟩), .int .i64 id, .int .i64 n] w fun e w' => e = .returned (.bool true) ∧ ∃ b lb pv fr, Ply w' pb b lb 1 3 0 pv (.slice none 0 0) fr (frR (hdR 1 3)) (frR (hdR 1 3)).length (frR (hdR 1 3)).length E0 ∧ Below E0 w w' := by
  obtain ⟨i0, hi, hz0, hz1, hz2⟩ := info_parts Tryz.info3
  have hpl := hide hp.lt
  obtain ⟨FR, hFR⟩ : ∃ FR, FR = frR (hdR 1 3) := ⟨_, rfl⟩
  rw [← hFR]
  have HFL : Hid (0 < FR.length) := by rw [hFR]; exact (frR_len (hd_zero (n := 3) (id := 1) (by omega) (by omega) (by omega) (by omega))).1
  have HFR := hide hFR
  clear hFR
  obtain ⟨W1, hW1⟩ : ∃ W1, W1 = (w.setCell ⟨pb, 0, none⟩ (.int .i64 1)).setCell ⟨pb, 1, none⟩ (.int .i64 3) := ⟨_, rfl⟩
  have Z1 : Hid (W1.heap.size = w.heap.size) := by show _ = _; rw [hW1]; simp [World.setCell]
  have P1 : Hid (Blk W1 pb (plL 1 3 (.pointer none) (.pointer none) (.slice none 0 0) (.slice none 0 0) 0)) := by rw [hW1]; exact (hp.setAt 0 _).setAt 1 _
  have T1 : Hid (∀ k, k ≠ pb → W1.heap[k]? = w.heap[k]?) := fun k hk => by rw [hW1, Below.heap_setCell _ _ _ _ (by exact hk), Below.heap_setCell _ _ _ _ (by exact hk)]
  have O1 : Hid (W1.os = w.os ∧ W1.tape = w.tape ∧ W1.output = w.output) := by rw [hW1]; exact ⟨rfl, rfl, rfl⟩
  have BE1 : Hid (Below E0 w W1) := ⟨O1.out.1, O1.out.2.1, O1.out.2.2, by rw [Z1.out]; exact Nat.le_refl _, fun k hk => T1.out k (by omega)⟩
  have GE : Hid (∀ W, Below E0 w W → Glb W) := by
    show ∀ W, _
    intro W hW
    exact hGE W hW
  have c0 := hp.cell 0 _ rfl
  have c1 := hp.cell 1 _ rfl
  have f0 := hp.thaw 0
  have f1 := hp.thaw 1
  have HW1 := hide hW1
  clear hp hW1 hGE
  go_enter Tryz.func9, Tryz.ntmps9
  go_wp2_with fail
  rw [← HW1.out]
  clear c0 c1 f0 f1
  refine (new_any _ E0 (by have := Z1.out; have := hpl.out; omega)).mono ?_
  rintro e w2 ⟨rfl, d2, hb2, hz2⟩
  obtain ⟨b, hb⟩ : ∃ b, b = W1.heap.size := ⟨_, rfl⟩
  rw [← hb] at d2 ⊢
  have hpb : Hid (pb ≠ b) := by have h1 := P1.out.lt; show pb ≠ b; omega
  have P2 := hide (P1.out.on hb2)
  obtain ⟨W3, hW3⟩ : ∃ W3, W3 = w2.setCell ⟨pb, 2, none⟩ (.pointer (some ⟨b, 0, none⟩)) := ⟨_, rfl⟩
  have P3 : Hid (Blk W3 pb (plL 1 3 (.pointer (some ⟨b, 0, none⟩)) (.pointer none) (.slice none 0 0) (.slice none 0 0) 0)) := by rw [hW3]; exact P2.out.setAt 2 _
  have D3 : Hid (Dsk 0 W3 b (.slice none 0 0) [] 0 E0) := d2.on (by rw [hW3]; exact Below.heap_setCell _ _ _ _ (fun e => hpb.out e.symm)) (fun k hk => by cases hk)
  have BE3 : Hid (Below E0 w W3) := by
    have h1 : Below E0 w w2 := BE1.out.trans (hb2.mono (by have := Z1.out; have := hpl.out; omega))
    refine ⟨?_, ?_, ?_, ?_, fun k hk => ?_⟩
    · rw [hW3]; exact h1.os
    · rw [hW3]; exact h1.tape
    · rw [hW3]; exact h1.output
    · rw [hW3]; have := h1.size; simpa [World.setCell] using this
    · rw [hW3, Below.heap_setCell _ _ _ _ (by show k ≠ pb; omega)]; exact h1.block k hk
  have c2 := P2.out.cell 2 _ rfl
  have f2 := P2.out.thaw 2
  have HW3 := hide hW3
  have zb : Hid (b < W3.heap.size ∧ w.heap.size ≤ b) := ⟨D3.out.box.lt, by have := Z1.out; omega⟩
  clear d2 hb2 hz2 hW3 hb
  go_wp2_with fail
  rw [← HW3.out]
  clear c2 f2
  refine (create_new _ b _ 0 E0 1 3 D3.out (GE.out _ BE3.out) (by omega) (by omega) (by omega) (by omega)).mono ?_
  rintro e w4 ⟨lb, pv, rfl, hlb, lg4, k4, hpl4⟩
  have P4 : Hid (Blk w4 pb (plL 1 3 (.pointer (some ⟨b, 0, none⟩)) (.pointer none) (.slice none 0 0) (.slice none 0 0) 0)) := P3.out.of_block (k4.tch.block pb P3.out.lt hpb.out (fun e => by cases e))
  have hpl5 : Hid (pb ≠ lb) := by have := P3.out.lt; show pb ≠ lb; omega
  have hbl : Hid (lb ≠ b) := by have := zb.out; show lb ≠ b; omega
  have hpv : Hid (some pb ≠ pv.ownBlock) := fun e => by
    rcases k4.lat with e2 | e2
    · rw [e2] at e; cases e
    · have := e2 pb e.symm; have := P3.out.lt; omega
  have hlv : Hid (some lb ≠ pv.ownBlock) := fun e => hpl4 e.symm
  have BE4 := hide (BE3.out.trans (k4.below D3.out))
  obtain ⟨W5, hW5⟩ : ∃ W5, W5 = w4.setCell ⟨pb, 3, none⟩ (.pointer (some ⟨lb, 0, none⟩)) := ⟨_, rfl⟩
  have P5 : Hid (Blk W5 pb (plL 1 3 (.pointer (some ⟨b, 0, none⟩)) (.pointer (some ⟨lb, 0, none⟩)) (.slice none 0 0) (.slice none 0 0) 0)) := by rw [hW5]; exact P4.out.setAt 3 _
  have T5 : Hid (∀ k, k ≠ pb → W5.heap[k]? = w4.heap[k]?) := fun k hk => by rw [hW5, Below.heap_setCell _ _ _ _ (by exact hk)]
  rw [← HFR.out] at k4
  have D5 : Hid (Dsk 0 W5 b pv FR FR.length E0) := k4.dsk.on (T5.out b (fun e => hpb.out e.symm)) (fun k hk => T5.out k (fun e => hpv.out (by rw [← e]; exact hk.symm)))
  have L5 : Hid (Blk W5 lb (lgL b 3 0)) := lg4.of_block (T5.out lb (fun e => hpl5.out e.symm))
  have BE5 : Hid (Below E0 w W5) := by
    refine ⟨?_, ?_, ?_, ?_, fun k hk => ?_⟩
    · rw [hW5]; exact BE4.out.os
    · rw [hW5]; exact BE4.out.tape
    · rw [hW5]; exact BE4.out.output
    · rw [hW5]; have := BE4.out.size; simpa [World.setCell] using this
    · rw [T5.out k (by omega)]; exact BE4.out.block k hk
  have Z5 : Hid (W5.heap.size = w4.heap.size) := by show _ = _; rw [hW5]; simp [World.setCell]
  have c3 := P4.out.cell 3 _ rfl
  have f3 := P4.out.thaw 3
  have c5 := P4.out.cell 5 _ rfl
  have HW5 := hide hW5
  have hElb : Hid (E0 ≤ lb) := by have := P3.out.lt; show E0 ≤ lb; omega
  have hflt := D5.out.top
  clear lg4 k4 hpl4 hlb hW5
  have NIL : Hid (W5.ownsRow E0 3 1 (.slice none 0 0) 0 []) := World.ownsRow_nil _ _ _ _
  have HE5 : Hid (E0 ≤ W5.heap.size) := by have := P5.out.lt; show E0 ≤ _; omega
  go_wp2_with (first
    | (go_at_call 13; refine (num10_any _ _).mono ?_; rintro e w' ⟨rfl, rfl⟩)
    | (at_builtin; rw [← HW5.out]; refine wpList_append_own _ rfl _ _ 28 rfl E0 3 i0 (.int .i64 0) 1 8 Tryz.underlying28 hi hz0 hz1 hz2 rfl (by decide) _ _ _ rfl (NIL.out.alloc _) ⟨w4.heap.size, 0, none⟩ 1 1 [.int .i64 0] rfl rfl ?c1 ?c2 ?c3 ?c4 ?c5 ?_))
  case c1 =>
    intro j u hj
    match j, hj with
    | 0, hj =>
      simp at hj; subst hj
      have := (blk_new W5 3 [.int .i64 0]).cell 0 _ rfl
      rw [Z5.out] at this
      simpa [Addr.add] using this
  case c2 => intro u hu; simp at hu; subst hu; rfl
  case c3 => unfold maxLen; omega
  case c4 => simp
  case c5 => have := HE5.out; simp; omega
  intro v6 w6 ho6 hg6 _
  have B56 : Hid (Below W5.heap.size W5 w6) := by
    have h := (World.grownBy_alloc W5 (.cells #[.int .i64 0] 3) none).trans hg6
    exact ⟨h.os, h.tape, h.output, h.size, fun k hk => h.block k hk (fun e => by cases e)⟩
  obtain ⟨va, vc, rfl⟩ := own_shape ho6
  have P6 := hide (P5.out.on B56.out)
  have L6 := hide (L5.out.on B56.out)
  have D6 := hide (D5.out.later B56.out)
  have BE6 := hide (BE5.out.trans (B56.out.mono HE5.out))
  clear ho6 hg6 c3 f3 c5 P4 BE4
  obtain ⟨fv, hfv⟩ : ∃ fv, fv = Value.slice va (0 + 1) vc := ⟨_, rfl⟩
  obtain ⟨W7, hW7⟩ : ∃ W7, W7 = w6.setCell ⟨pb, 5, none⟩ fv := ⟨_, rfl⟩
  have P7 : Hid (Blk W7 pb (plL 1 3 (.pointer (some ⟨b, 0, none⟩)) (.pointer (some ⟨lb, 0, none⟩)) (.slice none 0 0) fv 0)) := by rw [hW7]; exact P6.out.setAt 5 _
  have T7 : Hid (∀ k, k ≠ pb → W7.heap[k]? = w6.heap[k]?) := fun k hk => by rw [hW7, Below.heap_setCell _ _ _ _ (by exact hk)]
  have D7 : Hid (Dsk 0 W7 b pv FR FR.length E0) := D6.out.on (T7.out b (fun e => hpb.out e.symm)) (fun k hk => T7.out k (fun e => hpv.out (by rw [← e]; exact hk.symm)))
  have L7 : Hid (Blk W7 lb (lgL b 3 0)) := L6.out.of_block (T7.out lb (fun e => hpl5.out e.symm))
  have BE7 : Hid (Below E0 w W7) := by
    refine ⟨?_, ?_, ?_, ?_, fun k hk => ?_⟩
    · rw [hW7]; exact BE6.out.os
    · rw [hW7]; exact BE6.out.tape
    · rw [hW7]; exact BE6.out.output
    · rw [hW7]; have := BE6.out.size; simpa [World.setCell] using this
    · rw [T7.out k (by omega)]; exact BE6.out.block k hk
  have c65 := P6.out.cell 5 _ rfl
  have f65 := P6.out.thaw 5
  have c72 := P7.out.cell 2 _ rfl
  have HFV := hide hfv
  have HW7 := hide hW7
  clear hfv hW7
  go_wp2_with fail
  simp only [← HFV.out]
  rw [← HW7.out]
  clear c65 f65
  refine (psize_any _ pb b pv FR FR.length E0 c72 D7.out).mono ?_
  rintro e w8 ⟨rfl, hb8⟩
  have P8 := hide (P7.out.on hb8)
  have L8 := hide (L7.out.on hb8)
  have D8 := hide (D7.out.later hb8)
  have BE8 := hide (BE7.out.trans (hb8.mono (by have := P7.out.lt; omega)))
  obtain ⟨W9, hW9⟩ : ∃ W9, W9 = w8.setCell ⟨pb, 6, none⟩ (.int .i64 (FR.length : Int)) := ⟨_, rfl⟩
  have P9 : Hid (Blk W9 pb (plL 1 3 (.pointer (some ⟨b, 0, none⟩)) (.pointer (some ⟨lb, 0, none⟩)) (.slice none 0 0) fv FR.length)) := by rw [hW9]; exact P8.out.setAt 6 _
  have T9 : Hid (∀ k, k ≠ pb → W9.heap[k]? = w8.heap[k]?) := fun k hk => by rw [hW9, Below.heap_setCell _ _ _ _ (by exact hk)]
  have D9 : Hid (Dsk 0 W9 b pv FR FR.length E0) := D8.out.on (T9.out b (fun e => hpb.out e.symm)) (fun k hk => T9.out k (fun e => hpv.out (by rw [← e]; exact hk.symm)))
  have L9 : Hid (Blk W9 lb (lgL b 3 0)) := L8.out.of_block (T9.out lb (fun e => hpl5.out e.symm))
  have BE9 : Hid (Below E0 w W9) := by
    refine ⟨?_, ?_, ?_, ?_, fun k hk => ?_⟩
    · rw [hW9]; exact BE8.out.os
    · rw [hW9]; exact BE8.out.tape
    · rw [hW9]; exact BE8.out.output
    · rw [hW9]; have := BE8.out.size; simpa [World.setCell] using this
    · rw [T9.out k (by omega)]; exact BE8.out.block k hk
  have c86 := P8.out.cell 6 _ rfl
  have f86 := P8.out.thaw 6
  have c82 := P8.out.cell 2 _ rfl
  have HW9 := hide hW9
  clear hW9 hb8 c72
  go_wp2_with fail
  rw [← HW9.out]
  clear c86 f86 c82
  refine (look_any _ b pv FR FR.length _ D9.out).mono ?_
  rintro e w10 ⟨v10, rfl, ho10, hb10⟩
  obtain ⟨vd, ve, rfl⟩ := own_shape ho10
  have PL : Hid (Ply w10 pb b lb 1 3 0 pv (.slice none 0 0) fv FR FR.length FR.length E0) := Ply.later ⟨P9.out, L9.out, D9.out, hpl5.out, ⟨hpb.out, hpv.out⟩, ⟨hbl.out, hlv.out⟩, ⟨hE, hElb.out⟩⟩ hb10
  have BE10 := hide (BE9.out.trans (hb10.mono (by have := P9.out.lt; omega)))
  have c106 := PL.out.box.cell 6 _ rfl
  obtain ⟨fn, hfn⟩ : ∃ fn, FR.length = fn := ⟨_, rfl⟩
  have HFN := hide hfn
  have q9 : (0 : Int) < (fn : Int) := by have := HFL.out; omega
  rw [hfn] at c106 hflt ⊢
  clear ho10 hb10 hfn
  go_wp2
  go_ret
  exact ⟨rfl, b, lb, pv, fv, PL.out, BE10.out⟩

set_option maxHeartbeats 8000000 in
set_option maxRecDepth 100000 in
theorem open_d (w : World) (pb E0 : Nat) (id n : Int) (hE : E0 ≤ pb) (hp : Blk w pb (plL 0 0 (.pointer none) (.pointer none) (.slice none 0 0) (.slice none 0 0) 0)) (hGE : ∀ W, Below E0 w W → Glb W) (q1 : ¬ n < 1) (q2 : ¬ 7 < n) (q3 : ¬ id < 0) (q4 : n ≤ id) :
    Calls Tryz.prog 9 #[.pointer (some ⟨pb, 0, none⟩), .int .i64 id, .int .i64 n] w fun e w' => e = .returned (.bool true) ∧ ∃ b lb pv fr, Ply w' pb b lb 1 3 0 pv (.slice none 0 0) fr (frR (hdR 1 3)) (frR (hdR 1 3)).length (frR (hdR 1 3)).length E0 ∧ Below E0 w w' := by
  obtain ⟨i0, hi, hz0, hz1, hz2⟩ := info_parts Tryz.info3
  have hpl := hide hp.lt
  obtain ⟨FR, hFR⟩ : ∃ FR, FR = frR (hdR 1 3) := ⟨_, rfl⟩
  rw [← hFR]
  have HFL : Hid (0 < FR.length) := by rw [hFR]; exact (frR_len (hd_zero (n := 3) (id := 1) (by omega) (by omega) (by omega) (by omega))).1
  have HFR := hide hFR
  clear hFR
  obtain ⟨W1, hW1⟩ : ∃ W1, W1 = (w.setCell ⟨pb, 0, none⟩ (.int .i64 1)).setCell ⟨pb, 1, none⟩ (.int .i64 3) := ⟨_, rfl⟩
  have Z1 : Hid (W1.heap.size = w.heap.size) := by show _ = _; rw [hW1]; simp [World.setCell]
  have P1 : Hid (Blk W1 pb (plL 1 3 (.pointer none) (.pointer none) (.slice none 0 0) (.slice none 0 0) 0)) := by rw [hW1]; exact (hp.setAt 0 _).setAt 1 _
  have T1 : Hid (∀ k, k ≠ pb → W1.heap[k]? = w.heap[k]?) := fun k hk => by rw [hW1, Below.heap_setCell _ _ _ _ (by exact hk), Below.heap_setCell _ _ _ _ (by exact hk)]
  have O1 : Hid (W1.os = w.os ∧ W1.tape = w.tape ∧ W1.output = w.output) := by rw [hW1]; exact ⟨rfl, rfl, rfl⟩
  have BE1 : Hid (Below E0 w W1) := ⟨O1.out.1, O1.out.2.1, O1.out.2.2, by rw [Z1.out]; exact Nat.le_refl _, fun k hk => T1.out k (by omega)⟩
  have GE : Hid (∀ W, Below E0 w W → Glb W) := by
    show ∀ W, _
    intro W hW
    exact hGE W hW
  have c0 := hp.cell 0 _ rfl
  have c1 := hp.cell 1 _ rfl
  have f0 := hp.thaw 0
  have f1 := hp.thaw 1
  have HW1 := hide hW1
  clear hp hW1 hGE
  go_enter Tryz.func9, Tryz.ntmps9
  go_wp2_with fail
  rw [← HW1.out]
  clear c0 c1 f0 f1
  refine (new_any _ E0 (by have := Z1.out; have := hpl.out; omega)).mono ?_
  rintro e w2 ⟨rfl, d2, hb2, hz2⟩
  obtain ⟨b, hb⟩ : ∃ b, b = W1.heap.size := ⟨_, rfl⟩
  rw [← hb] at d2 ⊢
  have hpb : Hid (pb ≠ b) := by have h1 := P1.out.lt; show pb ≠ b; omega
  have P2 := hide (P1.out.on hb2)
  obtain ⟨W3, hW3⟩ : ∃ W3, W3 = w2.setCell ⟨pb, 2, none⟩ (.pointer (some ⟨b, 0, none⟩)) := ⟨_, rfl⟩
  have P3 : Hid (Blk W3 pb (plL 1 3 (.pointer (some ⟨b, 0, none⟩)) (.pointer none) (.slice none 0 0) (.slice none 0 0) 0)) := by rw [hW3]; exact P2.out.setAt 2 _
  have D3 : Hid (Dsk 0 W3 b (.slice none 0 0) [] 0 E0) := d2.on (by rw [hW3]; exact Below.heap_setCell _ _ _ _ (fun e => hpb.out e.symm)) (fun k hk => by cases hk)
  have BE3 : Hid (Below E0 w W3) := by
    have h1 : Below E0 w w2 := BE1.out.trans (hb2.mono (by have := Z1.out; have := hpl.out; omega))
    refine ⟨?_, ?_, ?_, ?_, fun k hk => ?_⟩
    · rw [hW3]; exact h1.os
    · rw [hW3]; exact h1.tape
    · rw [hW3]; exact h1.output
    · rw [hW3]; have := h1.size; simpa [World.setCell] using this
    · rw [hW3, Below.heap_setCell _ _ _ _ (by show k ≠ pb; omega)]; exact h1.block k hk
  have c2 := P2.out.cell 2 _ rfl
  have f2 := P2.out.thaw 2
  have HW3 := hide hW3
  have zb : Hid (b < W3.heap.size ∧ w.heap.size ≤ b) := ⟨D3.out.box.lt, by have := Z1.out; omega⟩
  clear d2 hb2 hz2 hW3 hb
  go_wp2_with fail
  rw [← HW3.out]
  clear c2 f2
  refine (create_new _ b _ 0 E0 1 3 D3.out (GE.out _ BE3.out) (by omega) (by omega) (by omega) (by omega)).mono ?_
  rintro e w4 ⟨lb, pv, rfl, hlb, lg4, k4, hpl4⟩
  have P4 : Hid (Blk w4 pb (plL 1 3 (.pointer (some ⟨b, 0, none⟩)) (.pointer none) (.slice none 0 0) (.slice none 0 0) 0)) := P3.out.of_block (k4.tch.block pb P3.out.lt hpb.out (fun e => by cases e))
  have hpl5 : Hid (pb ≠ lb) := by have := P3.out.lt; show pb ≠ lb; omega
  have hbl : Hid (lb ≠ b) := by have := zb.out; show lb ≠ b; omega
  have hpv : Hid (some pb ≠ pv.ownBlock) := fun e => by
    rcases k4.lat with e2 | e2
    · rw [e2] at e; cases e
    · have := e2 pb e.symm; have := P3.out.lt; omega
  have hlv : Hid (some lb ≠ pv.ownBlock) := fun e => hpl4 e.symm
  have BE4 := hide (BE3.out.trans (k4.below D3.out))
  obtain ⟨W5, hW5⟩ : ∃ W5, W5 = w4.setCell ⟨pb, 3, none⟩ (.pointer (some ⟨lb, 0, none⟩)) := ⟨_, rfl⟩
  have P5 : Hid (Blk W5 pb (plL 1 3 (.pointer (some ⟨b, 0, none⟩)) (.pointer (some ⟨lb, 0, none⟩)) (.slice none 0 0) (.slice none 0 0) 0)) := by rw [hW5]; exact P4.out.setAt 3 _
  have T5 : Hid (∀ k, k ≠ pb → W5.heap[k]? = w4.heap[k]?) := fun k hk => by rw [hW5, Below.heap_setCell _ _ _ _ (by exact hk)]
  rw [← HFR.out] at k4
  have D5 : Hid (Dsk 0 W5 b pv FR FR.length E0) := k4.dsk.on (T5.out b (fun e => hpb.out e.symm)) (fun k hk => T5.out k (fun e => hpv.out (by rw [← e]; exact hk.symm)))
  have L5 : Hid (Blk W5 lb (lgL b 3 0)) := lg4.of_block (T5.out lb (fun e => hpl5.out e.symm))
  have BE5 : Hid (Below E0 w W5) := by
    refine ⟨?_, ?_, ?_, ?_, fun k hk => ?_⟩
    · rw [hW5]; exact BE4.out.os
    · rw [hW5]; exact BE4.out.tape
    · rw [hW5]; exact BE4.out.output
    · rw [hW5]; have := BE4.out.size; simpa [World.setCell] using this
    · rw [T5.out k (by omega)]; exact BE4.out.block k hk
  have Z5 : Hid (W5.heap.size = w4.heap.size) := by show _ = _; rw [hW5]; simp [World.setCell]
  have c3 := P4.out.cell 3 _ rfl
  have f3 := P4.out.thaw 3
  have c5 := P4.out.cell 5 _ rfl
  have HW5 := hide hW5
  have hElb : Hid (E0 ≤ lb) := by have := P3.out.lt; show E0 ≤ lb; omega
  have hflt := D5.out.top
  clear lg4 k4 hpl4 hlb hW5
  have NIL : Hid (W5.ownsRow E0 3 1 (.slice none 0 0) 0 []) := World.ownsRow_nil _ _ _ _
  have HE5 : Hid (E0 ≤ W5.heap.size) := by have := P5.out.lt; show E0 ≤ _; omega
  go_wp2_with (first
    | (go_at_call 13; refine (num10_any _ _).mono ?_; rintro e w' ⟨rfl, rfl⟩)
    | (at_builtin; rw [← HW5.out]; refine wpList_append_own _ rfl _ _ 28 rfl E0 3 i0 (.int .i64 0) 1 8 Tryz.underlying28 hi hz0 hz1 hz2 rfl (by decide) _ _ _ rfl (NIL.out.alloc _) ⟨w4.heap.size, 0, none⟩ 1 1 [.int .i64 0] rfl rfl ?c1 ?c2 ?c3 ?c4 ?c5 ?_))
  case c1 =>
    intro j u hj
    match j, hj with
    | 0, hj =>
      simp at hj; subst hj
      have := (blk_new W5 3 [.int .i64 0]).cell 0 _ rfl
      rw [Z5.out] at this
      simpa [Addr.add] using this
  case c2 => intro u hu; simp at hu; subst hu; rfl
  case c3 => unfold maxLen; omega
  case c4 => simp
  case c5 => have := HE5.out; simp; omega
  intro v6 w6 ho6 hg6 _
  have B56 : Hid (Below W5.heap.size W5 w6) := by
    have h := (World.grownBy_alloc W5 (.cells #[.int .i64 0] 3) none).trans hg6
    exact ⟨h.os, h.tape, h.output, h.size, fun k hk => h.block k hk (fun e => by cases e)⟩
  obtain ⟨va, vc, rfl⟩ := own_shape ho6
  have P6 := hide (P5.out.on B56.out)
  have L6 := hide (L5.out.on B56.out)
  have D6 := hide (D5.out.later B56.out)
  have BE6 := hide (BE5.out.trans (B56.out.mono HE5.out))
  clear ho6 hg6 c3 f3 c5 P4 BE4
  obtain ⟨fv, hfv⟩ : ∃ fv, fv = Value.slice va (0 + 1) vc := ⟨_, rfl⟩
  obtain ⟨W7, hW7⟩ : ∃ W7, W7 = w6.setCell ⟨pb, 5, none⟩ fv := ⟨_, rfl⟩
  have P7 : Hid (Blk W7 pb (plL 1 3 (.pointer (some ⟨b, 0, none⟩)) (.pointer (some ⟨lb, 0, none⟩)) (.slice none 0 0) fv 0)) := by rw [hW7]; exact P6.out.setAt 5 _
  have T7 : Hid (∀ k, k ≠ pb → W7.heap[k]? = w6.heap[k]?) := fun k hk => by rw [hW7, Below.heap_setCell _ _ _ _ (by exact hk)]
  have D7 : Hid (Dsk 0 W7 b pv FR FR.length E0) := D6.out.on (T7.out b (fun e => hpb.out e.symm)) (fun k hk => T7.out k (fun e => hpv.out (by rw [← e]; exact hk.symm)))
  have L7 : Hid (Blk W7 lb (lgL b 3 0)) := L6.out.of_block (T7.out lb (fun e => hpl5.out e.symm))
  have BE7 : Hid (Below E0 w W7) := by
    refine ⟨?_, ?_, ?_, ?_, fun k hk => ?_⟩
    · rw [hW7]; exact BE6.out.os
    · rw [hW7]; exact BE6.out.tape
    · rw [hW7]; exact BE6.out.output
    · rw [hW7]; have := BE6.out.size; simpa [World.setCell] using this
    · rw [T7.out k (by omega)]; exact BE6.out.block k hk
  have c65 := P6.out.cell 5 _ rfl
  have f65 := P6.out.thaw 5
  have c72 := P7.out.cell 2 _ rfl
  have HFV := hide hfv
  have HW7 := hide hW7
  clear hfv hW7
  go_wp2_with fail
  simp only [← HFV.out]
  rw [← HW7.out]
  clear c65 f65
  refine (psize_any _ pb b pv FR FR.length E0 c72 D7.out).mono ?_
  rintro e w8 ⟨rfl, hb8⟩
  have P8 := hide (P7.out.on hb8)
  have L8 := hide (L7.out.on hb8)
  have D8 := hide (D7.out.later hb8)
  have BE8 := hide (BE7.out.trans (hb8.mono (by have := P7.out.lt; omega)))
  obtain ⟨W9, hW9⟩ : ∃ W9, W9 = w8.setCell ⟨pb, 6, none⟩ (.int .i64 (FR.length : Int)) := ⟨_, rfl⟩
  have P9 : Hid (Blk W9 pb (plL 1 3 (.pointer (some ⟨b, 0, none⟩)) (.pointer (some ⟨lb, 0, none⟩)) (.slice none 0 0) fv FR.length)) := by rw [hW9]; exact P8.out.setAt 6 _
  have T9 : Hid (∀ k, k ≠ pb → W9.heap[k]? = w8.heap[k]?) := fun k hk => by rw [hW9, Below.heap_setCell _ _ _ _ (by exact hk)]
  have D9 : Hid (Dsk 0 W9 b pv FR FR.length E0) := D8.out.on (T9.out b (fun e => hpb.out e.symm)) (fun k hk => T9.out k (fun e => hpv.out (by rw [← e]; exact hk.symm)))
  have L9 : Hid (Blk W9 lb (lgL b 3 0)) := L8.out.of_block (T9.out lb (fun e => hpl5.out e.symm))
  have BE9 : Hid (Below E0 w W9) := by
    refine ⟨?_, ?_, ?_, ?_, fun k hk => ?_⟩
    · rw [hW9]; exact BE8.out.os
    · rw [hW9]; exact BE8.out.tape
    · rw [hW9]; exact BE8.out.output
    · rw [hW9]; have := BE8.out.size; simpa [World.setCell] using this
    · rw [T9.out k (by omega)]; exact BE8.out.block k hk
  have c86 := P8.out.cell 6 _ rfl
  have f86 := P8.out.thaw 6
  have c82 := P8.out.cell 2 _ rfl
  have HW9 := hide hW9
  clear hW9 hb8 c72
  go_wp2_with fail
  rw [← HW9.out]
  clear c86 f86 c82
  refine (look_any _ b pv FR FR.length _ D9.out).mono ?_
  rintro e w10 ⟨v10, rfl, ho10, hb10⟩
  obtain ⟨vd, ve, rfl⟩ := own_shape ho10
  have PL : Hid (Ply w10 pb b lb 1 3 0 pv (.slice none 0 0) fv FR FR.length FR.length E0) := Ply.later ⟨P9.out, L9.out, D9.out, hpl5.out, ⟨hpb.out, hpv.out⟩, ⟨hbl.out, hlv.out⟩, ⟨hE, hElb.out⟩⟩ hb10
  have BE10 := hide (BE9.out.trans (hb10.mono (by have := P9.out.lt; omega)))
  have c106 := PL.out.box.cell 6 _ rfl
  obtain ⟨fn, hfn⟩ : ∃ fn, FR.length = fn := ⟨_, rfl⟩
  have HFN := hide hfn
  have q9 : (0 : Int) < (fn : Int) := by have := HFL.out; omega
  rw [hfn] at c106 hflt ⊢
  clear ho10 hb10 hfn
  go_wp2
  go_ret
  exact ⟨rfl, b, lb, pv, fv, PL.out, BE10.out⟩

theorem open_any (w : World) (pb E0 : Nat) (id n : Int) (hE : E0 ≤ pb) (hp : Blk w pb (plL 0 0 (.pointer none) (.pointer none) (.slice none 0 0) (.slice none 0 0) 0)) (hGE : ∀ W, Below E0 w W → Glb W) :
    ∃ I N : Int, (1 ≤ N ∧ N ≤ 7 ∧ 0 ≤ I ∧ I < N) ∧ Calls Tryz.prog 9 #[.pointer (some ⟨pb, 0, none⟩), .int .i64 id, .int .i64 n] w fun e w' => e = .returned (.bool true) ∧ ∃ b lb pv fr, Ply w' pb b lb I N 0 pv (.slice none 0 0) fr (frR (hdR I N)) (frR (hdR I N)).length (frR (hdR I N)).length E0 ∧ Below E0 w w' := by
  by_cases q1 : n < 1
  · exact ⟨1, 3, by omega, open_a w pb E0 id n hE hp hGE q1⟩
  by_cases q2 : 7 < n
  · exact ⟨1, 3, by omega, open_b w pb E0 id n hE hp hGE q1 q2⟩
  by_cases q3 : id < 0
  · exact ⟨1, 3, by omega, open_c w pb E0 id n hE hp hGE q1 q2 q3⟩
  by_cases q4 : n ≤ id
  · exact ⟨1, 3, by omega, open_d w pb E0 id n hE hp hGE q1 q2 q3 q4⟩
  · exact ⟨id, n, by omega, open_yes w pb E0 id n hE hp hGE (by omega) (by omega) (by omega) (by omega)⟩
end Go.Proofs.YtnjihfbghaefoaaGreatDoor
