/- Texts of the proof, joined. -/
import Derived.Test.YtlhididcanedhaaGreatDoorJ23
import Derived.Deep.Cut
/- The document's own scan of records: what a call carries; head. -/
namespace Go.Proofs.YtlhididcanedhaaGreatDoor
open Go.RowKit Go.Wire1

theorem touch_row {g q : Nat} {w : World} (hq : w.heap.size ≤ q) : ∀ (vs : List Value) (o : Nat) (W : World), Touch g w W → Touch g w (W.setCells q o vs)
  | [], _, _, h => h
  | v :: vs, o, _, h => touch_row hq vs (o + 1) _ (h.setNew v hq)
theorem touch_own {q : Nat} : ∀ (vs : List Value) (o : Nat) (W X : World), Touch q X W → Touch q X (W.setCells q o vs)
  | [], _, _, _, h => h
  | v :: vs, o, _, X, h => touch_own vs (o + 1) _ X (h.setB v)
/-- In the midst of a call that has a record's box and its answer's: w the world at the call, W the world now. -/
structure H6 (w0 w W : World) (g : Nat) (l : List Int) (e : Int) (r : Rc) : Prop where
  touch : Touch g w W
  scan : S6x w0 W g l e
  box : Blk W w.heap.size (rcs r)
  res : Blk W (w.heap.size + 1) [.int .i64 0, .int .i64 0, .int .i64 0, .int .i64 0, .int .i64 0, .bool false, .int .i64 0, .int .i64 0, .int .i64 0, .string ⟨#[]⟩, .string ⟨#[]⟩, .string ⟨#[]⟩, .string ⟨#[]⟩, .int .i64 0, .int .i64 0, .slice none 0 0, .int .i64 0, .int .i64 0]
section
variable {w0 w W W' : World} {g : Nat} {l l' : List Int} {e e' : Int} {r r' : Rc}
theorem H6.call (h : H6 w0 w W g l e r) (hg : g < w.heap.size) (T : Touch g W W') (S : S6x w0 W' g l' e') : H6 w0 w W' g l' e' r :=
  ⟨h.touch.trans T, S, h.box.of_block (T.block _ h.box.lt (by omega)), h.res.of_block (T.block _ h.res.lt (by omega))⟩
theorem H6.on (h : H6 w0 w W g l e r) (hb : Below W.heap.size W W') : H6 w0 w W' g l e r :=
  ⟨h.touch.trans (Touch.ofBelow hb), h.scan.on hb, h.box.on hb, h.res.on hb⟩
theorem H6.drewN (h : H6 w0 w W g l e r) (n : Nat) : H6 w0 w (W.drewN n) g l e r := ⟨h.touch.drewN n, h.scan.drewN n, h.box.drewN n, h.res.drewN n⟩
/-- A field is written. -/
theorem H6.put (h : H6 w0 w W g l e r) (hg : g < w.heap.size) (hw : w0.heap.size ≤ w.heap.size) (j : Nat) (u : Value) (hr : (rcs r).set j u = rcs r') : H6 w0 w (W.setCell ⟨w.heap.size, j, none⟩ u) g l e r' := by
  have T : Touch w.heap.size W (W.setCell ⟨w.heap.size, j, none⟩ u) := (Touch.refl _ W).setB _
  exact ⟨h.touch.setNew u (Nat.le_refl _), h.scan.beside T (by omega) hw, by rw [← hr]; exact h.box.setAt j u, h.res.of_block (T.block _ h.res.lt (by omega))⟩
/-- The whole box is written. -/
theorem H6.lay (h : H6 w0 w W g l e r) (hg : g < w.heap.size) (hw : w0.heap.size ≤ w.heap.size) (r' : Rc) : H6 w0 w (W.setCells w.heap.size 0 (rcs r')) g l e r' := by
  have T : Touch w.heap.size W (W.setCells w.heap.size 0 (rcs r')) := touch_own _ _ _ _ (Touch.refl _ W)
  exact ⟨touch_row (Nat.le_refl _) _ _ _ h.touch, h.scan.beside T (by omega) hw, blk_cells h.box rfl, h.res.of_block (T.block _ h.res.lt (by omega))⟩
/-- The answer is written. -/
theorem H6.done (h : H6 w0 w W g l e r) (hg : g < w.heap.size) (hw : w0.heap.size ≤ w.heap.size) (r' : Rc) : Blk (W.setCells (w.heap.size + 1) 0 (rcs r')) (w.heap.size + 1) (rcs r') ∧ Touch g w (W.setCells (w.heap.size + 1) 0 (rcs r')) ∧ S6x w0 (W.setCells (w.heap.size + 1) 0 (rcs r')) g l e := by
  have T : Touch (w.heap.size + 1) W (W.setCells (w.heap.size + 1) 0 (rcs r')) := touch_own _ _ _ _ (Touch.refl _ W)
  exact ⟨blk_cells h.res rfl, touch_row (by omega) _ _ _ h.touch, h.scan.beside T (by omega) (by omega)⟩
end
theorem h6_new {w0 w : World} {g : Nat} {l : List Int} {e : Int} (h : S6x w0 w g l e) (r : Rc) : H6 w0 w ((w.alloc (.cells (rcs r).toArray 30)).alloc (.cells [.int .i64 0, .int .i64 0, .int .i64 0, .int .i64 0, .int .i64 0, .bool false, .int .i64 0, .int .i64 0, .int .i64 0, .string ⟨#[]⟩, .string ⟨#[]⟩, .string ⟨#[]⟩, .string ⟨#[]⟩, .int .i64 0, .int .i64 0, .slice none 0 0, .int .i64 0, .int .i64 0].toArray 30)) g l e r := by
  have B : Below w.heap.size w ((w.alloc (.cells (rcs r).toArray 30)).alloc (.cells [.int .i64 0, .int .i64 0, .int .i64 0, .int .i64 0, .int .i64 0, .bool false, .int .i64 0, .int .i64 0, .int .i64 0, .string ⟨#[]⟩, .string ⟨#[]⟩, .string ⟨#[]⟩, .string ⟨#[]⟩, .int .i64 0, .int .i64 0, .slice none 0 0, .int .i64 0, .int .i64 0].toArray 30)) := ((Below.refl _ w).alloc (Nat.le_refl _) _).alloc (by simp) _
  refine ⟨Touch.ofBelow B, h.on B, (blk_new w 30 (rcs r)).on ((Below.refl _ _).alloc (Nat.le_refl _) _), ?_⟩
  have := blk_new (w.alloc (.cells (rcs r).toArray 30)) 30 [.int .i64 0, .int .i64 0, .int .i64 0, .int .i64 0, .int .i64 0, .bool false, .int .i64 0, .int .i64 0, .int .i64 0, .string ⟨#[]⟩, .string ⟨#[]⟩, .string ⟨#[]⟩, .string ⟨#[]⟩, .int .i64 0, .int .i64 0, .slice none 0 0, .int .i64 0, .int .i64 0]
  rwa [show (w.alloc (.cells (rcs r).toArray 30)).heap.size = w.heap.size + 1 by simp] at this

def hd6 (r : Rc) (l : List Int) (e : Int) : Rc × List Int × Int :=
  (if jd6 (decide ((nu6 (nu6 l e).2.1 (nu6 l e).2.2).1 < 1) || (decide (7 < (nu6 (nu6 l e).2.1 (nu6 l e).2.2).1) || decide ((nu6 (nu6 l e).2.1 (nu6 l e).2.2).1 ≤ (nu6 l e).1))) 66 (nu6 (nu6 l e).2.1 (nu6 l e).2.2).2.2 = 0 then { r with id := ((nu6 l e).1 : Nat), n := ((nu6 (nu6 l e).2.1 (nu6 l e).2.2).1 : Nat) } else r,
   (nu6 (nu6 l e).2.1 (nu6 l e).2.2).2.1, jd6 (decide ((nu6 (nu6 l e).2.1 (nu6 l e).2.2).1 < 1) || (decide (7 < (nu6 (nu6 l e).2.1 (nu6 l e).2.2).1) || decide ((nu6 (nu6 l e).2.1 (nu6 l e).2.2).1 ≤ (nu6 l e).1))) 66 (nu6 (nu6 l e).2.1 (nu6 l e).2.2).2.2)
set_option maxHeartbeats 4000000 in
set_option maxRecDepth 100000 in
theorem head6_any (w0 : World) (g : Nat) (r : Rc) (l : List Int) (e : Int) (w : World) (h : S6x w0 w g l e) :
    Calls Tryz.prog 32 #[.pointer (some ⟨g, 0, none⟩), .agg (rcs r).toArray] w fun u w' => u = .returned (.agg (rcs (hd6 r l e).1).toArray) ∧ Touch g w w' ∧ S6x w0 w' g (hd6 r l e).2.1 (hd6 r l e).2.2 := by
  have hg := h.lt
  have hw : w0.heap.size ≤ w.heap.size := h.low.size
  have hxb := nu6_lt (e := e) h.byt
  have hyb := nu6_lt (e := (nu6 l e).2.2) (nu6_byt (e := e) h.byt)
  obtain ⟨V, hV⟩ : ∃ V, V = (w.alloc (.cells (rcs r).toArray 30)).alloc (.cells [.int .i64 0, .int .i64 0, .int .i64 0, .int .i64 0, .int .i64 0, .bool false, .int .i64 0, .int .i64 0, .int .i64 0, .string ⟨#[]⟩, .string ⟨#[]⟩, .string ⟨#[]⟩, .string ⟨#[]⟩, .int .i64 0, .int .i64 0, .slice none 0 0, .int .i64 0, .int .i64 0].toArray 30) := ⟨_, rfl⟩
  have HV : Hid (H6 w0 w V g l e r) := by rw [hV]; exact h6_new h r
  clear h
  obtain ⟨x, hx⟩ : ∃ x, Hid ((nu6 l e).1 = x) := ⟨_, rfl⟩
  obtain ⟨l1, hl1⟩ : ∃ l1, Hid ((nu6 l e).2.1 = l1) := ⟨_, rfl⟩
  obtain ⟨e1, he1⟩ : ∃ e1, Hid ((nu6 l e).2.2 = e1) := ⟨_, rfl⟩
  rw [hl1.out, he1.out] at hyb
  obtain ⟨y, hy⟩ : ∃ y, Hid ((nu6 l1 e1).1 = y) := ⟨_, rfl⟩
  obtain ⟨l2, hl2⟩ : ∃ l2, Hid ((nu6 l1 e1).2.1 = l2) := ⟨_, rfl⟩
  obtain ⟨e2, he2⟩ : ∃ e2, Hid ((nu6 l1 e1).2.2 = e2) := ⟨_, rfl⟩
  rw [hx.out] at hxb
  rw [hy.out] at hyb
  have HQ : Hid (hd6 r l e = (if jd6 (decide (y < 1) || (decide (7 < y) || decide (y ≤ x))) 66 e2 = 0 then { r with id := (x : Nat), n := (y : Nat) } else r, l2, jd6 (decide (y < 1) || (decide (7 < y) || decide (y ≤ x))) 66 e2)) := by
    unfold hd6; rw [hl1.out, he1.out, hx.out, hy.out, hl2.out, he2.out]; rfl
  obtain ⟨bad, hbad⟩ : ∃ bad, Hid ((decide (y < 1) || (decide (7 < y) || decide (y ≤ x))) = bad) := ⟨_, rfl⟩
  rw [hbad.out] at HQ
  obtain ⟨z, hz⟩ : ∃ z, Hid (jd6 bad 66 e2 = z) := ⟨_, rfl⟩
  rw [hz.out] at HQ
  rw [HQ.out]
  by_cases hzz : z = 0
  · have hb : bad = false := by
      cases bad with
      | false => rfl
      | true =>
        exfalso
        have := hz.out
        unfold jd6 at this
        rw [hzz] at this
        by_cases q : e2 = 0
        · rw [q] at this; exact absurd this (by decide)
        · rw [if_neg (by simp [q])] at this; exact q this
    rw [if_pos hzz]
    subst hzz
    subst hb
    have hq : ¬ y < 1 ∧ ¬ 7 < y ∧ ¬ y ≤ x := by simpa using hbad.out
    obtain ⟨q1, q2, q3⟩ := hq
    have hx9 : x ≤ 9223372036854775807 := by omega
    have hy9 : y ≤ 9223372036854775807 := by omega
    clear HQ hbad
    have d1 : decide ((y : Int) < 1) = false := decide_eq_false (by omega)
    have d2 : decide ((7 : Int) < (y : Int)) = false := decide_eq_false (by omega)
    have d3 : decide ((y : Int) ≤ (x : Int)) = false := decide_eq_false (by omega)
    go_enter Tryz.func32, Tryz.ntmps32
    go_upto_region 1 with fail
    rw [← hV]
    clear hV
    go_wp2_with fail
    refine (number6_any w0 g l e _ HV.out.scan).mono ?_
    rintro u w1 ⟨rfl, T1, S1⟩
    rw [hx.out]
    rw [hl1.out, he1.out] at S1
    have H1 := hide (HV.out.call hg T1 S1)
    clear T1 S1
    go_wp2_with fail
    refine (number6_any w0 g l1 e1 _ H1.out.scan).mono ?_
    rintro u w2 ⟨rfl, T2, S2⟩
    rw [hy.out]
    rw [hl2.out, he2.out] at S2
    have H2 := hide (H1.out.call hg T2 S2)
    clear T2 S2 H1
    go_wp2_with fail
    refine (judge6_any w0 g false 66 l2 e2 _ H2.out.scan).mono ?_
    rintro u w3 ⟨rfl, T3, S3⟩
    rw [hz.out] at S3
    have H3 := hide (H2.out.call hg T3 S3)
    have f3 := S3.fault
    clear T3 S3 H2
    have x16 : w3.cell? ⟨w.heap.size, 16, none⟩ = some (.int .i64 r.id) := H3.out.box.cell 16 _ rfl
    have x17 : w3.cell? ⟨w.heap.size, 17, none⟩ = some (.int .i64 r.n) := H3.out.box.cell 17 _ rfl
    have t16 := H3.out.box.thaw 16
    have t17 := H3.out.box.thaw 17
    have H4 := hide (H3.out.put hg hw 16 (.int .i64 (x : Int)) (r' := { r with id := (x : Int) }) rfl)
    have H5 := hide (H4.out.put hg hw 17 (.int .i64 (y : Int)) (r' := { r with id := (x : Int), n := (y : Int) }) rfl)
    clear H4
    go_wp2_with (first | (refine wpList_load_mid rfl 30 _ rfl w.heap.size 0 rfl (rcs { r with id := (x : Int), n := (y : Int) }) _ H5.out.box.range Tryz.underlying30 rfl (by kernel_rfl) ?_) | (refine wpList_store_mid rfl 30 _ _ rfl (w.heap.size + 1) 0 (rcs { r with id := (x : Int), n := (y : Int) }).toArray rfl rfl H5.out.res.there (by kernel_rfl) (by kernel_rfl) ?_))
    have D := H5.out.done hg hw { r with id := (x : Int), n := (y : Int) }
    refine bodyPost_ret (results_cell_mid Tryz.results32 _ _ (w.heap.size + 1) (rcs { r with id := (x : Int), n := (y : Int) }) _ rfl D.1.range Tryz.underlying30 rfl (by kernel_rfl)) rfl ⟨rfl, D.2⟩
  · rw [if_neg hzz]
    have gz : (z == 0) = false := beq_eq_false_iff_ne.2 hzz
    clear HQ hzz
    rcases (by omega : y < 1 ∨ (¬ y < 1 ∧ 7 < y) ∨ (¬ y < 1 ∧ ¬ 7 < y ∧ y ≤ x) ∨ (¬ y < 1 ∧ ¬ 7 < y ∧ ¬ y ≤ x)) with q1 | ⟨q1, q2⟩ | ⟨q1, q2, q3⟩ | ⟨q1, q2, q3⟩
    · have hb : bad = true := by rw [← hbad.out]; simp [q1]
      subst hb
      clear hbad
      have d1 : decide ((y : Int) < 1) = true := decide_eq_true (by omega)
      go_enter Tryz.func32, Tryz.ntmps32
      go_upto_region 1 with fail
      rw [← hV]
      clear hV
      go_wp2_with fail
      refine (number6_any w0 g l e _ HV.out.scan).mono ?_
      rintro u w1 ⟨rfl, T1, S1⟩
      rw [hx.out]
      rw [hl1.out, he1.out] at S1
      have H1 := hide (HV.out.call hg T1 S1)
      clear T1 S1
      go_wp2_with fail
      refine (number6_any w0 g l1 e1 _ H1.out.scan).mono ?_
      rintro u w2 ⟨rfl, T2, S2⟩
      rw [hy.out]
      rw [hl2.out, he2.out] at S2
      have H2 := hide (H1.out.call hg T2 S2)
      clear T2 S2 H1
      go_wp2_with fail
      refine (judge6_any w0 g true 66 l2 e2 _ H2.out.scan).mono ?_
      rintro u w3 ⟨rfl, T3, S3⟩
      rw [hz.out] at S3
      have H3 := hide (H2.out.call hg T3 S3)
      have f3 := S3.fault
      clear T3 S3 H2
      go_wp2_with (first | (refine wpList_load_mid rfl 30 _ rfl w.heap.size 0 rfl (rcs r) _ H3.out.box.range Tryz.underlying30 rfl (by kernel_rfl) ?_) | (refine wpList_store_mid rfl 30 _ _ rfl (w.heap.size + 1) 0 (rcs r).toArray rfl rfl H3.out.res.there (by kernel_rfl) (by kernel_rfl) ?_))
      have D := H3.out.done hg hw r
      refine bodyPost_ret (results_cell_mid Tryz.results32 _ _ (w.heap.size + 1) (rcs r) _ rfl D.1.range Tryz.underlying30 rfl (by kernel_rfl)) rfl ⟨rfl, D.2⟩
    · have hb : bad = true := by rw [← hbad.out]; simp [q1, q2]
      subst hb
      clear hbad
      have d1 : decide ((y : Int) < 1) = false := decide_eq_false (by omega)
      have d2 : decide ((7 : Int) < (y : Int)) = true := decide_eq_true (by omega)
      go_enter Tryz.func32, Tryz.ntmps32
      go_upto_region 1 with fail
      rw [← hV]
      clear hV
      go_wp2_with fail
      refine (number6_any w0 g l e _ HV.out.scan).mono ?_
      rintro u w1 ⟨rfl, T1, S1⟩
      rw [hx.out]
      rw [hl1.out, he1.out] at S1
      have H1 := hide (HV.out.call hg T1 S1)
      clear T1 S1
      go_wp2_with fail
      refine (number6_any w0 g l1 e1 _ H1.out.scan).mono ?_
      rintro u w2 ⟨rfl, T2, S2⟩
      rw [hy.out]
      rw [hl2.out, he2.out] at S2
      have H2 := hide (H1.out.call hg T2 S2)
      clear T2 S2 H1
      go_wp2_with fail
      refine (judge6_any w0 g true 66 l2 e2 _ H2.out.scan).mono ?_
      rintro u w3 ⟨rfl, T3, S3⟩
      rw [hz.out] at S3
      have H3 := hide (H2.out.call hg T3 S3)
      have f3 := S3.fault
      clear T3 S3 H2
      go_wp2_with (first | (refine wpList_load_mid rfl 30 _ rfl w.heap.size 0 rfl (rcs r) _ H3.out.box.range Tryz.underlying30 rfl (by kernel_rfl) ?_) | (refine wpList_store_mid rfl 30 _ _ rfl (w.heap.size + 1) 0 (rcs r).toArray rfl rfl H3.out.res.there (by kernel_rfl) (by kernel_rfl) ?_))
      have D := H3.out.done hg hw r
      refine bodyPost_ret (results_cell_mid Tryz.results32 _ _ (w.heap.size + 1) (rcs r) _ rfl D.1.range Tryz.underlying30 rfl (by kernel_rfl)) rfl ⟨rfl, D.2⟩
    · have hb : bad = true := by rw [← hbad.out]; simp [q1, q2, q3]
      subst hb
      clear hbad
      have d1 : decide ((y : Int) < 1) = false := decide_eq_false (by omega)
      have d2 : decide ((7 : Int) < (y : Int)) = false := decide_eq_false (by omega)
      have d3 : decide ((y : Int) ≤ (x : Int)) = true := decide_eq_true (by omega)
      go_enter Tryz.func32, Tryz.ntmps32
      go_upto_region 1 with fail
      rw [← hV]
      clear hV
      go_wp2_with fail
      refine (number6_any w0 g l e _ HV.out.scan).mono ?_
      rintro u w1 ⟨rfl, T1, S1⟩
      rw [hx.out]
      rw [hl1.out, he1.out] at S1
      have H1 := hide (HV.out.call hg T1 S1)
      clear T1 S1
      go_wp2_with fail
      refine (number6_any w0 g l1 e1 _ H1.out.scan).mono ?_
      rintro u w2 ⟨rfl, T2, S2⟩
      rw [hy.out]
      rw [hl2.out, he2.out] at S2
      have H2 := hide (H1.out.call hg T2 S2)
      clear T2 S2 H1
      go_wp2_with fail
      refine (judge6_any w0 g true 66 l2 e2 _ H2.out.scan).mono ?_
      rintro u w3 ⟨rfl, T3, S3⟩
      rw [hz.out] at S3
      have H3 := hide (H2.out.call hg T3 S3)
      have f3 := S3.fault
      clear T3 S3 H2
      go_wp2_with (first | (refine wpList_load_mid rfl 30 _ rfl w.heap.size 0 rfl (rcs r) _ H3.out.box.range Tryz.underlying30 rfl (by kernel_rfl) ?_) | (refine wpList_store_mid rfl 30 _ _ rfl (w.heap.size + 1) 0 (rcs r).toArray rfl rfl H3.out.res.there (by kernel_rfl) (by kernel_rfl) ?_))
      have D := H3.out.done hg hw r
      refine bodyPost_ret (results_cell_mid Tryz.results32 _ _ (w.heap.size + 1) (rcs r) _ rfl D.1.range Tryz.underlying30 rfl (by kernel_rfl)) rfl ⟨rfl, D.2⟩
    · have hb : bad = false := by rw [← hbad.out]; simp [q1, q2, q3]
      subst hb
      clear hbad
      have d1 : decide ((y : Int) < 1) = false := decide_eq_false (by omega)
      have d2 : decide ((7 : Int) < (y : Int)) = false := decide_eq_false (by omega)
      have d3 : decide ((y : Int) ≤ (x : Int)) = false := decide_eq_false (by omega)
      go_enter Tryz.func32, Tryz.ntmps32
      go_upto_region 1 with fail
      rw [← hV]
      clear hV
      go_wp2_with fail
      refine (number6_any w0 g l e _ HV.out.scan).mono ?_
      rintro u w1 ⟨rfl, T1, S1⟩
      rw [hx.out]
      rw [hl1.out, he1.out] at S1
      have H1 := hide (HV.out.call hg T1 S1)
      clear T1 S1
      go_wp2_with fail
      refine (number6_any w0 g l1 e1 _ H1.out.scan).mono ?_
      rintro u w2 ⟨rfl, T2, S2⟩
      rw [hy.out]
      rw [hl2.out, he2.out] at S2
      have H2 := hide (H1.out.call hg T2 S2)
      clear T2 S2 H1
      go_wp2_with fail
      refine (judge6_any w0 g false 66 l2 e2 _ H2.out.scan).mono ?_
      rintro u w3 ⟨rfl, T3, S3⟩
      rw [hz.out] at S3
      have H3 := hide (H2.out.call hg T3 S3)
      have f3 := S3.fault
      clear T3 S3 H2
      go_wp2_with (first | (refine wpList_load_mid rfl 30 _ rfl w.heap.size 0 rfl (rcs r) _ H3.out.box.range Tryz.underlying30 rfl (by kernel_rfl) ?_) | (refine wpList_store_mid rfl 30 _ _ rfl (w.heap.size + 1) 0 (rcs r).toArray rfl rfl H3.out.res.there (by kernel_rfl) (by kernel_rfl) ?_))
      have D := H3.out.done hg hw r
      refine bodyPost_ret (results_cell_mid Tryz.results32 _ _ (w.heap.size + 1) (rcs r) _ rfl D.1.range Tryz.underlying30 rfl (by kernel_rfl)) rfl ⟨rfl, D.2⟩
end Go.Proofs.YtlhididcanedhaaGreatDoor
