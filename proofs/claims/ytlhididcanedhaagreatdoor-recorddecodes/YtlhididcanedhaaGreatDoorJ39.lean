/- Texts of the proof, joined. -/
import Derived.Test.YtlhididcanedhaaGreatDoorJ38
/- The document's own scan of records: body. -/
namespace Go.Proofs.YtlhididcanedhaaGreatDoor
open Go.RowKit Go.Wire1

/-- The instance. -/
def in6 (n : Nat) (r : Rc) (l : List Int) (e : Int) : Rc × List Int × Int :=
  ({ r with row := (((nu6 l e).1 % 8 : Nat) : Int), num := t40 ((nu6 l e).1 / 8) }, (nu6 l e).2.1, jd6 (!rinstB (n : Int) (((nu6 l e).1 % 8 : Nat) : Int) (t40 ((nu6 l e).1 / 8))) 62 (nu6 l e).2.2)
/-- The ballot. -/
def ba6 (n : Nat) (p : Rc × List Int × Int) : Rc × List Int × Int :=
  ({ p.1 with round := t40 ((nu6 p.2.1 p.2.2).1 / 8), who := (((nu6 p.2.1 p.2.2).1 % 8 : Nat) : Int) }, (nu6 p.2.1 p.2.2).2.1, jd6 (!balX (n : Int) p.1.kind p.1.row (t40 ((nu6 p.2.1 p.2.2).1 / 8)) (((nu6 p.2.1 p.2.2).1 % 8 : Nat) : Int)) 63 (nu6 p.2.1 p.2.2).2.2)
/-- Same. -/
def sa6 (p : Rc × List Int × Int) : Rc × List Int × Int :=
  ({ p.1 with same := (oc6 p.2.1 p.2.2).1 == 1 }, (oc6 p.2.1 p.2.2).2.1, jd6 (decide (1 < (oc6 p.2.1 p.2.2).1) || (((oc6 p.2.1 p.2.2).1 == 1) && (p.1.round != 0))) 64 (oc6 p.2.1 p.2.2).2.2)
set_option maxHeartbeats 4000000 in
set_option maxRecDepth 100000 in
theorem body6_o (w0 : World) (g n : Nat) (_hn : n ≤ 7) (r : Rc) (l : List Int) (e : Int) (a : Nat → Addr) (w : World) (he : Errs w0 a) (h : S6x w0 w g l e) (hr : r.da = none ∧ r.dn = 0 ∧ r.deps = []) (hB : Hid (decide (r.kind = 2 ∨ r.kind = 3 ∨ r.kind = 4) = false)) (g3 : (r.kind == 3) = false) (hC : Hid (decide (r.kind = 3 ∨ r.kind = 4 ∨ r.kind = 5) = false)) (row num : Int) (l1 : List Int) (e1 z1 : Int) (hrow : Hid ((((nu6 l e).1 % 8 : Nat) : Int) = row)) (hnum : Hid (t40 ((nu6 l e).1 / 8) = num)) (hl1 : Hid ((nu6 l e).2.1 = l1)) (he1 : Hid ((nu6 l e).2.2 = e1)) (hz1 : Hid (jd6 (!rinstB (n : Int) row num) 62 e1 = z1)) :
    Calls Tryz.prog 33 #[.pointer (some ⟨g, 0, none⟩), .int .i64 (n : Int), .agg (rcs r).toArray] w fun u w' => Rec6 w0 w g ({ r with row := row, num := num }, l1, z1) u w' := by
  have hg := h.lt
  have hw : w0.heap.size ≤ w.heap.size := h.low.size
  obtain ⟨V, hV⟩ : ∃ V, V = (w.alloc (.cells (rcs r).toArray 30)).alloc (.cells [.int .i64 0, .int .i64 0, .int .i64 0, .int .i64 0, .int .i64 0, .bool false, .int .i64 0, .int .i64 0, .int .i64 0, .string ⟨#[]⟩, .string ⟨#[]⟩, .string ⟨#[]⟩, .string ⟨#[]⟩, .int .i64 0, .int .i64 0, .slice none 0 0, .int .i64 0, .int .i64 0].toArray 30) := ⟨_, rfl⟩
  have HV : Hid (H6 w0 w V g l e r) := by rw [hV]; exact h6_new h r
  have HE := hide he
  have HR := hide hr
  clear h he hr
  go_enter Tryz.func33, Tryz.ntmps33
  go_upto_region 1 with fail
  rw [← hV]
  clear hV
  go_wp2_with fail
  refine (pair6_any w0 g l e _ HV.out.scan).mono ?_
  rintro u w1 ⟨rfl, T1, S1⟩
  have H1 := hide (HV.out.call hg T1 S1)
  clear T1 S1 HV
  rw [hl1.out, he1.out] at H1
  rw [hnum.out, hrow.out]
  have y1 : w1.cell? ⟨w.heap.size, 1, none⟩ = some (.int .i64 (r).row) := H1.out.box.cell 1 _ rfl
  have ty1 := H1.out.box.thaw 1
  have y2 : w1.cell? ⟨w.heap.size, 2, none⟩ = some (.int .i64 (r).num) := H1.out.box.cell 2 _ rfl
  have ty2 := H1.out.box.thaw 2
  obtain ⟨w2, hw2⟩ : ∃ w2, w2 = (w1.setCell ⟨w.heap.size, 1, none⟩ (.int .i64 row)).setCell ⟨w.heap.size, 2, none⟩ (.int .i64 num) := ⟨_, rfl⟩
  have H2 : Hid (H6 w0 w w2 g l1 e1 { r with row := row, num := num }) := by
    rw [hw2]
    exact (H1.out.put hg hw 1 (.int .i64 row) (r' := { r with row := row }) rfl).put hg hw 2 (.int .i64 num) rfl
  go_upto_region 3 with fail
  rw [← hw2]
  clear hw2 H1 y1 ty1 y2 ty2
  have y1 : w2.cell? ⟨w.heap.size, 1, none⟩ = some (.int .i64 (({ r with row := row, num := num } : Rc)).row) := H2.out.box.cell 1 _ rfl
  have ty1 := H2.out.box.thaw 1
  have y2 : w2.cell? ⟨w.heap.size, 2, none⟩ = some (.int .i64 (({ r with row := row, num := num } : Rc)).num) := H2.out.box.cell 2 _ rfl
  have ty2 := H2.out.box.thaw 2
  go_wp2_with fail
  refine (refInstOK_any (n : Int) row num _).mono ?_
  rintro u w3 ⟨rfl, b3⟩
  have H3 := hide (H2.out.on b3)
  clear b3 H2 y1 ty1 y2 ty2
  go_wp2_with fail
  refine (judge6_any w0 g (!rinstB (n : Int) row num) 62 l1 e1 _ H3.out.scan).mono ?_
  rintro u w4 ⟨rfl, T4, S4⟩
  rw [hz1.out] at S4
  have H4 := hide (H3.out.call hg T4 S4)
  clear T4 S4 H3
  have y0 : w4.cell? ⟨w.heap.size, 0, none⟩ = some (.int .i64 r.kind) := H4.out.box.cell 0 _ rfl
  have ty0 := H4.out.box.thaw 0
  go_wp2_with (first | (go_at_call 19; refine (hasBal6_any r.kind _).mono ?_; rintro u w' ⟨rfl, rfl⟩; rw [hB.out]) | (go_at_call 20; refine (hasCmd6_any r.kind _).mono ?_; rintro u w' ⟨rfl, rfl⟩; rw [hC.out]) | (refine wpList_load_mid rfl 30 _ rfl w.heap.size 0 rfl (rcs { r with row := row, num := num }) _ H4.out.box.range Tryz.underlying30 rfl (by kernel_rfl) ?_) | (refine wpList_store_mid rfl 30 _ _ rfl (w.heap.size + 1) 0 (rcs { r with row := row, num := num }).toArray rfl rfl H4.out.res.there (by kernel_rfl) (by kernel_rfl) ?_))
  have D := H4.out.done hg hw { r with row := row, num := num }
  refine bodyPost_ret (results_cell_mid Tryz.results33 _ _ (w.heap.size + 1) (rcs { r with row := row, num := num }) _ rfl D.1.range Tryz.underlying30 rfl (by kernel_rfl)) rfl ?_
  exact ⟨_, rfl, rfl, by (show SegI _ r.da r.dn r.deps; rw [HR.out.1, HR.out.2.1, HR.out.2.2]; exact segI_none _), fun x hx => by (have q : r.da = some x := hx; rw [HR.out.1] at q; cases q), D.2⟩
set_option maxHeartbeats 4000000 in
set_option maxRecDepth 100000 in
theorem body6_2 (w0 : World) (g n : Nat) (_hn : n ≤ 7) (r : Rc) (l : List Int) (e : Int) (a : Nat → Addr) (w : World) (he : Errs w0 a) (h : S6x w0 w g l e) (hr : r.da = none ∧ r.dn = 0 ∧ r.deps = []) (hB : Hid (decide (r.kind = 2 ∨ r.kind = 3 ∨ r.kind = 4) = true)) (g3 : (r.kind == 3) = false) (hC : Hid (decide (r.kind = 3 ∨ r.kind = 4 ∨ r.kind = 5) = false)) (row num : Int) (l1 : List Int) (e1 z1 : Int) (hrow : Hid ((((nu6 l e).1 % 8 : Nat) : Int) = row)) (hnum : Hid (t40 ((nu6 l e).1 / 8) = num)) (hl1 : Hid ((nu6 l e).2.1 = l1)) (he1 : Hid ((nu6 l e).2.2 = e1)) (hz1 : Hid (jd6 (!rinstB (n : Int) row num) 62 e1 = z1)) (round who : Int) (l2 : List Int) (e2 z2 : Int) (hround : Hid (t40 ((nu6 l1 z1).1 / 8) = round)) (hwho : Hid ((((nu6 l1 z1).1 % 8 : Nat) : Int) = who)) (hl2 : Hid ((nu6 l1 z1).2.1 = l2)) (he2 : Hid ((nu6 l1 z1).2.2 = e2)) (hz2 : Hid (jd6 (!balX (n : Int) r.kind row round who) 63 e2 = z2)) :
    Calls Tryz.prog 33 #[.pointer (some ⟨g, 0, none⟩), .int .i64 (n : Int), .agg (rcs r).toArray] w fun u w' => Rec6 w0 w g ({ r with row := row, num := num, round := round, who := who }, l2, z2) u w' := by
  have hg := h.lt
  have hw : w0.heap.size ≤ w.heap.size := h.low.size
  obtain ⟨V, hV⟩ : ∃ V, V = (w.alloc (.cells (rcs r).toArray 30)).alloc (.cells [.int .i64 0, .int .i64 0, .int .i64 0, .int .i64 0, .int .i64 0, .bool false, .int .i64 0, .int .i64 0, .int .i64 0, .string ⟨#[]⟩, .string ⟨#[]⟩, .string ⟨#[]⟩, .string ⟨#[]⟩, .int .i64 0, .int .i64 0, .slice none 0 0, .int .i64 0, .int .i64 0].toArray 30) := ⟨_, rfl⟩
  have HV : Hid (H6 w0 w V g l e r) := by rw [hV]; exact h6_new h r
  have HE := hide he
  have HR := hide hr
  clear h he hr
  go_enter Tryz.func33, Tryz.ntmps33
  go_upto_region 1 with fail
  rw [← hV]
  clear hV
  go_wp2_with fail
  refine (pair6_any w0 g l e _ HV.out.scan).mono ?_
  rintro u w1 ⟨rfl, T1, S1⟩
  have H1 := hide (HV.out.call hg T1 S1)
  clear T1 S1 HV
  rw [hl1.out, he1.out] at H1
  rw [hnum.out, hrow.out]
  have y1 : w1.cell? ⟨w.heap.size, 1, none⟩ = some (.int .i64 (r).row) := H1.out.box.cell 1 _ rfl
  have ty1 := H1.out.box.thaw 1
  have y2 : w1.cell? ⟨w.heap.size, 2, none⟩ = some (.int .i64 (r).num) := H1.out.box.cell 2 _ rfl
  have ty2 := H1.out.box.thaw 2
  obtain ⟨w2, hw2⟩ : ∃ w2, w2 = (w1.setCell ⟨w.heap.size, 1, none⟩ (.int .i64 row)).setCell ⟨w.heap.size, 2, none⟩ (.int .i64 num) := ⟨_, rfl⟩
  have H2 : Hid (H6 w0 w w2 g l1 e1 { r with row := row, num := num }) := by
    rw [hw2]
    exact (H1.out.put hg hw 1 (.int .i64 row) (r' := { r with row := row }) rfl).put hg hw 2 (.int .i64 num) rfl
  go_upto_region 3 with fail
  rw [← hw2]
  clear hw2 H1 y1 ty1 y2 ty2
  have y1 : w2.cell? ⟨w.heap.size, 1, none⟩ = some (.int .i64 (({ r with row := row, num := num } : Rc)).row) := H2.out.box.cell 1 _ rfl
  have ty1 := H2.out.box.thaw 1
  have y2 : w2.cell? ⟨w.heap.size, 2, none⟩ = some (.int .i64 (({ r with row := row, num := num } : Rc)).num) := H2.out.box.cell 2 _ rfl
  have ty2 := H2.out.box.thaw 2
  go_wp2_with fail
  refine (refInstOK_any (n : Int) row num _).mono ?_
  rintro u w3 ⟨rfl, b3⟩
  have H3 := hide (H2.out.on b3)
  clear b3 H2 y1 ty1 y2 ty2
  go_wp2_with fail
  refine (judge6_any w0 g (!rinstB (n : Int) row num) 62 l1 e1 _ H3.out.scan).mono ?_
  rintro u w4 ⟨rfl, T4, S4⟩
  rw [hz1.out] at S4
  have H4 := hide (H3.out.call hg T4 S4)
  clear T4 S4 H3
  have y0 : w4.cell? ⟨w.heap.size, 0, none⟩ = some (.int .i64 r.kind) := H4.out.box.cell 0 _ rfl
  have ty0 := H4.out.box.thaw 0
  go_wp2_with (first | (go_at_call 19; refine (hasBal6_any r.kind _).mono ?_; rintro u w' ⟨rfl, rfl⟩; rw [hB.out]))
  refine (pair6_any w0 g l1 z1 _ H4.out.scan).mono ?_
  rintro u w5 ⟨rfl, T5, S5⟩
  rw [hl2.out, he2.out] at S5
  have H5 := hide (H4.out.call hg T5 S5)
  clear T5 S5 H4 y0 ty0
  rw [hround.out, hwho.out]
  have y3 : w5.cell? ⟨w.heap.size, 3, none⟩ = some (.int .i64 (r).round) := H5.out.box.cell 3 _ rfl
  have ty3 := H5.out.box.thaw 3
  have y4 : w5.cell? ⟨w.heap.size, 4, none⟩ = some (.int .i64 (r).who) := H5.out.box.cell 4 _ rfl
  have ty4 := H5.out.box.thaw 4
  obtain ⟨w6, hw6⟩ : ∃ w6, w6 = (w5.setCell ⟨w.heap.size, 3, none⟩ (.int .i64 round)).setCell ⟨w.heap.size, 4, none⟩ (.int .i64 who) := ⟨_, rfl⟩
  have H6' : Hid (H6 w0 w w6 g l2 e2 { r with row := row, num := num, round := round, who := who }) := by
    rw [hw6]
    exact (H5.out.put hg hw 3 (.int .i64 round) (r' := { r with row := row, num := num, round := round }) rfl).put hg hw 4 (.int .i64 who) rfl
  go_upto_region 7 with fail
  rw [← hw6]
  clear hw6 H5 y3 ty3 y4 ty4
  have y0 : w6.cell? ⟨w.heap.size, 0, none⟩ = some (.int .i64 r.kind) := H6'.out.box.cell 0 _ rfl
  have y1 : w6.cell? ⟨w.heap.size, 1, none⟩ = some (.int .i64 row) := H6'.out.box.cell 1 _ rfl
  have y2 : w6.cell? ⟨w.heap.size, 2, none⟩ = some (.int .i64 num) := H6'.out.box.cell 2 _ rfl
  have y3 : w6.cell? ⟨w.heap.size, 3, none⟩ = some (.int .i64 round) := H6'.out.box.cell 3 _ rfl
  have y4 : w6.cell? ⟨w.heap.size, 4, none⟩ = some (.int .i64 who) := H6'.out.box.cell 4 _ rfl
  go_wp2_with fail
  refine (balX_any (n : Int) r.kind row num round who _).mono ?_
  rintro u w7 ⟨rfl, b7⟩
  have H7 := hide (H6'.out.on b7)
  clear b7 H6' y0 y1 y2 y3 y4
  go_wp2_with fail
  refine (judge6_any w0 g (!balX (n : Int) r.kind row round who) 63 l2 e2 _ H7.out.scan).mono ?_
  rintro u w8 ⟨rfl, T8, S8⟩
  rw [hz2.out] at S8
  have H8 := hide (H7.out.call hg T8 S8)
  clear T8 S8 H7
  have y0 : w8.cell? ⟨w.heap.size, 0, none⟩ = some (.int .i64 r.kind) := H8.out.box.cell 0 _ rfl
  go_wp2_with (first | (go_at_call 20; refine (hasCmd6_any r.kind _).mono ?_; rintro u w' ⟨rfl, rfl⟩; rw [hC.out]) | (refine wpList_load_mid rfl 30 _ rfl w.heap.size 0 rfl (rcs { r with row := row, num := num, round := round, who := who }) _ H8.out.box.range Tryz.underlying30 rfl (by kernel_rfl) ?_) | (refine wpList_store_mid rfl 30 _ _ rfl (w.heap.size + 1) 0 (rcs { r with row := row, num := num, round := round, who := who }).toArray rfl rfl H8.out.res.there (by kernel_rfl) (by kernel_rfl) ?_))
  have D := H8.out.done hg hw { r with row := row, num := num, round := round, who := who }
  refine bodyPost_ret (results_cell_mid Tryz.results33 _ _ (w.heap.size + 1) (rcs { r with row := row, num := num, round := round, who := who }) _ rfl D.1.range Tryz.underlying30 rfl (by kernel_rfl)) rfl ?_
  exact ⟨_, rfl, rfl, by (show SegI _ r.da r.dn r.deps; rw [HR.out.1, HR.out.2.1, HR.out.2.2]; exact segI_none _), fun x hx => by (have q : r.da = some x := hx; rw [HR.out.1] at q; cases q), D.2⟩
set_option maxHeartbeats 4000000 in
set_option maxRecDepth 100000 in
theorem body6_5 (w0 : World) (g n : Nat) (hn : n ≤ 7) (r : Rc) (l : List Int) (e : Int) (a : Nat → Addr) (w : World) (he : Errs w0 a) (h : S6x w0 w g l e) (hr : r.da = none ∧ r.dn = 0 ∧ r.deps = []) (hB : Hid (decide (r.kind = 2 ∨ r.kind = 3 ∨ r.kind = 4) = false)) (g3 : (r.kind == 3) = false) (hC : Hid (decide (r.kind = 3 ∨ r.kind = 4 ∨ r.kind = 5) = true)) (row num : Int) (l1 : List Int) (e1 z1 : Int) (hrow : Hid ((((nu6 l e).1 % 8 : Nat) : Int) = row)) (hnum : Hid (t40 ((nu6 l e).1 / 8) = num)) (hl1 : Hid ((nu6 l e).2.1 = l1)) (he1 : Hid ((nu6 l e).2.2 = e1)) (hz1 : Hid (jd6 (!rinstB (n : Int) row num) 62 e1 = z1)) :
    Calls Tryz.prog 33 #[.pointer (some ⟨g, 0, none⟩), .int .i64 (n : Int), .agg (rcs r).toArray] w fun u w' => Rec6 w0 w g (va6 n { r with row := row, num := num } l1 z1) u w' := by
  have hg := h.lt
  have hw : w0.heap.size ≤ w.heap.size := h.low.size
  obtain ⟨V, hV⟩ : ∃ V, V = (w.alloc (.cells (rcs r).toArray 30)).alloc (.cells [.int .i64 0, .int .i64 0, .int .i64 0, .int .i64 0, .int .i64 0, .bool false, .int .i64 0, .int .i64 0, .int .i64 0, .string ⟨#[]⟩, .string ⟨#[]⟩, .string ⟨#[]⟩, .string ⟨#[]⟩, .int .i64 0, .int .i64 0, .slice none 0 0, .int .i64 0, .int .i64 0].toArray 30) := ⟨_, rfl⟩
  have HV : Hid (H6 w0 w V g l e r) := by rw [hV]; exact h6_new h r
  have HE := hide he
  have HR := hide hr
  clear h he hr
  go_enter Tryz.func33, Tryz.ntmps33
  go_upto_region 1 with fail
  rw [← hV]
  clear hV
  go_wp2_with fail
  refine (pair6_any w0 g l e _ HV.out.scan).mono ?_
  rintro u w1 ⟨rfl, T1, S1⟩
  have H1 := hide (HV.out.call hg T1 S1)
  clear T1 S1 HV
  rw [hl1.out, he1.out] at H1
  rw [hnum.out, hrow.out]
  have y1 : w1.cell? ⟨w.heap.size, 1, none⟩ = some (.int .i64 (r).row) := H1.out.box.cell 1 _ rfl
  have ty1 := H1.out.box.thaw 1
  have y2 : w1.cell? ⟨w.heap.size, 2, none⟩ = some (.int .i64 (r).num) := H1.out.box.cell 2 _ rfl
  have ty2 := H1.out.box.thaw 2
  obtain ⟨w2, hw2⟩ : ∃ w2, w2 = (w1.setCell ⟨w.heap.size, 1, none⟩ (.int .i64 row)).setCell ⟨w.heap.size, 2, none⟩ (.int .i64 num) := ⟨_, rfl⟩
  have H2 : Hid (H6 w0 w w2 g l1 e1 { r with row := row, num := num }) := by
    rw [hw2]
    exact (H1.out.put hg hw 1 (.int .i64 row) (r' := { r with row := row }) rfl).put hg hw 2 (.int .i64 num) rfl
  go_upto_region 3 with fail
  rw [← hw2]
  clear hw2 H1 y1 ty1 y2 ty2
  have y1 : w2.cell? ⟨w.heap.size, 1, none⟩ = some (.int .i64 (({ r with row := row, num := num } : Rc)).row) := H2.out.box.cell 1 _ rfl
  have ty1 := H2.out.box.thaw 1
  have y2 : w2.cell? ⟨w.heap.size, 2, none⟩ = some (.int .i64 (({ r with row := row, num := num } : Rc)).num) := H2.out.box.cell 2 _ rfl
  have ty2 := H2.out.box.thaw 2
  go_wp2_with fail
  refine (refInstOK_any (n : Int) row num _).mono ?_
  rintro u w3 ⟨rfl, b3⟩
  have H3 := hide (H2.out.on b3)
  clear b3 H2 y1 ty1 y2 ty2
  go_wp2_with fail
  refine (judge6_any w0 g (!rinstB (n : Int) row num) 62 l1 e1 _ H3.out.scan).mono ?_
  rintro u w4 ⟨rfl, T4, S4⟩
  rw [hz1.out] at S4
  have H4 := hide (H3.out.call hg T4 S4)
  clear T4 S4 H3
  have y0 : w4.cell? ⟨w.heap.size, 0, none⟩ = some (.int .i64 r.kind) := H4.out.box.cell 0 _ rfl
  have ty0 := H4.out.box.thaw 0
  go_wp2_with (first | (go_at_call 19; refine (hasBal6_any r.kind _).mono ?_; rintro u w' ⟨rfl, rfl⟩; rw [hB.out]) | (go_at_call 20; refine (hasCmd6_any r.kind _).mono ?_; rintro u w' ⟨rfl, rfl⟩; rw [hC.out]) | (refine wpList_load_mid rfl 30 _ rfl w.heap.size 0 rfl (rcs { r with row := row, num := num }) _ H4.out.box.range Tryz.underlying30 rfl (by kernel_rfl) ?_))
  refine (value6_any w0 g n hn { r with row := row, num := num } l1 z1 a _ HE.out H4.out.scan HR.out).mono ?_
  rintro u wC ⟨rr, rfl, er1, sg1, far1, TC, SC⟩
  have HC2 := hide (H4.out.call hg TC SC)
  have hwx : w.heap.size + 1 < wC.heap.size := HC2.out.res.lt
  have hwy : w.heap.size + 1 < w4.heap.size := H4.out.res.lt
  have FAR : Hid (∀ x, rr.da = some x → 0 < rr.dn → w.heap.size + 1 < x.block) := fun x hx h0 => by have := far1 x hx h0; omega
  have SG := hide sg1
  have ER := hide er1
  clear er1 sg1 far1 TC SC H4
  have HD := hide (HC2.out.lay hg hw rr)
  go_upto_region 14 with (first | (refine wpList_store_mid rfl 30 _ _ rfl w.heap.size 0 (rcs rr).toArray rfl rfl HC2.out.box.there (by kernel_rfl) (by kernel_rfl) ?_))
  go_wp2_with (first | (refine wpList_load_mid rfl 30 _ rfl w.heap.size 0 rfl (rcs rr) _ HD.out.box.range Tryz.underlying30 rfl (by kernel_rfl) ?_) | (refine wpList_store_mid rfl 30 _ _ rfl (w.heap.size + 1) 0 (rcs rr).toArray rfl rfl HD.out.res.there (by kernel_rfl) (by kernel_rfl) ?_))
  have D := HD.out.done hg hw rr
  refine bodyPost_ret (results_cell_mid Tryz.results33 _ _ (w.heap.size + 1) (rcs rr) _ rfl D.1.range Tryz.underlying30 rfl (by kernel_rfl)) rfl ?_
  refine ⟨rr, rfl, ER.out, ?_, FAR.out, D.2⟩
  have s1 := touch_segI (touch_own (q := w.heap.size) (rcs rr) 0 _ _ (Touch.refl _ wC)) SG.out (fun x hx h0 => by have := FAR.out x hx h0; omega)
  exact touch_segI (touch_own _ _ _ _ (Touch.refl (w.heap.size + 1) _)) s1 FAR.out
end Go.Proofs.YtlhididcanedhaaGreatDoor
