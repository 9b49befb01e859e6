/- Texts of the proof, joined. -/
import Derived.Test.YtlhididcanedhaaGreatDoorJ01
import Derived.Test.YtlhididcanedhaaGreatDoorJ41
/- The document's own Decode of records: what it gives at every input. -/
namespace Go.Proofs.YtlhididcanedhaaGreatDoor
open Go.RowKit Go.Wire1

theorem d6_far {q g j : Nat} (hg : g ≠ q) : ∀ (vs : List Value) (o : Nat) (W : World), (W.setCells q o vs).cell? ⟨g, j, none⟩ = W.cell? ⟨g, j, none⟩
  | [], _, _ => rfl
  | v :: vs, o, W => (d6_far hg vs (o + 1) (W.setCell ⟨q, o, none⟩ v)).trans (World.cell?_setCell_other _ _ _ _ (by intro r; injection r with r1; omega))
theorem built_kind (k : Int) : Tryz.prog.built 30 [(0, Value.int .i64 k)] = some (rcs { zeroRc with kind := k }).toArray := by kernel_rfl
theorem s6x_new {w V U : World} {sa : Option Addr} {m cap : Nat} {l : List Int} (hs : Seg w sa m l) (hsrc : Src sa m cap) (hy : Byt l) (hV : Below w.heap.size w V) (hU : U = V.alloc (.cells #[.slice sa m cap, .int .i64 0] 74)) : S6x w U V.heap.size l 0 := by
  subst hU
  exact ⟨sa, m, cap, blk_new V 74 [.slice sa m cap, .int .i64 0], hV.alloc hV.size _, hV.size, hs, hsrc, hy⟩
/-- In the midst of Decode: w the world at the call, W now; the answer's box, the scan, the record's box. -/
structure D6 (w W : World) (g q : Nat) (l : List Int) (e : Int) (r : Rc) : Prop where
  low : Below w.heap.size w W
  ans : Blk W w.heap.size [.int .i64 0, .int .i64 0, .int .i64 0, .int .i64 0, .int .i64 0, .bool false, .int .i64 0, .int .i64 0, .int .i64 0, .string ⟨#[]⟩, .string ⟨#[]⟩, .string ⟨#[]⟩, .string ⟨#[]⟩, .int .i64 0, .int .i64 0, .slice none 0 0, .int .i64 0, .int .i64 0]
  scan : S6x w W g l e
  box : Blk W q (rcs r)
  hg : g = w.heap.size + 1
  hq : g < q
  dep : SegI W r.da r.dn r.deps
  far : ∀ x, r.da = some x → 0 < r.dn → q < x.block
theorem D6.call {w W W' : World} {g q : Nat} {l l' : List Int} {e e' : Int} {r : Rc} (h : D6 w W g q l e r) (T : Touch g W W') (S : S6x w W' g l' e') : D6 w W' g q l' e' r := by
  have h1 := h.hg
  have h2 := h.hq
  exact ⟨T.below (by omega) h.low, h.ans.of_block (T.block _ h.ans.lt (by omega)), S, h.box.of_block (T.block _ h.box.lt (by omega)), h1, h2, touch_segI T h.dep (fun x hx hn => by have := h.far x hx hn; omega), h.far⟩
/-- The record is stored. -/
theorem D6.lay {w W W' : World} {g q : Nat} {l l' : List Int} {e e' : Int} {r rr : Rc} (h : D6 w W g q l e r) (T : Touch g W W') (S : S6x w W' g l' e') (hd : SegI W' rr.da rr.dn rr.deps) (hf : ∀ x, rr.da = some x → 0 < rr.dn → W.heap.size ≤ x.block) : D6 w (W'.setCells q 0 (rcs rr)) g q l' e' rr := by
  have h1 := h.hg
  have h2 := h.hq
  have h3 := h.box.lt
  have h4 := h.ans.lt
  have TQ : Touch q W' (W'.setCells q 0 (rcs rr)) := touch_own _ _ _ _ (Touch.refl _ W')
  have a1 : Blk W' w.heap.size [.int .i64 0, .int .i64 0, .int .i64 0, .int .i64 0, .int .i64 0, .bool false, .int .i64 0, .int .i64 0, .int .i64 0, .string ⟨#[]⟩, .string ⟨#[]⟩, .string ⟨#[]⟩, .string ⟨#[]⟩, .int .i64 0, .int .i64 0, .slice none 0 0, .int .i64 0, .int .i64 0] := h.ans.of_block (T.block _ h4 (by omega))
  have b1 : Blk W' q (rcs r) := h.box.of_block (T.block _ h3 (by omega))
  exact ⟨below_cells (by omega) _ _ _ (T.below (by omega) h.low), a1.of_block (TQ.block _ a1.lt (by omega)), S.beside TQ (by omega) (by omega), blk_cells b1 rfl, h1, h2, touch_segI TQ hd (fun x hx hn => by have := hf x hx hn; omega), fun x hx hn => by have := hf x hx hn; omega⟩
theorem segI_zero (w : World) (r : Rc) (hr : r.da = none ∧ r.dn = 0 ∧ r.deps = []) : SegI w r.da r.dn r.deps := by rw [hr.1, hr.2.1, hr.2.2]; exact segI_none w
/-- head in the form of the others. -/
theorem head6_rec (w0 : World) (g : Nat) (r : Rc) (l : List Int) (e : Int) (w : World) (h : S6x w0 w g l e) (hr : r.da = none ∧ r.dn = 0 ∧ r.deps = []) :
    Calls Tryz.prog 32 #[.pointer (some ⟨g, 0, none⟩), .agg (rcs r).toArray] w fun u w' => Rec6 w0 w g (hd6 r l e) u w' := by
  refine (head6_any w0 g r l e w h).mono ?_
  rintro u w' ⟨rfl, T, S⟩
  have hd : (hd6 r l e).1.da = none ∧ (hd6 r l e).1.dn = 0 ∧ (hd6 r l e).1.deps = [] := by
    unfold hd6
    simp only
    split
    · exact hr
    · exact hr
  exact ⟨_, rfl, rfl, segI_zero _ _ hd, fun x hx => by (rw [hd.1] at hx; cases hx), T, S⟩

set_option maxHeartbeats 4000000 in
set_option maxRecDepth 100000 in
theorem dec6_one_ok (n : Nat) (h1 : 1 ≤ n) (h7 : n ≤ 7) (sa : Option Addr) (m cap : Nat) (l : List Int) (a : Nat → Addr) (w : World) (hs : Seg w sa m l) (hsrc : Src sa m cap) (hy : Byt l) (he : Errs w a) (k : Int) (l1 : List Int) (e1 z1 : Int) (hk : Hid ((oc6 l 0).1 = k)) (hl1 : Hid ((oc6 l 0).2.1 = l1)) (he1 : Hid ((oc6 l 0).2.2 = e1)) (q1 : k = 1) (hz1 : Hid (jd6 false 61 e1 = z1)) (p : Rc × List Int × Int) (hp : Hid (hd6 { zeroRc with kind := k } l1 z1 = p)) (z : Int) (hz : Hid (jd6 (decide (0 < p.2.1.length)) 68 p.2.2 = z)) (h0 : z = 0) :
    Calls Tryz.prog 14 #[.int .i64 (n : Int), .slice sa m cap] w fun e w' => ∃ rr, e = .returned (.tuple #[.agg (rcs rr).toArray, .int .i64 z]) ∧ er rr = er p.1 ∧ SegI w' rr.da rr.dn rr.deps ∧ Below w.heap.size w w' := by
  subst q1
  obtain ⟨V, hV⟩ : ∃ V, V = w.alloc (.cells #[.int .i64 0, .int .i64 0, .int .i64 0, .int .i64 0, .int .i64 0, .bool false, .int .i64 0, .int .i64 0, .int .i64 0, .string ⟨#[]⟩, .string ⟨#[]⟩, .string ⟨#[]⟩, .string ⟨#[]⟩, .int .i64 0, .int .i64 0, .slice none 0 0, .int .i64 0, .int .i64 0] 30) := ⟨_, rfl⟩
  have QV : Hid (Blk V w.heap.size [.int .i64 0, .int .i64 0, .int .i64 0, .int .i64 0, .int .i64 0, .bool false, .int .i64 0, .int .i64 0, .int .i64 0, .string ⟨#[]⟩, .string ⟨#[]⟩, .string ⟨#[]⟩, .string ⟨#[]⟩, .int .i64 0, .int .i64 0, .slice none 0 0, .int .i64 0, .int .i64 0]) := by rw [hV]; exact blk_new w 30 [.int .i64 0, .int .i64 0, .int .i64 0, .int .i64 0, .int .i64 0, .bool false, .int .i64 0, .int .i64 0, .int .i64 0, .string ⟨#[]⟩, .string ⟨#[]⟩, .string ⟨#[]⟩, .string ⟨#[]⟩, .int .i64 0, .int .i64 0, .slice none 0 0, .int .i64 0, .int .i64 0]
  have BV : Hid (Below w.heap.size w V) := by rw [hV]; exact (Below.refl _ _).alloc (Nat.le_refl _) _
  have hVs : V.heap.size = w.heap.size + 1 := by rw [hV]; simp
  obtain ⟨U, hU⟩ : ∃ U, U = V.alloc (.cells #[.slice sa m cap, .int .i64 0] 74) := ⟨_, rfl⟩
  have SU : Hid (S6x w U V.heap.size l 0) := s6x_new hs hsrc hy BV.out hU
  have BU : Hid (Below V.heap.size V U) := by rw [hU]; exact (Below.refl _ _).alloc (Nat.le_refl _) _
  have HU := hide hU
  have QU : Hid (Blk U w.heap.size [.int .i64 0, .int .i64 0, .int .i64 0, .int .i64 0, .int .i64 0, .bool false, .int .i64 0, .int .i64 0, .int .i64 0, .string ⟨#[]⟩, .string ⟨#[]⟩, .string ⟨#[]⟩, .string ⟨#[]⟩, .int .i64 0, .int .i64 0, .slice none 0 0, .int .i64 0, .int .i64 0]) := QV.out.on BU.out
  have BUw : Hid (Below w.heap.size w U) := BV.out.trans (BU.out.mono (by omega))
  obtain ⟨g, hg⟩ : ∃ g, Hid (V.heap.size = g) := ⟨_, rfl⟩
  have hgw : Hid (g = w.heap.size + 1) := by show _ = _; rw [← hg.out]; exact hVs
  rw [hg.out] at SU
  have HE := hide he
  have n1 : decide ((n : Int) < 1) = false := decide_eq_false (by omega)
  have n7 : decide ((7 : Int) < (n : Int)) = false := decide_eq_false (by omega)
  clear hU hs hsrc hy he hVs QV BU h1
  go_enter Tryz.func14, Tryz.ntmps14
  go_upto_region 1 with fail
  rw [← hV]
  clear hV
  go_upto_region 4 with fail
  rw [← HU.out, hg.out]
  go_wp2_with fail
  refine (byte6_any w g l 0 _ SU.out).mono ?_
  rintro u w1 ⟨rfl, T1, S1⟩
  rw [hk.out]
  rw [hl1.out, he1.out] at S1
  have Q1 : Hid (Blk w1 w.heap.size [.int .i64 0, .int .i64 0, .int .i64 0, .int .i64 0, .int .i64 0, .bool false, .int .i64 0, .int .i64 0, .int .i64 0, .string ⟨#[]⟩, .string ⟨#[]⟩, .string ⟨#[]⟩, .string ⟨#[]⟩, .int .i64 0, .int .i64 0, .slice none 0 0, .int .i64 0, .int .i64 0]) := QU.out.of_block (T1.block _ QU.out.lt (by have := hgw.out; omega))
  have B1 : Hid (Below w.heap.size w w1) := T1.below (by have := hgw.out; omega) BUw.out
  have g1 : Hid (g < w1.heap.size) := S1.lt
  have HS1 := hide S1
  clear T1 S1 SU QU BUw HU
  obtain ⟨X, hX⟩ : ∃ X, X = w1.alloc (.cells #[.int .i64 0, .int .i64 0, .int .i64 0, .int .i64 0, .int .i64 0, .bool false, .int .i64 0, .int .i64 0, .int .i64 0, .string ⟨#[]⟩, .string ⟨#[]⟩, .string ⟨#[]⟩, .string ⟨#[]⟩, .int .i64 0, .int .i64 0, .slice none 0 0, .int .i64 0, .int .i64 0] 30) := ⟨_, rfl⟩
  have QX : Hid (Blk X w1.heap.size [.int .i64 0, .int .i64 0, .int .i64 0, .int .i64 0, .int .i64 0, .bool false, .int .i64 0, .int .i64 0, .int .i64 0, .string ⟨#[]⟩, .string ⟨#[]⟩, .string ⟨#[]⟩, .string ⟨#[]⟩, .int .i64 0, .int .i64 0, .slice none 0 0, .int .i64 0, .int .i64 0]) := by rw [hX]; exact blk_new w1 30 [.int .i64 0, .int .i64 0, .int .i64 0, .int .i64 0, .int .i64 0, .bool false, .int .i64 0, .int .i64 0, .int .i64 0, .string ⟨#[]⟩, .string ⟨#[]⟩, .string ⟨#[]⟩, .string ⟨#[]⟩, .int .i64 0, .int .i64 0, .slice none 0 0, .int .i64 0, .int .i64 0]
  have BX : Hid (Below w1.heap.size w1 X) := by rw [hX]; exact (Below.refl _ _).alloc (Nat.le_refl _) _
  have TX : Hid (X.there w1.heap.size 0 18) := QX.out.there
  obtain ⟨q, hq⟩ : ∃ q, Hid (w1.heap.size = q) := ⟨_, rfl⟩
  obtain ⟨Y, hY⟩ : ∃ Y, Y = X.setCells w1.heap.size 0 (rcs { zeroRc with kind := 1 }) := ⟨_, rfl⟩
  have D0 : Hid (D6 w Y g q l1 e1 { zeroRc with kind := 1 }) := by
    have RY := box_stored (w := w1) QX.out (by rfl) BX.out (Nat.le_refl _) hY
    rw [hq.out] at RY
    exact ⟨B1.out.trans (RY.2.mono (by rw [← hq.out]; exact B1.out.size)), Q1.out.of_block (RY.2.block _ (by rw [← hq.out]; exact Q1.out.lt)), HS1.out.on (by rw [hq.out]; exact RY.2), RY.1, hgw.out, by rw [← hq.out]; exact g1.out, segI_none _, fun x hx => by cases hx⟩
  have HX : Hid (w1.alloc (.cells #[.int .i64 0, .int .i64 0, .int .i64 0, .int .i64 0, .int .i64 0, .bool false, .int .i64 0, .int .i64 0, .int .i64 0, .string ⟨#[]⟩, .string ⟨#[]⟩, .string ⟨#[]⟩, .string ⟨#[]⟩, .int .i64 0, .int .i64 0, .slice none 0 0, .int .i64 0, .int .i64 0] 30) = X) := hX.symm
  have HY : Hid (X.setCells w1.heap.size 0 (rcs { zeroRc with kind := 1 }).toArray.toList = Y) := hY.symm
  clear hX hY QX BX Q1 B1 HS1
  go_upto_region 5 with (first | (refine wpList_build rfl 30 _ rfl [(0, Value.int .i64 1)] rfl _ (built_kind 1) ?_) | (refine wpList_store_mid rfl 30 _ _ rfl w1.heap.size 0 (rcs { zeroRc with kind := 1 }).toArray rfl rfl (by rw [HX.out]; exact TX.out) (by kernel_rfl) (by kernel_rfl) ?_))
  rw [HX.out, HY.out, hq.out]
  have c0 : Y.cell? ⟨q, 0, none⟩ = some (.int .i64 1) := D0.out.box.cell 0 _ (rcs0 _)
  clear HY HX TX
  go_wp2_with fail
  refine (judge6_any w g false 61 l1 e1 _ D0.out.scan).mono ?_
  rintro u w2 ⟨rfl, T2, S2⟩
  rw [hz1.out] at S2
  have D2 := hide (D0.out.call T2 S2)
  have c2 : w2.cell? ⟨q, 0, none⟩ = some (.int .i64 1) := D2.out.box.cell 0 _ (rcs0 _)
  clear T2 S2 D0 c0
  go_wp2_with (first | (refine wpList_load_mid rfl 30 _ rfl q 0 rfl (rcs { zeroRc with kind := 1 }) _ D2.out.box.range Tryz.underlying30 rfl (by kernel_rfl) ?_))
  refine (head6_rec w g { zeroRc with kind := 1 } l1 z1 _ D2.out.scan ⟨rfl, rfl, rfl⟩).mono ?_
  rintro u w3 ⟨rr, rfl, hrr, hsd, hfd, T3, S3⟩
  rw [hp.out] at S3 hrr
  have D3 := hide (D2.out.lay T3 S3 hsd (fun x hx hn => by have := hfd x hx hn; omega))
  have TQ : Hid (w3.there q 0 18) := (D2.out.box.of_block (T3.block _ D2.out.box.lt (by have := D2.out.hq; omega))).there
  have HRR := hide hrr
  clear T3 S3 hsd hfd hrr D2 c2
  go_upto_region 9 with (first | (refine wpList_store_mid rfl 30 _ _ rfl q 0 (rcs rr).toArray rfl rfl TQ.out (by kernel_rfl) (by kernel_rfl) ?_))
  obtain ⟨W4, hW4⟩ : ∃ W4, w3.setCells q 0 (rcs rr).toArray.toList = W4 := ⟨_, rfl⟩
  rw [hW4]
  have D4 : Hid (D6 w W4 g q p.2.1 p.2.2 rr) := by rw [← hW4]; exact D3.out
  clear D3 TQ hW4
  obtain ⟨l4, hl4⟩ : ∃ l4, Hid (p.2.1 = l4) := ⟨_, rfl⟩
  obtain ⟨e4, he4⟩ : ∃ e4, Hid (p.2.2 = e4) := ⟨_, rfl⟩
  rw [hl4.out, he4.out] at D4 hz
  obtain ⟨m4, hm4⟩ : ∃ m4, Hid (l4.length = m4) := ⟨_, rfl⟩
  rw [hm4.out] at hz
  obtain ⟨sb, cb, c4⟩ := D4.out.scan.len
  rw [hm4.out] at c4
  go_wp2_with fail
  refine (judge6_any w g (decide (0 < m4)) 68 l4 e4 _ D4.out.scan).mono ?_
  rintro u w5 ⟨rfl, T5, S5⟩
  rw [hz.out] at S5
  have D5 := hide (D4.out.call T5 S5)
  have r1 := S5.fault
  clear T5 S5 D4 c4
  subst h0
  have TA : Hid (w5.there w.heap.size 0 18) := D5.out.ans.there
  go_wp2_with (first | (refine wpList_load_mid rfl 30 _ rfl q 0 rfl (rcs rr) _ D5.out.box.range Tryz.underlying30 rfl (by kernel_rfl) ?_) | (refine wpList_store_mid rfl 30 _ _ rfl w.heap.size 0 (rcs rr).toArray rfl rfl TA.out (by kernel_rfl) (by kernel_rfl) ?_))
  have QA : Blk (w5.setCells w.heap.size 0 (rcs rr)) w.heap.size (rcs rr) := blk_cells D5.out.ans rfl
  have BA : Below w.heap.size w (w5.setCells w.heap.size 0 (rcs rr)) := below_cells (Nat.le_refl _) _ _ _ D5.out.low
  have TT : Touch w.heap.size w5 (w5.setCells w.heap.size 0 (rcs rr)) := touch_own _ _ _ _ (Touch.refl _ w5)
  have SA : SegI (w5.setCells w.heap.size 0 (rcs rr)) rr.da rr.dn rr.deps := touch_segI TT D5.out.dep (fun x hx hn => by have := D5.out.far x hx hn; have := D5.out.hq; have := D5.out.hg; omega)
  exact bodyPost_ret (results_cell_tmp Tryz.results14 _ _ w.heap.size (rcs rr) _ _ rfl rfl QA.range Tryz.underlying30 rfl (by kernel_rfl)) rfl ⟨rr, rfl, HRR.out, SA, BA⟩

set_option maxHeartbeats 4000000 in
set_option maxRecDepth 100000 in
theorem dec6_one_no (n : Nat) (h1 : 1 ≤ n) (h7 : n ≤ 7) (sa : Option Addr) (m cap : Nat) (l : List Int) (a : Nat → Addr) (w : World) (hs : Seg w sa m l) (hsrc : Src sa m cap) (hy : Byt l) (he : Errs w a) (k : Int) (l1 : List Int) (e1 z1 : Int) (hk : Hid ((oc6 l 0).1 = k)) (hl1 : Hid ((oc6 l 0).2.1 = l1)) (he1 : Hid ((oc6 l 0).2.2 = e1)) (q1 : k = 1) (hz1 : Hid (jd6 false 61 e1 = z1)) (p : Rc × List Int × Int) (hp : Hid (hd6 { zeroRc with kind := k } l1 z1 = p)) (z : Int) (hz : Hid (jd6 (decide (0 < p.2.1.length)) 68 p.2.2 = z)) (h0 : z ≠ 0) :
    Calls Tryz.prog 14 #[.int .i64 (n : Int), .slice sa m cap] w fun e w' => ∃ rr, e = .returned (.tuple #[.agg (rcs rr).toArray, .int .i64 z]) ∧ er rr = er zeroRc ∧ SegI w' rr.da rr.dn rr.deps ∧ Below w.heap.size w w' := by
  subst q1
  obtain ⟨V, hV⟩ : ∃ V, V = w.alloc (.cells #[.int .i64 0, .int .i64 0, .int .i64 0, .int .i64 0, .int .i64 0, .bool false, .int .i64 0, .int .i64 0, .int .i64 0, .string ⟨#[]⟩, .string ⟨#[]⟩, .string ⟨#[]⟩, .string ⟨#[]⟩, .int .i64 0, .int .i64 0, .slice none 0 0, .int .i64 0, .int .i64 0] 30) := ⟨_, rfl⟩
  have QV : Hid (Blk V w.heap.size [.int .i64 0, .int .i64 0, .int .i64 0, .int .i64 0, .int .i64 0, .bool false, .int .i64 0, .int .i64 0, .int .i64 0, .string ⟨#[]⟩, .string ⟨#[]⟩, .string ⟨#[]⟩, .string ⟨#[]⟩, .int .i64 0, .int .i64 0, .slice none 0 0, .int .i64 0, .int .i64 0]) := by rw [hV]; exact blk_new w 30 [.int .i64 0, .int .i64 0, .int .i64 0, .int .i64 0, .int .i64 0, .bool false, .int .i64 0, .int .i64 0, .int .i64 0, .string ⟨#[]⟩, .string ⟨#[]⟩, .string ⟨#[]⟩, .string ⟨#[]⟩, .int .i64 0, .int .i64 0, .slice none 0 0, .int .i64 0, .int .i64 0]
  have BV : Hid (Below w.heap.size w V) := by rw [hV]; exact (Below.refl _ _).alloc (Nat.le_refl _) _
  have hVs : V.heap.size = w.heap.size + 1 := by rw [hV]; simp
  obtain ⟨U, hU⟩ : ∃ U, U = V.alloc (.cells #[.slice sa m cap, .int .i64 0] 74) := ⟨_, rfl⟩
  have SU : Hid (S6x w U V.heap.size l 0) := s6x_new hs hsrc hy BV.out hU
  have BU : Hid (Below V.heap.size V U) := by rw [hU]; exact (Below.refl _ _).alloc (Nat.le_refl _) _
  have HU := hide hU
  have QU : Hid (Blk U w.heap.size [.int .i64 0, .int .i64 0, .int .i64 0, .int .i64 0, .int .i64 0, .bool false, .int .i64 0, .int .i64 0, .int .i64 0, .string ⟨#[]⟩, .string ⟨#[]⟩, .string ⟨#[]⟩, .string ⟨#[]⟩, .int .i64 0, .int .i64 0, .slice none 0 0, .int .i64 0, .int .i64 0]) := QV.out.on BU.out
  have BUw : Hid (Below w.heap.size w U) := BV.out.trans (BU.out.mono (by omega))
  obtain ⟨g, hg⟩ : ∃ g, Hid (V.heap.size = g) := ⟨_, rfl⟩
  have hgw : Hid (g = w.heap.size + 1) := by show _ = _; rw [← hg.out]; exact hVs
  rw [hg.out] at SU
  have HE := hide he
  have n1 : decide ((n : Int) < 1) = false := decide_eq_false (by omega)
  have n7 : decide ((7 : Int) < (n : Int)) = false := decide_eq_false (by omega)
  clear hU hs hsrc hy he hVs QV BU h1
  go_enter Tryz.func14, Tryz.ntmps14
  go_upto_region 1 with fail
  rw [← hV]
  clear hV
  go_upto_region 4 with fail
  rw [← HU.out, hg.out]
  go_wp2_with fail
  refine (byte6_any w g l 0 _ SU.out).mono ?_
  rintro u w1 ⟨rfl, T1, S1⟩
  rw [hk.out]
  rw [hl1.out, he1.out] at S1
  have Q1 : Hid (Blk w1 w.heap.size [.int .i64 0, .int .i64 0, .int .i64 0, .int .i64 0, .int .i64 0, .bool false, .int .i64 0, .int .i64 0, .int .i64 0, .string ⟨#[]⟩, .string ⟨#[]⟩, .string ⟨#[]⟩, .string ⟨#[]⟩, .int .i64 0, .int .i64 0, .slice none 0 0, .int .i64 0, .int .i64 0]) := QU.out.of_block (T1.block _ QU.out.lt (by have := hgw.out; omega))
  have B1 : Hid (Below w.heap.size w w1) := T1.below (by have := hgw.out; omega) BUw.out
  have g1 : Hid (g < w1.heap.size) := S1.lt
  have HS1 := hide S1
  clear T1 S1 SU QU BUw HU
  obtain ⟨X, hX⟩ : ∃ X, X = w1.alloc (.cells #[.int .i64 0, .int .i64 0, .int .i64 0, .int .i64 0, .int .i64 0, .bool false, .int .i64 0, .int .i64 0, .int .i64 0, .string ⟨#[]⟩, .string ⟨#[]⟩, .string ⟨#[]⟩, .string ⟨#[]⟩, .int .i64 0, .int .i64 0, .slice none 0 0, .int .i64 0, .int .i64 0] 30) := ⟨_, rfl⟩
  have QX : Hid (Blk X w1.heap.size [.int .i64 0, .int .i64 0, .int .i64 0, .int .i64 0, .int .i64 0, .bool false, .int .i64 0, .int .i64 0, .int .i64 0, .string ⟨#[]⟩, .string ⟨#[]⟩, .string ⟨#[]⟩, .string ⟨#[]⟩, .int .i64 0, .int .i64 0, .slice none 0 0, .int .i64 0, .int .i64 0]) := by rw [hX]; exact blk_new w1 30 [.int .i64 0, .int .i64 0, .int .i64 0, .int .i64 0, .int .i64 0, .bool false, .int .i64 0, .int .i64 0, .int .i64 0, .string ⟨#[]⟩, .string ⟨#[]⟩, .string ⟨#[]⟩, .string ⟨#[]⟩, .int .i64 0, .int .i64 0, .slice none 0 0, .int .i64 0, .int .i64 0]
  have BX : Hid (Below w1.heap.size w1 X) := by rw [hX]; exact (Below.refl _ _).alloc (Nat.le_refl _) _
  have TX : Hid (X.there w1.heap.size 0 18) := QX.out.there
  obtain ⟨q, hq⟩ : ∃ q, Hid (w1.heap.size = q) := ⟨_, rfl⟩
  obtain ⟨Y, hY⟩ : ∃ Y, Y = X.setCells w1.heap.size 0 (rcs { zeroRc with kind := 1 }) := ⟨_, rfl⟩
  have D0 : Hid (D6 w Y g q l1 e1 { zeroRc with kind := 1 }) := by
    have RY := box_stored (w := w1) QX.out (by rfl) BX.out (Nat.le_refl _) hY
    rw [hq.out] at RY
    exact ⟨B1.out.trans (RY.2.mono (by rw [← hq.out]; exact B1.out.size)), Q1.out.of_block (RY.2.block _ (by rw [← hq.out]; exact Q1.out.lt)), HS1.out.on (by rw [hq.out]; exact RY.2), RY.1, hgw.out, by rw [← hq.out]; exact g1.out, segI_none _, fun x hx => by cases hx⟩
  have HX : Hid (w1.alloc (.cells #[.int .i64 0, .int .i64 0, .int .i64 0, .int .i64 0, .int .i64 0, .bool false, .int .i64 0, .int .i64 0, .int .i64 0, .string ⟨#[]⟩, .string ⟨#[]⟩, .string ⟨#[]⟩, .string ⟨#[]⟩, .int .i64 0, .int .i64 0, .slice none 0 0, .int .i64 0, .int .i64 0] 30) = X) := hX.symm
  have HY : Hid (X.setCells w1.heap.size 0 (rcs { zeroRc with kind := 1 }).toArray.toList = Y) := hY.symm
  clear hX hY QX BX Q1 B1 HS1
  go_upto_region 5 with (first | (refine wpList_build rfl 30 _ rfl [(0, Value.int .i64 1)] rfl _ (built_kind 1) ?_) | (refine wpList_store_mid rfl 30 _ _ rfl w1.heap.size 0 (rcs { zeroRc with kind := 1 }).toArray rfl rfl (by rw [HX.out]; exact TX.out) (by kernel_rfl) (by kernel_rfl) ?_))
  rw [HX.out, HY.out, hq.out]
  have c0 : Y.cell? ⟨q, 0, none⟩ = some (.int .i64 1) := D0.out.box.cell 0 _ (rcs0 _)
  clear HY HX TX
  go_wp2_with fail
  refine (judge6_any w g false 61 l1 e1 _ D0.out.scan).mono ?_
  rintro u w2 ⟨rfl, T2, S2⟩
  rw [hz1.out] at S2
  have D2 := hide (D0.out.call T2 S2)
  have c2 : w2.cell? ⟨q, 0, none⟩ = some (.int .i64 1) := D2.out.box.cell 0 _ (rcs0 _)
  clear T2 S2 D0 c0
  go_wp2_with (first | (refine wpList_load_mid rfl 30 _ rfl q 0 rfl (rcs { zeroRc with kind := 1 }) _ D2.out.box.range Tryz.underlying30 rfl (by kernel_rfl) ?_))
  refine (head6_rec w g { zeroRc with kind := 1 } l1 z1 _ D2.out.scan ⟨rfl, rfl, rfl⟩).mono ?_
  rintro u w3 ⟨rr, rfl, hrr, hsd, hfd, T3, S3⟩
  rw [hp.out] at S3 hrr
  have D3 := hide (D2.out.lay T3 S3 hsd (fun x hx hn => by have := hfd x hx hn; omega))
  have TQ : Hid (w3.there q 0 18) := (D2.out.box.of_block (T3.block _ D2.out.box.lt (by have := D2.out.hq; omega))).there
  have HRR := hide hrr
  clear T3 S3 hsd hfd hrr D2 c2
  go_upto_region 9 with (first | (refine wpList_store_mid rfl 30 _ _ rfl q 0 (rcs rr).toArray rfl rfl TQ.out (by kernel_rfl) (by kernel_rfl) ?_))
  obtain ⟨W4, hW4⟩ : ∃ W4, w3.setCells q 0 (rcs rr).toArray.toList = W4 := ⟨_, rfl⟩
  rw [hW4]
  have D4 : Hid (D6 w W4 g q p.2.1 p.2.2 rr) := by rw [← hW4]; exact D3.out
  clear D3 TQ hW4
  obtain ⟨l4, hl4⟩ : ∃ l4, Hid (p.2.1 = l4) := ⟨_, rfl⟩
  obtain ⟨e4, he4⟩ : ∃ e4, Hid (p.2.2 = e4) := ⟨_, rfl⟩
  rw [hl4.out, he4.out] at D4 hz
  obtain ⟨m4, hm4⟩ : ∃ m4, Hid (l4.length = m4) := ⟨_, rfl⟩
  rw [hm4.out] at hz
  obtain ⟨sb, cb, c4⟩ := D4.out.scan.len
  rw [hm4.out] at c4
  go_wp2_with fail
  refine (judge6_any w g (decide (0 < m4)) 68 l4 e4 _ D4.out.scan).mono ?_
  rintro u w5 ⟨rfl, T5, S5⟩
  rw [hz.out] at S5
  have D5 := hide (D4.out.call T5 S5)
  have r1 := S5.fault
  clear T5 S5 D4 c4
  have q9 : (z != 0) = true := by rw [bne_iff_ne]; exact h0
  have HGne : g ≠ w.heap.size := by have := hgw.out; omega
  have AD : Blk w5.drew w.heap.size [.int .i64 0, .int .i64 0, .int .i64 0, .int .i64 0, .int .i64 0, .bool false, .int .i64 0, .int .i64 0, .int .i64 0, .string ⟨#[]⟩, .string ⟨#[]⟩, .string ⟨#[]⟩, .string ⟨#[]⟩, .int .i64 0, .int .i64 0, .slice none 0 0, .int .i64 0, .int .i64 0] := ⟨D5.out.ans.cell, D5.out.ans.thaw, D5.out.ans.lt⟩
  have TZ : Hid (w5.drew.there w.heap.size 0 18) := AD.there
  have BY : Hid (Below w.heap.size w (w5.drew.setCells w.heap.size 0 [.int .i64 0, .int .i64 0, .int .i64 0, .int .i64 0, .int .i64 0, .bool false, .int .i64 0, .int .i64 0, .int .i64 0, .string ⟨#[]⟩, .string ⟨#[]⟩, .string ⟨#[]⟩, .string ⟨#[]⟩, .int .i64 0, .int .i64 0, .slice none 0 0, .int .i64 0, .int .i64 0])) := below_cells (Nat.le_refl _) _ _ _ ⟨D5.out.low.os, D5.out.low.tape, D5.out.low.output, D5.out.low.size, D5.out.low.block⟩
  have RA : Hid ((w5.drew.setCells w.heap.size 0 [.int .i64 0, .int .i64 0, .int .i64 0, .int .i64 0, .int .i64 0, .bool false, .int .i64 0, .int .i64 0, .int .i64 0, .string ⟨#[]⟩, .string ⟨#[]⟩, .string ⟨#[]⟩, .string ⟨#[]⟩, .int .i64 0, .int .i64 0, .slice none 0 0, .int .i64 0, .int .i64 0]).rangeAt w.heap.size 0 (rcs zeroRc)) := (blk_cells (vs := rcs zeroRc) AD rfl).range
  have r1' : (w5.drew.setCells w.heap.size 0 [.int .i64 0, .int .i64 0, .int .i64 0, .int .i64 0, .int .i64 0, .bool false, .int .i64 0, .int .i64 0, .int .i64 0, .string ⟨#[]⟩, .string ⟨#[]⟩, .string ⟨#[]⟩, .string ⟨#[]⟩, .int .i64 0, .int .i64 0, .slice none 0 0, .int .i64 0, .int .i64 0]).cell? ⟨g, 1, none⟩ = some (.int .i64 z) := (d6_far HGne _ _ _).trans r1
  clear D5 h0 AD
  go_upto_region 11 with fail
  refine wp_region_noPanic ?_
  refine wp_region_held_drew (S := (fun w' => w'.cell? ⟨g, 1, none⟩ = some (.int .i64 z))) (by kernel_rfl) r1 (fun hHeld => ?_)
  refine tk 0 ?_
  refine tk 1 ?_
  refine tk 2 ?_
  refine tk 3 ?_
  refine tk 4 ?_
  refine wpAnyH_ready (rs := [5]) (by kernel_rfl) (by simp) ?_
  refine AllReadyH.cons rfl (fun K hK => ?_) AllReadyH.nil
  rw [if_pos (by rfl)]
  refine wp_store_mid 30 _ _ rfl w.heap.size 0 #[.int .i64 0, .int .i64 0, .int .i64 0, .int .i64 0, .int .i64 0, .bool false, .int .i64 0, .int .i64 0, .int .i64 0, .string ⟨#[]⟩, .string ⟨#[]⟩, .string ⟨#[]⟩, .string ⟨#[]⟩, .int .i64 0, .int .i64 0, .slice none 0 0, .int .i64 0, .int .i64 0] rfl rfl TZ.out (by kernel_rfl) (by kernel_rfl) ?_
  refine hK.out _ _ r1' (fun hHeld => ?_)
  clear hK K
  try simp only [Act.put, List.getElem_toArray, List.getElem_cons_succ, List.getElem_cons_zero]
  refine tk 6 ?_
  refine wpAnyH_done (by kernel_rfl) ?_ _
  refine NoPanic.normal ?_
  go_wp2
  exact bodyPost_ret (results_cell_tmp Tryz.results14 _ _ w.heap.size (rcs zeroRc) _ _ rfl rfl RA.out Tryz.underlying30 rfl (by kernel_rfl)) rfl ⟨zeroRc, rfl, rfl, segI_none _, BY.out⟩

set_option maxHeartbeats 4000000 in
set_option maxRecDepth 100000 in
theorem dec6_oth_ok (n : Nat) (h1 : 1 ≤ n) (h7 : n ≤ 7) (sa : Option Addr) (m cap : Nat) (l : List Int) (a : Nat → Addr) (w : World) (hs : Seg w sa m l) (hsrc : Src sa m cap) (hy : Byt l) (he : Errs w a) (k : Int) (l1 : List Int) (e1 z1 : Int) (hk : Hid ((oc6 l 0).1 = k)) (hl1 : Hid ((oc6 l 0).2.1 = l1)) (he1 : Hid ((oc6 l 0).2.2 = e1)) (q1 : ¬ k < 1) (q2 : ¬ 5 < k) (q3 : k ≠ 1) (hz1 : Hid (jd6 false 61 e1 = z1)) (p : Rc × List Int × Int) (hp : Hid (bo6 n { zeroRc with kind := k } l1 z1 = p)) (z : Int) (hz : Hid (jd6 (decide (0 < p.2.1.length)) 68 p.2.2 = z)) (h0 : z = 0) :
    Calls Tryz.prog 14 #[.int .i64 (n : Int), .slice sa m cap] w fun e w' => ∃ rr, e = .returned (.tuple #[.agg (rcs rr).toArray, .int .i64 z]) ∧ er rr = er p.1 ∧ SegI w' rr.da rr.dn rr.deps ∧ Below w.heap.size w w' := by
  obtain ⟨V, hV⟩ : ∃ V, V = w.alloc (.cells #[.int .i64 0, .int .i64 0, .int .i64 0, .int .i64 0, .int .i64 0, .bool false, .int .i64 0, .int .i64 0, .int .i64 0, .string ⟨#[]⟩, .string ⟨#[]⟩, .string ⟨#[]⟩, .string ⟨#[]⟩, .int .i64 0, .int .i64 0, .slice none 0 0, .int .i64 0, .int .i64 0] 30) := ⟨_, rfl⟩
  have QV : Hid (Blk V w.heap.size [.int .i64 0, .int .i64 0, .int .i64 0, .int .i64 0, .int .i64 0, .bool false, .int .i64 0, .int .i64 0, .int .i64 0, .string ⟨#[]⟩, .string ⟨#[]⟩, .string ⟨#[]⟩, .string ⟨#[]⟩, .int .i64 0, .int .i64 0, .slice none 0 0, .int .i64 0, .int .i64 0]) := by rw [hV]; exact blk_new w 30 [.int .i64 0, .int .i64 0, .int .i64 0, .int .i64 0, .int .i64 0, .bool false, .int .i64 0, .int .i64 0, .int .i64 0, .string ⟨#[]⟩, .string ⟨#[]⟩, .string ⟨#[]⟩, .string ⟨#[]⟩, .int .i64 0, .int .i64 0, .slice none 0 0, .int .i64 0, .int .i64 0]
  have BV : Hid (Below w.heap.size w V) := by rw [hV]; exact (Below.refl _ _).alloc (Nat.le_refl _) _
  have hVs : V.heap.size = w.heap.size + 1 := by rw [hV]; simp
  obtain ⟨U, hU⟩ : ∃ U, U = V.alloc (.cells #[.slice sa m cap, .int .i64 0] 74) := ⟨_, rfl⟩
  have SU : Hid (S6x w U V.heap.size l 0) := s6x_new hs hsrc hy BV.out hU
  have BU : Hid (Below V.heap.size V U) := by rw [hU]; exact (Below.refl _ _).alloc (Nat.le_refl _) _
  have HU := hide hU
  have QU : Hid (Blk U w.heap.size [.int .i64 0, .int .i64 0, .int .i64 0, .int .i64 0, .int .i64 0, .bool false, .int .i64 0, .int .i64 0, .int .i64 0, .string ⟨#[]⟩, .string ⟨#[]⟩, .string ⟨#[]⟩, .string ⟨#[]⟩, .int .i64 0, .int .i64 0, .slice none 0 0, .int .i64 0, .int .i64 0]) := QV.out.on BU.out
  have BUw : Hid (Below w.heap.size w U) := BV.out.trans (BU.out.mono (by omega))
  obtain ⟨g, hg⟩ : ∃ g, Hid (V.heap.size = g) := ⟨_, rfl⟩
  have hgw : Hid (g = w.heap.size + 1) := by show _ = _; rw [← hg.out]; exact hVs
  rw [hg.out] at SU
  have HE := hide he
  have n1 : decide ((n : Int) < 1) = false := decide_eq_false (by omega)
  have n7 : decide ((7 : Int) < (n : Int)) = false := decide_eq_false (by omega)
  clear hU hs hsrc hy he hVs QV BU h1
  go_enter Tryz.func14, Tryz.ntmps14
  go_upto_region 1 with fail
  rw [← hV]
  clear hV
  go_upto_region 4 with fail
  rw [← HU.out, hg.out]
  go_wp2_with fail
  refine (byte6_any w g l 0 _ SU.out).mono ?_
  rintro u w1 ⟨rfl, T1, S1⟩
  rw [hk.out]
  rw [hl1.out, he1.out] at S1
  have Q1 : Hid (Blk w1 w.heap.size [.int .i64 0, .int .i64 0, .int .i64 0, .int .i64 0, .int .i64 0, .bool false, .int .i64 0, .int .i64 0, .int .i64 0, .string ⟨#[]⟩, .string ⟨#[]⟩, .string ⟨#[]⟩, .string ⟨#[]⟩, .int .i64 0, .int .i64 0, .slice none 0 0, .int .i64 0, .int .i64 0]) := QU.out.of_block (T1.block _ QU.out.lt (by have := hgw.out; omega))
  have B1 : Hid (Below w.heap.size w w1) := T1.below (by have := hgw.out; omega) BUw.out
  have g1 : Hid (g < w1.heap.size) := S1.lt
  have HS1 := hide S1
  clear T1 S1 SU QU BUw HU
  obtain ⟨X, hX⟩ : ∃ X, X = w1.alloc (.cells #[.int .i64 0, .int .i64 0, .int .i64 0, .int .i64 0, .int .i64 0, .bool false, .int .i64 0, .int .i64 0, .int .i64 0, .string ⟨#[]⟩, .string ⟨#[]⟩, .string ⟨#[]⟩, .string ⟨#[]⟩, .int .i64 0, .int .i64 0, .slice none 0 0, .int .i64 0, .int .i64 0] 30) := ⟨_, rfl⟩
  have QX : Hid (Blk X w1.heap.size [.int .i64 0, .int .i64 0, .int .i64 0, .int .i64 0, .int .i64 0, .bool false, .int .i64 0, .int .i64 0, .int .i64 0, .string ⟨#[]⟩, .string ⟨#[]⟩, .string ⟨#[]⟩, .string ⟨#[]⟩, .int .i64 0, .int .i64 0, .slice none 0 0, .int .i64 0, .int .i64 0]) := by rw [hX]; exact blk_new w1 30 [.int .i64 0, .int .i64 0, .int .i64 0, .int .i64 0, .int .i64 0, .bool false, .int .i64 0, .int .i64 0, .int .i64 0, .string ⟨#[]⟩, .string ⟨#[]⟩, .string ⟨#[]⟩, .string ⟨#[]⟩, .int .i64 0, .int .i64 0, .slice none 0 0, .int .i64 0, .int .i64 0]
  have BX : Hid (Below w1.heap.size w1 X) := by rw [hX]; exact (Below.refl _ _).alloc (Nat.le_refl _) _
  have TX : Hid (X.there w1.heap.size 0 18) := QX.out.there
  obtain ⟨q, hq⟩ : ∃ q, Hid (w1.heap.size = q) := ⟨_, rfl⟩
  obtain ⟨Y, hY⟩ : ∃ Y, Y = X.setCells w1.heap.size 0 (rcs { zeroRc with kind := k }) := ⟨_, rfl⟩
  have D0 : Hid (D6 w Y g q l1 e1 { zeroRc with kind := k }) := by
    have RY := box_stored (w := w1) QX.out (by rfl) BX.out (Nat.le_refl _) hY
    rw [hq.out] at RY
    exact ⟨B1.out.trans (RY.2.mono (by rw [← hq.out]; exact B1.out.size)), Q1.out.of_block (RY.2.block _ (by rw [← hq.out]; exact Q1.out.lt)), HS1.out.on (by rw [hq.out]; exact RY.2), RY.1, hgw.out, by rw [← hq.out]; exact g1.out, segI_none _, fun x hx => by cases hx⟩
  have HX : Hid (w1.alloc (.cells #[.int .i64 0, .int .i64 0, .int .i64 0, .int .i64 0, .int .i64 0, .bool false, .int .i64 0, .int .i64 0, .int .i64 0, .string ⟨#[]⟩, .string ⟨#[]⟩, .string ⟨#[]⟩, .string ⟨#[]⟩, .int .i64 0, .int .i64 0, .slice none 0 0, .int .i64 0, .int .i64 0] 30) = X) := hX.symm
  have HY : Hid (X.setCells w1.heap.size 0 (rcs { zeroRc with kind := k }).toArray.toList = Y) := hY.symm
  clear hX hY QX BX Q1 B1 HS1
  go_upto_region 5 with (first | (refine wpList_build rfl 30 _ rfl [(0, Value.int .i64 k)] rfl _ (built_kind k) ?_) | (refine wpList_store_mid rfl 30 _ _ rfl w1.heap.size 0 (rcs { zeroRc with kind := k }).toArray rfl rfl (by rw [HX.out]; exact TX.out) (by kernel_rfl) (by kernel_rfl) ?_))
  rw [HX.out, HY.out, hq.out]
  have c0 : Y.cell? ⟨q, 0, none⟩ = some (.int .i64 k) := D0.out.box.cell 0 _ (rcs0 _)
  clear HY HX TX
  have d1 : decide (k < 1) = false := decide_eq_false (by omega)
  have d2 : decide (5 < k) = false := decide_eq_false (by omega)
  go_wp2_with fail
  refine (judge6_any w g false 61 l1 e1 _ D0.out.scan).mono ?_
  rintro u w2 ⟨rfl, T2, S2⟩
  rw [hz1.out] at S2
  have D2 := hide (D0.out.call T2 S2)
  have c2 : w2.cell? ⟨q, 0, none⟩ = some (.int .i64 k) := D2.out.box.cell 0 _ (rcs0 _)
  clear T2 S2 D0 c0
  have d3 : (k == 1) = false := beq_eq_false_iff_ne.2 (by omega)
  clear q1 q2 q3
  go_wp2_with (first | (refine wpList_load_mid rfl 30 _ rfl q 0 rfl (rcs { zeroRc with kind := k }) _ D2.out.box.range Tryz.underlying30 rfl (by kernel_rfl) ?_))
  refine (body6_any w g n h7 { zeroRc with kind := k } l1 z1 a _ HE.out D2.out.scan ⟨rfl, rfl, rfl⟩).mono ?_
  rintro u w3 ⟨rr, rfl, hrr, hsd, hfd, T3, S3⟩
  rw [hp.out] at S3 hrr
  have D3 := hide (D2.out.lay T3 S3 hsd (fun x hx hn => by have := hfd x hx hn; omega))
  have TQ : Hid (w3.there q 0 18) := (D2.out.box.of_block (T3.block _ D2.out.box.lt (by have := D2.out.hq; omega))).there
  have HRR := hide hrr
  clear T3 S3 hsd hfd hrr D2 c2
  go_upto_region 9 with (first | (refine wpList_store_mid rfl 30 _ _ rfl q 0 (rcs rr).toArray rfl rfl TQ.out (by kernel_rfl) (by kernel_rfl) ?_))
  obtain ⟨W4, hW4⟩ : ∃ W4, w3.setCells q 0 (rcs rr).toArray.toList = W4 := ⟨_, rfl⟩
  rw [hW4]
  have D4 : Hid (D6 w W4 g q p.2.1 p.2.2 rr) := by rw [← hW4]; exact D3.out
  clear D3 TQ hW4
  obtain ⟨l4, hl4⟩ : ∃ l4, Hid (p.2.1 = l4) := ⟨_, rfl⟩
  obtain ⟨e4, he4⟩ : ∃ e4, Hid (p.2.2 = e4) := ⟨_, rfl⟩
  rw [hl4.out, he4.out] at D4 hz
  obtain ⟨m4, hm4⟩ : ∃ m4, Hid (l4.length = m4) := ⟨_, rfl⟩
  rw [hm4.out] at hz
  obtain ⟨sb, cb, c4⟩ := D4.out.scan.len
  rw [hm4.out] at c4
  go_wp2_with fail
  refine (judge6_any w g (decide (0 < m4)) 68 l4 e4 _ D4.out.scan).mono ?_
  rintro u w5 ⟨rfl, T5, S5⟩
  rw [hz.out] at S5
  have D5 := hide (D4.out.call T5 S5)
  have r1 := S5.fault
  clear T5 S5 D4 c4
  subst h0
  have TA : Hid (w5.there w.heap.size 0 18) := D5.out.ans.there
  go_wp2_with (first | (refine wpList_load_mid rfl 30 _ rfl q 0 rfl (rcs rr) _ D5.out.box.range Tryz.underlying30 rfl (by kernel_rfl) ?_) | (refine wpList_store_mid rfl 30 _ _ rfl w.heap.size 0 (rcs rr).toArray rfl rfl TA.out (by kernel_rfl) (by kernel_rfl) ?_))
  have QA : Blk (w5.setCells w.heap.size 0 (rcs rr)) w.heap.size (rcs rr) := blk_cells D5.out.ans rfl
  have BA : Below w.heap.size w (w5.setCells w.heap.size 0 (rcs rr)) := below_cells (Nat.le_refl _) _ _ _ D5.out.low
  have TT : Touch w.heap.size w5 (w5.setCells w.heap.size 0 (rcs rr)) := touch_own _ _ _ _ (Touch.refl _ w5)
  have SA : SegI (w5.setCells w.heap.size 0 (rcs rr)) rr.da rr.dn rr.deps := touch_segI TT D5.out.dep (fun x hx hn => by have := D5.out.far x hx hn; have := D5.out.hq; have := D5.out.hg; omega)
  exact bodyPost_ret (results_cell_tmp Tryz.results14 _ _ w.heap.size (rcs rr) _ _ rfl rfl QA.range Tryz.underlying30 rfl (by kernel_rfl)) rfl ⟨rr, rfl, HRR.out, SA, BA⟩

set_option maxHeartbeats 4000000 in
set_option maxRecDepth 100000 in
theorem dec6_oth_no (n : Nat) (h1 : 1 ≤ n) (h7 : n ≤ 7) (sa : Option Addr) (m cap : Nat) (l : List Int) (a : Nat → Addr) (w : World) (hs : Seg w sa m l) (hsrc : Src sa m cap) (hy : Byt l) (he : Errs w a) (k : Int) (l1 : List Int) (e1 z1 : Int) (hk : Hid ((oc6 l 0).1 = k)) (hl1 : Hid ((oc6 l 0).2.1 = l1)) (he1 : Hid ((oc6 l 0).2.2 = e1)) (q1 : ¬ k < 1) (q2 : ¬ 5 < k) (q3 : k ≠ 1) (hz1 : Hid (jd6 false 61 e1 = z1)) (p : Rc × List Int × Int) (hp : Hid (bo6 n { zeroRc with kind := k } l1 z1 = p)) (z : Int) (hz : Hid (jd6 (decide (0 < p.2.1.length)) 68 p.2.2 = z)) (h0 : z ≠ 0) :
    Calls Tryz.prog 14 #[.int .i64 (n : Int), .slice sa m cap] w fun e w' => ∃ rr, e = .returned (.tuple #[.agg (rcs rr).toArray, .int .i64 z]) ∧ er rr = er zeroRc ∧ SegI w' rr.da rr.dn rr.deps ∧ Below w.heap.size w w' := by
  obtain ⟨V, hV⟩ : ∃ V, V = w.alloc (.cells #[.int .i64 0, .int .i64 0, .int .i64 0, .int .i64 0, .int .i64 0, .bool false, .int .i64 0, .int .i64 0, .int .i64 0, .string ⟨#[]⟩, .string ⟨#[]⟩, .string ⟨#[]⟩, .string ⟨#[]⟩, .int .i64 0, .int .i64 0, .slice none 0 0, .int .i64 0, .int .i64 0] 30) := ⟨_, rfl⟩
  have QV : Hid (Blk V w.heap.size [.int .i64 0, .int .i64 0, .int .i64 0, .int .i64 0, .int .i64 0, .bool false, .int .i64 0, .int .i64 0, .int .i64 0, .string ⟨#[]⟩, .string ⟨#[]⟩, .string ⟨#[]⟩, .string ⟨#[]⟩, .int .i64 0, .int .i64 0, .slice none 0 0, .int .i64 0, .int .i64 0]) := by rw [hV]; exact blk_new w 30 [.int .i64 0, .int .i64 0, .int .i64 0, .int .i64 0, .int .i64 0, .bool false, .int .i64 0, .int .i64 0, .int .i64 0, .string ⟨#[]⟩, .string ⟨#[]⟩, .string ⟨#[]⟩, .string ⟨#[]⟩, .int .i64 0, .int .i64 0, .slice none 0 0, .int .i64 0, .int .i64 0]
  have BV : Hid (Below w.heap.size w V) := by rw [hV]; exact (Below.refl _ _).alloc (Nat.le_refl _) _
  have hVs : V.heap.size = w.heap.size + 1 := by rw [hV]; simp
  obtain ⟨U, hU⟩ : ∃ U, U = V.alloc (.cells #[.slice sa m cap, .int .i64 0] 74) := ⟨_, rfl⟩
  have SU : Hid (S6x w U V.heap.size l 0) := s6x_new hs hsrc hy BV.out hU
  have BU : Hid (Below V.heap.size V U) := by rw [hU]; exact (Below.refl _ _).alloc (Nat.le_refl _) _
  have HU := hide hU
  have QU : Hid (Blk U w.heap.size [.int .i64 0, .int .i64 0, .int .i64 0, .int .i64 0, .int .i64 0, .bool false, .int .i64 0, .int .i64 0, .int .i64 0, .string ⟨#[]⟩, .string ⟨#[]⟩, .string ⟨#[]⟩, .string ⟨#[]⟩, .int .i64 0, .int .i64 0, .slice none 0 0, .int .i64 0, .int .i64 0]) := QV.out.on BU.out
  have BUw : Hid (Below w.heap.size w U) := BV.out.trans (BU.out.mono (by omega))
  obtain ⟨g, hg⟩ : ∃ g, Hid (V.heap.size = g) := ⟨_, rfl⟩
  have hgw : Hid (g = w.heap.size + 1) := by show _ = _; rw [← hg.out]; exact hVs
  rw [hg.out] at SU
  have HE := hide he
  have n1 : decide ((n : Int) < 1) = false := decide_eq_false (by omega)
  have n7 : decide ((7 : Int) < (n : Int)) = false := decide_eq_false (by omega)
  clear hU hs hsrc hy he hVs QV BU h1
  go_enter Tryz.func14, Tryz.ntmps14
  go_upto_region 1 with fail
  rw [← hV]
  clear hV
  go_upto_region 4 with fail
  rw [← HU.out, hg.out]
  go_wp2_with fail
  refine (byte6_any w g l 0 _ SU.out).mono ?_
  rintro u w1 ⟨rfl, T1, S1⟩
  rw [hk.out]
  rw [hl1.out, he1.out] at S1
  have Q1 : Hid (Blk w1 w.heap.size [.int .i64 0, .int .i64 0, .int .i64 0, .int .i64 0, .int .i64 0, .bool false, .int .i64 0, .int .i64 0, .int .i64 0, .string ⟨#[]⟩, .string ⟨#[]⟩, .string ⟨#[]⟩, .string ⟨#[]⟩, .int .i64 0, .int .i64 0, .slice none 0 0, .int .i64 0, .int .i64 0]) := QU.out.of_block (T1.block _ QU.out.lt (by have := hgw.out; omega))
  have B1 : Hid (Below w.heap.size w w1) := T1.below (by have := hgw.out; omega) BUw.out
  have g1 : Hid (g < w1.heap.size) := S1.lt
  have HS1 := hide S1
  clear T1 S1 SU QU BUw HU
  obtain ⟨X, hX⟩ : ∃ X, X = w1.alloc (.cells #[.int .i64 0, .int .i64 0, .int .i64 0, .int .i64 0, .int .i64 0, .bool false, .int .i64 0, .int .i64 0, .int .i64 0, .string ⟨#[]⟩, .string ⟨#[]⟩, .string ⟨#[]⟩, .string ⟨#[]⟩, .int .i64 0, .int .i64 0, .slice none 0 0, .int .i64 0, .int .i64 0] 30) := ⟨_, rfl⟩
  have QX : Hid (Blk X w1.heap.size [.int .i64 0, .int .i64 0, .int .i64 0, .int .i64 0, .int .i64 0, .bool false, .int .i64 0, .int .i64 0, .int .i64 0, .string ⟨#[]⟩, .string ⟨#[]⟩, .string ⟨#[]⟩, .string ⟨#[]⟩, .int .i64 0, .int .i64 0, .slice none 0 0, .int .i64 0, .int .i64 0]) := by rw [hX]; exact blk_new w1 30 [.int .i64 0, .int .i64 0, .int .i64 0, .int .i64 0, .int .i64 0, .bool false, .int .i64 0, .int .i64 0, .int .i64 0, .string ⟨#[]⟩, .string ⟨#[]⟩, .string ⟨#[]⟩, .string ⟨#[]⟩, .int .i64 0, .int .i64 0, .slice none 0 0, .int .i64 0, .int .i64 0]
  have BX : Hid (Below w1.heap.size w1 X) := by rw [hX]; exact (Below.refl _ _).alloc (Nat.le_refl _) _
  have TX : Hid (X.there w1.heap.size 0 18) := QX.out.there
  obtain ⟨q, hq⟩ : ∃ q, Hid (w1.heap.size = q) := ⟨_, rfl⟩
  obtain ⟨Y, hY⟩ : ∃ Y, Y = X.setCells w1.heap.size 0 (rcs { zeroRc with kind := k }) := ⟨_, rfl⟩
  have D0 : Hid (D6 w Y g q l1 e1 { zeroRc with kind := k }) := by
    have RY := box_stored (w := w1) QX.out (by rfl) BX.out (Nat.le_refl _) hY
    rw [hq.out] at RY
    exact ⟨B1.out.trans (RY.2.mono (by rw [← hq.out]; exact B1.out.size)), Q1.out.of_block (RY.2.block _ (by rw [← hq.out]; exact Q1.out.lt)), HS1.out.on (by rw [hq.out]; exact RY.2), RY.1, hgw.out, by rw [← hq.out]; exact g1.out, segI_none _, fun x hx => by cases hx⟩
  have HX : Hid (w1.alloc (.cells #[.int .i64 0, .int .i64 0, .int .i64 0, .int .i64 0, .int .i64 0, .bool false, .int .i64 0, .int .i64 0, .int .i64 0, .string ⟨#[]⟩, .string ⟨#[]⟩, .string ⟨#[]⟩, .string ⟨#[]⟩, .int .i64 0, .int .i64 0, .slice none 0 0, .int .i64 0, .int .i64 0] 30) = X) := hX.symm
  have HY : Hid (X.setCells w1.heap.size 0 (rcs { zeroRc with kind := k }).toArray.toList = Y) := hY.symm
  clear hX hY QX BX Q1 B1 HS1
  go_upto_region 5 with (first | (refine wpList_build rfl 30 _ rfl [(0, Value.int .i64 k)] rfl _ (built_kind k) ?_) | (refine wpList_store_mid rfl 30 _ _ rfl w1.heap.size 0 (rcs { zeroRc with kind := k }).toArray rfl rfl (by rw [HX.out]; exact TX.out) (by kernel_rfl) (by kernel_rfl) ?_))
  rw [HX.out, HY.out, hq.out]
  have c0 : Y.cell? ⟨q, 0, none⟩ = some (.int .i64 k) := D0.out.box.cell 0 _ (rcs0 _)
  clear HY HX TX
  have d1 : decide (k < 1) = false := decide_eq_false (by omega)
  have d2 : decide (5 < k) = false := decide_eq_false (by omega)
  go_wp2_with fail
  refine (judge6_any w g false 61 l1 e1 _ D0.out.scan).mono ?_
  rintro u w2 ⟨rfl, T2, S2⟩
  rw [hz1.out] at S2
  have D2 := hide (D0.out.call T2 S2)
  have c2 : w2.cell? ⟨q, 0, none⟩ = some (.int .i64 k) := D2.out.box.cell 0 _ (rcs0 _)
  clear T2 S2 D0 c0
  have d3 : (k == 1) = false := beq_eq_false_iff_ne.2 (by omega)
  clear q1 q2 q3
  go_wp2_with (first | (refine wpList_load_mid rfl 30 _ rfl q 0 rfl (rcs { zeroRc with kind := k }) _ D2.out.box.range Tryz.underlying30 rfl (by kernel_rfl) ?_))
  refine (body6_any w g n h7 { zeroRc with kind := k } l1 z1 a _ HE.out D2.out.scan ⟨rfl, rfl, rfl⟩).mono ?_
  rintro u w3 ⟨rr, rfl, hrr, hsd, hfd, T3, S3⟩
  rw [hp.out] at S3 hrr
  have D3 := hide (D2.out.lay T3 S3 hsd (fun x hx hn => by have := hfd x hx hn; omega))
  have TQ : Hid (w3.there q 0 18) := (D2.out.box.of_block (T3.block _ D2.out.box.lt (by have := D2.out.hq; omega))).there
  have HRR := hide hrr
  clear T3 S3 hsd hfd hrr D2 c2
  go_upto_region 9 with (first | (refine wpList_store_mid rfl 30 _ _ rfl q 0 (rcs rr).toArray rfl rfl TQ.out (by kernel_rfl) (by kernel_rfl) ?_))
  obtain ⟨W4, hW4⟩ : ∃ W4, w3.setCells q 0 (rcs rr).toArray.toList = W4 := ⟨_, rfl⟩
  rw [hW4]
  have D4 : Hid (D6 w W4 g q p.2.1 p.2.2 rr) := by rw [← hW4]; exact D3.out
  clear D3 TQ hW4
  obtain ⟨l4, hl4⟩ : ∃ l4, Hid (p.2.1 = l4) := ⟨_, rfl⟩
  obtain ⟨e4, he4⟩ : ∃ e4, Hid (p.2.2 = e4) := ⟨_, rfl⟩
  rw [hl4.out, he4.out] at D4 hz
  obtain ⟨m4, hm4⟩ : ∃ m4, Hid (l4.length = m4) := ⟨_, rfl⟩
  rw [hm4.out] at hz
  obtain ⟨sb, cb, c4⟩ := D4.out.scan.len
  rw [hm4.out] at c4
  go_wp2_with fail
  refine (judge6_any w g (decide (0 < m4)) 68 l4 e4 _ D4.out.scan).mono ?_
  rintro u w5 ⟨rfl, T5, S5⟩
  rw [hz.out] at S5
  have D5 := hide (D4.out.call T5 S5)
  have r1 := S5.fault
  clear T5 S5 D4 c4
  have q9 : (z != 0) = true := by rw [bne_iff_ne]; exact h0
  have HGne : g ≠ w.heap.size := by have := hgw.out; omega
  have AD : Blk w5.drew w.heap.size [.int .i64 0, .int .i64 0, .int .i64 0, .int .i64 0, .int .i64 0, .bool false, .int .i64 0, .int .i64 0, .int .i64 0, .string ⟨#[]⟩, .string ⟨#[]⟩, .string ⟨#[]⟩, .string ⟨#[]⟩, .int .i64 0, .int .i64 0, .slice none 0 0, .int .i64 0, .int .i64 0] := ⟨D5.out.ans.cell, D5.out.ans.thaw, D5.out.ans.lt⟩
  have TZ : Hid (w5.drew.there w.heap.size 0 18) := AD.there
  have BY : Hid (Below w.heap.size w (w5.drew.setCells w.heap.size 0 [.int .i64 0, .int .i64 0, .int .i64 0, .int .i64 0, .int .i64 0, .bool false, .int .i64 0, .int .i64 0, .int .i64 0, .string ⟨#[]⟩, .string ⟨#[]⟩, .string ⟨#[]⟩, .string ⟨#[]⟩, .int .i64 0, .int .i64 0, .slice none 0 0, .int .i64 0, .int .i64 0])) := below_cells (Nat.le_refl _) _ _ _ ⟨D5.out.low.os, D5.out.low.tape, D5.out.low.output, D5.out.low.size, D5.out.low.block⟩
  have RA : Hid ((w5.drew.setCells w.heap.size 0 [.int .i64 0, .int .i64 0, .int .i64 0, .int .i64 0, .int .i64 0, .bool false, .int .i64 0, .int .i64 0, .int .i64 0, .string ⟨#[]⟩, .string ⟨#[]⟩, .string ⟨#[]⟩, .string ⟨#[]⟩, .int .i64 0, .int .i64 0, .slice none 0 0, .int .i64 0, .int .i64 0]).rangeAt w.heap.size 0 (rcs zeroRc)) := (blk_cells (vs := rcs zeroRc) AD rfl).range
  have r1' : (w5.drew.setCells w.heap.size 0 [.int .i64 0, .int .i64 0, .int .i64 0, .int .i64 0, .int .i64 0, .bool false, .int .i64 0, .int .i64 0, .int .i64 0, .string ⟨#[]⟩, .string ⟨#[]⟩, .string ⟨#[]⟩, .string ⟨#[]⟩, .int .i64 0, .int .i64 0, .slice none 0 0, .int .i64 0, .int .i64 0]).cell? ⟨g, 1, none⟩ = some (.int .i64 z) := (d6_far HGne _ _ _).trans r1
  clear D5 h0 AD
  go_upto_region 11 with fail
  refine wp_region_noPanic ?_
  refine wp_region_held_drew (S := (fun w' => w'.cell? ⟨g, 1, none⟩ = some (.int .i64 z))) (by kernel_rfl) r1 (fun hHeld => ?_)
  refine tk 0 ?_
  refine tk 1 ?_
  refine tk 2 ?_
  refine tk 3 ?_
  refine tk 4 ?_
  refine wpAnyH_ready (rs := [5]) (by kernel_rfl) (by simp) ?_
  refine AllReadyH.cons rfl (fun K hK => ?_) AllReadyH.nil
  rw [if_pos (by rfl)]
  refine wp_store_mid 30 _ _ rfl w.heap.size 0 #[.int .i64 0, .int .i64 0, .int .i64 0, .int .i64 0, .int .i64 0, .bool false, .int .i64 0, .int .i64 0, .int .i64 0, .string ⟨#[]⟩, .string ⟨#[]⟩, .string ⟨#[]⟩, .string ⟨#[]⟩, .int .i64 0, .int .i64 0, .slice none 0 0, .int .i64 0, .int .i64 0] rfl rfl TZ.out (by kernel_rfl) (by kernel_rfl) ?_
  refine hK.out _ _ r1' (fun hHeld => ?_)
  clear hK K
  try simp only [Act.put, List.getElem_toArray, List.getElem_cons_succ, List.getElem_cons_zero]
  refine tk 6 ?_
  refine wpAnyH_done (by kernel_rfl) ?_ _
  refine NoPanic.normal ?_
  go_wp2
  exact bodyPost_ret (results_cell_tmp Tryz.results14 _ _ w.heap.size (rcs zeroRc) _ _ rfl rfl RA.out Tryz.underlying30 rfl (by kernel_rfl)) rfl ⟨zeroRc, rfl, rfl, segI_none _, BY.out⟩

set_option maxHeartbeats 4000000 in
set_option maxRecDepth 100000 in
theorem dec6_neg_no (n : Nat) (h1 : 1 ≤ n) (h7 : n ≤ 7) (sa : Option Addr) (m cap : Nat) (l : List Int) (a : Nat → Addr) (w : World) (hs : Seg w sa m l) (hsrc : Src sa m cap) (hy : Byt l) (he : Errs w a) (k : Int) (l1 : List Int) (e1 z1 : Int) (hk : Hid ((oc6 l 0).1 = k)) (hl1 : Hid ((oc6 l 0).2.1 = l1)) (he1 : Hid ((oc6 l 0).2.2 = e1)) (q1 : k < 1) (hz1 : Hid (jd6 true 61 e1 = z1)) (p : Rc × List Int × Int) (hp : Hid (bo6 n { zeroRc with kind := k } l1 z1 = p)) (z : Int) (hz : Hid (jd6 (decide (0 < p.2.1.length)) 68 p.2.2 = z)) (h0 : z ≠ 0) :
    Calls Tryz.prog 14 #[.int .i64 (n : Int), .slice sa m cap] w fun e w' => ∃ rr, e = .returned (.tuple #[.agg (rcs rr).toArray, .int .i64 z]) ∧ er rr = er zeroRc ∧ SegI w' rr.da rr.dn rr.deps ∧ Below w.heap.size w w' := by
  obtain ⟨V, hV⟩ : ∃ V, V = w.alloc (.cells #[.int .i64 0, .int .i64 0, .int .i64 0, .int .i64 0, .int .i64 0, .bool false, .int .i64 0, .int .i64 0, .int .i64 0, .string ⟨#[]⟩, .string ⟨#[]⟩, .string ⟨#[]⟩, .string ⟨#[]⟩, .int .i64 0, .int .i64 0, .slice none 0 0, .int .i64 0, .int .i64 0] 30) := ⟨_, rfl⟩
  have QV : Hid (Blk V w.heap.size [.int .i64 0, .int .i64 0, .int .i64 0, .int .i64 0, .int .i64 0, .bool false, .int .i64 0, .int .i64 0, .int .i64 0, .string ⟨#[]⟩, .string ⟨#[]⟩, .string ⟨#[]⟩, .string ⟨#[]⟩, .int .i64 0, .int .i64 0, .slice none 0 0, .int .i64 0, .int .i64 0]) := by rw [hV]; exact blk_new w 30 [.int .i64 0, .int .i64 0, .int .i64 0, .int .i64 0, .int .i64 0, .bool false, .int .i64 0, .int .i64 0, .int .i64 0, .string ⟨#[]⟩, .string ⟨#[]⟩, .string ⟨#[]⟩, .string ⟨#[]⟩, .int .i64 0, .int .i64 0, .slice none 0 0, .int .i64 0, .int .i64 0]
  have BV : Hid (Below w.heap.size w V) := by rw [hV]; exact (Below.refl _ _).alloc (Nat.le_refl _) _
  have hVs : V.heap.size = w.heap.size + 1 := by rw [hV]; simp
  obtain ⟨U, hU⟩ : ∃ U, U = V.alloc (.cells #[.slice sa m cap, .int .i64 0] 74) := ⟨_, rfl⟩
  have SU : Hid (S6x w U V.heap.size l 0) := s6x_new hs hsrc hy BV.out hU
  have BU : Hid (Below V.heap.size V U) := by rw [hU]; exact (Below.refl _ _).alloc (Nat.le_refl _) _
  have HU := hide hU
  have QU : Hid (Blk U w.heap.size [.int .i64 0, .int .i64 0, .int .i64 0, .int .i64 0, .int .i64 0, .bool false, .int .i64 0, .int .i64 0, .int .i64 0, .string ⟨#[]⟩, .string ⟨#[]⟩, .string ⟨#[]⟩, .string ⟨#[]⟩, .int .i64 0, .int .i64 0, .slice none 0 0, .int .i64 0, .int .i64 0]) := QV.out.on BU.out
  have BUw : Hid (Below w.heap.size w U) := BV.out.trans (BU.out.mono (by omega))
  obtain ⟨g, hg⟩ : ∃ g, Hid (V.heap.size = g) := ⟨_, rfl⟩
  have hgw : Hid (g = w.heap.size + 1) := by show _ = _; rw [← hg.out]; exact hVs
  rw [hg.out] at SU
  have HE := hide he
  have n1 : decide ((n : Int) < 1) = false := decide_eq_false (by omega)
  have n7 : decide ((7 : Int) < (n : Int)) = false := decide_eq_false (by omega)
  clear hU hs hsrc hy he hVs QV BU h1
  go_enter Tryz.func14, Tryz.ntmps14
  go_upto_region 1 with fail
  rw [← hV]
  clear hV
  go_upto_region 4 with fail
  rw [← HU.out, hg.out]
  go_wp2_with fail
  refine (byte6_any w g l 0 _ SU.out).mono ?_
  rintro u w1 ⟨rfl, T1, S1⟩
  rw [hk.out]
  rw [hl1.out, he1.out] at S1
  have Q1 : Hid (Blk w1 w.heap.size [.int .i64 0, .int .i64 0, .int .i64 0, .int .i64 0, .int .i64 0, .bool false, .int .i64 0, .int .i64 0, .int .i64 0, .string ⟨#[]⟩, .string ⟨#[]⟩, .string ⟨#[]⟩, .string ⟨#[]⟩, .int .i64 0, .int .i64 0, .slice none 0 0, .int .i64 0, .int .i64 0]) := QU.out.of_block (T1.block _ QU.out.lt (by have := hgw.out; omega))
  have B1 : Hid (Below w.heap.size w w1) := T1.below (by have := hgw.out; omega) BUw.out
  have g1 : Hid (g < w1.heap.size) := S1.lt
  have HS1 := hide S1
  clear T1 S1 SU QU BUw HU
  obtain ⟨X, hX⟩ : ∃ X, X = w1.alloc (.cells #[.int .i64 0, .int .i64 0, .int .i64 0, .int .i64 0, .int .i64 0, .bool false, .int .i64 0, .int .i64 0, .int .i64 0, .string ⟨#[]⟩, .string ⟨#[]⟩, .string ⟨#[]⟩, .string ⟨#[]⟩, .int .i64 0, .int .i64 0, .slice none 0 0, .int .i64 0, .int .i64 0] 30) := ⟨_, rfl⟩
  have QX : Hid (Blk X w1.heap.size [.int .i64 0, .int .i64 0, .int .i64 0, .int .i64 0, .int .i64 0, .bool false, .int .i64 0, .int .i64 0, .int .i64 0, .string ⟨#[]⟩, .string ⟨#[]⟩, .string ⟨#[]⟩, .string ⟨#[]⟩, .int .i64 0, .int .i64 0, .slice none 0 0, .int .i64 0, .int .i64 0]) := by rw [hX]; exact blk_new w1 30 [.int .i64 0, .int .i64 0, .int .i64 0, .int .i64 0, .int .i64 0, .bool false, .int .i64 0, .int .i64 0, .int .i64 0, .string ⟨#[]⟩, .string ⟨#[]⟩, .string ⟨#[]⟩, .string ⟨#[]⟩, .int .i64 0, .int .i64 0, .slice none 0 0, .int .i64 0, .int .i64 0]
  have BX : Hid (Below w1.heap.size w1 X) := by rw [hX]; exact (Below.refl _ _).alloc (Nat.le_refl _) _
  have TX : Hid (X.there w1.heap.size 0 18) := QX.out.there
  obtain ⟨q, hq⟩ : ∃ q, Hid (w1.heap.size = q) := ⟨_, rfl⟩
  obtain ⟨Y, hY⟩ : ∃ Y, Y = X.setCells w1.heap.size 0 (rcs { zeroRc with kind := k }) := ⟨_, rfl⟩
  have D0 : Hid (D6 w Y g q l1 e1 { zeroRc with kind := k }) := by
    have RY := box_stored (w := w1) QX.out (by rfl) BX.out (Nat.le_refl _) hY
    rw [hq.out] at RY
    exact ⟨B1.out.trans (RY.2.mono (by rw [← hq.out]; exact B1.out.size)), Q1.out.of_block (RY.2.block _ (by rw [← hq.out]; exact Q1.out.lt)), HS1.out.on (by rw [hq.out]; exact RY.2), RY.1, hgw.out, by rw [← hq.out]; exact g1.out, segI_none _, fun x hx => by cases hx⟩
  have HX : Hid (w1.alloc (.cells #[.int .i64 0, .int .i64 0, .int .i64 0, .int .i64 0, .int .i64 0, .bool false, .int .i64 0, .int .i64 0, .int .i64 0, .string ⟨#[]⟩, .string ⟨#[]⟩, .string ⟨#[]⟩, .string ⟨#[]⟩, .int .i64 0, .int .i64 0, .slice none 0 0, .int .i64 0, .int .i64 0] 30) = X) := hX.symm
  have HY : Hid (X.setCells w1.heap.size 0 (rcs { zeroRc with kind := k }).toArray.toList = Y) := hY.symm
  clear hX hY QX BX Q1 B1 HS1
  go_upto_region 5 with (first | (refine wpList_build rfl 30 _ rfl [(0, Value.int .i64 k)] rfl _ (built_kind k) ?_) | (refine wpList_store_mid rfl 30 _ _ rfl w1.heap.size 0 (rcs { zeroRc with kind := k }).toArray rfl rfl (by rw [HX.out]; exact TX.out) (by kernel_rfl) (by kernel_rfl) ?_))
  rw [HX.out, HY.out, hq.out]
  have c0 : Y.cell? ⟨q, 0, none⟩ = some (.int .i64 k) := D0.out.box.cell 0 _ (rcs0 _)
  clear HY HX TX
  have d1 : decide (k < 1) = true := decide_eq_true (by omega)
  go_wp2_with fail
  refine (judge6_any w g true 61 l1 e1 _ D0.out.scan).mono ?_
  rintro u w2 ⟨rfl, T2, S2⟩
  rw [hz1.out] at S2
  have D2 := hide (D0.out.call T2 S2)
  have c2 : w2.cell? ⟨q, 0, none⟩ = some (.int .i64 k) := D2.out.box.cell 0 _ (rcs0 _)
  clear T2 S2 D0 c0
  have d3 : (k == 1) = false := beq_eq_false_iff_ne.2 (by omega)
  clear q1
  go_wp2_with (first | (refine wpList_load_mid rfl 30 _ rfl q 0 rfl (rcs { zeroRc with kind := k }) _ D2.out.box.range Tryz.underlying30 rfl (by kernel_rfl) ?_))
  refine (body6_any w g n h7 { zeroRc with kind := k } l1 z1 a _ HE.out D2.out.scan ⟨rfl, rfl, rfl⟩).mono ?_
  rintro u w3 ⟨rr, rfl, hrr, hsd, hfd, T3, S3⟩
  rw [hp.out] at S3 hrr
  have D3 := hide (D2.out.lay T3 S3 hsd (fun x hx hn => by have := hfd x hx hn; omega))
  have TQ : Hid (w3.there q 0 18) := (D2.out.box.of_block (T3.block _ D2.out.box.lt (by have := D2.out.hq; omega))).there
  have HRR := hide hrr
  clear T3 S3 hsd hfd hrr D2 c2
  go_upto_region 9 with (first | (refine wpList_store_mid rfl 30 _ _ rfl q 0 (rcs rr).toArray rfl rfl TQ.out (by kernel_rfl) (by kernel_rfl) ?_))
  obtain ⟨W4, hW4⟩ : ∃ W4, w3.setCells q 0 (rcs rr).toArray.toList = W4 := ⟨_, rfl⟩
  rw [hW4]
  have D4 : Hid (D6 w W4 g q p.2.1 p.2.2 rr) := by rw [← hW4]; exact D3.out
  clear D3 TQ hW4
  obtain ⟨l4, hl4⟩ : ∃ l4, Hid (p.2.1 = l4) := ⟨_, rfl⟩
  obtain ⟨e4, he4⟩ : ∃ e4, Hid (p.2.2 = e4) := ⟨_, rfl⟩
  rw [hl4.out, he4.out] at D4 hz
  obtain ⟨m4, hm4⟩ : ∃ m4, Hid (l4.length = m4) := ⟨_, rfl⟩
  rw [hm4.out] at hz
  obtain ⟨sb, cb, c4⟩ := D4.out.scan.len
  rw [hm4.out] at c4
  go_wp2_with fail
  refine (judge6_any w g (decide (0 < m4)) 68 l4 e4 _ D4.out.scan).mono ?_
  rintro u w5 ⟨rfl, T5, S5⟩
  rw [hz.out] at S5
  have D5 := hide (D4.out.call T5 S5)
  have r1 := S5.fault
  clear T5 S5 D4 c4
  have q9 : (z != 0) = true := by rw [bne_iff_ne]; exact h0
  have HGne : g ≠ w.heap.size := by have := hgw.out; omega
  have AD : Blk w5.drew w.heap.size [.int .i64 0, .int .i64 0, .int .i64 0, .int .i64 0, .int .i64 0, .bool false, .int .i64 0, .int .i64 0, .int .i64 0, .string ⟨#[]⟩, .string ⟨#[]⟩, .string ⟨#[]⟩, .string ⟨#[]⟩, .int .i64 0, .int .i64 0, .slice none 0 0, .int .i64 0, .int .i64 0] := ⟨D5.out.ans.cell, D5.out.ans.thaw, D5.out.ans.lt⟩
  have TZ : Hid (w5.drew.there w.heap.size 0 18) := AD.there
  have BY : Hid (Below w.heap.size w (w5.drew.setCells w.heap.size 0 [.int .i64 0, .int .i64 0, .int .i64 0, .int .i64 0, .int .i64 0, .bool false, .int .i64 0, .int .i64 0, .int .i64 0, .string ⟨#[]⟩, .string ⟨#[]⟩, .string ⟨#[]⟩, .string ⟨#[]⟩, .int .i64 0, .int .i64 0, .slice none 0 0, .int .i64 0, .int .i64 0])) := below_cells (Nat.le_refl _) _ _ _ ⟨D5.out.low.os, D5.out.low.tape, D5.out.low.output, D5.out.low.size, D5.out.low.block⟩
  have RA : Hid ((w5.drew.setCells w.heap.size 0 [.int .i64 0, .int .i64 0, .int .i64 0, .int .i64 0, .int .i64 0, .bool false, .int .i64 0, .int .i64 0, .int .i64 0, .string ⟨#[]⟩, .string ⟨#[]⟩, .string ⟨#[]⟩, .string ⟨#[]⟩, .int .i64 0, .int .i64 0, .slice none 0 0, .int .i64 0, .int .i64 0]).rangeAt w.heap.size 0 (rcs zeroRc)) := (blk_cells (vs := rcs zeroRc) AD rfl).range
  have r1' : (w5.drew.setCells w.heap.size 0 [.int .i64 0, .int .i64 0, .int .i64 0, .int .i64 0, .int .i64 0, .bool false, .int .i64 0, .int .i64 0, .int .i64 0, .string ⟨#[]⟩, .string ⟨#[]⟩, .string ⟨#[]⟩, .string ⟨#[]⟩, .int .i64 0, .int .i64 0, .slice none 0 0, .int .i64 0, .int .i64 0]).cell? ⟨g, 1, none⟩ = some (.int .i64 z) := (d6_far HGne _ _ _).trans r1
  clear D5 h0 AD
  go_upto_region 11 with fail
  refine wp_region_noPanic ?_
  refine wp_region_held_drew (S := (fun w' => w'.cell? ⟨g, 1, none⟩ = some (.int .i64 z))) (by kernel_rfl) r1 (fun hHeld => ?_)
  refine tk 0 ?_
  refine tk 1 ?_
  refine tk 2 ?_
  refine tk 3 ?_
  refine tk 4 ?_
  refine wpAnyH_ready (rs := [5]) (by kernel_rfl) (by simp) ?_
  refine AllReadyH.cons rfl (fun K hK => ?_) AllReadyH.nil
  rw [if_pos (by rfl)]
  refine wp_store_mid 30 _ _ rfl w.heap.size 0 #[.int .i64 0, .int .i64 0, .int .i64 0, .int .i64 0, .int .i64 0, .bool false, .int .i64 0, .int .i64 0, .int .i64 0, .string ⟨#[]⟩, .string ⟨#[]⟩, .string ⟨#[]⟩, .string ⟨#[]⟩, .int .i64 0, .int .i64 0, .slice none 0 0, .int .i64 0, .int .i64 0] rfl rfl TZ.out (by kernel_rfl) (by kernel_rfl) ?_
  refine hK.out _ _ r1' (fun hHeld => ?_)
  clear hK K
  try simp only [Act.put, List.getElem_toArray, List.getElem_cons_succ, List.getElem_cons_zero]
  refine tk 6 ?_
  refine wpAnyH_done (by kernel_rfl) ?_ _
  refine NoPanic.normal ?_
  go_wp2
  exact bodyPost_ret (results_cell_tmp Tryz.results14 _ _ w.heap.size (rcs zeroRc) _ _ rfl rfl RA.out Tryz.underlying30 rfl (by kernel_rfl)) rfl ⟨zeroRc, rfl, rfl, segI_none _, BY.out⟩

set_option maxHeartbeats 4000000 in
set_option maxRecDepth 100000 in
theorem dec6_big_no (n : Nat) (h1 : 1 ≤ n) (h7 : n ≤ 7) (sa : Option Addr) (m cap : Nat) (l : List Int) (a : Nat → Addr) (w : World) (hs : Seg w sa m l) (hsrc : Src sa m cap) (hy : Byt l) (he : Errs w a) (k : Int) (l1 : List Int) (e1 z1 : Int) (hk : Hid ((oc6 l 0).1 = k)) (hl1 : Hid ((oc6 l 0).2.1 = l1)) (he1 : Hid ((oc6 l 0).2.2 = e1)) (_q1 : ¬ k < 1) (q2 : 5 < k) (hz1 : Hid (jd6 true 61 e1 = z1)) (p : Rc × List Int × Int) (hp : Hid (bo6 n { zeroRc with kind := k } l1 z1 = p)) (z : Int) (hz : Hid (jd6 (decide (0 < p.2.1.length)) 68 p.2.2 = z)) (h0 : z ≠ 0) :
    Calls Tryz.prog 14 #[.int .i64 (n : Int), .slice sa m cap] w fun e w' => ∃ rr, e = .returned (.tuple #[.agg (rcs rr).toArray, .int .i64 z]) ∧ er rr = er zeroRc ∧ SegI w' rr.da rr.dn rr.deps ∧ Below w.heap.size w w' := by
  obtain ⟨V, hV⟩ : ∃ V, V = w.alloc (.cells #[.int .i64 0, .int .i64 0, .int .i64 0, .int .i64 0, .int .i64 0, .bool false, .int .i64 0, .int .i64 0, .int .i64 0, .string ⟨#[]⟩, .string ⟨#[]⟩, .string ⟨#[]⟩, .string ⟨#[]⟩, .int .i64 0, .int .i64 0, .slice none 0 0, .int .i64 0, .int .i64 0] 30) := ⟨_, rfl⟩
  have QV : Hid (Blk V w.heap.size [.int .i64 0, .int .i64 0, .int .i64 0, .int .i64 0, .int .i64 0, .bool false, .int .i64 0, .int .i64 0, .int .i64 0, .string ⟨#[]⟩, .string ⟨#[]⟩, .string ⟨#[]⟩, .string ⟨#[]⟩, .int .i64 0, .int .i64 0, .slice none 0 0, .int .i64 0, .int .i64 0]) := by rw [hV]; exact blk_new w 30 [.int .i64 0, .int .i64 0, .int .i64 0, .int .i64 0, .int .i64 0, .bool false, .int .i64 0, .int .i64 0, .int .i64 0, .string ⟨#[]⟩, .string ⟨#[]⟩, .string ⟨#[]⟩, .string ⟨#[]⟩, .int .i64 0, .int .i64 0, .slice none 0 0, .int .i64 0, .int .i64 0]
  have BV : Hid (Below w.heap.size w V) := by rw [hV]; exact (Below.refl _ _).alloc (Nat.le_refl _) _
  have hVs : V.heap.size = w.heap.size + 1 := by rw [hV]; simp
  obtain ⟨U, hU⟩ : ∃ U, U = V.alloc (.cells #[.slice sa m cap, .int .i64 0] 74) := ⟨_, rfl⟩
  have SU : Hid (S6x w U V.heap.size l 0) := s6x_new hs hsrc hy BV.out hU
  have BU : Hid (Below V.heap.size V U) := by rw [hU]; exact (Below.refl _ _).alloc (Nat.le_refl _) _
  have HU := hide hU
  have QU : Hid (Blk U w.heap.size [.int .i64 0, .int .i64 0, .int .i64 0, .int .i64 0, .int .i64 0, .bool false, .int .i64 0, .int .i64 0, .int .i64 0, .string ⟨#[]⟩, .string ⟨#[]⟩, .string ⟨#[]⟩, .string ⟨#[]⟩, .int .i64 0, .int .i64 0, .slice none 0 0, .int .i64 0, .int .i64 0]) := QV.out.on BU.out
  have BUw : Hid (Below w.heap.size w U) := BV.out.trans (BU.out.mono (by omega))
  obtain ⟨g, hg⟩ : ∃ g, Hid (V.heap.size = g) := ⟨_, rfl⟩
  have hgw : Hid (g = w.heap.size + 1) := by show _ = _; rw [← hg.out]; exact hVs
  rw [hg.out] at SU
  have HE := hide he
  have n1 : decide ((n : Int) < 1) = false := decide_eq_false (by omega)
  have n7 : decide ((7 : Int) < (n : Int)) = false := decide_eq_false (by omega)
  clear hU hs hsrc hy he hVs QV BU h1
  go_enter Tryz.func14, Tryz.ntmps14
  go_upto_region 1 with fail
  rw [← hV]
  clear hV
  go_upto_region 4 with fail
  rw [← HU.out, hg.out]
  go_wp2_with fail
  refine (byte6_any w g l 0 _ SU.out).mono ?_
  rintro u w1 ⟨rfl, T1, S1⟩
  rw [hk.out]
  rw [hl1.out, he1.out] at S1
  have Q1 : Hid (Blk w1 w.heap.size [.int .i64 0, .int .i64 0, .int .i64 0, .int .i64 0, .int .i64 0, .bool false, .int .i64 0, .int .i64 0, .int .i64 0, .string ⟨#[]⟩, .string ⟨#[]⟩, .string ⟨#[]⟩, .string ⟨#[]⟩, .int .i64 0, .int .i64 0, .slice none 0 0, .int .i64 0, .int .i64 0]) := QU.out.of_block (T1.block _ QU.out.lt (by have := hgw.out; omega))
  have B1 : Hid (Below w.heap.size w w1) := T1.below (by have := hgw.out; omega) BUw.out
  have g1 : Hid (g < w1.heap.size) := S1.lt
  have HS1 := hide S1
  clear T1 S1 SU QU BUw HU
  obtain ⟨X, hX⟩ : ∃ X, X = w1.alloc (.cells #[.int .i64 0, .int .i64 0, .int .i64 0, .int .i64 0, .int .i64 0, .bool false, .int .i64 0, .int .i64 0, .int .i64 0, .string ⟨#[]⟩, .string ⟨#[]⟩, .string ⟨#[]⟩, .string ⟨#[]⟩, .int .i64 0, .int .i64 0, .slice none 0 0, .int .i64 0, .int .i64 0] 30) := ⟨_, rfl⟩
  have QX : Hid (Blk X w1.heap.size [.int .i64 0, .int .i64 0, .int .i64 0, .int .i64 0, .int .i64 0, .bool false, .int .i64 0, .int .i64 0, .int .i64 0, .string ⟨#[]⟩, .string ⟨#[]⟩, .string ⟨#[]⟩, .string ⟨#[]⟩, .int .i64 0, .int .i64 0, .slice none 0 0, .int .i64 0, .int .i64 0]) := by rw [hX]; exact blk_new w1 30 [.int .i64 0, .int .i64 0, .int .i64 0, .int .i64 0, .int .i64 0, .bool false, .int .i64 0, .int .i64 0, .int .i64 0, .string ⟨#[]⟩, .string ⟨#[]⟩, .string ⟨#[]⟩, .string ⟨#[]⟩, .int .i64 0, .int .i64 0, .slice none 0 0, .int .i64 0, .int .i64 0]
  have BX : Hid (Below w1.heap.size w1 X) := by rw [hX]; exact (Below.refl _ _).alloc (Nat.le_refl _) _
  have TX : Hid (X.there w1.heap.size 0 18) := QX.out.there
  obtain ⟨q, hq⟩ : ∃ q, Hid (w1.heap.size = q) := ⟨_, rfl⟩
  obtain ⟨Y, hY⟩ : ∃ Y, Y = X.setCells w1.heap.size 0 (rcs { zeroRc with kind := k }) := ⟨_, rfl⟩
  have D0 : Hid (D6 w Y g q l1 e1 { zeroRc with kind := k }) := by
    have RY := box_stored (w := w1) QX.out (by rfl) BX.out (Nat.le_refl _) hY
    rw [hq.out] at RY
    exact ⟨B1.out.trans (RY.2.mono (by rw [← hq.out]; exact B1.out.size)), Q1.out.of_block (RY.2.block _ (by rw [← hq.out]; exact Q1.out.lt)), HS1.out.on (by rw [hq.out]; exact RY.2), RY.1, hgw.out, by rw [← hq.out]; exact g1.out, segI_none _, fun x hx => by cases hx⟩
  have HX : Hid (w1.alloc (.cells #[.int .i64 0, .int .i64 0, .int .i64 0, .int .i64 0, .int .i64 0, .bool false, .int .i64 0, .int .i64 0, .int .i64 0, .string ⟨#[]⟩, .string ⟨#[]⟩, .string ⟨#[]⟩, .string ⟨#[]⟩, .int .i64 0, .int .i64 0, .slice none 0 0, .int .i64 0, .int .i64 0] 30) = X) := hX.symm
  have HY : Hid (X.setCells w1.heap.size 0 (rcs { zeroRc with kind := k }).toArray.toList = Y) := hY.symm
  clear hX hY QX BX Q1 B1 HS1
  go_upto_region 5 with (first | (refine wpList_build rfl 30 _ rfl [(0, Value.int .i64 k)] rfl _ (built_kind k) ?_) | (refine wpList_store_mid rfl 30 _ _ rfl w1.heap.size 0 (rcs { zeroRc with kind := k }).toArray rfl rfl (by rw [HX.out]; exact TX.out) (by kernel_rfl) (by kernel_rfl) ?_))
  rw [HX.out, HY.out, hq.out]
  have c0 : Y.cell? ⟨q, 0, none⟩ = some (.int .i64 k) := D0.out.box.cell 0 _ (rcs0 _)
  clear HY HX TX
  have d1 : decide (k < 1) = false := decide_eq_false (by omega)
  have d2 : decide (5 < k) = true := decide_eq_true (by omega)
  go_wp2_with fail
  refine (judge6_any w g true 61 l1 e1 _ D0.out.scan).mono ?_
  rintro u w2 ⟨rfl, T2, S2⟩
  rw [hz1.out] at S2
  have D2 := hide (D0.out.call T2 S2)
  have c2 : w2.cell? ⟨q, 0, none⟩ = some (.int .i64 k) := D2.out.box.cell 0 _ (rcs0 _)
  clear T2 S2 D0 c0
  have d3 : (k == 1) = false := beq_eq_false_iff_ne.2 (by omega)
  clear _q1 q2
  go_wp2_with (first | (refine wpList_load_mid rfl 30 _ rfl q 0 rfl (rcs { zeroRc with kind := k }) _ D2.out.box.range Tryz.underlying30 rfl (by kernel_rfl) ?_))
  refine (body6_any w g n h7 { zeroRc with kind := k } l1 z1 a _ HE.out D2.out.scan ⟨rfl, rfl, rfl⟩).mono ?_
  rintro u w3 ⟨rr, rfl, hrr, hsd, hfd, T3, S3⟩
  rw [hp.out] at S3 hrr
  have D3 := hide (D2.out.lay T3 S3 hsd (fun x hx hn => by have := hfd x hx hn; omega))
  have TQ : Hid (w3.there q 0 18) := (D2.out.box.of_block (T3.block _ D2.out.box.lt (by have := D2.out.hq; omega))).there
  have HRR := hide hrr
  clear T3 S3 hsd hfd hrr D2 c2
  go_upto_region 9 with (first | (refine wpList_store_mid rfl 30 _ _ rfl q 0 (rcs rr).toArray rfl rfl TQ.out (by kernel_rfl) (by kernel_rfl) ?_))
  obtain ⟨W4, hW4⟩ : ∃ W4, w3.setCells q 0 (rcs rr).toArray.toList = W4 := ⟨_, rfl⟩
  rw [hW4]
  have D4 : Hid (D6 w W4 g q p.2.1 p.2.2 rr) := by rw [← hW4]; exact D3.out
  clear D3 TQ hW4
  obtain ⟨l4, hl4⟩ : ∃ l4, Hid (p.2.1 = l4) := ⟨_, rfl⟩
  obtain ⟨e4, he4⟩ : ∃ e4, Hid (p.2.2 = e4) := ⟨_, rfl⟩
  rw [hl4.out, he4.out] at D4 hz
  obtain ⟨m4, hm4⟩ : ∃ m4, Hid (l4.length = m4) := ⟨_, rfl⟩
  rw [hm4.out] at hz
  obtain ⟨sb, cb, c4⟩ := D4.out.scan.len
  rw [hm4.out] at c4
  go_wp2_with fail
  refine (judge6_any w g (decide (0 < m4)) 68 l4 e4 _ D4.out.scan).mono ?_
  rintro u w5 ⟨rfl, T5, S5⟩
  rw [hz.out] at S5
  have D5 := hide (D4.out.call T5 S5)
  have r1 := S5.fault
  clear T5 S5 D4 c4
  have q9 : (z != 0) = true := by rw [bne_iff_ne]; exact h0
  have HGne : g ≠ w.heap.size := by have := hgw.out; omega
  have AD : Blk w5.drew w.heap.size [.int .i64 0, .int .i64 0, .int .i64 0, .int .i64 0, .int .i64 0, .bool false, .int .i64 0, .int .i64 0, .int .i64 0, .string ⟨#[]⟩, .string ⟨#[]⟩, .string ⟨#[]⟩, .string ⟨#[]⟩, .int .i64 0, .int .i64 0, .slice none 0 0, .int .i64 0, .int .i64 0] := ⟨D5.out.ans.cell, D5.out.ans.thaw, D5.out.ans.lt⟩
  have TZ : Hid (w5.drew.there w.heap.size 0 18) := AD.there
  have BY : Hid (Below w.heap.size w (w5.drew.setCells w.heap.size 0 [.int .i64 0, .int .i64 0, .int .i64 0, .int .i64 0, .int .i64 0, .bool false, .int .i64 0, .int .i64 0, .int .i64 0, .string ⟨#[]⟩, .string ⟨#[]⟩, .string ⟨#[]⟩, .string ⟨#[]⟩, .int .i64 0, .int .i64 0, .slice none 0 0, .int .i64 0, .int .i64 0])) := below_cells (Nat.le_refl _) _ _ _ ⟨D5.out.low.os, D5.out.low.tape, D5.out.low.output, D5.out.low.size, D5.out.low.block⟩
  have RA : Hid ((w5.drew.setCells w.heap.size 0 [.int .i64 0, .int .i64 0, .int .i64 0, .int .i64 0, .int .i64 0, .bool false, .int .i64 0, .int .i64 0, .int .i64 0, .string ⟨#[]⟩, .string ⟨#[]⟩, .string ⟨#[]⟩, .string ⟨#[]⟩, .int .i64 0, .int .i64 0, .slice none 0 0, .int .i64 0, .int .i64 0]).rangeAt w.heap.size 0 (rcs zeroRc)) := (blk_cells (vs := rcs zeroRc) AD rfl).range
  have r1' : (w5.drew.setCells w.heap.size 0 [.int .i64 0, .int .i64 0, .int .i64 0, .int .i64 0, .int .i64 0, .bool false, .int .i64 0, .int .i64 0, .int .i64 0, .string ⟨#[]⟩, .string ⟨#[]⟩, .string ⟨#[]⟩, .string ⟨#[]⟩, .int .i64 0, .int .i64 0, .slice none 0 0, .int .i64 0, .int .i64 0]).cell? ⟨g, 1, none⟩ = some (.int .i64 z) := (d6_far HGne _ _ _).trans r1
  clear D5 h0 AD
  go_upto_region 11 with fail
  refine wp_region_noPanic ?_
  refine wp_region_held_drew (S := (fun w' => w'.cell? ⟨g, 1, none⟩ = some (.int .i64 z))) (by kernel_rfl) r1 (fun hHeld => ?_)
  refine tk 0 ?_
  refine tk 1 ?_
  refine tk 2 ?_
  refine tk 3 ?_
  refine tk 4 ?_
  refine wpAnyH_ready (rs := [5]) (by kernel_rfl) (by simp) ?_
  refine AllReadyH.cons rfl (fun K hK => ?_) AllReadyH.nil
  rw [if_pos (by rfl)]
  refine wp_store_mid 30 _ _ rfl w.heap.size 0 #[.int .i64 0, .int .i64 0, .int .i64 0, .int .i64 0, .int .i64 0, .bool false, .int .i64 0, .int .i64 0, .int .i64 0, .string ⟨#[]⟩, .string ⟨#[]⟩, .string ⟨#[]⟩, .string ⟨#[]⟩, .int .i64 0, .int .i64 0, .slice none 0 0, .int .i64 0, .int .i64 0] rfl rfl TZ.out (by kernel_rfl) (by kernel_rfl) ?_
  refine hK.out _ _ r1' (fun hHeld => ?_)
  clear hK K
  try simp only [Act.put, List.getElem_toArray, List.getElem_cons_succ, List.getElem_cons_zero]
  refine tk 6 ?_
  refine wpAnyH_done (by kernel_rfl) ?_ _
  refine NoPanic.normal ?_
  go_wp2
  exact bodyPost_ret (results_cell_tmp Tryz.results14 _ _ w.heap.size (rcs zeroRc) _ _ rfl rfl RA.out Tryz.underlying30 rfl (by kernel_rfl)) rfl ⟨zeroRc, rfl, rfl, segI_none _, BY.out⟩

set_option maxHeartbeats 4000000 in
set_option maxRecDepth 100000 in
theorem dec6_size (n : Int) (hn : isSizeB n = false) (sa : Option Addr) (m cap : Nat) (w : World) :
    Calls Tryz.prog 14 #[.int .i64 n, .slice sa m cap] w fun e w' => e = .returned (.tuple #[.agg (rcs zeroRc).toArray, .int .i64 3]) ∧ Below w.heap.size w w' := by
  obtain ⟨V, hV⟩ : ∃ V, V = w.alloc (.cells #[.int .i64 0, .int .i64 0, .int .i64 0, .int .i64 0, .int .i64 0, .bool false, .int .i64 0, .int .i64 0, .int .i64 0, .string ⟨#[]⟩, .string ⟨#[]⟩, .string ⟨#[]⟩, .string ⟨#[]⟩, .int .i64 0, .int .i64 0, .slice none 0 0, .int .i64 0, .int .i64 0] 30) := ⟨_, rfl⟩
  have QV : Hid (Blk V w.heap.size [.int .i64 0, .int .i64 0, .int .i64 0, .int .i64 0, .int .i64 0, .bool false, .int .i64 0, .int .i64 0, .int .i64 0, .string ⟨#[]⟩, .string ⟨#[]⟩, .string ⟨#[]⟩, .string ⟨#[]⟩, .int .i64 0, .int .i64 0, .slice none 0 0, .int .i64 0, .int .i64 0]) := by rw [hV]; exact blk_new w 30 [.int .i64 0, .int .i64 0, .int .i64 0, .int .i64 0, .int .i64 0, .bool false, .int .i64 0, .int .i64 0, .int .i64 0, .string ⟨#[]⟩, .string ⟨#[]⟩, .string ⟨#[]⟩, .string ⟨#[]⟩, .int .i64 0, .int .i64 0, .slice none 0 0, .int .i64 0, .int .i64 0]
  have BV : Hid (Below w.heap.size w V) := by rw [hV]; exact (Below.refl _ _).alloc (Nat.le_refl _) _
  have TV : Hid (V.there w.heap.size 0 18) := QV.out.there
  have BY : Hid (Below w.heap.size w (V.setCells w.heap.size 0 (rcs zeroRc))) := below_cells (Nat.le_refl _) _ _ _ BV.out
  have QY : Hid (Blk (V.setCells w.heap.size 0 (rcs zeroRc)) w.heap.size (rcs zeroRc)) := blk_cells QV.out rfl
  have hn' : n < 1 ∨ (¬ n < 1 ∧ 7 < n) := by
    simp only [isSizeB, Bool.and_eq_false_iff, decide_eq_false_iff_not] at hn
    omega
  clear hn
  rcases hn' with q1 | ⟨q1, q2⟩
  · have d1 : decide (n < 1) = true := decide_eq_true q1
    clear q1
    go_enter Tryz.func14, Tryz.ntmps14
    go_upto_region 1 with fail
    rw [← hV]
    clear hV
    go_wp2_with (first | (refine wpList_build rfl 30 _ rfl [] rfl _ built_none ?_) | (refine wpList_store_mid rfl 30 _ _ rfl w.heap.size 0 (rcs zeroRc).toArray rfl rfl TV.out (by kernel_rfl) (by kernel_rfl) ?_))
    exact bodyPost_ret (results_cell_tmp Tryz.results14 _ _ w.heap.size (rcs zeroRc) _ _ rfl rfl QY.out.range Tryz.underlying30 rfl (by kernel_rfl)) rfl ⟨rfl, BY.out⟩
  · have d1 : decide (n < 1) = false := decide_eq_false q1
    have d2 : decide (7 < n) = true := decide_eq_true q2
    clear q1 q2
    go_enter Tryz.func14, Tryz.ntmps14
    go_upto_region 1 with fail
    rw [← hV]
    clear hV
    go_wp2_with (first | (refine wpList_build rfl 30 _ rfl [] rfl _ built_none ?_) | (refine wpList_store_mid rfl 30 _ _ rfl w.heap.size 0 (rcs zeroRc).toArray rfl rfl TV.out (by kernel_rfl) (by kernel_rfl) ?_))
    exact bodyPost_ret (results_cell_tmp Tryz.results14 _ _ w.heap.size (rcs zeroRc) _ _ rfl rfl QY.out.range Tryz.underlying30 rfl (by kernel_rfl)) rfl ⟨rfl, BY.out⟩
/-- The document's own Decode, at every input. -/
theorem ref6dec_any (n : Int) (sa : Option Addr) (m cap : Nat) (l : List Int) (a : Nat → Addr) (w : World) (hs : Seg w sa m l) (hsrc : Src sa m cap) (hy : Byt l) (he : Errs w a) :
    Calls Tryz.prog 14 #[.int .i64 n, .slice sa m cap] w fun e w' => ∃ rr, e = .returned (.tuple #[.agg (rcs rr).toArray, .int .i64 (rD6 n l).2]) ∧ er rr = er (rD6 n l).1 ∧ SegI w' rr.da rr.dn rr.deps ∧ Below w.heap.size w w' := by
  cases hn : isSizeB n with
  | false =>
    have E : rD6 n l = (zeroRc, 3) := by unfold rD6; rw [hn]; rfl
    rw [E]
    exact (dec6_size n hn sa m cap w).mono fun e w' ⟨h1, h2⟩ => ⟨zeroRc, h1, rfl, segI_none w', h2⟩
  | true =>
    obtain ⟨k, rfl, h1, h7⟩ := size_nat hn
    have E : rD6 (k : Int) l = if en6 k l = 0 then ((in1 k l).1, 0) else (zeroRc, en6 k l) := by unfold rD6; rw [hn, if_pos rfl]; rfl
    rw [E]
    obtain ⟨x, hx⟩ : ∃ x, (oc6 l 0).1 = x := ⟨_, rfl⟩
    have hki : ki6 l = jd6 (decide (x < 1) || decide (5 < x)) 61 (oc6 l 0).2.2 := by unfold ki6; rw [hx]
    have hin : in1 k l = if x = 1 then hd6 { zeroRc with kind := x } (oc6 l 0).2.1 (ki6 l) else bo6 k { zeroRc with kind := x } (oc6 l 0).2.1 (ki6 l) := by unfold in1; rw [hx]
    by_cases hz : en6 k l = 0
    · rw [if_pos hz]
      have hz' := hz
      unfold en6 at hz'
      rcases (by omega : x < 1 ∨ (¬ x < 1 ∧ 5 < x) ∨ x = 1 ∨ (¬ x < 1 ∧ ¬ 5 < x ∧ x ≠ 1)) with q | ⟨q1, q2⟩ | q | ⟨q1, q2, q3⟩
      · exfalso
        rw [decide_eq_true q, Bool.true_or] at hki
        have hne : ki6 l ≠ 0 := by rw [hki]; unfold jd6; split <;> simp_all
        rw [hin, if_neg (by omega), bo6_keep hne, jd6_keep hne] at hz'
        exact hne hz'
      · exfalso
        rw [decide_eq_true q2, Bool.or_true] at hki
        have hne : ki6 l ≠ 0 := by rw [hki]; unfold jd6; split <;> simp_all
        rw [hin, if_neg (by omega), bo6_keep hne, jd6_keep hne] at hz'
        exact hne hz'
      · rw [decide_eq_false (by omega), decide_eq_false (by omega)] at hki
        rw [if_pos q] at hin
        exact dec6_one_ok k h1 h7 sa m cap l a w hs hsrc hy he x _ _ (ki6 l) hx rfl rfl q hki.symm _ hin.symm 0 hz' rfl
      · rw [decide_eq_false q1, decide_eq_false q2] at hki
        rw [if_neg q3] at hin
        exact dec6_oth_ok k h1 h7 sa m cap l a w hs hsrc hy he x _ _ (ki6 l) hx rfl rfl q1 q2 q3 hki.symm _ hin.symm 0 hz' rfl
    · rw [if_neg hz]
      rcases (by omega : x < 1 ∨ (¬ x < 1 ∧ 5 < x) ∨ x = 1 ∨ (¬ x < 1 ∧ ¬ 5 < x ∧ x ≠ 1)) with q | ⟨q1, q2⟩ | q | ⟨q1, q2, q3⟩
      · rw [decide_eq_true q, Bool.true_or] at hki
        rw [if_neg (by omega)] at hin
        exact dec6_neg_no k h1 h7 sa m cap l a w hs hsrc hy he x _ _ (ki6 l) hx rfl rfl q hki.symm _ hin.symm _ rfl hz
      · rw [decide_eq_true q2, Bool.or_true] at hki
        rw [if_neg (by omega)] at hin
        exact dec6_big_no k h1 h7 sa m cap l a w hs hsrc hy he x _ _ (ki6 l) hx rfl rfl q1 q2 hki.symm _ hin.symm _ rfl hz
      · rw [decide_eq_false (by omega), decide_eq_false (by omega)] at hki
        rw [if_pos q] at hin
        exact dec6_one_no k h1 h7 sa m cap l a w hs hsrc hy he x _ _ (ki6 l) hx rfl rfl q hki.symm _ hin.symm _ rfl hz
      · rw [decide_eq_false q1, decide_eq_false q2] at hki
        rw [if_neg q3] at hin
        exact dec6_oth_no k h1 h7 sa m cap l a w hs hsrc hy he x _ _ (ki6 l) hx rfl rfl q1 q2 q3 hki.symm _ hin.symm _ rfl hz
end Go.Proofs.YtlhididcanedhaaGreatDoor
