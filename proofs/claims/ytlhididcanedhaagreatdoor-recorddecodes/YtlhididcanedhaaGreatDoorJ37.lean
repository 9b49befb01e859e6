/- Texts of the proof, joined. -/
import Derived.Test.YtlhididcanedhaaGreatDoorJ36
/- The document's own scan of records: value, with a command that is no noop. -/
namespace Go.Proofs.YtlhididcanedhaaGreatDoor
open Go.RowKit Go.Wire1

set_option maxHeartbeats 4000000 in
set_option maxRecDepth 100000 in
theorem value6_s1 (w0 : World) (g n : Nat) (_hn : n ≤ 7) (r : Rc) (l : List Int) (a : Nat → Addr) (w : World) (he : Errs w0 a) (h : S6x w0 w g l 0) (hr : r.da = none ∧ r.dn = 0 ∧ r.deps = []) (c : Cm) (k : Nat) (f : Int) (hD : Hid (decC 2 l = (c, k, f))) (hk : c.kind ≠ 0) (x : Nat) (l2 : List Int) (e2 z : Int) (hx : Hid ((nu6 (l.drop k) f).1 = x)) (hl2 : Hid ((nu6 (l.drop k) f).2.1 = l2)) (he2 : Hid ((nu6 (l.drop k) f).2.2 = e2)) (hz : Hid (jd6 true 65 e2 = z)) (hz0 : z ≠ 0) (q1 : x < 1) :
    Calls Tryz.prog 71 #[.pointer (some ⟨g, 0, none⟩), .int .i64 (n : Int), .agg (rcs r).toArray] w fun u w' => Rec6 w0 w g ({ r with c := c }, l2, z) u w' := by
  have HK := hide hk
  clear hk
  have gz : (z != 0) = true := by rw [bne_iff_ne]; exact hz0
  clear hz0
  have d1 : decide ((x : Int) < 1) = true := decide_eq_true (by omega)
  have hg := h.lt
  have hw : w0.heap.size ≤ w.heap.size := h.low.size
  obtain ⟨V, hV⟩ : ∃ V, V = (w.alloc (.cells (rcs r).toArray 30)).alloc (.cells [.int .i64 0, .int .i64 0, .int .i64 0, .int .i64 0, .int .i64 0, .bool false, .int .i64 0, .int .i64 0, .int .i64 0, .string ⟨#[]⟩, .string ⟨#[]⟩, .string ⟨#[]⟩, .string ⟨#[]⟩, .int .i64 0, .int .i64 0, .slice none 0 0, .int .i64 0, .int .i64 0].toArray 30) := ⟨_, rfl⟩
  have HV : Hid (H6 w0 w V g l 0 r) := by rw [hV]; exact h6_new h r
  have f0 := HV.out.scan.fault
  obtain ⟨sa, m, cap, S0⟩ := HV.out.scan
  have c0 : V.cell? ⟨g, 0, none⟩ = some (.slice sa m cap) := S0.box.cell 0 _ rfl
  have HS := hide S0
  have hkl : k ≤ l.length := by have := rdecC_le (v := 2) S0.byt; rw [hD.out] at this; exact this
  have hkm : k ≤ m := by rw [← S0.seg.1]; exact hkl
  have hsl := slice_from sa m cap k hkm
  obtain ⟨a2, ha2⟩ : ∃ a2, Hid (restA sa cap k = a2) := ⟨_, rfl⟩
  obtain ⟨m2, hm2⟩ : ∃ m2, Hid (m - k = m2) := ⟨_, rfl⟩
  obtain ⟨cap2, hcap2⟩ : ∃ cap2, Hid (cap - k = cap2) := ⟨_, rfl⟩
  rw [ha2.out, hm2.out, hcap2.out] at hsl
  have HD2 : Hid (rcD 2 l = (c, k, f)) := by rw [rcD_decC 2 l S0.byt]; exact hD
  have mc : m ≤ cap ∧ cap ≤ 9223372036854775807 := by
    rcases S0.src with ⟨q1, q2⟩ | ⟨_, q1, q2⟩
    · omega
    · unfold maxLen at q2; omega
  have HMC := hide mc
  have HE := hide he
  have HKM := hide hkm
  clear h he S0 mc hkl hkm
  go_enter Tryz.func71, Tryz.ntmps71
  go_upto_region 1 with fail
  rw [← hV]
  clear hV
  go_wp2_with fail
  refine (rcDec_any 2 sa m cap l a _ (HS.out.seg.below HS.out.low (Nat.le_refl _)) HS.out.byt (HE.out.below HS.out.low (Nat.le_refl _)) HMC.out.1 HMC.out.2).mono ?_
  rintro u w1 ⟨rfl, b1⟩
  rw [HD2.out]
  have H1 := hide (HV.out.on b1)
  have S1 := hide (HS.out.on b1)
  clear b1 f0 c0
  obtain ⟨X, hX⟩ : ∃ X, X = w1.alloc (.cells #[.int .i64 c.kind, .int .i64 c.client, .int .i64 c.req, .string c.key, .string c.key2, .string c.val, .string c.old, .int .i64 c.n] 27) := ⟨_, rfl⟩
  have BX : Hid (Below w1.heap.size w1 X) := by rw [hX]; exact (Below.refl _ _).alloc (Nat.le_refl _) _
  have QX : Hid (Blk X w1.heap.size [.int .i64 c.kind, .int .i64 c.client, .int .i64 c.req, .string c.key, .string c.key2, .string c.val, .string c.old, .int .i64 c.n]) := by rw [hX]; exact blk_new w1 27 [.int .i64 c.kind, .int .i64 c.client, .int .i64 c.req, .string c.key, .string c.key2, .string c.val, .string c.old, .int .i64 c.n]
  have H2 := hide (H1.out.on BX.out)
  have S2 := hide (S1.out.on BX.out)
  have hgw : g < w1.heap.size := H1.out.scan.lt
  have hww : w.heap.size + 1 < w1.heap.size := H1.out.res.lt
  have c0 : X.cell? ⟨g, 0, none⟩ = some (.slice sa m cap) := S2.out.box.cell 0 _ rfl
  have c1 : X.cell? ⟨g, 1, none⟩ = some (.int .i64 0) := S2.out.box.cell 1 _ rfl
  have t0 := S2.out.box.thaw 0
  have t1 := S2.out.box.thaw 1
  obtain ⟨w2, hw2⟩ : ∃ w2, w2 = (X.setCell ⟨g, 1, none⟩ (.int .i64 f)).setCell ⟨g, 0, none⟩ (.slice a2 m2 cap2) := ⟨_, rfl⟩
  have N2 : Hid (S6x w0 w2 g (l.drop k) f ∧ Touch g X w2) := by
    have P := S2.out.put f
    have N := P.1.next k HKM.out
    rw [ha2.out, hm2.out, hcap2.out, ← hw2] at N
    exact ⟨N.1, P.2.trans N.2⟩
  have H3 := hide (H2.out.call hg N2.out.2 N2.out.1)
  have Q3 : Hid (Blk w2 w1.heap.size [.int .i64 c.kind, .int .i64 c.client, .int .i64 c.req, .string c.key, .string c.key2, .string c.val, .string c.old, .int .i64 c.n]) := QX.out.of_block (N2.out.2.block _ QX.out.lt (by omega))
  clear N2 QX H2 S2 S1 H1 HV BX
  go_upto_region 4 with fail
  rw [← hX]
  clear hX
  go_upto_region 6 with fail
  rw [← hw2]
  clear hw2 c0 c1 t0 t1 hsl
  have H4 := hide (H3.out.putCmd hg hw c)
  have T4 : Hid (Touch w.heap.size w2 (w2.setCells w.heap.size 6 [.int .i64 c.kind, .int .i64 c.client, .int .i64 c.req, .string c.key, .string c.key2, .string c.val, .string c.old, .int .i64 c.n])) := touch_own _ _ _ _ (Touch.refl _ _)
  have Q4 : Hid (Blk (w2.setCells w.heap.size 6 [.int .i64 c.kind, .int .i64 c.client, .int .i64 c.req, .string c.key, .string c.key2, .string c.val, .string c.old, .int .i64 c.n]) w1.heap.size [.int .i64 c.kind, .int .i64 c.client, .int .i64 c.req, .string c.key, .string c.key2, .string c.val, .string c.old, .int .i64 c.n]) := Q3.out.of_block (T4.out.block _ Q3.out.lt (by omega))
  go_upto_region 7 with (first | (refine wpList_load_mid rfl 27 _ rfl w1.heap.size 0 rfl [.int .i64 c.kind, .int .i64 c.client, .int .i64 c.req, .string c.key, .string c.key2, .string c.val, .string c.old, .int .i64 c.n] _ Q3.out.range Tryz.underlying27 rfl (by kernel_rfl) ?_) | (refine wpList_store_mid rfl 27 _ _ rfl w.heap.size 6 #[.int .i64 c.kind, .int .i64 c.client, .int .i64 c.req, .string c.key, .string c.key2, .string c.val, .string c.old, .int .i64 c.n] rfl rfl H3.out.there8 (by kernel_rfl) (by kernel_rfl) ?_))
  obtain ⟨w4, hw4⟩ : ∃ w4, w2.setCells w.heap.size 6 [.int .i64 c.kind, .int .i64 c.client, .int .i64 c.req, .string c.key, .string c.key2, .string c.val, .string c.old, .int .i64 c.n] = w4 := ⟨_, rfl⟩
  rw [hw4] at H4 Q4 ⊢
  have k4 : w4.cell? ⟨w1.heap.size, 0, none⟩ = some (.int .i64 c.kind) := Q4.out.cell 0 _ rfl
  have r4 : w4.cell? ⟨w.heap.size, 0, none⟩ = some (.int .i64 r.kind) := H4.out.box.cell 0 _ rfl
  clear hw4 T4 H3 Q3
  have gk : (c.kind == 0) = false := beq_eq_false_iff_ne.2 HK.out
  go_wp2_with fail
  refine (number6_any w0 g (l.drop k) f _ H4.out.scan).mono ?_
  rintro u w5 ⟨rfl, T5, S5⟩
  rw [hx.out]
  rw [hl2.out, he2.out] at S5
  have H5 := hide (H4.out.call hg T5 S5)
  clear T5 S5 k4 r4 H4 Q4
  go_wp2_with fail
  refine (judge6_any w0 g true 65 l2 e2 _ H5.out.scan).mono ?_
  rintro u w6 ⟨rfl, T6, S6'⟩
  rw [hz.out] at S6'
  have H6' := hide (H5.out.call hg T6 S6')
  have f6 := S6'.fault
  clear T6 S6' H5
  go_wp2_with (first | (refine wpList_load_mid rfl 30 _ rfl w.heap.size 0 rfl (rcs { r with c := c }) _ H6'.out.box.range Tryz.underlying30 rfl (by kernel_rfl) ?_) | (refine wpList_store_mid rfl 30 _ _ rfl (w.heap.size + 1) 0 (rcs { r with c := c }).toArray rfl rfl H6'.out.res.there (by kernel_rfl) (by kernel_rfl) ?_))
  have D := H6'.out.done hg hw { r with c := c }
  refine bodyPost_ret (results_cell_mid Tryz.results71 _ _ (w.heap.size + 1) (rcs { r with c := c }) _ rfl D.1.range Tryz.underlying30 rfl (by kernel_rfl)) rfl ?_
  exact ⟨_, rfl, rfl, by (show SegI _ r.da r.dn r.deps; rw [hr.1, hr.2.1, hr.2.2]; exact segI_none _), fun x hx => by (have q : r.da = some x := hx; rw [hr.1] at q; cases q), D.2⟩
set_option maxHeartbeats 4000000 in
set_option maxRecDepth 100000 in
theorem value6_s2 (w0 : World) (g n : Nat) (_hn : n ≤ 7) (r : Rc) (l : List Int) (a : Nat → Addr) (w : World) (he : Errs w0 a) (h : S6x w0 w g l 0) (hr : r.da = none ∧ r.dn = 0 ∧ r.deps = []) (c : Cm) (k : Nat) (f : Int) (hD : Hid (decC 2 l = (c, k, f))) (hk : c.kind ≠ 0) (x : Nat) (l2 : List Int) (e2 z : Int) (hx : Hid ((nu6 (l.drop k) f).1 = x)) (hl2 : Hid ((nu6 (l.drop k) f).2.1 = l2)) (he2 : Hid ((nu6 (l.drop k) f).2.2 = e2)) (hz : Hid (jd6 true 65 e2 = z)) (hz0 : z ≠ 0) (_q1 : ¬ x < 1) (q2 : 1073741824 < x) :
    Calls Tryz.prog 71 #[.pointer (some ⟨g, 0, none⟩), .int .i64 (n : Int), .agg (rcs r).toArray] w fun u w' => Rec6 w0 w g ({ r with c := c }, l2, z) u w' := by
  have HK := hide hk
  clear hk
  have gz : (z != 0) = true := by rw [bne_iff_ne]; exact hz0
  clear hz0
  have d1 : decide ((x : Int) < 1) = false := decide_eq_false (by omega)
  have d2 : decide ((1073741824 : Int) < (x : Int)) = true := decide_eq_true (by omega)
  have hg := h.lt
  have hw : w0.heap.size ≤ w.heap.size := h.low.size
  obtain ⟨V, hV⟩ : ∃ V, V = (w.alloc (.cells (rcs r).toArray 30)).alloc (.cells [.int .i64 0, .int .i64 0, .int .i64 0, .int .i64 0, .int .i64 0, .bool false, .int .i64 0, .int .i64 0, .int .i64 0, .string ⟨#[]⟩, .string ⟨#[]⟩, .string ⟨#[]⟩, .string ⟨#[]⟩, .int .i64 0, .int .i64 0, .slice none 0 0, .int .i64 0, .int .i64 0].toArray 30) := ⟨_, rfl⟩
  have HV : Hid (H6 w0 w V g l 0 r) := by rw [hV]; exact h6_new h r
  have f0 := HV.out.scan.fault
  obtain ⟨sa, m, cap, S0⟩ := HV.out.scan
  have c0 : V.cell? ⟨g, 0, none⟩ = some (.slice sa m cap) := S0.box.cell 0 _ rfl
  have HS := hide S0
  have hkl : k ≤ l.length := by have := rdecC_le (v := 2) S0.byt; rw [hD.out] at this; exact this
  have hkm : k ≤ m := by rw [← S0.seg.1]; exact hkl
  have hsl := slice_from sa m cap k hkm
  obtain ⟨a2, ha2⟩ : ∃ a2, Hid (restA sa cap k = a2) := ⟨_, rfl⟩
  obtain ⟨m2, hm2⟩ : ∃ m2, Hid (m - k = m2) := ⟨_, rfl⟩
  obtain ⟨cap2, hcap2⟩ : ∃ cap2, Hid (cap - k = cap2) := ⟨_, rfl⟩
  rw [ha2.out, hm2.out, hcap2.out] at hsl
  have HD2 : Hid (rcD 2 l = (c, k, f)) := by rw [rcD_decC 2 l S0.byt]; exact hD
  have mc : m ≤ cap ∧ cap ≤ 9223372036854775807 := by
    rcases S0.src with ⟨q1, q2⟩ | ⟨_, q1, q2⟩
    · omega
    · unfold maxLen at q2; omega
  have HMC := hide mc
  have HE := hide he
  have HKM := hide hkm
  clear h he S0 mc hkl hkm
  go_enter Tryz.func71, Tryz.ntmps71
  go_upto_region 1 with fail
  rw [← hV]
  clear hV
  go_wp2_with fail
  refine (rcDec_any 2 sa m cap l a _ (HS.out.seg.below HS.out.low (Nat.le_refl _)) HS.out.byt (HE.out.below HS.out.low (Nat.le_refl _)) HMC.out.1 HMC.out.2).mono ?_
  rintro u w1 ⟨rfl, b1⟩
  rw [HD2.out]
  have H1 := hide (HV.out.on b1)
  have S1 := hide (HS.out.on b1)
  clear b1 f0 c0
  obtain ⟨X, hX⟩ : ∃ X, X = w1.alloc (.cells #[.int .i64 c.kind, .int .i64 c.client, .int .i64 c.req, .string c.key, .string c.key2, .string c.val, .string c.old, .int .i64 c.n] 27) := ⟨_, rfl⟩
  have BX : Hid (Below w1.heap.size w1 X) := by rw [hX]; exact (Below.refl _ _).alloc (Nat.le_refl _) _
  have QX : Hid (Blk X w1.heap.size [.int .i64 c.kind, .int .i64 c.client, .int .i64 c.req, .string c.key, .string c.key2, .string c.val, .string c.old, .int .i64 c.n]) := by rw [hX]; exact blk_new w1 27 [.int .i64 c.kind, .int .i64 c.client, .int .i64 c.req, .string c.key, .string c.key2, .string c.val, .string c.old, .int .i64 c.n]
  have H2 := hide (H1.out.on BX.out)
  have S2 := hide (S1.out.on BX.out)
  have hgw : g < w1.heap.size := H1.out.scan.lt
  have hww : w.heap.size + 1 < w1.heap.size := H1.out.res.lt
  have c0 : X.cell? ⟨g, 0, none⟩ = some (.slice sa m cap) := S2.out.box.cell 0 _ rfl
  have c1 : X.cell? ⟨g, 1, none⟩ = some (.int .i64 0) := S2.out.box.cell 1 _ rfl
  have t0 := S2.out.box.thaw 0
  have t1 := S2.out.box.thaw 1
  obtain ⟨w2, hw2⟩ : ∃ w2, w2 = (X.setCell ⟨g, 1, none⟩ (.int .i64 f)).setCell ⟨g, 0, none⟩ (.slice a2 m2 cap2) := ⟨_, rfl⟩
  have N2 : Hid (S6x w0 w2 g (l.drop k) f ∧ Touch g X w2) := by
    have P := S2.out.put f
    have N := P.1.next k HKM.out
    rw [ha2.out, hm2.out, hcap2.out, ← hw2] at N
    exact ⟨N.1, P.2.trans N.2⟩
  have H3 := hide (H2.out.call hg N2.out.2 N2.out.1)
  have Q3 : Hid (Blk w2 w1.heap.size [.int .i64 c.kind, .int .i64 c.client, .int .i64 c.req, .string c.key, .string c.key2, .string c.val, .string c.old, .int .i64 c.n]) := QX.out.of_block (N2.out.2.block _ QX.out.lt (by omega))
  clear N2 QX H2 S2 S1 H1 HV BX
  go_upto_region 4 with fail
  rw [← hX]
  clear hX
  go_upto_region 6 with fail
  rw [← hw2]
  clear hw2 c0 c1 t0 t1 hsl
  have H4 := hide (H3.out.putCmd hg hw c)
  have T4 : Hid (Touch w.heap.size w2 (w2.setCells w.heap.size 6 [.int .i64 c.kind, .int .i64 c.client, .int .i64 c.req, .string c.key, .string c.key2, .string c.val, .string c.old, .int .i64 c.n])) := touch_own _ _ _ _ (Touch.refl _ _)
  have Q4 : Hid (Blk (w2.setCells w.heap.size 6 [.int .i64 c.kind, .int .i64 c.client, .int .i64 c.req, .string c.key, .string c.key2, .string c.val, .string c.old, .int .i64 c.n]) w1.heap.size [.int .i64 c.kind, .int .i64 c.client, .int .i64 c.req, .string c.key, .string c.key2, .string c.val, .string c.old, .int .i64 c.n]) := Q3.out.of_block (T4.out.block _ Q3.out.lt (by omega))
  go_upto_region 7 with (first | (refine wpList_load_mid rfl 27 _ rfl w1.heap.size 0 rfl [.int .i64 c.kind, .int .i64 c.client, .int .i64 c.req, .string c.key, .string c.key2, .string c.val, .string c.old, .int .i64 c.n] _ Q3.out.range Tryz.underlying27 rfl (by kernel_rfl) ?_) | (refine wpList_store_mid rfl 27 _ _ rfl w.heap.size 6 #[.int .i64 c.kind, .int .i64 c.client, .int .i64 c.req, .string c.key, .string c.key2, .string c.val, .string c.old, .int .i64 c.n] rfl rfl H3.out.there8 (by kernel_rfl) (by kernel_rfl) ?_))
  obtain ⟨w4, hw4⟩ : ∃ w4, w2.setCells w.heap.size 6 [.int .i64 c.kind, .int .i64 c.client, .int .i64 c.req, .string c.key, .string c.key2, .string c.val, .string c.old, .int .i64 c.n] = w4 := ⟨_, rfl⟩
  rw [hw4] at H4 Q4 ⊢
  have k4 : w4.cell? ⟨w1.heap.size, 0, none⟩ = some (.int .i64 c.kind) := Q4.out.cell 0 _ rfl
  have r4 : w4.cell? ⟨w.heap.size, 0, none⟩ = some (.int .i64 r.kind) := H4.out.box.cell 0 _ rfl
  clear hw4 T4 H3 Q3
  have gk : (c.kind == 0) = false := beq_eq_false_iff_ne.2 HK.out
  go_wp2_with fail
  refine (number6_any w0 g (l.drop k) f _ H4.out.scan).mono ?_
  rintro u w5 ⟨rfl, T5, S5⟩
  rw [hx.out]
  rw [hl2.out, he2.out] at S5
  have H5 := hide (H4.out.call hg T5 S5)
  clear T5 S5 k4 r4 H4 Q4
  go_wp2_with fail
  refine (judge6_any w0 g true 65 l2 e2 _ H5.out.scan).mono ?_
  rintro u w6 ⟨rfl, T6, S6'⟩
  rw [hz.out] at S6'
  have H6' := hide (H5.out.call hg T6 S6')
  have f6 := S6'.fault
  clear T6 S6' H5
  go_wp2_with (first | (refine wpList_load_mid rfl 30 _ rfl w.heap.size 0 rfl (rcs { r with c := c }) _ H6'.out.box.range Tryz.underlying30 rfl (by kernel_rfl) ?_) | (refine wpList_store_mid rfl 30 _ _ rfl (w.heap.size + 1) 0 (rcs { r with c := c }).toArray rfl rfl H6'.out.res.there (by kernel_rfl) (by kernel_rfl) ?_))
  have D := H6'.out.done hg hw { r with c := c }
  refine bodyPost_ret (results_cell_mid Tryz.results71 _ _ (w.heap.size + 1) (rcs { r with c := c }) _ rfl D.1.range Tryz.underlying30 rfl (by kernel_rfl)) rfl ?_
  exact ⟨_, rfl, rfl, by (show SegI _ r.da r.dn r.deps; rw [hr.1, hr.2.1, hr.2.2]; exact segI_none _), fun x hx => by (have q : r.da = some x := hx; rw [hr.1] at q; cases q), D.2⟩
set_option maxHeartbeats 4000000 in
set_option maxRecDepth 100000 in
theorem value6_s3 (w0 : World) (g n : Nat) (_hn : n ≤ 7) (r : Rc) (l : List Int) (a : Nat → Addr) (w : World) (he : Errs w0 a) (h : S6x w0 w g l 0) (hr : r.da = none ∧ r.dn = 0 ∧ r.deps = []) (c : Cm) (k : Nat) (f : Int) (hD : Hid (decC 2 l = (c, k, f))) (hk : c.kind ≠ 0) (x : Nat) (l2 : List Int) (e2 z : Int) (hx : Hid ((nu6 (l.drop k) f).1 = x)) (hl2 : Hid ((nu6 (l.drop k) f).2.1 = l2)) (he2 : Hid ((nu6 (l.drop k) f).2.2 = e2)) (hz : Hid (jd6 false 65 e2 = z)) (hz0 : z ≠ 0) (q1 : ¬ x < 1) (q2 : ¬ 1073741824 < x) :
    Calls Tryz.prog 71 #[.pointer (some ⟨g, 0, none⟩), .int .i64 (n : Int), .agg (rcs r).toArray] w fun u w' => Rec6 w0 w g ({ r with c := c }, l2, z) u w' := by
  have HK := hide hk
  clear hk
  have gz : (z != 0) = true := by rw [bne_iff_ne]; exact hz0
  clear hz0
  have d1 : decide ((x : Int) < 1) = false := decide_eq_false (by omega)
  have d2 : decide ((1073741824 : Int) < (x : Int)) = false := decide_eq_false (by omega)
  have hg := h.lt
  have hw : w0.heap.size ≤ w.heap.size := h.low.size
  obtain ⟨V, hV⟩ : ∃ V, V = (w.alloc (.cells (rcs r).toArray 30)).alloc (.cells [.int .i64 0, .int .i64 0, .int .i64 0, .int .i64 0, .int .i64 0, .bool false, .int .i64 0, .int .i64 0, .int .i64 0, .string ⟨#[]⟩, .string ⟨#[]⟩, .string ⟨#[]⟩, .string ⟨#[]⟩, .int .i64 0, .int .i64 0, .slice none 0 0, .int .i64 0, .int .i64 0].toArray 30) := ⟨_, rfl⟩
  have HV : Hid (H6 w0 w V g l 0 r) := by rw [hV]; exact h6_new h r
  have f0 := HV.out.scan.fault
  obtain ⟨sa, m, cap, S0⟩ := HV.out.scan
  have c0 : V.cell? ⟨g, 0, none⟩ = some (.slice sa m cap) := S0.box.cell 0 _ rfl
  have HS := hide S0
  have hkl : k ≤ l.length := by have := rdecC_le (v := 2) S0.byt; rw [hD.out] at this; exact this
  have hkm : k ≤ m := by rw [← S0.seg.1]; exact hkl
  have hsl := slice_from sa m cap k hkm
  obtain ⟨a2, ha2⟩ : ∃ a2, Hid (restA sa cap k = a2) := ⟨_, rfl⟩
  obtain ⟨m2, hm2⟩ : ∃ m2, Hid (m - k = m2) := ⟨_, rfl⟩
  obtain ⟨cap2, hcap2⟩ : ∃ cap2, Hid (cap - k = cap2) := ⟨_, rfl⟩
  rw [ha2.out, hm2.out, hcap2.out] at hsl
  have HD2 : Hid (rcD 2 l = (c, k, f)) := by rw [rcD_decC 2 l S0.byt]; exact hD
  have mc : m ≤ cap ∧ cap ≤ 9223372036854775807 := by
    rcases S0.src with ⟨q1, q2⟩ | ⟨_, q1, q2⟩
    · omega
    · unfold maxLen at q2; omega
  have HMC := hide mc
  have HE := hide he
  have HKM := hide hkm
  clear h he S0 mc hkl hkm
  go_enter Tryz.func71, Tryz.ntmps71
  go_upto_region 1 with fail
  rw [← hV]
  clear hV
  go_wp2_with fail
  refine (rcDec_any 2 sa m cap l a _ (HS.out.seg.below HS.out.low (Nat.le_refl _)) HS.out.byt (HE.out.below HS.out.low (Nat.le_refl _)) HMC.out.1 HMC.out.2).mono ?_
  rintro u w1 ⟨rfl, b1⟩
  rw [HD2.out]
  have H1 := hide (HV.out.on b1)
  have S1 := hide (HS.out.on b1)
  clear b1 f0 c0
  obtain ⟨X, hX⟩ : ∃ X, X = w1.alloc (.cells #[.int .i64 c.kind, .int .i64 c.client, .int .i64 c.req, .string c.key, .string c.key2, .string c.val, .string c.old, .int .i64 c.n] 27) := ⟨_, rfl⟩
  have BX : Hid (Below w1.heap.size w1 X) := by rw [hX]; exact (Below.refl _ _).alloc (Nat.le_refl _) _
  have QX : Hid (Blk X w1.heap.size [.int .i64 c.kind, .int .i64 c.client, .int .i64 c.req, .string c.key, .string c.key2, .string c.val, .string c.old, .int .i64 c.n]) := by rw [hX]; exact blk_new w1 27 [.int .i64 c.kind, .int .i64 c.client, .int .i64 c.req, .string c.key, .string c.key2, .string c.val, .string c.old, .int .i64 c.n]
  have H2 := hide (H1.out.on BX.out)
  have S2 := hide (S1.out.on BX.out)
  have hgw : g < w1.heap.size := H1.out.scan.lt
  have hww : w.heap.size + 1 < w1.heap.size := H1.out.res.lt
  have c0 : X.cell? ⟨g, 0, none⟩ = some (.slice sa m cap) := S2.out.box.cell 0 _ rfl
  have c1 : X.cell? ⟨g, 1, none⟩ = some (.int .i64 0) := S2.out.box.cell 1 _ rfl
  have t0 := S2.out.box.thaw 0
  have t1 := S2.out.box.thaw 1
  obtain ⟨w2, hw2⟩ : ∃ w2, w2 = (X.setCell ⟨g, 1, none⟩ (.int .i64 f)).setCell ⟨g, 0, none⟩ (.slice a2 m2 cap2) := ⟨_, rfl⟩
  have N2 : Hid (S6x w0 w2 g (l.drop k) f ∧ Touch g X w2) := by
    have P := S2.out.put f
    have N := P.1.next k HKM.out
    rw [ha2.out, hm2.out, hcap2.out, ← hw2] at N
    exact ⟨N.1, P.2.trans N.2⟩
  have H3 := hide (H2.out.call hg N2.out.2 N2.out.1)
  have Q3 : Hid (Blk w2 w1.heap.size [.int .i64 c.kind, .int .i64 c.client, .int .i64 c.req, .string c.key, .string c.key2, .string c.val, .string c.old, .int .i64 c.n]) := QX.out.of_block (N2.out.2.block _ QX.out.lt (by omega))
  clear N2 QX H2 S2 S1 H1 HV BX
  go_upto_region 4 with fail
  rw [← hX]
  clear hX
  go_upto_region 6 with fail
  rw [← hw2]
  clear hw2 c0 c1 t0 t1 hsl
  have H4 := hide (H3.out.putCmd hg hw c)
  have T4 : Hid (Touch w.heap.size w2 (w2.setCells w.heap.size 6 [.int .i64 c.kind, .int .i64 c.client, .int .i64 c.req, .string c.key, .string c.key2, .string c.val, .string c.old, .int .i64 c.n])) := touch_own _ _ _ _ (Touch.refl _ _)
  have Q4 : Hid (Blk (w2.setCells w.heap.size 6 [.int .i64 c.kind, .int .i64 c.client, .int .i64 c.req, .string c.key, .string c.key2, .string c.val, .string c.old, .int .i64 c.n]) w1.heap.size [.int .i64 c.kind, .int .i64 c.client, .int .i64 c.req, .string c.key, .string c.key2, .string c.val, .string c.old, .int .i64 c.n]) := Q3.out.of_block (T4.out.block _ Q3.out.lt (by omega))
  go_upto_region 7 with (first | (refine wpList_load_mid rfl 27 _ rfl w1.heap.size 0 rfl [.int .i64 c.kind, .int .i64 c.client, .int .i64 c.req, .string c.key, .string c.key2, .string c.val, .string c.old, .int .i64 c.n] _ Q3.out.range Tryz.underlying27 rfl (by kernel_rfl) ?_) | (refine wpList_store_mid rfl 27 _ _ rfl w.heap.size 6 #[.int .i64 c.kind, .int .i64 c.client, .int .i64 c.req, .string c.key, .string c.key2, .string c.val, .string c.old, .int .i64 c.n] rfl rfl H3.out.there8 (by kernel_rfl) (by kernel_rfl) ?_))
  obtain ⟨w4, hw4⟩ : ∃ w4, w2.setCells w.heap.size 6 [.int .i64 c.kind, .int .i64 c.client, .int .i64 c.req, .string c.key, .string c.key2, .string c.val, .string c.old, .int .i64 c.n] = w4 := ⟨_, rfl⟩
  rw [hw4] at H4 Q4 ⊢
  have k4 : w4.cell? ⟨w1.heap.size, 0, none⟩ = some (.int .i64 c.kind) := Q4.out.cell 0 _ rfl
  have r4 : w4.cell? ⟨w.heap.size, 0, none⟩ = some (.int .i64 r.kind) := H4.out.box.cell 0 _ rfl
  clear hw4 T4 H3 Q3
  have gk : (c.kind == 0) = false := beq_eq_false_iff_ne.2 HK.out
  go_wp2_with fail
  refine (number6_any w0 g (l.drop k) f _ H4.out.scan).mono ?_
  rintro u w5 ⟨rfl, T5, S5⟩
  rw [hx.out]
  rw [hl2.out, he2.out] at S5
  have H5 := hide (H4.out.call hg T5 S5)
  clear T5 S5 k4 r4 H4 Q4
  go_wp2_with fail
  refine (judge6_any w0 g false 65 l2 e2 _ H5.out.scan).mono ?_
  rintro u w6 ⟨rfl, T6, S6'⟩
  rw [hz.out] at S6'
  have H6' := hide (H5.out.call hg T6 S6')
  have f6 := S6'.fault
  clear T6 S6' H5
  go_wp2_with (first | (refine wpList_load_mid rfl 30 _ rfl w.heap.size 0 rfl (rcs { r with c := c }) _ H6'.out.box.range Tryz.underlying30 rfl (by kernel_rfl) ?_) | (refine wpList_store_mid rfl 30 _ _ rfl (w.heap.size + 1) 0 (rcs { r with c := c }).toArray rfl rfl H6'.out.res.there (by kernel_rfl) (by kernel_rfl) ?_))
  have D := H6'.out.done hg hw { r with c := c }
  refine bodyPost_ret (results_cell_mid Tryz.results71 _ _ (w.heap.size + 1) (rcs { r with c := c }) _ rfl D.1.range Tryz.underlying30 rfl (by kernel_rfl)) rfl ?_
  exact ⟨_, rfl, rfl, by (show SegI _ r.da r.dn r.deps; rw [hr.1, hr.2.1, hr.2.2]; exact segI_none _), fun x hx => by (have q : r.da = some x := hx; rw [hr.1] at q; cases q), D.2⟩
set_option maxHeartbeats 4000000 in
set_option maxRecDepth 100000 in
theorem value6_full (w0 : World) (g n : Nat) (_hn : n ≤ 7) (r : Rc) (l : List Int) (a : Nat → Addr) (w : World) (he : Errs w0 a) (h : S6x w0 w g l 0) (hr : r.da = none ∧ r.dn = 0 ∧ r.deps = []) (c : Cm) (k : Nat) (f : Int) (hD : Hid (decC 2 l = (c, k, f))) (hk : c.kind ≠ 0) (x : Nat) (l2 : List Int) (e2 : Int) (hx : Hid ((nu6 (l.drop k) f).1 = x)) (hl2 : Hid ((nu6 (l.drop k) f).2.1 = l2)) (he2 : Hid ((nu6 (l.drop k) f).2.2 = e2)) (hz : Hid (jd6 false 65 e2 = 0)) (q1 : ¬ x < 1) (q2 : ¬ 1073741824 < x) :
    Calls Tryz.prog 71 #[.pointer (some ⟨g, 0, none⟩), .int .i64 (n : Int), .agg (rcs r).toArray] w fun u w' => Rec6 w0 w g ({ r with c := c, seq := ((x : Nat) : Int), deps := upL (upk 2 (n : Int) l2) }, l2.drop (upN (upk 2 (n : Int) l2)), ((upE (upk 2 (n : Int) l2) : Nat) : Int)) u w' := by
  have HK := hide hk
  clear hk
  have d1 : decide ((x : Int) < 1) = false := decide_eq_false (by omega)
  have d2 : decide ((1073741824 : Int) < (x : Int)) = false := decide_eq_false (by omega)
  have hx9 : x ≤ 9223372036854775807 := by omega
  obtain ⟨L, hL⟩ : ∃ L, Hid (upL (upk 2 (n : Int) l2) = L) := ⟨_, rfl⟩
  obtain ⟨d, hd⟩ : ∃ d, Hid (L.length = d) := ⟨_, rfl⟩
  obtain ⟨j, hj⟩ : ∃ j, Hid (upN (upk 2 (n : Int) l2) = j) := ⟨_, rfl⟩
  obtain ⟨q, hq⟩ : ∃ q, Hid (upE (upk 2 (n : Int) l2) = q) := ⟨_, rfl⟩
  rw [hL.out, hj.out, hq.out]
  have hg := h.lt
  have hw : w0.heap.size ≤ w.heap.size := h.low.size
  obtain ⟨V, hV⟩ : ∃ V, V = (w.alloc (.cells (rcs r).toArray 30)).alloc (.cells [.int .i64 0, .int .i64 0, .int .i64 0, .int .i64 0, .int .i64 0, .bool false, .int .i64 0, .int .i64 0, .int .i64 0, .string ⟨#[]⟩, .string ⟨#[]⟩, .string ⟨#[]⟩, .string ⟨#[]⟩, .int .i64 0, .int .i64 0, .slice none 0 0, .int .i64 0, .int .i64 0].toArray 30) := ⟨_, rfl⟩
  have HV : Hid (H6 w0 w V g l 0 r) := by rw [hV]; exact h6_new h r
  have f0 := HV.out.scan.fault
  obtain ⟨sa, m, cap, S0⟩ := HV.out.scan
  have c0 : V.cell? ⟨g, 0, none⟩ = some (.slice sa m cap) := S0.box.cell 0 _ rfl
  have HS := hide S0
  have hkl : k ≤ l.length := by have := rdecC_le (v := 2) S0.byt; rw [hD.out] at this; exact this
  have hkm : k ≤ m := by rw [← S0.seg.1]; exact hkl
  have hsl := slice_from sa m cap k hkm
  obtain ⟨a2, ha2⟩ : ∃ a2, Hid (restA sa cap k = a2) := ⟨_, rfl⟩
  obtain ⟨m2, hm2⟩ : ∃ m2, Hid (m - k = m2) := ⟨_, rfl⟩
  obtain ⟨cap2, hcap2⟩ : ∃ cap2, Hid (cap - k = cap2) := ⟨_, rfl⟩
  rw [ha2.out, hm2.out, hcap2.out] at hsl
  have HD2 : Hid (rcD 2 l = (c, k, f)) := by rw [rcD_decC 2 l S0.byt]; exact hD
  have mc : m ≤ cap ∧ cap ≤ 9223372036854775807 := by
    rcases S0.src with ⟨q1, q2⟩ | ⟨_, q1, q2⟩
    · omega
    · unfold maxLen at q2; omega
  have HMC := hide mc
  have HE := hide he
  have HKM := hide hkm
  clear h he S0 mc hkl hkm
  go_enter Tryz.func71, Tryz.ntmps71
  go_upto_region 1 with fail
  rw [← hV]
  clear hV
  go_wp2_with fail
  refine (rcDec_any 2 sa m cap l a _ (HS.out.seg.below HS.out.low (Nat.le_refl _)) HS.out.byt (HE.out.below HS.out.low (Nat.le_refl _)) HMC.out.1 HMC.out.2).mono ?_
  rintro u w1 ⟨rfl, b1⟩
  rw [HD2.out]
  have H1 := hide (HV.out.on b1)
  have S1 := hide (HS.out.on b1)
  clear b1 f0 c0
  obtain ⟨X, hX⟩ : ∃ X, X = w1.alloc (.cells #[.int .i64 c.kind, .int .i64 c.client, .int .i64 c.req, .string c.key, .string c.key2, .string c.val, .string c.old, .int .i64 c.n] 27) := ⟨_, rfl⟩
  have BX : Hid (Below w1.heap.size w1 X) := by rw [hX]; exact (Below.refl _ _).alloc (Nat.le_refl _) _
  have QX : Hid (Blk X w1.heap.size [.int .i64 c.kind, .int .i64 c.client, .int .i64 c.req, .string c.key, .string c.key2, .string c.val, .string c.old, .int .i64 c.n]) := by rw [hX]; exact blk_new w1 27 [.int .i64 c.kind, .int .i64 c.client, .int .i64 c.req, .string c.key, .string c.key2, .string c.val, .string c.old, .int .i64 c.n]
  have H2 := hide (H1.out.on BX.out)
  have S2 := hide (S1.out.on BX.out)
  have hgw : g < w1.heap.size := H1.out.scan.lt
  have hww : w.heap.size + 1 < w1.heap.size := H1.out.res.lt
  have c0 : X.cell? ⟨g, 0, none⟩ = some (.slice sa m cap) := S2.out.box.cell 0 _ rfl
  have c1 : X.cell? ⟨g, 1, none⟩ = some (.int .i64 0) := S2.out.box.cell 1 _ rfl
  have t0 := S2.out.box.thaw 0
  have t1 := S2.out.box.thaw 1
  obtain ⟨w2, hw2⟩ : ∃ w2, w2 = (X.setCell ⟨g, 1, none⟩ (.int .i64 f)).setCell ⟨g, 0, none⟩ (.slice a2 m2 cap2) := ⟨_, rfl⟩
  have N2 : Hid (S6x w0 w2 g (l.drop k) f ∧ Touch g X w2) := by
    have P := S2.out.put f
    have N := P.1.next k HKM.out
    rw [ha2.out, hm2.out, hcap2.out, ← hw2] at N
    exact ⟨N.1, P.2.trans N.2⟩
  have H3 := hide (H2.out.call hg N2.out.2 N2.out.1)
  have Q3 : Hid (Blk w2 w1.heap.size [.int .i64 c.kind, .int .i64 c.client, .int .i64 c.req, .string c.key, .string c.key2, .string c.val, .string c.old, .int .i64 c.n]) := QX.out.of_block (N2.out.2.block _ QX.out.lt (by omega))
  clear N2 QX H2 S2 S1 H1 HV BX
  go_upto_region 4 with fail
  rw [← hX]
  clear hX
  go_upto_region 6 with fail
  rw [← hw2]
  clear hw2 c0 c1 t0 t1 hsl
  have H4 := hide (H3.out.putCmd hg hw c)
  have T4 : Hid (Touch w.heap.size w2 (w2.setCells w.heap.size 6 [.int .i64 c.kind, .int .i64 c.client, .int .i64 c.req, .string c.key, .string c.key2, .string c.val, .string c.old, .int .i64 c.n])) := touch_own _ _ _ _ (Touch.refl _ _)
  have Q4 : Hid (Blk (w2.setCells w.heap.size 6 [.int .i64 c.kind, .int .i64 c.client, .int .i64 c.req, .string c.key, .string c.key2, .string c.val, .string c.old, .int .i64 c.n]) w1.heap.size [.int .i64 c.kind, .int .i64 c.client, .int .i64 c.req, .string c.key, .string c.key2, .string c.val, .string c.old, .int .i64 c.n]) := Q3.out.of_block (T4.out.block _ Q3.out.lt (by omega))
  go_upto_region 7 with (first | (refine wpList_load_mid rfl 27 _ rfl w1.heap.size 0 rfl [.int .i64 c.kind, .int .i64 c.client, .int .i64 c.req, .string c.key, .string c.key2, .string c.val, .string c.old, .int .i64 c.n] _ Q3.out.range Tryz.underlying27 rfl (by kernel_rfl) ?_) | (refine wpList_store_mid rfl 27 _ _ rfl w.heap.size 6 #[.int .i64 c.kind, .int .i64 c.client, .int .i64 c.req, .string c.key, .string c.key2, .string c.val, .string c.old, .int .i64 c.n] rfl rfl H3.out.there8 (by kernel_rfl) (by kernel_rfl) ?_))
  obtain ⟨w4, hw4⟩ : ∃ w4, w2.setCells w.heap.size 6 [.int .i64 c.kind, .int .i64 c.client, .int .i64 c.req, .string c.key, .string c.key2, .string c.val, .string c.old, .int .i64 c.n] = w4 := ⟨_, rfl⟩
  rw [hw4] at H4 Q4 ⊢
  have k4 : w4.cell? ⟨w1.heap.size, 0, none⟩ = some (.int .i64 c.kind) := Q4.out.cell 0 _ rfl
  have r4 : w4.cell? ⟨w.heap.size, 0, none⟩ = some (.int .i64 r.kind) := H4.out.box.cell 0 _ rfl
  clear hw4 T4 H3 Q3
  have gk : (c.kind == 0) = false := beq_eq_false_iff_ne.2 HK.out
  go_wp2_with fail
  refine (number6_any w0 g (l.drop k) f _ H4.out.scan).mono ?_
  rintro u w5 ⟨rfl, T5, S5⟩
  rw [hx.out]
  rw [hl2.out, he2.out] at S5
  have H5 := hide (H4.out.call hg T5 S5)
  clear T5 S5 k4 r4 H4 Q4
  go_wp2_with fail
  refine (judge6_any w0 g false 65 l2 e2 _ H5.out.scan).mono ?_
  rintro u w6 ⟨rfl, T6, S6'⟩
  rw [hz.out] at S6'
  have H6' := hide (H5.out.call hg T6 S6')
  have f6 := S6'.fault
  clear T6 S6' H5
  obtain ⟨sa3, m3, cap3, S6''⟩ := H6'.out.scan
  have FL : Hid (Fit L) := by rw [← hL.out]; exact fit_up S6''.byt _ _
  have c0 : w6.cell? ⟨g, 0, none⟩ = some (.slice sa3 m3 cap3) := S6''.box.cell 0 _ rfl
  have hjm : j ≤ m3 := by rw [← S6''.seg.1, ← hj.out]; exact rupN_le S6''.byt
  have hsl := slice_from sa3 m3 cap3 j hjm
  obtain ⟨a4, ha4⟩ : ∃ a4, Hid (restA sa3 cap3 j = a4) := ⟨_, rfl⟩
  obtain ⟨m4, hm4⟩ : ∃ m4, Hid (m3 - j = m4) := ⟨_, rfl⟩
  obtain ⟨cap4, hcap4⟩ : ∃ cap4, Hid (cap3 - j = cap4) := ⟨_, rfl⟩
  rw [ha4.out, hm4.out, hcap4.out] at hsl
  have HJM := hide hjm
  have SS := hide S6''
  clear hjm S6''
  go_wp2_with fail
  refine (runpack_any 2 (n : Int) m3 cap3 sa3 l2 _ (SS.out.seg.below SS.out.low (Nat.le_refl _)) SS.out.src SS.out.byt).mono ?_
  rintro u w7 ⟨v, rfl, ho, b7⟩
  rw [hL.out] at ho
  rw [hj.out, hq.out]
  have hfar := own_far' ho
  obtain ⟨da, dc, rfl, -, hsg⟩ := own_segI ho FL.out
  rw [hd.out] at hsg ⊢
  have H7 := hide (H6'.out.on b7)
  have S7 := hide (SS.out.on b7)
  have hw6 : w.heap.size + 1 < w6.heap.size := H6'.out.res.lt
  have z7 : w6.heap.size ≤ w7.heap.size := b7.size
  have FAR : Hid (∀ x, da = some x → 0 < d → w.heap.size + 1 < x.block) := fun x hx h0 => by have := hfar x ⟨_, dc, by rw [hx]⟩; omega
  have FAG : Hid (∀ x, da = some x → 0 < d → g < x.block) := fun x hx h0 => by have := FAR.out x hx h0; omega
  have SG := hide hsg
  clear ho b7 hfar hsg c0 f6 SS H6'
  have c0 : w7.cell? ⟨g, 0, none⟩ = some (.slice sa3 m3 cap3) := S7.out.box.cell 0 _ rfl
  have c1 : w7.cell? ⟨g, 1, none⟩ = some (.int .i64 0) := S7.out.box.cell 1 _ rfl
  have t0 := S7.out.box.thaw 0
  have t1 := S7.out.box.thaw 1
  obtain ⟨w8, hw8⟩ : ∃ w8, w8 = (w7.setCell ⟨g, 1, none⟩ (.int .i64 (q : Int))).setCell ⟨g, 0, none⟩ (.slice a4 m4 cap4) := ⟨_, rfl⟩
  have N8 : Hid (S6x w0 w8 g (l2.drop j) (q : Int) ∧ Touch g w7 w8) := by
    have P := S7.out.put (q : Int)
    have N := P.1.next j HJM.out
    rw [ha4.out, hm4.out, hcap4.out, ← hw8] at N
    exact ⟨N.1, P.2.trans N.2⟩
  have H8 := hide (H7.out.call hg N8.out.2 N8.out.1)
  have SG8 := hide (touch_segI N8.out.2 SG.out FAG.out)
  clear N8 H7 S7 SG
  go_upto_region 18 with fail
  rw [← hw8]
  clear hw8 c0 c1 t0 t1 hsl
  have x14 : w8.cell? ⟨w.heap.size, 14, none⟩ = some (.int .i64 r.seq) := H8.out.box.cell 14 _ rfl
  have x15 : w8.cell? ⟨w.heap.size, 15, none⟩ = some (.slice r.da r.dn r.dc) := H8.out.box.cell 15 _ rfl
  have t14 := H8.out.box.thaw 14
  have t15 := H8.out.box.thaw 15
  have H9 := hide (H8.out.put hg hw 14 (.int .i64 (x : Int)) (r' := { r with c := c, seq := (x : Int) }) rfl)
  have HA := hide (H9.out.put hg hw 15 (.slice da d dc) (r' := (({ r with c := c, seq := (x : Int), deps := L } : Rc).lay da d dc)) rfl)
  go_wp2_with (first | (refine wpList_load_mid rfl 30 _ rfl w.heap.size 0 rfl (rcs (({ r with c := c, seq := (x : Int), deps := L } : Rc).lay da d dc)) _ HA.out.box.range Tryz.underlying30 rfl (by kernel_rfl) ?_) | (refine wpList_store_mid rfl 30 _ _ rfl (w.heap.size + 1) 0 (rcs (({ r with c := c, seq := (x : Int), deps := L } : Rc).lay da d dc)).toArray rfl rfl HA.out.res.there (by kernel_rfl) (by kernel_rfl) ?_))
  have D := HA.out.done hg hw (({ r with c := c, seq := (x : Int), deps := L } : Rc).lay da d dc)
  refine bodyPost_ret (results_cell_mid Tryz.results71 _ _ (w.heap.size + 1) (rcs (({ r with c := c, seq := (x : Int), deps := L } : Rc).lay da d dc)) _ rfl D.1.range Tryz.underlying30 rfl (by kernel_rfl)) rfl ?_
  refine ⟨_, rfl, rfl, ?_, FAR.out, D.2⟩
  have s1 : SegI _ da d L := touch_segI (((Touch.refl w.heap.size w8).setB (o := 14) (.int .i64 (x : Int))).setB (o := 15) (.slice da d dc)) SG8.out (fun x hx h0 => by have := FAR.out x hx h0; omega)
  exact touch_segI (touch_own _ _ _ _ (Touch.refl (w.heap.size + 1) _)) s1 FAR.out
theorem decC_noop {l : List Int} (h : (decC 2 l).2.2 ≠ 0) : (decC 2 l).1.kind = 0 := by
  unfold decC at h ⊢
  rw [if_pos (show isVer 2 = true from rfl)] at h ⊢
  split
  · rename_i h1
    rw [if_pos h1] at h
    exact absurd rfl h
  · rfl
/-- value, at every scan. -/
theorem value6_any (w0 : World) (g n : Nat) (hn : n ≤ 7) (r : Rc) (l : List Int) (e : Int) (a : Nat → Addr) (w : World) (he : Errs w0 a) (h : S6x w0 w g l e) (hr : r.da = none ∧ r.dn = 0 ∧ r.deps = []) :
    Calls Tryz.prog 71 #[.pointer (some ⟨g, 0, none⟩), .int .i64 (n : Int), .agg (rcs r).toArray] w fun u w' => Rec6 w0 w g (va6 n r l e) u w' := by
  by_cases h0 : e = 0
  · subst h0
    obtain ⟨⟨c, k, f⟩, hD⟩ : ∃ p, decC 2 l = p := ⟨_, rfl⟩
    unfold va6
    rw [if_pos rfl, hD]
    show Calls _ _ _ _ fun u w' => Rec6 w0 w g (if c.kind = 0 then ({ r with c := c, deps := List.replicate n 0 }, l.drop k, jd6 (r.kind == 3) 65 f) else if jd6 (decide ((nu6 (l.drop k) f).1 < 1) || decide (1073741824 < (nu6 (l.drop k) f).1)) 65 (nu6 (l.drop k) f).2.2 = 0 then ({ r with c := c, seq := ((nu6 (l.drop k) f).1 : Nat), deps := upL (upk 2 (n : Int) (nu6 (l.drop k) f).2.1) }, (nu6 (l.drop k) f).2.1.drop (upN (upk 2 (n : Int) (nu6 (l.drop k) f).2.1)), ((upE (upk 2 (n : Int) (nu6 (l.drop k) f).2.1) : Nat) : Int)) else ({ r with c := c }, (nu6 (l.drop k) f).2.1, jd6 (decide ((nu6 (l.drop k) f).1 < 1) || decide (1073741824 < (nu6 (l.drop k) f).1)) 65 (nu6 (l.drop k) f).2.2)) u w'
    by_cases hk : c.kind = 0
    · simp only [if_pos hk]
      exact value6_noop w0 g n hn r l a w he h hr c k f hD hk
    · simp only [if_neg hk]
      obtain ⟨x, hx⟩ : ∃ x, (nu6 (l.drop k) f).1 = x := ⟨_, rfl⟩
      obtain ⟨l2, hl2⟩ : ∃ l2, (nu6 (l.drop k) f).2.1 = l2 := ⟨_, rfl⟩
      obtain ⟨e2, he2⟩ : ∃ e2, (nu6 (l.drop k) f).2.2 = e2 := ⟨_, rfl⟩
      simp only [hx, hl2, he2]
      rcases (by omega : x < 1 ∨ (¬ x < 1 ∧ 1073741824 < x) ∨ (¬ x < 1 ∧ ¬ 1073741824 < x)) with q1 | ⟨q1, q2⟩ | ⟨q1, q2⟩
      · have hb : (decide (x < 1) || decide (1073741824 < x)) = true := by simp [q1]
        have hz : jd6 true 65 e2 ≠ 0 := by unfold jd6; split <;> simp_all
        simp only [hb, if_neg hz]
        exact value6_s1 w0 g n hn r l a w he h hr c k f hD hk x l2 e2 _ hx hl2 he2 rfl hz q1
      · have hb : (decide (x < 1) || decide (1073741824 < x)) = true := by simp [q2]
        have hz : jd6 true 65 e2 ≠ 0 := by unfold jd6; split <;> simp_all
        simp only [hb, if_neg hz]
        exact value6_s2 w0 g n hn r l a w he h hr c k f hD hk x l2 e2 _ hx hl2 he2 rfl hz q1 q2
      · have hb : (decide (x < 1) || decide (1073741824 < x)) = false := by simp [q1, q2]
        simp only [hb]
        by_cases hz : jd6 false 65 e2 = 0
        · simp only [if_pos hz]
          exact value6_full w0 g n hn r l a w he h hr c k f hD hk x l2 e2 hx hl2 he2 hz q1 q2
        · simp only [if_neg hz]
          exact value6_s3 w0 g n hn r l a w he h hr c k f hD hk x l2 e2 _ hx hl2 he2 rfl hz q1 q2
  · have e1 : va6 n r l e = (r, l, e) := if_neg h0
    rw [e1]
    exact value6_bad w0 g n r l e w h hr h0
end Go.Proofs.YtlhididcanedhaaGreatDoor
