/- Texts of the proof, joined. -/
import Derived.Test.YtlhididcanedhaaGreatDoorJ24
import Derived.Test.YtlhididcanedhaaGreatDoorJ30
import Derived.Test.YtlhididcanedhaaGreatDoorJ34
import Derived.Test.YtlhididcanedhaaGreatDoorJ35
/- The document's own scan of records: value. -/
namespace Go.Proofs.YtlhididcanedhaaGreatDoor
open Go.RowKit Go.Wire1

def restA (sa : Option Addr) (cap j : Nat) : Option Addr := if cap = j then sa else sa.map (·.add j)
theorem slice_from (sa : Option Addr) (m cap j : Nat) (hj : j ≤ m) (V : World) : (Instr.slice 31 (.slice sa m cap) (some (.int .i64 (j : Int))) none none).run Tryz.prog V = .ok (.slice (restA sa cap j) (m - j) (cap - j)) V := by
  have hu : Tryz.prog.underlying 31 = some (.slice (Tryz.prog.elem 31)) := by kernel_rfl
  have := run_slice_l (P := Tryz.prog) V 31 sa m cap hu .i64 (j : Int) (by omega) (by omega)
  rw [this]
  have hz : (sizeOf (Tryz.prog.elem 31)).run Tryz.prog V = .ok 1 V := by kernel_rfl
  rw [hz]
  show Result.ok (sliced sa (j : Int).toNat m cap 1) V = _
  unfold sliced restA
  rw [Int.toNat_natCast, Nat.mul_one]
theorem S6.next {w0 w : World} {g : Nat} {sa : Option Addr} {m cap : Nat} {l : List Int} {e : Int} (h : S6 w0 w g sa m cap l e) (j : Nat) (hj : j ≤ m) :
    S6x w0 (w.setCell ⟨g, 0, none⟩ (.slice (restA sa cap j) (m - j) (cap - j))) g (l.drop j) e ∧ Touch g w (w.setCell ⟨g, 0, none⟩ (.slice (restA sa cap j) (m - j) (cap - j))) := by
  rcases h.pass j hj with ⟨rfl, rfl, rfl, h5, h6⟩ | ⟨b, off, rfl, rfl, rfl, h5, h6⟩ | ⟨b, off, rfl, q1, q2, q3, h5, h6⟩
  · rw [show restA sa 0 0 = sa from if_pos rfl]
    exact ⟨h5, h6⟩
  · rw [show restA (some ⟨b, off, none⟩) cap cap = some ⟨b, off, none⟩ from if_pos rfl, Nat.sub_self]
    exact ⟨h5, h6⟩
  · rw [show restA (some ⟨b, off, none⟩) cap j = some ⟨b, off + j, none⟩ from (if_neg (by omega)).trans (congrArg some (add_at b off j))]
    exact ⟨h5, h6⟩
def va6 (n : Nat) (r : Rc) (l : List Int) (e : Int) : Rc × List Int × Int :=
  if e = 0 then
    (if (decC 2 l).1.kind = 0 then ({ r with c := (decC 2 l).1, deps := List.replicate n 0 }, l.drop (decC 2 l).2.1, jd6 (r.kind == 3) 65 (decC 2 l).2.2)
     else if jd6 (decide ((nu6 (l.drop (decC 2 l).2.1) (decC 2 l).2.2).1 < 1) || decide (1073741824 < (nu6 (l.drop (decC 2 l).2.1) (decC 2 l).2.2).1)) 65 (nu6 (l.drop (decC 2 l).2.1) (decC 2 l).2.2).2.2 = 0 then
       ({ r with c := (decC 2 l).1, seq := ((nu6 (l.drop (decC 2 l).2.1) (decC 2 l).2.2).1 : Nat), deps := upL (upk 2 (n : Int) (nu6 (l.drop (decC 2 l).2.1) (decC 2 l).2.2).2.1) }, (nu6 (l.drop (decC 2 l).2.1) (decC 2 l).2.2).2.1.drop (upN (upk 2 (n : Int) (nu6 (l.drop (decC 2 l).2.1) (decC 2 l).2.2).2.1)), ((upE (upk 2 (n : Int) (nu6 (l.drop (decC 2 l).2.1) (decC 2 l).2.2).2.1) : Nat) : Int))
     else ({ r with c := (decC 2 l).1 }, (nu6 (l.drop (decC 2 l).2.1) (decC 2 l).2.2).2.1, jd6 (decide ((nu6 (l.drop (decC 2 l).2.1) (decC 2 l).2.2).1 < 1) || decide (1073741824 < (nu6 (l.drop (decC 2 l).2.1) (decC 2 l).2.2).1)) 65 (nu6 (l.drop (decC 2 l).2.1) (decC 2 l).2.2).2.2))
  else (r, l, e)
/-- What a call that answers a record gives: the record but for where its Deps lie, these new, the scan. -/
def Rec6 (w0 w : World) (g : Nat) (p : Rc × List Int × Int) (u : Ending) (w' : World) : Prop :=
  ∃ rr, u = .returned (.agg (rcs rr).toArray) ∧ er rr = er p.1 ∧ SegI w' rr.da rr.dn rr.deps ∧ (∀ x, rr.da = some x → 0 < rr.dn → w.heap.size + 1 < x.block) ∧ Touch g w w' ∧ S6x w0 w' g p.2.1 p.2.2
theorem segI_none (w : World) : SegI w none 0 [] := ⟨rfl, by unfold maxLen; omega, fun h => by omega, fun j => by simp⟩
set_option maxHeartbeats 1000000 in
set_option maxRecDepth 100000 in
/-- Behind a fault. -/
theorem value6_bad (w0 : World) (g n : Nat) (r : Rc) (l : List Int) (e : Int) (w : World) (h : S6x w0 w g l e) (hr : r.da = none ∧ r.dn = 0 ∧ r.deps = []) (he : e ≠ 0) :
    Calls Tryz.prog 71 #[.pointer (some ⟨g, 0, none⟩), .int .i64 (n : Int), .agg (rcs r).toArray] w fun u w' => Rec6 w0 w g (r, l, e) u w' := by
  have hg := h.lt
  have hw : w0.heap.size ≤ w.heap.size := h.low.size
  obtain ⟨V, hV⟩ : ∃ V, V = (w.alloc (.cells (rcs r).toArray 30)).alloc (.cells [.int .i64 0, .int .i64 0, .int .i64 0, .int .i64 0, .int .i64 0, .bool false, .int .i64 0, .int .i64 0, .int .i64 0, .string ⟨#[]⟩, .string ⟨#[]⟩, .string ⟨#[]⟩, .string ⟨#[]⟩, .int .i64 0, .int .i64 0, .slice none 0 0, .int .i64 0, .int .i64 0].toArray 30) := ⟨_, rfl⟩
  have HV : Hid (H6 w0 w V g l e r) := by rw [hV]; exact h6_new h r
  have f0 := HV.out.scan.fault
  have g1 : (e != 0) = true := by rw [bne_iff_ne]; exact he
  clear h he
  go_enter Tryz.func71, Tryz.ntmps71
  go_upto_region 1 with fail
  rw [← hV]
  clear hV
  go_wp2_with (first | (refine wpList_load_mid rfl 30 _ rfl w.heap.size 0 rfl (rcs r) _ HV.out.box.range Tryz.underlying30 rfl (by kernel_rfl) ?_) | (refine wpList_store_mid rfl 30 _ _ rfl (w.heap.size + 1) 0 (rcs r).toArray rfl rfl HV.out.res.there (by kernel_rfl) (by kernel_rfl) ?_))
  have D := HV.out.done hg hw r
  refine bodyPost_ret (results_cell_mid Tryz.results71 _ _ (w.heap.size + 1) (rcs r) _ rfl D.1.range Tryz.underlying30 rfl (by kernel_rfl)) rfl ?_
  exact ⟨r, rfl, rfl, by rw [hr.1, hr.2.1, hr.2.2]; exact segI_none _, fun x hx => by (rw [hr.1] at hx; cases hx), D.2⟩
end Go.Proofs.YtlhididcanedhaaGreatDoor
/- The document's own scan of records: value, where nothing has been amiss. -/
namespace Go.Proofs.YtlhididcanedhaaGreatDoor
open Go.RowKit Go.Wire1

theorem H6.putCmd {w0 w W : World} {g : Nat} {l : List Int} {e : Int} {r : Rc} (h : H6 w0 w W g l e r) (hg : g < w.heap.size) (hw : w0.heap.size ≤ w.heap.size) (c : Cm) : H6 w0 w (W.setCells w.heap.size 6 [.int .i64 c.kind, .int .i64 c.client, .int .i64 c.req, .string c.key, .string c.key2, .string c.val, .string c.old, .int .i64 c.n]) g l e { r with c := c } := by
  have p0 := h.put hg hw 6 (.int .i64 c.kind) (r' := { r with c := { r.c with kind := c.kind } }) rfl
  have p1 := p0.put hg hw 7 (.int .i64 c.client) (r' := { r with c := { r.c with kind := c.kind, client := c.client } }) rfl
  have p2 := p1.put hg hw 8 (.int .i64 c.req) (r' := { r with c := { r.c with kind := c.kind, client := c.client, req := c.req } }) rfl
  have p3 := p2.put hg hw 9 (.string c.key) (r' := { r with c := { r.c with kind := c.kind, client := c.client, req := c.req, key := c.key } }) rfl
  have p4 := p3.put hg hw 10 (.string c.key2) (r' := { r with c := { r.c with kind := c.kind, client := c.client, req := c.req, key := c.key, key2 := c.key2 } }) rfl
  have p5 := p4.put hg hw 11 (.string c.val) (r' := { r with c := { r.c with kind := c.kind, client := c.client, req := c.req, key := c.key, key2 := c.key2, val := c.val } }) rfl
  have p6 := p5.put hg hw 12 (.string c.old) (r' := { r with c := { r.c with kind := c.kind, client := c.client, req := c.req, key := c.key, key2 := c.key2, val := c.val, old := c.old } }) rfl
  have p7 := p6.put hg hw 13 (.int .i64 c.n) (r' := { r with c := { r.c with kind := c.kind, client := c.client, req := c.req, key := c.key, key2 := c.key2, val := c.val, old := c.old, n := c.n } }) rfl
  exact p7
theorem H6.there8 {w0 w W : World} {g : Nat} {l : List Int} {e : Int} {r : Rc} (h : H6 w0 w W g l e r) : W.there w.heap.size 6 8 := fun j hj => by
  have hl : 6 + j < (rcs r).length := by rw [rcs_len]; omega
  exact ⟨by rw [h.box.cell (6 + j) _ (List.getElem?_eq_getElem hl)]; rfl, h.box.thaw _⟩
set_option maxHeartbeats 1000000 in
set_option maxRecDepth 100000 in
theorem zeros_any (n : Nat) (hn : n ≤ 7) (w : World) :
    Calls Tryz.prog 107 #[.int .i64 (n : Int)] w fun e w' => ∃ v, e = .returned v ∧ w'.ownsRow w.heap.size 3 1 v (List.replicate n (0 : Int)).length ((List.replicate n (0 : Int)).map (Value.int .i64)) ∧ Below w.heap.size w w' := by
  obtain ⟨i0, hi, hz0, hz1, hz2⟩ := info_parts Tryz.info3
  go_enter Tryz.func107, Tryz.ntmps107
  go_wp2
  go_loopw [3, 4] (fun v c wr => ∃ k : Nat, c = .int .i64 (k : Int) ∧ k ≤ n ∧ wr.ownsRow w.heap.size 3 1 v (List.replicate k (0 : Int)).length ((List.replicate k (0 : Int)).map (Value.int .i64)) ∧ Below w.heap.size w wr) (fun _ c _ => n - (RowKit.intOf c).toNat)
  case atStart => exact ⟨0, rfl, Nat.zero_le _, World.ownsRow_nil _ _ _ _, Below.refl _ _⟩
  case round =>
    obtain ⟨k, rfl, hk, hown, hbel⟩ := hrel
    have hsz := hbel.size
    have htl : (List.replicate k (0 : Int)).length ≤ 7 := by rw [List.length_replicate]; omega
    by_cases hlt : k < n
    · have HT : Hid (List.replicate (k + 1) (0 : Int) = List.replicate k 0 ++ [0]) := List.replicate_succ'
      generalize List.replicate k (0 : Int) = pre at *
      go_wp2_with (first
        | (at_builtin; refine wpList_append_own _ rfl _ _ 28 rfl w.heap.size 3 i0 (.int .i64 0) 1 8 Tryz.underlying28 hi hz0 hz1 hz2 rfl (by decide) _ _ _ rfl (hown.alloc _) ⟨wr.heap.size, 0, none⟩ 1 1 [.int .i64 0] rfl rfl ?c1 ?c2 ?c3 ?c4 ?c5 ?_))
      case c1 =>
        intro j u hj
        match j, hj with
        | 0, hj => simp at hj; subst hj; simp [Addr.add]
      case c2 => intro u hu; simp at hu; subst hu; rfl
      case c3 => unfold maxLen; omega
      case c4 => omega
      case c5 => simp; omega
      intro v' w1 hown' hgrow _
      have Q := pushI hsz hown hbel hown' hgrow
      clear hown' hgrow hown
      go_wp2
      go_roundw
      case rel => rw [← HT.out] at Q; exact ⟨k + 1, by go_num, by omega, Q.1, Q.2⟩
      case measure => simp [RowKit.intOf]; omega
    · have HT : Hid (List.replicate k (0 : Int) = List.replicate n 0) := by rw [show k = n by omega]; rfl
      rw [HT.out] at hown
      clear htl
      go_wp2
      go_ret
      exact ⟨_, rfl, hown, hbel⟩
theorem own_far' {w : World} {B : Nat} {v : Value} {L : List Int} (h : w.ownsRow B 3 1 v L.length (L.map (Value.int .i64))) : ∀ x, (∃ d c, v = .slice (some x) d c) → B ≤ x.block := by
  rintro x ⟨d, c, rfl⟩
  rcases h.2 with ⟨h1, h2⟩ | ⟨b, cap, cur, e, hB, _⟩
  · injection h1 with h1 _ _; cases h1
  · injection e with e _ _
    injection e with e
    rw [e]; exact hB
theorem fit_zeros (n : Nat) : Fit (List.replicate n (0 : Int)) := fun j => by
  rw [List.getD_eq_getElem?_getD, List.getElem?_replicate]
  split <;> simp
set_option maxHeartbeats 4000000 in
set_option maxRecDepth 100000 in
theorem value6_noop (w0 : World) (g n : Nat) (hn : n ≤ 7) (r : Rc) (l : List Int) (a : Nat → Addr) (w : World) (he : Errs w0 a) (h : S6x w0 w g l 0) (hr : r.da = none ∧ r.dn = 0 ∧ r.deps = []) (c : Cm) (k : Nat) (f : Int) (hD : Hid (decC 2 l = (c, k, f))) (hk : c.kind = 0) :
    Calls Tryz.prog 71 #[.pointer (some ⟨g, 0, none⟩), .int .i64 (n : Int), .agg (rcs r).toArray] w fun u w' => Rec6 w0 w g ({ r with c := c, deps := List.replicate n 0 }, l.drop k, jd6 (r.kind == 3) 65 f) u w' := by
  have HK := hide hk
  clear hk
  have hg := h.lt
  have hw : w0.heap.size ≤ w.heap.size := h.low.size
  obtain ⟨V, hV⟩ : ∃ V, V = (w.alloc (.cells (rcs r).toArray 30)).alloc (.cells [.int .i64 0, .int .i64 0, .int .i64 0, .int .i64 0, .int .i64 0, .bool false, .int .i64 0, .int .i64 0, .int .i64 0, .string ⟨#[]⟩, .string ⟨#[]⟩, .string ⟨#[]⟩, .string ⟨#[]⟩, .int .i64 0, .int .i64 0, .slice none 0 0, .int .i64 0, .int .i64 0].toArray 30) := ⟨_, rfl⟩
  have HV : Hid (H6 w0 w V g l 0 r) := by rw [hV]; exact h6_new h r
  have f0 := HV.out.scan.fault
  obtain ⟨sa, m, cap, S0⟩ := HV.out.scan
  have c0 : V.cell? ⟨g, 0, none⟩ = some (.slice sa m cap) := S0.box.cell 0 _ rfl
  have HS := hide S0
  have hkl : k ≤ l.length := by have := rdecC_le (v := 2) S0.byt; rw [hD.out] at this; exact this
  have hkm : k ≤ m := by rw [← S0.seg.1]; exact hkl
  have hsl := slice_from sa m cap k hkm
  obtain ⟨a2, ha2⟩ : ∃ a2, Hid (restA sa cap k = a2) := ⟨_, rfl⟩
  obtain ⟨m2, hm2⟩ : ∃ m2, Hid (m - k = m2) := ⟨_, rfl⟩
  obtain ⟨cap2, hcap2⟩ : ∃ cap2, Hid (cap - k = cap2) := ⟨_, rfl⟩
  rw [ha2.out, hm2.out, hcap2.out] at hsl
  have HD2 : Hid (rcD 2 l = (c, k, f)) := by rw [rcD_decC 2 l S0.byt]; exact hD
  have mc : m ≤ cap ∧ cap ≤ 9223372036854775807 := by
    rcases S0.src with ⟨q1, q2⟩ | ⟨_, q1, q2⟩
    · omega
    · unfold maxLen at q2; omega
  have HMC := hide mc
  have HE := hide he
  have HKM := hide hkm
  clear h he S0 mc hkl hkm
  go_enter Tryz.func71, Tryz.ntmps71
  go_upto_region 1 with fail
  rw [← hV]
  clear hV
  go_wp2_with fail
  refine (rcDec_any 2 sa m cap l a _ (HS.out.seg.below HS.out.low (Nat.le_refl _)) HS.out.byt (HE.out.below HS.out.low (Nat.le_refl _)) HMC.out.1 HMC.out.2).mono ?_
  rintro u w1 ⟨rfl, b1⟩
  rw [HD2.out]
  have H1 := hide (HV.out.on b1)
  have S1 := hide (HS.out.on b1)
  clear b1 f0 c0
  obtain ⟨X, hX⟩ : ∃ X, X = w1.alloc (.cells #[.int .i64 c.kind, .int .i64 c.client, .int .i64 c.req, .string c.key, .string c.key2, .string c.val, .string c.old, .int .i64 c.n] 27) := ⟨_, rfl⟩
  have BX : Hid (Below w1.heap.size w1 X) := by rw [hX]; exact (Below.refl _ _).alloc (Nat.le_refl _) _
  have QX : Hid (Blk X w1.heap.size [.int .i64 c.kind, .int .i64 c.client, .int .i64 c.req, .string c.key, .string c.key2, .string c.val, .string c.old, .int .i64 c.n]) := by rw [hX]; exact blk_new w1 27 [.int .i64 c.kind, .int .i64 c.client, .int .i64 c.req, .string c.key, .string c.key2, .string c.val, .string c.old, .int .i64 c.n]
  have H2 := hide (H1.out.on BX.out)
  have S2 := hide (S1.out.on BX.out)
  have hgw : g < w1.heap.size := H1.out.scan.lt
  have hww : w.heap.size + 1 < w1.heap.size := H1.out.res.lt
  have c0 : X.cell? ⟨g, 0, none⟩ = some (.slice sa m cap) := S2.out.box.cell 0 _ rfl
  have c1 : X.cell? ⟨g, 1, none⟩ = some (.int .i64 0) := S2.out.box.cell 1 _ rfl
  have t0 := S2.out.box.thaw 0
  have t1 := S2.out.box.thaw 1
  obtain ⟨w2, hw2⟩ : ∃ w2, w2 = (X.setCell ⟨g, 1, none⟩ (.int .i64 f)).setCell ⟨g, 0, none⟩ (.slice a2 m2 cap2) := ⟨_, rfl⟩
  have N2 : Hid (S6x w0 w2 g (l.drop k) f ∧ Touch g X w2) := by
    have P := S2.out.put f
    have N := P.1.next k HKM.out
    rw [ha2.out, hm2.out, hcap2.out, ← hw2] at N
    exact ⟨N.1, P.2.trans N.2⟩
  have H3 := hide (H2.out.call hg N2.out.2 N2.out.1)
  have Q3 : Hid (Blk w2 w1.heap.size [.int .i64 c.kind, .int .i64 c.client, .int .i64 c.req, .string c.key, .string c.key2, .string c.val, .string c.old, .int .i64 c.n]) := QX.out.of_block (N2.out.2.block _ QX.out.lt (by omega))
  clear N2 QX H2 S2 S1 H1 HV BX
  go_upto_region 4 with fail
  rw [← hX]
  clear hX
  go_upto_region 6 with fail
  rw [← hw2]
  clear hw2 c0 c1 t0 t1 hsl
  have H4 := hide (H3.out.putCmd hg hw c)
  have T4 : Hid (Touch w.heap.size w2 (w2.setCells w.heap.size 6 [.int .i64 c.kind, .int .i64 c.client, .int .i64 c.req, .string c.key, .string c.key2, .string c.val, .string c.old, .int .i64 c.n])) := touch_own _ _ _ _ (Touch.refl _ _)
  have Q4 : Hid (Blk (w2.setCells w.heap.size 6 [.int .i64 c.kind, .int .i64 c.client, .int .i64 c.req, .string c.key, .string c.key2, .string c.val, .string c.old, .int .i64 c.n]) w1.heap.size [.int .i64 c.kind, .int .i64 c.client, .int .i64 c.req, .string c.key, .string c.key2, .string c.val, .string c.old, .int .i64 c.n]) := Q3.out.of_block (T4.out.block _ Q3.out.lt (by omega))
  go_upto_region 7 with (first | (refine wpList_load_mid rfl 27 _ rfl w1.heap.size 0 rfl [.int .i64 c.kind, .int .i64 c.client, .int .i64 c.req, .string c.key, .string c.key2, .string c.val, .string c.old, .int .i64 c.n] _ Q3.out.range Tryz.underlying27 rfl (by kernel_rfl) ?_) | (refine wpList_store_mid rfl 27 _ _ rfl w.heap.size 6 #[.int .i64 c.kind, .int .i64 c.client, .int .i64 c.req, .string c.key, .string c.key2, .string c.val, .string c.old, .int .i64 c.n] rfl rfl H3.out.there8 (by kernel_rfl) (by kernel_rfl) ?_))
  obtain ⟨w4, hw4⟩ : ∃ w4, w2.setCells w.heap.size 6 [.int .i64 c.kind, .int .i64 c.client, .int .i64 c.req, .string c.key, .string c.key2, .string c.val, .string c.old, .int .i64 c.n] = w4 := ⟨_, rfl⟩
  rw [hw4] at H4 Q4 ⊢
  have k4 : w4.cell? ⟨w1.heap.size, 0, none⟩ = some (.int .i64 c.kind) := Q4.out.cell 0 _ rfl
  have r4 : w4.cell? ⟨w.heap.size, 0, none⟩ = some (.int .i64 r.kind) := H4.out.box.cell 0 _ rfl
  clear hw4 T4 H3 Q3
  rw [HK.out] at k4
  go_wp2_with fail
  refine (judge6_any w0 g (r.kind == 3) 65 (l.drop k) f _ H4.out.scan).mono ?_
  rintro u w5 ⟨rfl, T5, S5⟩
  have H5 := hide (H4.out.call hg T5 S5)
  clear T5 S5 k4 r4 H4 Q4
  go_wp2_with fail
  refine (zeros_any n hn _).mono ?_
  rintro u w6 ⟨v, rfl, ho, b6⟩
  have hfar := own_far' ho
  obtain ⟨da, dc, rfl, -, hsg⟩ := own_segI ho (fit_zeros n)
  rw [List.length_replicate] at hsg ⊢
  have H6' := hide (H5.out.on b6)
  have z6 : w5.heap.size ≤ w6.heap.size := b6.size
  have hw5 : w.heap.size + 1 < w5.heap.size := H5.out.res.lt
  have x15 : w6.cell? ⟨w.heap.size, 15, none⟩ = some (.slice r.da r.dn r.dc) := H6'.out.box.cell 15 _ rfl
  have t15 := H6'.out.box.thaw 15
  have H7 := hide (H6'.out.put hg hw 15 (.slice da n dc) (r' := (({ r with c := c, deps := List.replicate n 0 } : Rc).lay da n dc)) rfl)
  have FAR : Hid (∀ x, da = some x → 0 < n → w.heap.size + 1 < x.block) := fun x hx h0 => by have := hfar x ⟨n, dc, by rw [hx, List.length_replicate]⟩; omega
  have SG := hide hsg
  clear ho b6 H5 hfar hsg
  go_wp2_with (first | (refine wpList_load_mid rfl 30 _ rfl w.heap.size 0 rfl (rcs (({ r with c := c, deps := List.replicate n 0 } : Rc).lay da n dc)) _ H7.out.box.range Tryz.underlying30 rfl (by kernel_rfl) ?_) | (refine wpList_store_mid rfl 30 _ _ rfl (w.heap.size + 1) 0 (rcs (({ r with c := c, deps := List.replicate n 0 } : Rc).lay da n dc)).toArray rfl rfl H7.out.res.there (by kernel_rfl) (by kernel_rfl) ?_))
  have D := H7.out.done hg hw (({ r with c := c, deps := List.replicate n 0 } : Rc).lay da n dc)
  refine bodyPost_ret (results_cell_mid Tryz.results71 _ _ (w.heap.size + 1) (rcs (({ r with c := c, deps := List.replicate n 0 } : Rc).lay da n dc)) _ rfl D.1.range Tryz.underlying30 rfl (by kernel_rfl)) rfl ?_
  refine ⟨_, rfl, rfl, ?_, FAR.out, D.2⟩
  have s1 : SegI _ da n (List.replicate n 0) := touch_segI ((Touch.refl w.heap.size w6).setB (o := 15) (.slice da n dc)) SG.out (fun x hx h0 => by have := FAR.out x hx h0; omega)
  exact touch_segI (touch_own _ _ _ _ (Touch.refl (w.heap.size + 1) _)) s1 FAR.out
end Go.Proofs.YtlhididcanedhaaGreatDoor
