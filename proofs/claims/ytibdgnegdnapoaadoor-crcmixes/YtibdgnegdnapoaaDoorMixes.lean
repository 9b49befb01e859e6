/- Proved: for every three lists of bytes, CrcMixes answers true: of three lists of one length, xored place by place, the sum is the xor of the sums. The table of sixteen is as the program's text lays it. -/
import Derived.Test.YtibdgnegdnapoaaDoorCrc
import Derived.Test.YtibdgnegdnapoaaDoorCBytes
import Derived.Test.YtibdgnegdnapoaaDoorStep
import Derived.Test.YtibdgnegdnapoaaDoorCMath2
import Derived.Test.YtibdgnegdnapoaaDoorCLaid
import Derived.Test.YtibdgnegdnapoaaDoorArgs
import Derived.Test.YtibdgnegdnapoaaDoorCards
import Derived.Test.YtibdgnegdnapoaaDoorTie
import Derived.Deep.DeepHandedRow
import Derived.Deep.DeepWitnessRowRef
namespace Go.Proofs.YtibdgnegdnapoaaDoor
namespace crcMixes
open Go.ChangeShapes Go.WideShapes Go.ChangeAt Go.RowKit Go.Wire1 Go.Crc2

def mixl (a b c : List Int) (k : Nat) : List Int := (List.range k).map fun j => bx (bx (a.getD j 0) (b.getD j 0)) (c.getD j 0)
theorem mixl_len (a b c : List Int) (k : Nat) : (mixl a b c k).length = k := by simp [mixl]
theorem mixl_succ (a b c : List Int) (k : Nat) : mixl a b c (k + 1) = mixl a b c k ++ [bx (bx (a.getD k 0) (b.getD k 0)) (c.getD k 0)] := by simp [mixl, List.range_succ]
theorem mixl_byt {a b c : List Int} (ha : Byt a) (hb : Byt b) (hc : Byt c) (k : Nat) : Byt (mixl a b c k) := fun z hz => by
  simp only [mixl, List.mem_map] at hz
  obtain ⟨j, _, rfl⟩ := hz
  exact bx_byt (bx_byt (byt_at ha j) (byt_at hb j)) (byt_at hc j)
theorem mixl_at (a b c : List Int) (k j : Nat) (h : j < k) : (mixl a b c k).getD j 0 = bx (bx (a.getD j 0) (b.getD j 0)) (c.getD j 0) := by simp [mixl, h]
theorem x8 {x y : Int} (hx : 0 ≤ x ∧ x < 256) (hy : 0 ≤ y ∧ y < 256) : bits .xor .u8 x y = bx x y := u8_xor x y hx.1 hx.2 hy.1 hy.2
theorem law (a b c : List Int) (ha : Byt a) (hb : Byt b) (hc : Byt c) (n : Nat) (h1 : n ≤ a.length) (h2 : n ≤ b.length) (h3 : n ≤ c.length) :
    upd 0#32 (mixl a b c n) = (upd 0#32 (a.take n) ^^^ upd 0#32 (b.take n)) ^^^ upd 0#32 (c.take n) := by
  unfold upd
  have h := takes3 a b c ha hb hc (~~~ 0#32) (~~~ 0#32) (~~~ 0#32) n h1 h2 h3 (mixl a b c n) (mixl_len _ _ _ _) (fun k hk => mixl_at _ _ _ _ _ hk)
  have e : ((~~~ 0#32 : R) ^^^ ~~~ 0#32) ^^^ ~~~ 0#32 = ~~~ 0#32 := by decide
  rw [e] at h
  rw [h, mix]

set_option maxHeartbeats 1000000 in
set_option maxRecDepth 100000 in
theorem walk (a b c : Option Addr) (n m p cap1 cap2 cap3 : Nat) (la lb lc : List Int) (w : World) (ha : Seg w a n la) (hb : Seg w b m lb) (hc : Seg w c p lc) (ya : Byt la) (yb : Byt lb) (yc : Byt lc)
    (k1 : n ≤ cap1) (k2 : m ≤ cap2) (k3 : p ≤ cap3) (r1 : cap1 ≤ 140737488351232) (r2 : cap2 ≤ 140737488351232) (r3 : cap3 ≤ 140737488351232) (hH : Hal w) :
    Calls Tryd.prog 3 #[.slice a n cap1, .slice b m cap2, .slice c p cap3] w fun e w' => e = .returned (.bool true) ∧ Below w.heap.size w w' := by
  obtain ⟨i0, hi, hz0, hz1, hz2⟩ := info_parts Tryd.info5
  have HH : Hid (Hal w) := hH
  have HA : Hid (Seg w a n la) := ha
  have HB : Hid (Seg w b m lb) := hb
  have HC : Hid (Seg w c p lc) := hc
  have YA : Hid (Byt la) := ya
  have YB : Hid (Byt lb) := yb
  have YC : Hid (Byt lc) := yc
  clear hH ha hb hc ya yb yc
  rcases (by omega : (n ≤ m ∧ n ≤ p) ∨ (m < n ∧ m ≤ p) ∨ (n ≤ m ∧ p < n) ∨ (m < n ∧ p < m)) with ⟨g1, g2⟩ | ⟨g1, g2⟩ | ⟨g1, g2⟩ | ⟨g1, g2⟩
  · have LAW : Hid (upd 0#32 (mixl la lb lc n) = (upd 0#32 (la.take n) ^^^ upd 0#32 (lb.take n)) ^^^ upd 0#32 (lc.take n)) := law la lb lc YA.out YB.out YC.out n (by have := HA.out.1; omega) (by have := HB.out.1; omega) (by have := HC.out.1; omega)
    have d1 : decide (m < n) = false := by simp; omega
    have d2 : decide (p < n) = false := by simp; omega
    go_enter Tryd.func3, Tryd.ntmps3
    go_wp2_with fail
    refine (known_any _ HH.out).mono ?_
    rintro e w1 ⟨rfl, hbel⟩
    have HH1 : Hid (Hal w1) := HH.out.later hbel
    have HA1 : Hid (Seg w1 a n la) := HA.out.below hbel (Nat.le_refl _)
    have HB1 : Hid (Seg w1 b m lb) := HB.out.below hbel (Nat.le_refl _)
    have HC1 : Hid (Seg w1 c p lc) := HC.out.below hbel (Nat.le_refl _)
    have HBE : Hid (Below w.heap.size w w1) := hbel
    have hsz := hbel.size
    clear hbel
    go_wp2
    go_loopw [8, 9] (fun s i wr => ∃ k : Nat, i = .int .i64 (k : Int) ∧ k ≤ n ∧ wr.ownsRow w1.heap.size 5 1 s (mixl la lb lc k).length ((mixl la lb lc k).map (Value.int .u8)) ∧ Below w1.heap.size w1 wr) (fun _ i _ => n - (intOf i).toNat)
    case atStart => exact ⟨0, rfl, Nat.zero_le _, World.ownsRow_nil _ _ _ _, Below.refl _ _⟩
    case round =>
      obtain ⟨k, rfl, hk, hown, hbel⟩ := hrel
      have hsw := hbel.size
      by_cases hlt : k < n
      · have hpl : (mixl la lb lc k).length ≤ 140737488351232 := by rw [mixl_len]; omega
        have HT : Hid (mixl la lb lc (k + 1) = mixl la lb lc k ++ [bx (bx (la.getD k 0) (lb.getD k 0)) (lc.getD k 0)]) := mixl_succ _ _ _ _
        obtain ⟨ba, oa, rfl, hca⟩ := (HA1.out.below hbel (Nat.le_refl _)).2.2 (by omega)
        obtain ⟨bb, ob, rfl, hcb⟩ := (HB1.out.below hbel (Nat.le_refl _)).2.2 (by omega)
        obtain ⟨bc, oc, rfl, hcc⟩ := (HC1.out.below hbel (Nat.le_refl _)).2.2 (by omega)
        have ca : wr.cell? ⟨ba, oa + k, none⟩ = some (.int .u8 (la.getD k 0)) := hca k (by omega)
        have cb : wr.cell? ⟨bb, ob + k, none⟩ = some (.int .u8 (lb.getD k 0)) := hcb k (by omega)
        have cc : wr.cell? ⟨bc, oc + k, none⟩ = some (.int .u8 (lc.getD k 0)) := hcc k (by omega)
        have za := byt_at YA.out k
        have zb := byt_at YB.out k
        have zc := byt_at YC.out k
        have zd := bx_byt za zb
        have e1 := x8 za zb
        have e2 := x8 zd zc
        have CA : Hid (w1.cell? ⟨ba, oa + k, none⟩ = some (.int .u8 (la.getD k 0))) := by obtain ⟨_, _, e, h⟩ := HA1.out.2.2 (by omega); cases e; exact h k (by omega)
        have CB : Hid (w1.cell? ⟨bb, ob + k, none⟩ = some (.int .u8 (lb.getD k 0))) := by obtain ⟨_, _, e, h⟩ := HB1.out.2.2 (by omega); cases e; exact h k (by omega)
        have CC : Hid (w1.cell? ⟨bc, oc + k, none⟩ = some (.int .u8 (lc.getD k 0))) := by obtain ⟨_, _, e, h⟩ := HC1.out.2.2 (by omega); cases e; exact h k (by omega)
        clear hca hcb hcc
        generalize bx (bx (la.getD k 0) (lb.getD k 0)) (lc.getD k 0) = z at *
        generalize bx (la.getD k 0) (lb.getD k 0) = y at *
        generalize la.getD k 0 = u at *
        generalize lb.getD k 0 = v at *
        generalize lc.getD k 0 = t at *
        generalize mixl la lb lc k = pre at *
        have g3 : k < n := by omega
        have g4 : k < m := by omega
        have g5 : k < p := by omega
        go_wp2_with fail
        go_region_held3 (fun w' => w'.cell? ⟨ba, oa + k, none⟩ = some (.int .u8 u) ∧ w'.cell? ⟨bb, ob + k, none⟩ = some (.int .u8 v) ∧ w'.cell? ⟨bc, oc + k, none⟩ = some (.int .u8 t)) (go_keep) ((refine step_append_own rfl _ _ 22 rfl w1.heap.size 5 i0 (.int .u8 0) 1 1 Tryd.underlying22 hi hz0 hz1 hz2 rfl (by decide) _ _ _ rfl (World.ownsRow.alloc (w := wr.drew) hown _) ⟨wr.heap.size, 0, none⟩ 1 1 [.int .u8 z] rfl rfl (one_new wr (.int .u8 z) 5) (by simp [Value.oneCell']) (by unfold maxLen; omega) (by omega) (by simp; omega) ?_; intro v' w3 hown' hgrow; have R := push (w1 := w3) (wr := wr.drew) hsw hown hbel.drew hown' hgrow; have ca3 := cell_later R.2 CA.out; have cb3 := cell_later R.2 CB.out; have cc3 := cell_later R.2 CC.out))
        clear hown
        go_wp2
        go_roundw
        case rel => rw [← HT.out] at R; exact ⟨k + 1, by go_num, by omega, R.1, R.2⟩
        case measure => simp [intOf]; omega
      · obtain rfl : k = n := by omega
        obtain ⟨sa, sc, rfl, h1, h2, hseg⟩ := seg_own hown
        rw [mixl_len] at hseg
        have HS3 : Hid (Seg wr sa k (mixl la lb lc k)) := hseg
        have HH3 : Hid (Hal wr) := HH1.out.later hbel
        have HA3 : Hid (Seg wr a k (la.take k)) := (HA1.out.below hbel (Nat.le_refl _)).take (by omega)
        have HB3 : Hid (Seg wr b k (lb.take k)) := (HB1.out.below hbel (Nat.le_refl _)).take (by omega)
        have HC3 : Hid (Seg wr c k (lc.take k)) := (HC1.out.below hbel (Nat.le_refl _)).take (by omega)
        have BY : Hid (Byt (mixl la lb lc k)) := mixl_byt YA.out YB.out YC.out k
        have FB : Hid (Below w.heap.size w wr) := HBE.out.trans (hbel.mono hsz)
        clear hown hseg hbel h1 h2
        simp only [mixl_len]
        have e1 := x_xor (upd 0#32 (la.take k)) (upd 0#32 (lb.take k))
        have e2 := x_xor (upd 0#32 (la.take k) ^^^ upd 0#32 (lb.take k)) (upd 0#32 (lc.take k))
        rw [← LAW.out] at e2
        obtain ⟨xa, ha⟩ : ∃ x, Hid (upd 0#32 (la.take k) = x) := ⟨_, rfl⟩
        obtain ⟨xb, hb⟩ : ∃ x, Hid (upd 0#32 (lb.take k) = x) := ⟨_, rfl⟩
        obtain ⟨xc, hc⟩ : ∃ x, Hid (upd 0#32 (lc.take k) = x) := ⟨_, rfl⟩
        obtain ⟨xs, hs⟩ : ∃ x, Hid (upd 0#32 (mixl la lb lc k) = x) := ⟨_, rfl⟩
        rw [ha.out, hb.out] at e1 e2
        rw [hc.out, hs.out] at e2
        generalize xa ^^^ xb = xy at *
        go_wp2_with fail
        refine (sum_any sa k sc (mixl la lb lc k) _ HS3.out BY.out HH3.out).mono ?_
        rintro e wr ⟨rfl, rfl⟩
        rw [hs.out]
        go_wp2_with fail
        refine (sum_any a k cap1 (la.take k) _ HA3.out (byt_take YA.out _) HH3.out).mono ?_
        rintro e wr ⟨rfl, rfl⟩
        rw [ha.out]
        go_wp2_with fail
        refine (sum_any b k cap2 (lb.take k) _ HB3.out (byt_take YB.out _) HH3.out).mono ?_
        rintro e wr ⟨rfl, rfl⟩
        rw [hb.out]
        go_wp2_with fail
        refine (sum_any c k cap3 (lc.take k) _ HC3.out (byt_take YC.out _) HH3.out).mono ?_
        rintro e wr ⟨rfl, rfl⟩
        rw [hc.out]
        go_wp2
        go_ret
        exact ⟨rfl, FB.out⟩
  · have LAW : Hid (upd 0#32 (mixl la lb lc m) = (upd 0#32 (la.take m) ^^^ upd 0#32 (lb.take m)) ^^^ upd 0#32 (lc.take m)) := law la lb lc YA.out YB.out YC.out m (by have := HA.out.1; omega) (by have := HB.out.1; omega) (by have := HC.out.1; omega)
    have d1 : decide (m < n) = true := by simp; omega
    have d2 : decide (p < m) = false := by simp; omega
    go_enter Tryd.func3, Tryd.ntmps3
    go_wp2_with fail
    refine (known_any _ HH.out).mono ?_
    rintro e w1 ⟨rfl, hbel⟩
    have HH1 : Hid (Hal w1) := HH.out.later hbel
    have HA1 : Hid (Seg w1 a n la) := HA.out.below hbel (Nat.le_refl _)
    have HB1 : Hid (Seg w1 b m lb) := HB.out.below hbel (Nat.le_refl _)
    have HC1 : Hid (Seg w1 c p lc) := HC.out.below hbel (Nat.le_refl _)
    have HBE : Hid (Below w.heap.size w w1) := hbel
    have hsz := hbel.size
    clear hbel
    go_wp2
    go_loopw [8, 9] (fun s i wr => ∃ k : Nat, i = .int .i64 (k : Int) ∧ k ≤ m ∧ wr.ownsRow w1.heap.size 5 1 s (mixl la lb lc k).length ((mixl la lb lc k).map (Value.int .u8)) ∧ Below w1.heap.size w1 wr) (fun _ i _ => m - (intOf i).toNat)
    case atStart => exact ⟨0, rfl, Nat.zero_le _, World.ownsRow_nil _ _ _ _, Below.refl _ _⟩
    case round =>
      obtain ⟨k, rfl, hk, hown, hbel⟩ := hrel
      have hsw := hbel.size
      by_cases hlt : k < m
      · have hpl : (mixl la lb lc k).length ≤ 140737488351232 := by rw [mixl_len]; omega
        have HT : Hid (mixl la lb lc (k + 1) = mixl la lb lc k ++ [bx (bx (la.getD k 0) (lb.getD k 0)) (lc.getD k 0)]) := mixl_succ _ _ _ _
        obtain ⟨ba, oa, rfl, hca⟩ := (HA1.out.below hbel (Nat.le_refl _)).2.2 (by omega)
        obtain ⟨bb, ob, rfl, hcb⟩ := (HB1.out.below hbel (Nat.le_refl _)).2.2 (by omega)
        obtain ⟨bc, oc, rfl, hcc⟩ := (HC1.out.below hbel (Nat.le_refl _)).2.2 (by omega)
        have ca : wr.cell? ⟨ba, oa + k, none⟩ = some (.int .u8 (la.getD k 0)) := hca k (by omega)
        have cb : wr.cell? ⟨bb, ob + k, none⟩ = some (.int .u8 (lb.getD k 0)) := hcb k (by omega)
        have cc : wr.cell? ⟨bc, oc + k, none⟩ = some (.int .u8 (lc.getD k 0)) := hcc k (by omega)
        have za := byt_at YA.out k
        have zb := byt_at YB.out k
        have zc := byt_at YC.out k
        have zd := bx_byt za zb
        have e1 := x8 za zb
        have e2 := x8 zd zc
        have CA : Hid (w1.cell? ⟨ba, oa + k, none⟩ = some (.int .u8 (la.getD k 0))) := by obtain ⟨_, _, e, h⟩ := HA1.out.2.2 (by omega); cases e; exact h k (by omega)
        have CB : Hid (w1.cell? ⟨bb, ob + k, none⟩ = some (.int .u8 (lb.getD k 0))) := by obtain ⟨_, _, e, h⟩ := HB1.out.2.2 (by omega); cases e; exact h k (by omega)
        have CC : Hid (w1.cell? ⟨bc, oc + k, none⟩ = some (.int .u8 (lc.getD k 0))) := by obtain ⟨_, _, e, h⟩ := HC1.out.2.2 (by omega); cases e; exact h k (by omega)
        clear hca hcb hcc
        generalize bx (bx (la.getD k 0) (lb.getD k 0)) (lc.getD k 0) = z at *
        generalize bx (la.getD k 0) (lb.getD k 0) = y at *
        generalize la.getD k 0 = u at *
        generalize lb.getD k 0 = v at *
        generalize lc.getD k 0 = t at *
        generalize mixl la lb lc k = pre at *
        have g3 : k < n := by omega
        have g4 : k < m := by omega
        have g5 : k < p := by omega
        go_wp2_with fail
        go_region_held3 (fun w' => w'.cell? ⟨ba, oa + k, none⟩ = some (.int .u8 u) ∧ w'.cell? ⟨bb, ob + k, none⟩ = some (.int .u8 v) ∧ w'.cell? ⟨bc, oc + k, none⟩ = some (.int .u8 t)) (go_keep) ((refine step_append_own rfl _ _ 22 rfl w1.heap.size 5 i0 (.int .u8 0) 1 1 Tryd.underlying22 hi hz0 hz1 hz2 rfl (by decide) _ _ _ rfl (World.ownsRow.alloc (w := wr.drew) hown _) ⟨wr.heap.size, 0, none⟩ 1 1 [.int .u8 z] rfl rfl (one_new wr (.int .u8 z) 5) (by simp [Value.oneCell']) (by unfold maxLen; omega) (by omega) (by simp; omega) ?_; intro v' w3 hown' hgrow; have R := push (w1 := w3) (wr := wr.drew) hsw hown hbel.drew hown' hgrow; have ca3 := cell_later R.2 CA.out; have cb3 := cell_later R.2 CB.out; have cc3 := cell_later R.2 CC.out))
        clear hown
        go_wp2
        go_roundw
        case rel => rw [← HT.out] at R; exact ⟨k + 1, by go_num, by omega, R.1, R.2⟩
        case measure => simp [intOf]; omega
      · obtain rfl : k = m := by omega
        obtain ⟨sa, sc, rfl, h1, h2, hseg⟩ := seg_own hown
        rw [mixl_len] at hseg
        have HS3 : Hid (Seg wr sa k (mixl la lb lc k)) := hseg
        have HH3 : Hid (Hal wr) := HH1.out.later hbel
        have HA3 : Hid (Seg wr a k (la.take k)) := (HA1.out.below hbel (Nat.le_refl _)).take (by omega)
        have HB3 : Hid (Seg wr b k (lb.take k)) := (HB1.out.below hbel (Nat.le_refl _)).take (by omega)
        have HC3 : Hid (Seg wr c k (lc.take k)) := (HC1.out.below hbel (Nat.le_refl _)).take (by omega)
        have BY : Hid (Byt (mixl la lb lc k)) := mixl_byt YA.out YB.out YC.out k
        have FB : Hid (Below w.heap.size w wr) := HBE.out.trans (hbel.mono hsz)
        clear hown hseg hbel h1 h2
        simp only [mixl_len]
        have e1 := x_xor (upd 0#32 (la.take k)) (upd 0#32 (lb.take k))
        have e2 := x_xor (upd 0#32 (la.take k) ^^^ upd 0#32 (lb.take k)) (upd 0#32 (lc.take k))
        rw [← LAW.out] at e2
        obtain ⟨xa, ha⟩ : ∃ x, Hid (upd 0#32 (la.take k) = x) := ⟨_, rfl⟩
        obtain ⟨xb, hb⟩ : ∃ x, Hid (upd 0#32 (lb.take k) = x) := ⟨_, rfl⟩
        obtain ⟨xc, hc⟩ : ∃ x, Hid (upd 0#32 (lc.take k) = x) := ⟨_, rfl⟩
        obtain ⟨xs, hs⟩ : ∃ x, Hid (upd 0#32 (mixl la lb lc k) = x) := ⟨_, rfl⟩
        rw [ha.out, hb.out] at e1 e2
        rw [hc.out, hs.out] at e2
        generalize xa ^^^ xb = xy at *
        go_wp2_with fail
        refine (sum_any sa k sc (mixl la lb lc k) _ HS3.out BY.out HH3.out).mono ?_
        rintro e wr ⟨rfl, rfl⟩
        rw [hs.out]
        go_wp2_with fail
        refine (sum_any a k cap1 (la.take k) _ HA3.out (byt_take YA.out _) HH3.out).mono ?_
        rintro e wr ⟨rfl, rfl⟩
        rw [ha.out]
        go_wp2_with fail
        refine (sum_any b k cap2 (lb.take k) _ HB3.out (byt_take YB.out _) HH3.out).mono ?_
        rintro e wr ⟨rfl, rfl⟩
        rw [hb.out]
        go_wp2_with fail
        refine (sum_any c k cap3 (lc.take k) _ HC3.out (byt_take YC.out _) HH3.out).mono ?_
        rintro e wr ⟨rfl, rfl⟩
        rw [hc.out]
        go_wp2
        go_ret
        exact ⟨rfl, FB.out⟩
  · have LAW : Hid (upd 0#32 (mixl la lb lc p) = (upd 0#32 (la.take p) ^^^ upd 0#32 (lb.take p)) ^^^ upd 0#32 (lc.take p)) := law la lb lc YA.out YB.out YC.out p (by have := HA.out.1; omega) (by have := HB.out.1; omega) (by have := HC.out.1; omega)
    have d1 : decide (m < n) = false := by simp; omega
    have d2 : decide (p < n) = true := by simp; omega
    go_enter Tryd.func3, Tryd.ntmps3
    go_wp2_with fail
    refine (known_any _ HH.out).mono ?_
    rintro e w1 ⟨rfl, hbel⟩
    have HH1 : Hid (Hal w1) := HH.out.later hbel
    have HA1 : Hid (Seg w1 a n la) := HA.out.below hbel (Nat.le_refl _)
    have HB1 : Hid (Seg w1 b m lb) := HB.out.below hbel (Nat.le_refl _)
    have HC1 : Hid (Seg w1 c p lc) := HC.out.below hbel (Nat.le_refl _)
    have HBE : Hid (Below w.heap.size w w1) := hbel
    have hsz := hbel.size
    clear hbel
    go_wp2
    go_loopw [8, 9] (fun s i wr => ∃ k : Nat, i = .int .i64 (k : Int) ∧ k ≤ p ∧ wr.ownsRow w1.heap.size 5 1 s (mixl la lb lc k).length ((mixl la lb lc k).map (Value.int .u8)) ∧ Below w1.heap.size w1 wr) (fun _ i _ => p - (intOf i).toNat)
    case atStart => exact ⟨0, rfl, Nat.zero_le _, World.ownsRow_nil _ _ _ _, Below.refl _ _⟩
    case round =>
      obtain ⟨k, rfl, hk, hown, hbel⟩ := hrel
      have hsw := hbel.size
      by_cases hlt : k < p
      · have hpl : (mixl la lb lc k).length ≤ 140737488351232 := by rw [mixl_len]; omega
        have HT : Hid (mixl la lb lc (k + 1) = mixl la lb lc k ++ [bx (bx (la.getD k 0) (lb.getD k 0)) (lc.getD k 0)]) := mixl_succ _ _ _ _
        obtain ⟨ba, oa, rfl, hca⟩ := (HA1.out.below hbel (Nat.le_refl _)).2.2 (by omega)
        obtain ⟨bb, ob, rfl, hcb⟩ := (HB1.out.below hbel (Nat.le_refl _)).2.2 (by omega)
        obtain ⟨bc, oc, rfl, hcc⟩ := (HC1.out.below hbel (Nat.le_refl _)).2.2 (by omega)
        have ca : wr.cell? ⟨ba, oa + k, none⟩ = some (.int .u8 (la.getD k 0)) := hca k (by omega)
        have cb : wr.cell? ⟨bb, ob + k, none⟩ = some (.int .u8 (lb.getD k 0)) := hcb k (by omega)
        have cc : wr.cell? ⟨bc, oc + k, none⟩ = some (.int .u8 (lc.getD k 0)) := hcc k (by omega)
        have za := byt_at YA.out k
        have zb := byt_at YB.out k
        have zc := byt_at YC.out k
        have zd := bx_byt za zb
        have e1 := x8 za zb
        have e2 := x8 zd zc
        have CA : Hid (w1.cell? ⟨ba, oa + k, none⟩ = some (.int .u8 (la.getD k 0))) := by obtain ⟨_, _, e, h⟩ := HA1.out.2.2 (by omega); cases e; exact h k (by omega)
        have CB : Hid (w1.cell? ⟨bb, ob + k, none⟩ = some (.int .u8 (lb.getD k 0))) := by obtain ⟨_, _, e, h⟩ := HB1.out.2.2 (by omega); cases e; exact h k (by omega)
        have CC : Hid (w1.cell? ⟨bc, oc + k, none⟩ = some (.int .u8 (lc.getD k 0))) := by obtain ⟨_, _, e, h⟩ := HC1.out.2.2 (by omega); cases e; exact h k (by omega)
        clear hca hcb hcc
        generalize bx (bx (la.getD k 0) (lb.getD k 0)) (lc.getD k 0) = z at *
        generalize bx (la.getD k 0) (lb.getD k 0) = y at *
        generalize la.getD k 0 = u at *
        generalize lb.getD k 0 = v at *
        generalize lc.getD k 0 = t at *
        generalize mixl la lb lc k = pre at *
        have g3 : k < n := by omega
        have g4 : k < m := by omega
        have g5 : k < p := by omega
        go_wp2_with fail
        go_region_held3 (fun w' => w'.cell? ⟨ba, oa + k, none⟩ = some (.int .u8 u) ∧ w'.cell? ⟨bb, ob + k, none⟩ = some (.int .u8 v) ∧ w'.cell? ⟨bc, oc + k, none⟩ = some (.int .u8 t)) (go_keep) ((refine step_append_own rfl _ _ 22 rfl w1.heap.size 5 i0 (.int .u8 0) 1 1 Tryd.underlying22 hi hz0 hz1 hz2 rfl (by decide) _ _ _ rfl (World.ownsRow.alloc (w := wr.drew) hown _) ⟨wr.heap.size, 0, none⟩ 1 1 [.int .u8 z] rfl rfl (one_new wr (.int .u8 z) 5) (by simp [Value.oneCell']) (by unfold maxLen; omega) (by omega) (by simp; omega) ?_; intro v' w3 hown' hgrow; have R := push (w1 := w3) (wr := wr.drew) hsw hown hbel.drew hown' hgrow; have ca3 := cell_later R.2 CA.out; have cb3 := cell_later R.2 CB.out; have cc3 := cell_later R.2 CC.out))
        clear hown
        go_wp2
        go_roundw
        case rel => rw [← HT.out] at R; exact ⟨k + 1, by go_num, by omega, R.1, R.2⟩
        case measure => simp [intOf]; omega
      · obtain rfl : k = p := by omega
        obtain ⟨sa, sc, rfl, h1, h2, hseg⟩ := seg_own hown
        rw [mixl_len] at hseg
        have HS3 : Hid (Seg wr sa k (mixl la lb lc k)) := hseg
        have HH3 : Hid (Hal wr) := HH1.out.later hbel
        have HA3 : Hid (Seg wr a k (la.take k)) := (HA1.out.below hbel (Nat.le_refl _)).take (by omega)
        have HB3 : Hid (Seg wr b k (lb.take k)) := (HB1.out.below hbel (Nat.le_refl _)).take (by omega)
        have HC3 : Hid (Seg wr c k (lc.take k)) := (HC1.out.below hbel (Nat.le_refl _)).take (by omega)
        have BY : Hid (Byt (mixl la lb lc k)) := mixl_byt YA.out YB.out YC.out k
        have FB : Hid (Below w.heap.size w wr) := HBE.out.trans (hbel.mono hsz)
        clear hown hseg hbel h1 h2
        simp only [mixl_len]
        have e1 := x_xor (upd 0#32 (la.take k)) (upd 0#32 (lb.take k))
        have e2 := x_xor (upd 0#32 (la.take k) ^^^ upd 0#32 (lb.take k)) (upd 0#32 (lc.take k))
        rw [← LAW.out] at e2
        obtain ⟨xa, ha⟩ : ∃ x, Hid (upd 0#32 (la.take k) = x) := ⟨_, rfl⟩
        obtain ⟨xb, hb⟩ : ∃ x, Hid (upd 0#32 (lb.take k) = x) := ⟨_, rfl⟩
        obtain ⟨xc, hc⟩ : ∃ x, Hid (upd 0#32 (lc.take k) = x) := ⟨_, rfl⟩
        obtain ⟨xs, hs⟩ : ∃ x, Hid (upd 0#32 (mixl la lb lc k) = x) := ⟨_, rfl⟩
        rw [ha.out, hb.out] at e1 e2
        rw [hc.out, hs.out] at e2
        generalize xa ^^^ xb = xy at *
        go_wp2_with fail
        refine (sum_any sa k sc (mixl la lb lc k) _ HS3.out BY.out HH3.out).mono ?_
        rintro e wr ⟨rfl, rfl⟩
        rw [hs.out]
        go_wp2_with fail
        refine (sum_any a k cap1 (la.take k) _ HA3.out (byt_take YA.out _) HH3.out).mono ?_
        rintro e wr ⟨rfl, rfl⟩
        rw [ha.out]
        go_wp2_with fail
        refine (sum_any b k cap2 (lb.take k) _ HB3.out (byt_take YB.out _) HH3.out).mono ?_
        rintro e wr ⟨rfl, rfl⟩
        rw [hb.out]
        go_wp2_with fail
        refine (sum_any c k cap3 (lc.take k) _ HC3.out (byt_take YC.out _) HH3.out).mono ?_
        rintro e wr ⟨rfl, rfl⟩
        rw [hc.out]
        go_wp2
        go_ret
        exact ⟨rfl, FB.out⟩
  · have LAW : Hid (upd 0#32 (mixl la lb lc p) = (upd 0#32 (la.take p) ^^^ upd 0#32 (lb.take p)) ^^^ upd 0#32 (lc.take p)) := law la lb lc YA.out YB.out YC.out p (by have := HA.out.1; omega) (by have := HB.out.1; omega) (by have := HC.out.1; omega)
    have d1 : decide (m < n) = true := by simp; omega
    have d2 : decide (p < m) = true := by simp; omega
    go_enter Tryd.func3, Tryd.ntmps3
    go_wp2_with fail
    refine (known_any _ HH.out).mono ?_
    rintro e w1 ⟨rfl, hbel⟩
    have HH1 : Hid (Hal w1) := HH.out.later hbel
    have HA1 : Hid (Seg w1 a n la) := HA.out.below hbel (Nat.le_refl _)
    have HB1 : Hid (Seg w1 b m lb) := HB.out.below hbel (Nat.le_refl _)
    have HC1 : Hid (Seg w1 c p lc) := HC.out.below hbel (Nat.le_refl _)
    have HBE : Hid (Below w.heap.size w w1) := hbel
    have hsz := hbel.size
    clear hbel
    go_wp2
    go_loopw [8, 9] (fun s i wr => ∃ k : Nat, i = .int .i64 (k : Int) ∧ k ≤ p ∧ wr.ownsRow w1.heap.size 5 1 s (mixl la lb lc k).length ((mixl la lb lc k).map (Value.int .u8)) ∧ Below w1.heap.size w1 wr) (fun _ i _ => p - (intOf i).toNat)
    case atStart => exact ⟨0, rfl, Nat.zero_le _, World.ownsRow_nil _ _ _ _, Below.refl _ _⟩
    case round =>
      obtain ⟨k, rfl, hk, hown, hbel⟩ := hrel
      have hsw := hbel.size
      by_cases hlt : k < p
      · have hpl : (mixl la lb lc k).length ≤ 140737488351232 := by rw [mixl_len]; omega
        have HT : Hid (mixl la lb lc (k + 1) = mixl la lb lc k ++ [bx (bx (la.getD k 0) (lb.getD k 0)) (lc.getD k 0)]) := mixl_succ _ _ _ _
        obtain ⟨ba, oa, rfl, hca⟩ := (HA1.out.below hbel (Nat.le_refl _)).2.2 (by omega)
        obtain ⟨bb, ob, rfl, hcb⟩ := (HB1.out.below hbel (Nat.le_refl _)).2.2 (by omega)
        obtain ⟨bc, oc, rfl, hcc⟩ := (HC1.out.below hbel (Nat.le_refl _)).2.2 (by omega)
        have ca : wr.cell? ⟨ba, oa + k, none⟩ = some (.int .u8 (la.getD k 0)) := hca k (by omega)
        have cb : wr.cell? ⟨bb, ob + k, none⟩ = some (.int .u8 (lb.getD k 0)) := hcb k (by omega)
        have cc : wr.cell? ⟨bc, oc + k, none⟩ = some (.int .u8 (lc.getD k 0)) := hcc k (by omega)
        have za := byt_at YA.out k
        have zb := byt_at YB.out k
        have zc := byt_at YC.out k
        have zd := bx_byt za zb
        have e1 := x8 za zb
        have e2 := x8 zd zc
        have CA : Hid (w1.cell? ⟨ba, oa + k, none⟩ = some (.int .u8 (la.getD k 0))) := by obtain ⟨_, _, e, h⟩ := HA1.out.2.2 (by omega); cases e; exact h k (by omega)
        have CB : Hid (w1.cell? ⟨bb, ob + k, none⟩ = some (.int .u8 (lb.getD k 0))) := by obtain ⟨_, _, e, h⟩ := HB1.out.2.2 (by omega); cases e; exact h k (by omega)
        have CC : Hid (w1.cell? ⟨bc, oc + k, none⟩ = some (.int .u8 (lc.getD k 0))) := by obtain ⟨_, _, e, h⟩ := HC1.out.2.2 (by omega); cases e; exact h k (by omega)
        clear hca hcb hcc
        generalize bx (bx (la.getD k 0) (lb.getD k 0)) (lc.getD k 0) = z at *
        generalize bx (la.getD k 0) (lb.getD k 0) = y at *
        generalize la.getD k 0 = u at *
        generalize lb.getD k 0 = v at *
        generalize lc.getD k 0 = t at *
        generalize mixl la lb lc k = pre at *
        have g3 : k < n := by omega
        have g4 : k < m := by omega
        have g5 : k < p := by omega
        go_wp2_with fail
        go_region_held3 (fun w' => w'.cell? ⟨ba, oa + k, none⟩ = some (.int .u8 u) ∧ w'.cell? ⟨bb, ob + k, none⟩ = some (.int .u8 v) ∧ w'.cell? ⟨bc, oc + k, none⟩ = some (.int .u8 t)) (go_keep) ((refine step_append_own rfl _ _ 22 rfl w1.heap.size 5 i0 (.int .u8 0) 1 1 Tryd.underlying22 hi hz0 hz1 hz2 rfl (by decide) _ _ _ rfl (World.ownsRow.alloc (w := wr.drew) hown _) ⟨wr.heap.size, 0, none⟩ 1 1 [.int .u8 z] rfl rfl (one_new wr (.int .u8 z) 5) (by simp [Value.oneCell']) (by unfold maxLen; omega) (by omega) (by simp; omega) ?_; intro v' w3 hown' hgrow; have R := push (w1 := w3) (wr := wr.drew) hsw hown hbel.drew hown' hgrow; have ca3 := cell_later R.2 CA.out; have cb3 := cell_later R.2 CB.out; have cc3 := cell_later R.2 CC.out))
        clear hown
        go_wp2
        go_roundw
        case rel => rw [← HT.out] at R; exact ⟨k + 1, by go_num, by omega, R.1, R.2⟩
        case measure => simp [intOf]; omega
      · obtain rfl : k = p := by omega
        obtain ⟨sa, sc, rfl, h1, h2, hseg⟩ := seg_own hown
        rw [mixl_len] at hseg
        have HS3 : Hid (Seg wr sa k (mixl la lb lc k)) := hseg
        have HH3 : Hid (Hal wr) := HH1.out.later hbel
        have HA3 : Hid (Seg wr a k (la.take k)) := (HA1.out.below hbel (Nat.le_refl _)).take (by omega)
        have HB3 : Hid (Seg wr b k (lb.take k)) := (HB1.out.below hbel (Nat.le_refl _)).take (by omega)
        have HC3 : Hid (Seg wr c k (lc.take k)) := (HC1.out.below hbel (Nat.le_refl _)).take (by omega)
        have BY : Hid (Byt (mixl la lb lc k)) := mixl_byt YA.out YB.out YC.out k
        have FB : Hid (Below w.heap.size w wr) := HBE.out.trans (hbel.mono hsz)
        clear hown hseg hbel h1 h2
        simp only [mixl_len]
        have e1 := x_xor (upd 0#32 (la.take k)) (upd 0#32 (lb.take k))
        have e2 := x_xor (upd 0#32 (la.take k) ^^^ upd 0#32 (lb.take k)) (upd 0#32 (lc.take k))
        rw [← LAW.out] at e2
        obtain ⟨xa, ha⟩ : ∃ x, Hid (upd 0#32 (la.take k) = x) := ⟨_, rfl⟩
        obtain ⟨xb, hb⟩ : ∃ x, Hid (upd 0#32 (lb.take k) = x) := ⟨_, rfl⟩
        obtain ⟨xc, hc⟩ : ∃ x, Hid (upd 0#32 (lc.take k) = x) := ⟨_, rfl⟩
        obtain ⟨xs, hs⟩ : ∃ x, Hid (upd 0#32 (mixl la lb lc k) = x) := ⟨_, rfl⟩
        rw [ha.out, hb.out] at e1 e2
        rw [hc.out, hs.out] at e2
        generalize xa ^^^ xb = xy at *
        go_wp2_with fail
        refine (sum_any sa k sc (mixl la lb lc k) _ HS3.out BY.out HH3.out).mono ?_
        rintro e wr ⟨rfl, rfl⟩
        rw [hs.out]
        go_wp2_with fail
        refine (sum_any a k cap1 (la.take k) _ HA3.out (byt_take YA.out _) HH3.out).mono ?_
        rintro e wr ⟨rfl, rfl⟩
        rw [ha.out]
        go_wp2_with fail
        refine (sum_any b k cap2 (lb.take k) _ HB3.out (byt_take YB.out _) HH3.out).mono ?_
        rintro e wr ⟨rfl, rfl⟩
        rw [hb.out]
        go_wp2_with fail
        refine (sum_any c k cap3 (lc.take k) _ HC3.out (byt_take YC.out _) HH3.out).mono ?_
        rintro e wr ⟨rfl, rfl⟩
        rw [hc.out]
        go_wp2
        go_ret
        exact ⟨rfl, FB.out⟩

set_option maxRecDepth 100000 in
/-- For every argument and every world that holds the sentinels. -/
theorem contract (H : Type) (enc : TypeId × Value → H) (W : World) (base : Nat) (args : Array Value) (ds gs : List (DataW H)) (before : List MemPlace)
    (hval : ∀ (j : Nat) t v, Tryd.f3.params[j]? = some t → args[j]? = some v → Value.okWide Tryd.prog W .any base t v)
    (hW : DataW.Whole enc Tryd.prog Tryd.f3.params.toList Rows.crcMixesSpec.vars false W args.toList ds gs before)
    (hsz : (DataW.weightsEach Tryd.prog (Tryd.f3.params.toList ++ (OpenSpec.ofChange Rows.crcMixesSpec).bare.plain.varTypes Tryd.prog) (ds ++ gs)).all (· ≤ reachBytes) = true)
    (hL : laidMetH Tryd.prog Rows.crcMixesRow.laid W) :
    Calls Tryd.prog 3 args W fun e W' => ∃ v, e = .returned v ∧ Rows.crcMixesSpec.post enc Tryd.prog Tryd.f3 false true false false W args v W' := by
  have hW' := hW
  obtain ⟨p, q, hA0, hV, rfl, hfz, hnd⟩ := hW
  have hA : DataW.TrodAll enc Tryd.prog W 0 (fun _ => true) true Tryd.f3.params.toList args.toList ds p := hA0
  rw [Tryd.params3] at hA hval hsz
  obtain ⟨v0, vs0, d0, ds0, p0, q0, hargs, rfl, rfl, h0, r0⟩ := trodAll_cons hA
  obtain ⟨v1, vs1, d1, ds1, p1, q1, rfl, rfl, rfl, h1, r1⟩ := trodAll_cons r0
  obtain ⟨v2, vs2, d2, ds2, p2, q2, rfl, rfl, rfl, h2, r2⟩ := trodAll_cons r1
  obtain ⟨rfl, rfl, rfl⟩ := trodAll_nil r2
  obtain rfl : args = #[v0, v1, v2] := by cases args; simp_all
  obtain ⟨rfl, rfl⟩ := trodVars_none hV
  obtain ⟨a0, n0, cap0, rfl⟩ := okWide_slice Tryd.underlying22 (hval 0 22 v0 rfl rfl)
  have k0 := h0
  have lt0 : ∀ x ∈ p0, x.block < W.heap.size := by obtain ⟨m, hm⟩ := k0; exact DataW.trod_lt m _ _ _ hm
  obtain ⟨fuel0, hf0⟩ := h0
  obtain ⟨l0, hseg0, hbyt0, hcap0, hdat0⟩ := open_bytes hf0
  obtain ⟨a1, n1, cap1, rfl⟩ := okWide_slice Tryd.underlying22 (hval 1 22 v1 rfl rfl)
  have k1 := h1
  have lt1 : ∀ x ∈ p1, x.block < W.heap.size := by obtain ⟨m, hm⟩ := k1; exact DataW.trod_lt m _ _ _ hm
  obtain ⟨fuel1, hf1⟩ := h1
  obtain ⟨l1, hseg1, hbyt1, hcap1, hdat1⟩ := open_bytes hf1
  obtain ⟨a2, n2, cap2, rfl⟩ := okWide_slice Tryd.underlying22 (hval 2 22 v2 rfl rfl)
  have k2 := h2
  have lt2 : ∀ x ∈ p2, x.block < W.heap.size := by obtain ⟨m, hm⟩ := k2; exact DataW.trod_lt m _ _ _ hm
  obtain ⟨fuel2, hf2⟩ := h2
  obtain ⟨l2, hseg2, hbyt2, hcap2, hdat2⟩ := open_bytes hf2
  have hreach0 : cap0 ≤ 140737488351232 := by
    rcases hdat0 with ⟨_, _, h⟩ | ⟨elems, spare, hd, he, hc⟩
    · omega
    · have hs := sized_slice hsz (j := 0) (t := 22) (e := 5) (elems := elems) (spare := spare) rfl (by rw [show d0 = _ from hd]; rfl) Tryd.underlying22
      rw [bytes5] at hs
      simp only [reachBytes] at hs
      omega
  have hreach1 : cap1 ≤ 140737488351232 := by
    rcases hdat1 with ⟨_, _, h⟩ | ⟨elems, spare, hd, he, hc⟩
    · omega
    · have hs := sized_slice hsz (j := 1) (t := 22) (e := 5) (elems := elems) (spare := spare) rfl (by rw [show d1 = _ from hd]; rfl) Tryd.underlying22
      rw [bytes5] at hs
      simp only [reachBytes] at hs
      omega
  have hreach2 : cap2 ≤ 140737488351232 := by
    rcases hdat2 with ⟨_, _, h⟩ | ⟨elems, spare, hd, he, hc⟩
    · omega
    · have hs := sized_slice hsz (j := 2) (t := 22) (e := 5) (elems := elems) (spare := spare) rfl (by rw [show d2 = _ from hd]; rfl) Tryd.underlying22
      rw [bytes5] at hs
      simp only [reachBytes] at hs
      omega
  have hH := hal_of_laid hL
  clear hA0

  refine (walk a0 a1 a2 n0 n1 n2 cap0 cap1 cap2 l0 l1 l2 W hseg0 hseg1 hseg2 hbyt0 hbyt1 hbyt2 hcap0 hcap1 hcap2 hreach0 hreach1 hreach2 hH).mono fun e W' ⟨he, bel⟩ => ?_
  subst he
  exact ⟨_, rfl, _, _, _, [], _, [], hW', trodAll_mk1 (shut_bool Tryd.underlying4 _), (trodAll_cons_mk (Below.trod laidOut (by kernel_rfl) (of_decide_eq_true (by kernel_rfl)) k0 bel lt0) (trodAll_cons_mk (Below.trod laidOut (by kernel_rfl) (of_decide_eq_true (by kernel_rfl)) k1 bel lt1) (trodAll_cons_mk (Below.trod laidOut (by kernel_rfl) (of_decide_eq_true (by kernel_rfl)) k2 bel lt2) trodAll_mk0))), rfl, bel.frame _, fun h => by cases h⟩

theorem reads (os : Os) {H : Type} (enc : TypeId × Value → H) : ∃ places, DataW.whole enc Tryd.prog ((World.doorLaid Tryd.prog 104 os).forCall (fun _ _ => 0) ⟨#[], #[.slice none 0 0, .slice none 0 0, .slice none 0 0], []⟩).memory Tryd.f3.params.toList Rows.crcMixesSpec.vars false (#[Value.slice none 0 0, .slice none 0 0, .slice none 0 0] : Array Value).toList 8 = some ([.nil, .nil, .nil], [], places) :=
  ⟨[], by kernel_rfl⟩

set_option maxRecDepth 100000 in
theorem lifted (os : Os) (started : os.Started) (H : Type) (enc : TypeId × Value → H) (F : Stop.Interp) :
    ReturnsInHanded {} Tryd.checked os 3 .any ((OpenSpec.ofChange Rows.crcMixesSpec).preRow enc Tryd.prog Tryd.f3 Rows.crcMixesRow.domain false Rows.crcMixesRow.laid) (((OpenSpec.ofChange Rows.crcMixesSpec).at F).post enc Tryd.prog Tryd.f3 false true false false) := by
  obtain ⟨places, hx⟩ := reads os enc
  refine returnsInHanded_of_row (C := Tryd.checked) (s := (OpenSpec.ofChange Rows.crcMixesSpec)) own started (by kernel_rfl) Tryd.func3
    (witness_row_atRef (enc := enc) (C := Tryd.checked) false (World.doorLaid Tryd.prog 104 os) #[.slice none 0 0, .slice none 0 0, .slice none 0 0] rfl (by kernel_rfl) (by kernel_rfl) (by kernel_rfl)
      (OpenSpec.preRow_of_cond 8 hx (by kernel_rfl) (fun k hk => by cases hk) (by kernel_rfl) (door_met os _))) ?_
  intro W base args ds gs before hval hW _ hcond hsz hL _ _
  exact contract H enc W base args ds gs before hval hW hsz hL

theorem said : Rows.CrcMixesSaid :=
  OpenClaim.holds_of_cond 3 Tryd.f3 rfl rfl rfl rfl rfl rfl rfl ⟨rfl, rfl, rfl, rfl, rfl⟩ rfl rfl rfl rfl rfl (by kernel_rfl) Tryd.func3 (by kernel_rfl)
    (of_decide_eq_true (by kernel_rfl)) (by unfold Func.isWrapper; first | (rw [if_pos (by decide +kernel)]; kernel_rfl) | (rw [if_neg (by decide +kernel)]; exact ⟨rfl, rfl⟩))
    (fun os started H enc _ F => by rw [OpenClaim.pre_eq_preRow]; exact lifted os started H enc F)

theorem plain (f : FuncId) (fn : Func) (hf : Tryd.pinned.checked.prog.funcNamed "moot/mootlaw2.CrcMixes" = some f) (hfn : Tryd.pinned.checked.prog.funcs[f]? = some fn) :
    false = Tryd.pinned.checked.prog.looks [] ∧ ∀ (j : Nat) t, fn.params[j]? = some t → Tryd.pinned.checked.prog.wantsStandIn t = false := by
  obtain rfl : f = 3 := Option.some.inj ((show Tryd.prog.funcNamed "moot/mootlaw2.CrcMixes" = some 3 by kernel_rfl).symm.trans hf) |>.symm
  obtain rfl : fn = Tryd.f3 := (Option.some.inj (Tryd.func3.symm.trans hfn)).symm
  refine ⟨by kernel_rfl, fun j t ht => ?_⟩
  rw [Tryd.params3] at ht
  have hm : t ∈ [22, 22, 22] := by simpa using Array.mem_of_getElem? ht
  have hall : ([22, 22, 22].all fun u => !Tryd.prog.wantsStandIn u) = true := by kernel_rfl
  exact (show Tryd.prog.wantsStandIn t = false by simpa using List.all_eq_true.1 hall t hm)

end crcMixes
theorem crcMixes_proved : Rows.CrcMixesCardSaid :=
  Claim7.holds_tied_plain_at .later [] _ _ _ _ crcMixes.said (fun _ h => by cases h) (by kernel_rfl) (fun _ h => by cases h) crcMixes_row_tie rfl ⟨rfl, rfl⟩ (by kernel_rfl) rfl crcMixes.plain (by kernel_rfl)
#print axioms crcMixes_proved
end Go.Proofs.YtibdgnegdnapoaaDoor
