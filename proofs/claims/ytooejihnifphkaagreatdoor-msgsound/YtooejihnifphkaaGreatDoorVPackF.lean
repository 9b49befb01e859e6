/- The contract of Pack. -/
import Derived.Test.YtooejihnifphkaaGreatDoorVPack
import Derived.Test.YtooejihnifphkaaGreatDoorVInts
import Derived.Test.YtooejihnifphkaaGreatDoorVVersion
namespace Go.Proofs.YtooejihnifphkaaGreatDoor
open Go.RowKit Go.Wire1

theorem packPlain_lit {cs : Array Value} {l : List Int} (hcs : (arrL l).toArray = cs) (n : Nat) (w : World) (hn : n ≤ 7) (ho : okL l = true) :
    Calls Tryz.prog 160 #[.agg cs, .int .i64 (n : Int)] w fun e w' => ∃ v, e = .returned v ∧ w'.ownsRow w.heap.size 5 1 v (plainK l n).length ((plainK l n).map (Value.int .u8)) ∧ Below w.heap.size w w' := by
  subst hcs; exact packPlain_any l n w hn ho
theorem packTight_lit {cs : Array Value} {l : List Int} (hcs : (arrL l).toArray = cs) (n : Nat) (w : World) (hn : n ≤ 7) (ho : okL l = true) :
    Calls Tryz.prog 161 #[.agg cs, .int .i64 (n : Int)] w fun e w' => ∃ v, e = .returned v ∧ w'.ownsRow w.heap.size 5 1 v (enc (maskK l n) ++ diffK l n).length ((enc (maskK l n) ++ diffK l n).map (Value.int .u8)) ∧ Below w.heap.size w w' := by
  subst hcs; exact packTight_any l n w hn ho

set_option maxHeartbeats 1000000 in
set_option maxRecDepth 100000 in
theorem pack_any (v : Int) (a : Option Addr) (n cap : Nat) (l : List Int) (w : World) (h : SegI w a n l) :
    Calls Tryz.prog 153 #[.int .i64 v, .slice a n cap] w fun e w' => ∃ u, e = .returned (.tuple #[u, .int .i64 (packE v l : Int)]) ∧ w'.ownsRow w.heap.size 5 1 u (packR v l).length ((packR v l).map (Value.int .u8)) ∧ Below w.heap.size w w' := by
  have HS : Hid (SegI w a n l) := h
  have HL : Hid (l.length = n) := h.1
  clear h
  go_enter Tryz.func153, Tryz.ntmps153
  go_wp2_with fail
  refine (visVersion_any v _).mono ?_
  rintro e w' ⟨rfl, rfl⟩
  cases hv : okV v with
  | false =>
    have HQ : Hid (packE v l = 2 ∧ packR v l = []) := by
      have h1 : packE v l = 2 := by unfold packE; rw [if_neg (of_decide_eq_false hv)]
      exact ⟨h1, by unfold packR; rw [if_neg (by omega)]⟩
    clear hv
    go_wp2
    go_ret2
    exact ⟨_, by rw [HQ.out.1]; rfl, by rw [HQ.out.2]; exact World.ownsRow_nil _ _ _ _, Below.refl _ _⟩
  | true =>
    have HV : Hid (packE v l = fault l) := by show _ = _; unfold packE; rw [if_pos (of_decide_eq_true hv)]
    have hv2 := of_decide_eq_true hv
    go_wp2_with fail
    refine (vfaultOf_any a n cap l _ HS.out).mono ?_
    rintro e w' ⟨rfl, rfl⟩
    by_cases hf : fault l = 0
    · have ho : okL l = true ∧ 1 ≤ n ∧ n ≤ 7 := by
        have h2 := hf
        unfold fault at h2
        rw [HL.out] at h2
        split at h2
        · rename_i h3
          have := of_decide_eq_true h3
          split at h2
          · exact ⟨by assumption, this.1, this.2⟩
          · omega
        · omega
      have HO : Hid (okL l = true) := ho.1
      have hn := ho.2
      have HR : Hid (packE v l = 0 ∧ packR v l = packL v l) := by
        have h1 : packE v l = 0 := by rw [HV.out, hf]
        exact ⟨h1, by unfold packR; rw [if_pos h1]⟩
      obtain ⟨x0, x1, x2, x3, x4, x5, x6, HX⟩ : ∃ x0 x1 x2 x3 x4 x5 x6 : Int, Hid (arrL l = [.int .i64 x0, .int .i64 x1, .int .i64 x2, .int .i64 x3, .int .i64 x4, .int .i64 x5, .int .i64 x6]) := ⟨_, _, _, _, _, _, _, rfl⟩
      rw [hf]
      clear hf ho HV
      go_wp2_with fail
      refine (entriesOf_any a n cap l _ HS.out (by omega) (by omega)).mono ?_
      rintro e w1 ⟨rfl, hb1⟩
      have B1 : Hid (Below w.heap.size w w1) := hb1
      rw [HX.out]
      clear hb1
      have hbA : Hid (Below w.heap.size w (w1.alloc (.cells #[.int .i64 x0, .int .i64 x1, .int .i64 x2, .int .i64 x3, .int .i64 x4, .int .i64 x5, .int .i64 x6] 146))) := B1.out.more (Nat.le_refl _) _
      have hsz : Hid (w.heap.size ≤ (w1.alloc (.cells #[.int .i64 x0, .int .i64 x1, .int .i64 x2, .int .i64 x3, .int .i64 x4, .int .i64 x5, .int .i64 x6] 146)).heap.size) := hbA.out.size
      by_cases h1 : v = 1
      · subst h1
        have HP : Hid (plainK l n = packR 1 l) := by show _ = _; rw [HR.out.2]; unfold packL; rw [if_pos rfl, HL.out]
        clear hv hv2
        go_wp2_with fail
        refine (packPlain_lit (l := l) (by rw [HX.out]) n _ (by omega) HO.out).mono ?_
        rintro e w2 ⟨u, rfl, hown, hb2⟩
        have O1 := hide (own_base (B' := w.heap.size) hown hsz.out)
        have BB : Hid (Below w.heap.size w w2) := hbA.out.on hb2 (Nat.le_refl _)
        clear hown hb2 hsz hbA
        go_wp2
        go_ret2
        exact ⟨_, by rw [HR.out.1]; rfl, by rw [← HP.out]; exact O1.out, BB.out⟩
      · have HP : Hid (enc (maskK l n) ++ diffK l n = packR v l) := by show _ = _; rw [HR.out.2]; unfold packL Go.Wire1.tight; rw [if_neg h1, HL.out]
        have d1 : (v == 1) = false := beq_eq_false_iff_ne.2 h1
        clear hv hv2
        go_wp2_with fail
        refine (packTight_lit (l := l) (by rw [HX.out]) n _ (by omega) HO.out).mono ?_
        rintro e w2 ⟨u, rfl, hown, hb2⟩
        have O1 := hide (own_base (B' := w.heap.size) hown hsz.out)
        have BB : Hid (Below w.heap.size w w2) := hbA.out.on hb2 (Nat.le_refl _)
        clear hown hb2 hsz hbA
        go_wp2
        go_ret2
        exact ⟨_, by rw [HR.out.1]; rfl, by rw [← HP.out]; exact O1.out, BB.out⟩
    · have HQ : Hid (packE v l = fault l ∧ packR v l = []) := ⟨HV.out, by unfold packR; rw [if_neg (by rw [HV.out]; exact hf)]⟩
      have hb : ((fault l : Int) != 0) = true := by rw [bne_iff_ne]; omega
      clear hf hv hv2
      generalize fault l = f at *
      go_wp2
      go_ret2
      exact ⟨_, by rw [HQ.out.1]; rfl, by rw [HQ.out.2]; exact World.ownsRow_nil _ _ _ _, Below.refl _ _⟩

/-- Pack's answer as a list in memory. -/
theorem pack_seg {v : Int} {a : Option Addr} {n cap : Nat} {l : List Int} {w0 w : World} {B : Nat} (hb : Below B w0 w) (hB : B ≤ w0.heap.size) (h : SegI w a n l) {r : List Int} {e0 m : Nat} (hr : packR v l = r) (he : packE v l = e0) (hm : r.length = m) :
    Calls Tryz.prog 153 #[.int .i64 v, .slice a n cap] w fun e w' => ∃ a1 c1, e = .returned (.tuple #[.slice a1 m c1, .int .i64 (e0 : Int)]) ∧ m ≤ c1 ∧ c1 ≤ maxLen ∧ Seg w' a1 m r ∧ Below B w0 w' ∧ Below w.heap.size w w' := by
  refine (pack_any v a n cap l w h).mono ?_
  rintro e w' ⟨u, rfl, hown, hb'⟩
  obtain ⟨a1, c1, rfl, hc, hc2, hs⟩ := seg_own hown
  subst hr he hm
  exact ⟨a1, c1, rfl, hc, hc2, hs, hb.on hb' hB, hb'⟩
end Go.Proofs.YtooejihnifphkaaGreatDoor
