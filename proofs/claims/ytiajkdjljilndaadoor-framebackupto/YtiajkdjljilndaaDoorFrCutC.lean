/- The contract of the statements' helper cut: the pieces lie one behind the other in the bytes. -/
import Derived.Test.YtiajkdjljilndaaDoorFrLaw
import Derived.Test.YtiajkdjljilndaaDoorFrPos
import Derived.Test.YtiajkdjljilndaaDoorInts2
import Derived.Laws.AppendOwn
namespace Go.Proofs.YtiajkdjljilndaaDoor
open Go.RowKit Go.Wire1 Go.Crc2 Go.Frm

/-- A piece: where it begins, how long it is. -/
def pcv (a : Option Addr) (cap : Nat) (p : Nat × Nat) : Value := .slice (a.map (fun x => x.add p.1)) p.2 (cap - p.1)
/-- Pieces one behind the other. -/
def Pcs : Nat → List (Nat × Nat) → Nat → Prop
  | s, [], e => s = e
  | s, p :: r, e => p.1 = s ∧ Pcs (s + p.2) r e
theorem Pcs.more {s e m : Nat} {ps : List (Nat × Nat)} (h : Pcs s ps e) : Pcs s (ps ++ [(e, m)]) (e + m) := by
  induction ps generalizing s with
  | nil => obtain rfl : s = e := h; exact ⟨rfl, rfl⟩
  | cons p r ih => exact ⟨h.1, ih h.2⟩
theorem Pcs.le {s e : Nat} {ps : List (Nat × Nat)} (h : Pcs s ps e) : s ≤ e := by
  induction ps generalizing s with
  | nil => exact Nat.le_of_eq h
  | cons p r ih => have := ih h.2; omega
theorem pcv_zero (a : Option Addr) (n cap : Nat) : pcv a cap (0, n) = .slice a n cap := by
  unfold pcv
  cases a with
  | none => rfl
  | some x => simp [Addr.add]
theorem pcv_at (ba oa cap p m : Nat) : [(p, m)].map (pcv (some ⟨ba, oa, none⟩) cap) = [.slice (some ⟨ba, oa + p, none⟩) m (cap - p)] := by simp [pcv, Addr.add]
def CutPost (w : World) (a : Option Addr) (n cap : Nat) (r : Ending) (w' : World) : Prop := ∃ val ps, r = .returned val ∧ w'.ownsRow w.heap.size 22 1 val ps.length (ps.map (pcv a cap)) ∧ Pcs 0 ps n ∧ ps.length ≤ 20001 ∧ Below w.heap.size w w'

set_option maxHeartbeats 4000000 in
set_option maxRecDepth 100000 in
theorem cut_few (a : Option Addr) (n cap : Nat) (l : List Int) (ca : Option Addr) (cn ccap : Nat) (cl : List Int) (w : World) (hs : Seg w a n l) (hnc : n ≤ cap) (hc : cap ≤ 9223372036854775807) (hI : SegI w ca cn cl) (_hcc : cn ≤ ccap) (hc2 : cn ≤ 9223372036854775807) (hbig : cn ≤ 64) :
    Calls Tryd.prog 12 #[.slice a n cap, .slice ca cn ccap] w fun r w' => CutPost w a n cap r w' := by
  obtain ⟨i0, hi, hz0, hz1, hz2⟩ := info_parts infoLL
  have HS := hide hs
  have HI := hide hI
  clear hs hI
  go_enter Tryd.func12, Tryd.ntmps12
  go_wp2
  go_loopw [5, 6] (fun sv iv wr => ∃ (s : Bool) (k : Nat), sv = .bool s ∧ iv = .int .i64 (k : Int) ∧ k ≤ cn ∧ Hid (s = true → 0 < cn) ∧ w = wr) (fun _ iv _ => cn - (intOf iv).toNat)
  case atStart => exact ⟨false, 0, rfl, rfl, Nat.zero_le _, (fun h => by cases h), rfl⟩
  case round =>
    obtain ⟨s, k, rfl, rfl, hk, HZ, rfl⟩ := hrel
    by_cases hlt : k < cn
    · obtain ⟨cb, co, rfl, hcell⟩ := HI.out.2.2.1 (by omega)
      have cc := hcell k (by omega)
      have bb := HI.out.2.2.2 k
      clear hcell
      generalize cl.getD k 0 = x at *
      cases s with
      | true =>
        go_wp2
        go_roundw
        case rel => exact ⟨true, k + 1, rfl, by go_num, by omega, fun _ => by omega, by first | rfl | trivial⟩
        case measure => simp [intOf]; omega
      | false =>
        go_wp2
        go_roundw
        case rel => exact ⟨decide (0 < x), k + 1, rfl, by go_num, by omega, fun _ => by omega, by first | rfl | trivial⟩
        case measure => simp [intOf]; omega
    · cases s with
      | false =>
        clear HZ
        go_wp2_with (first
          | (at_builtin; refine wpList_append_own _ rfl _ _ 24 rfl w.heap.size 22 i0 (.slice none 0 0) 1 24 Tryd.underlying24 hi hz0 hz1 hz2 rfl (by decide) _ _ _ rfl ((World.ownsRow_nil w w.heap.size 22 1).alloc _) ⟨w.heap.size, 0, none⟩ 1 1 [.slice a n cap] rfl rfl (cell_one w _ _) (by intro uu hu; simp at hu; subst hu; rfl) (by unfold maxLen; omega) (by omega) (by simp) ?_))
        intro v' w1 hown' hgrow _
        have OW1 : Hid (w1.ownsRow w.heap.size 22 1 v' [(0, n)].length ([(0, n)].map (pcv a cap))) := by
          show World.ownsRow _ _ _ _ _ _ _
          rw [List.map_cons, pcv_zero]; exact hown'
        have BW1 : Hid (Below w.heap.size w w1) := ((Below.refl _ _).alloc (Nat.le_refl _) _).grown hgrow (by simp) (fun j hj => by cases hj)
        clear hown' hgrow
        go_wp2
        go_ret
        exact ⟨v', [(0, n)], rfl, OW1.out, ⟨rfl, Nat.zero_add n⟩, by simp, BW1.out⟩
      | true =>
        have hpos : 0 < cn := HZ.out rfl
        clear HZ
        go_wp2
        clear hlt hk
        go_loopw [7, 8, 9] (fun lv tv iv wr => ∃ (ps : List (Nat × Nat)) (k p : Nat), tv = .int .i64 (p : Int) ∧ iv = .int .i64 (k : Int) ∧ Hid (ps.length = k) ∧ p ≤ n ∧ Hid (Pcs 0 ps p) ∧ k ≤ 20001 ∧ (20000 < k → p = n) ∧ Hid (wr.ownsRow w.heap.size 22 1 lv ps.length (ps.map (pcv a cap))) ∧ Hid (Below w.heap.size w wr)) (fun _ _ iv _ => 20001 - (intOf iv).toNat)
        case atStart => exact ⟨[], 0, 0, rfl, rfl, rfl, Nat.zero_le _, rfl, by omega, by omega, World.ownsRow_nil _ _ _ _, Below.refl _ _⟩
        case round =>
          obtain ⟨ps, k, p, rfl, rfl, HK, hp, HP, hk, hend, hown, hbel⟩ := hrel
          have hsz := hbel.out.size
          by_cases hlt : p < n
          · obtain ⟨ba, oa, rfl, _⟩ := HS.out.2.2 (by omega)
            obtain ⟨cb, co, rfl, hcell⟩ := HI.out.2.2.1 (by omega)
            have hk2 : k ≤ 20000 := by omega
            obtain ⟨qa, qc, hq⟩ := own_shape hown.out
            subst hq
            rw [HK.out] at hown ⊢
            obtain ⟨j, hj⟩ : ∃ j, k % cn = j := ⟨_, rfl⟩
            have hjl : j < cn := by rw [← hj]; exact Nat.mod_lt _ hpos
            have j1 : (k : Int) % (cn : Int) = (j : Int) := by rw [← hj]; simp
            have j2 : Int.tmod (k : Int) (cn : Int) = (j : Int) := by rw [Int.tmod_eq_emod_of_nonneg (by omega)]; exact j1
            have cc := hcell j (by omega)
            have bb := HI.out.2.2.2 j
            have cc1 : wr.cell? ⟨cb, co + j, none⟩ = some (.int .i64 (cl.getD j 0)) := by rw [hbel.out.cell (p := ⟨cb, co + j, none⟩) (cell_lt cc)]; exact cc
            have hpc : ¬ p = cap := by omega
            clear hcell hj cc hend HS HI
            generalize cl.getD j 0 = x at *
            by_cases hx : x < 0
            · by_cases h2 : k < 20000
              · clear bb
                go_wp2_with (first
                  | (at_builtin; refine wpList_append_own _ rfl _ _ 24 rfl w.heap.size 22 i0 (.slice none 0 0) 1 24 Tryd.underlying24 hi hz0 hz1 hz2 rfl (by decide) _ _ _ rfl (hown.out.alloc _) ⟨wr.heap.size, 0, none⟩ 1 1 [.slice (some ⟨ba, oa + p, none⟩) 0 (cap - p)] rfl rfl (cell_one wr _ _) (by intro uu hu; simp at hu; subst hu; rfl) (by unfold maxLen; omega) (by omega) (by simp; omega) ?_))
                intro v' w1 hown' hgrow _
                have HR1 : Hid (w1.ownsRow w.heap.size 22 1 v' (ps ++ [(p, 0)]).length ((ps ++ [(p, 0)]).map (pcv (some ⟨ba, oa, none⟩) cap))) := by
                  show World.ownsRow _ _ _ _ _ _ _
                  rw [List.length_append, List.map_append, HK.out, pcv_at]; exact hown'
                have HR2 : Hid (Below w.heap.size w w1) := (hbel.out.alloc hsz _).grown hgrow (by simp; omega) (fun j hj => (hown.out.lt j hj).1)
                have HP2 : Hid (Pcs 0 (ps ++ [(p, 0)]) (p + 0)) := HP.out.more
                have HK2 : Hid ((ps ++ [(p, 0)]).length = k + 1) := by show _ = _; rw [List.length_append, HK.out]; rfl
                clear hown' hgrow hown hbel HP
                go_wp2
                go_roundw
                case rel => exact ⟨ps ++ [(p, 0)], k + 1, p + 0, by go_num, by go_num, HK2, by omega, HP2, by omega, by omega, HR1, HR2⟩
                case measure => simp [intOf]; omega
              · clear bb
                go_wp2_with (first
                  | (at_builtin; refine wpList_append_own _ rfl _ _ 24 rfl w.heap.size 22 i0 (.slice none 0 0) 1 24 Tryd.underlying24 hi hz0 hz1 hz2 rfl (by decide) _ _ _ rfl (hown.out.alloc _) ⟨wr.heap.size, 0, none⟩ 1 1 [.slice (some ⟨ba, oa + p, none⟩) (n - p) (cap - p)] rfl rfl (cell_one wr _ _) (by intro uu hu; simp at hu; subst hu; rfl) (by unfold maxLen; omega) (by omega) (by simp; omega) ?_))
                intro v' w1 hown' hgrow _
                have HR1 : Hid (w1.ownsRow w.heap.size 22 1 v' (ps ++ [(p, (n - p))]).length ((ps ++ [(p, (n - p))]).map (pcv (some ⟨ba, oa, none⟩) cap))) := by
                  show World.ownsRow _ _ _ _ _ _ _
                  rw [List.length_append, List.map_append, HK.out, pcv_at]; exact hown'
                have HR2 : Hid (Below w.heap.size w w1) := (hbel.out.alloc hsz _).grown hgrow (by simp; omega) (fun j hj => (hown.out.lt j hj).1)
                have HP2 : Hid (Pcs 0 (ps ++ [(p, (n - p))]) (p + (n - p))) := HP.out.more
                have HK2 : Hid ((ps ++ [(p, (n - p))]).length = k + 1) := by show _ = _; rw [List.length_append, HK.out]; rfl
                clear hown' hgrow hown hbel HP
                go_wp2
                go_roundw
                case rel => exact ⟨ps ++ [(p, (n - p))], k + 1, p + (n - p), by go_num, by go_num, HK2, by omega, HP2, by omega, by omega, HR1, HR2⟩
                case measure => simp [intOf]; omega
            · obtain ⟨m, rfl⟩ := Int.eq_ofNat_of_zero_le (show 0 ≤ x by omega)
              by_cases hm : n < p + m
              · have hm2 : (n : Int) - (p : Int) < (m : Int) := by omega
                go_wp2_with (first
                  | (at_builtin; refine wpList_append_own _ rfl _ _ 24 rfl w.heap.size 22 i0 (.slice none 0 0) 1 24 Tryd.underlying24 hi hz0 hz1 hz2 rfl (by decide) _ _ _ rfl (hown.out.alloc _) ⟨wr.heap.size, 0, none⟩ 1 1 [.slice (some ⟨ba, oa + p, none⟩) (n - p) (cap - p)] rfl rfl (cell_one wr _ _) (by intro uu hu; simp at hu; subst hu; rfl) (by unfold maxLen; omega) (by omega) (by simp; omega) ?_))
                intro v' w1 hown' hgrow _
                have HR1 : Hid (w1.ownsRow w.heap.size 22 1 v' (ps ++ [(p, (n - p))]).length ((ps ++ [(p, (n - p))]).map (pcv (some ⟨ba, oa, none⟩) cap))) := by
                  show World.ownsRow _ _ _ _ _ _ _
                  rw [List.length_append, List.map_append, HK.out, pcv_at]; exact hown'
                have HR2 : Hid (Below w.heap.size w w1) := (hbel.out.alloc hsz _).grown hgrow (by simp; omega) (fun j hj => (hown.out.lt j hj).1)
                have HP2 : Hid (Pcs 0 (ps ++ [(p, (n - p))]) (p + (n - p))) := HP.out.more
                have HK2 : Hid ((ps ++ [(p, (n - p))]).length = k + 1) := by show _ = _; rw [List.length_append, HK.out]; rfl
                clear hown' hgrow hown hbel HP
                go_wp2
                go_roundw
                case rel => exact ⟨ps ++ [(p, (n - p))], k + 1, p + (n - p), by go_num, by go_num, HK2, by omega, HP2, by omega, by omega, HR1, HR2⟩
                case measure => simp [intOf]; omega
              · have hm2 : ¬ ((n : Int) - (p : Int) < (m : Int)) := by omega
                by_cases h2 : k < 20000
                · have h2' := h2
                  clear h2'
                  go_wp2_with (first
                    | (at_builtin; refine wpList_append_own _ rfl _ _ 24 rfl w.heap.size 22 i0 (.slice none 0 0) 1 24 Tryd.underlying24 hi hz0 hz1 hz2 rfl (by decide) _ _ _ rfl (hown.out.alloc _) ⟨wr.heap.size, 0, none⟩ 1 1 [.slice (some ⟨ba, oa + p, none⟩) m (cap - p)] rfl rfl (cell_one wr _ _) (by intro uu hu; simp at hu; subst hu; rfl) (by unfold maxLen; omega) (by omega) (by simp; omega) ?_))
                  intro v' w1 hown' hgrow _
                  have HR1 : Hid (w1.ownsRow w.heap.size 22 1 v' (ps ++ [(p, m)]).length ((ps ++ [(p, m)]).map (pcv (some ⟨ba, oa, none⟩) cap))) := by
                    show World.ownsRow _ _ _ _ _ _ _
                    rw [List.length_append, List.map_append, HK.out, pcv_at]; exact hown'
                  have HR2 : Hid (Below w.heap.size w w1) := (hbel.out.alloc hsz _).grown hgrow (by simp; omega) (fun j hj => (hown.out.lt j hj).1)
                  have HP2 : Hid (Pcs 0 (ps ++ [(p, m)]) (p + m)) := HP.out.more
                  have HK2 : Hid ((ps ++ [(p, m)]).length = k + 1) := by show _ = _; rw [List.length_append, HK.out]; rfl
                  clear hown' hgrow hown hbel HP
                  go_wp2
                  go_roundw
                  case rel => exact ⟨ps ++ [(p, m)], k + 1, p + m, by go_num, by go_num, HK2, by omega, HP2, by omega, by omega, HR1, HR2⟩
                  case measure => simp [intOf]; omega
                · have h2' := h2
                  clear h2'
                  go_wp2_with (first
                    | (at_builtin; refine wpList_append_own _ rfl _ _ 24 rfl w.heap.size 22 i0 (.slice none 0 0) 1 24 Tryd.underlying24 hi hz0 hz1 hz2 rfl (by decide) _ _ _ rfl (hown.out.alloc _) ⟨wr.heap.size, 0, none⟩ 1 1 [.slice (some ⟨ba, oa + p, none⟩) (n - p) (cap - p)] rfl rfl (cell_one wr _ _) (by intro uu hu; simp at hu; subst hu; rfl) (by unfold maxLen; omega) (by omega) (by simp; omega) ?_))
                  intro v' w1 hown' hgrow _
                  have HR1 : Hid (w1.ownsRow w.heap.size 22 1 v' (ps ++ [(p, (n - p))]).length ((ps ++ [(p, (n - p))]).map (pcv (some ⟨ba, oa, none⟩) cap))) := by
                    show World.ownsRow _ _ _ _ _ _ _
                    rw [List.length_append, List.map_append, HK.out, pcv_at]; exact hown'
                  have HR2 : Hid (Below w.heap.size w w1) := (hbel.out.alloc hsz _).grown hgrow (by simp; omega) (fun j hj => (hown.out.lt j hj).1)
                  have HP2 : Hid (Pcs 0 (ps ++ [(p, (n - p))]) (p + (n - p))) := HP.out.more
                  have HK2 : Hid ((ps ++ [(p, (n - p))]).length = k + 1) := by show _ = _; rw [List.length_append, HK.out]; rfl
                  clear hown' hgrow hown hbel HP
                  go_wp2
                  go_roundw
                  case rel => exact ⟨ps ++ [(p, (n - p))], k + 1, p + (n - p), by go_num, by go_num, HK2, by omega, HP2, by omega, by omega, HR1, HR2⟩
                  case measure => simp [intOf]; omega
          · obtain rfl : p = n := by omega
            have OW := hown
            go_wp2
            go_ret
            exact ⟨_, ps, rfl, OW.out, HP.out, by rw [HK.out]; exact hk, hbel.out⟩

set_option maxHeartbeats 4000000 in
set_option maxRecDepth 100000 in
theorem cut_many (a : Option Addr) (n cap : Nat) (l : List Int) (ca : Option Addr) (cn ccap : Nat) (cl : List Int) (w : World) (hs : Seg w a n l) (hnc : n ≤ cap) (hc : cap ≤ 9223372036854775807) (hI : SegI w ca cn cl) (hcc : cn ≤ ccap) (hc2 : cn ≤ 9223372036854775807) (hbig : 64 < cn) :
    Calls Tryd.prog 12 #[.slice a n cap, .slice ca cn ccap] w fun r w' => CutPost w a n cap r w' := by
  obtain ⟨i0, hi, hz0, hz1, hz2⟩ := info_parts infoLL
  have HS := hide hs
  have HI := hide hI
  clear hs hI
  have hb64 : decide ((64 : Int) < (cn : Int)) = true := by simp; omega
  go_enter Tryd.func12, Tryd.ntmps12
  go_wp2
  go_loopw [5, 6] (fun sv iv wr => ∃ (s : Bool) (k : Nat), sv = .bool s ∧ iv = .int .i64 (k : Int) ∧ k ≤ 64 ∧ Hid (s = true → 0 < 64) ∧ w = wr) (fun _ iv _ => 64 - (intOf iv).toNat)
  case atStart => exact ⟨false, 0, rfl, rfl, Nat.zero_le _, (fun h => by cases h), rfl⟩
  case round =>
    obtain ⟨s, k, rfl, rfl, hk, HZ, rfl⟩ := hrel
    by_cases hlt : k < 64
    · obtain ⟨cb, co, rfl, hcell⟩ := HI.out.2.2.1 (by omega)
      have cc := hcell k (by omega)
      have bb := HI.out.2.2.2 k
      clear hcell
      generalize cl.getD k 0 = x at *
      cases s with
      | true =>
        go_wp2
        go_roundw
        case rel => exact ⟨true, k + 1, rfl, by go_num, by omega, fun _ => by omega, by first | rfl | trivial⟩
        case measure => simp [intOf]; omega
      | false =>
        go_wp2
        go_roundw
        case rel => exact ⟨decide (0 < x), k + 1, rfl, by go_num, by omega, fun _ => by omega, by first | rfl | trivial⟩
        case measure => simp [intOf]; omega
    · cases s with
      | false =>
        clear HZ
        go_wp2_with (first
          | (at_builtin; refine wpList_append_own _ rfl _ _ 24 rfl w.heap.size 22 i0 (.slice none 0 0) 1 24 Tryd.underlying24 hi hz0 hz1 hz2 rfl (by decide) _ _ _ rfl ((World.ownsRow_nil w w.heap.size 22 1).alloc _) ⟨w.heap.size, 0, none⟩ 1 1 [.slice a n cap] rfl rfl (cell_one w _ _) (by intro uu hu; simp at hu; subst hu; rfl) (by unfold maxLen; omega) (by omega) (by simp) ?_))
        intro v' w1 hown' hgrow _
        have OW1 : Hid (w1.ownsRow w.heap.size 22 1 v' [(0, n)].length ([(0, n)].map (pcv a cap))) := by
          show World.ownsRow _ _ _ _ _ _ _
          rw [List.map_cons, pcv_zero]; exact hown'
        have BW1 : Hid (Below w.heap.size w w1) := ((Below.refl _ _).alloc (Nat.le_refl _) _).grown hgrow (by simp) (fun j hj => by cases hj)
        clear hown' hgrow
        go_wp2
        go_ret
        exact ⟨v', [(0, n)], rfl, OW1.out, ⟨rfl, Nat.zero_add n⟩, by simp, BW1.out⟩
      | true =>
        have hpos : 0 < 64 := HZ.out rfl
        clear HZ
        go_wp2
        clear hlt hk
        go_loopw [7, 8, 9] (fun lv tv iv wr => ∃ (ps : List (Nat × Nat)) (k p : Nat), tv = .int .i64 (p : Int) ∧ iv = .int .i64 (k : Int) ∧ Hid (ps.length = k) ∧ p ≤ n ∧ Hid (Pcs 0 ps p) ∧ k ≤ 20001 ∧ (20000 < k → p = n) ∧ Hid (wr.ownsRow w.heap.size 22 1 lv ps.length (ps.map (pcv a cap))) ∧ Hid (Below w.heap.size w wr)) (fun _ _ iv _ => 20001 - (intOf iv).toNat)
        case atStart => exact ⟨[], 0, 0, rfl, rfl, rfl, Nat.zero_le _, rfl, by omega, by omega, World.ownsRow_nil _ _ _ _, Below.refl _ _⟩
        case round =>
          obtain ⟨ps, k, p, rfl, rfl, HK, hp, HP, hk, hend, hown, hbel⟩ := hrel
          have hsz := hbel.out.size
          by_cases hlt : p < n
          · obtain ⟨ba, oa, rfl, _⟩ := HS.out.2.2 (by omega)
            obtain ⟨cb, co, rfl, hcell⟩ := HI.out.2.2.1 (by omega)
            have hk2 : k ≤ 20000 := by omega
            obtain ⟨qa, qc, hq⟩ := own_shape hown.out
            subst hq
            rw [HK.out] at hown ⊢
            obtain ⟨j, hj⟩ : ∃ j, k % 64 = j := ⟨_, rfl⟩
            have hjl : j < 64 := by rw [← hj]; exact Nat.mod_lt _ hpos
            have j1 : (k : Int) % 64 = (j : Int) := by rw [← hj]; simp
            have j2 : Int.tmod (k : Int) 64 = (j : Int) := by rw [Int.tmod_eq_emod_of_nonneg (by omega)]; exact j1
            have cc := hcell j (by omega)
            have bb := HI.out.2.2.2 j
            have cc1 : wr.cell? ⟨cb, co + j, none⟩ = some (.int .i64 (cl.getD j 0)) := by rw [hbel.out.cell (p := ⟨cb, co + j, none⟩) (cell_lt cc)]; exact cc
            have hpc : ¬ p = cap := by omega
            clear hcell hj cc hend HS HI
            generalize cl.getD j 0 = x at *
            by_cases hx : x < 0
            · by_cases h2 : k < 20000
              · clear bb
                go_wp2_with (first
                  | (at_builtin; refine wpList_append_own _ rfl _ _ 24 rfl w.heap.size 22 i0 (.slice none 0 0) 1 24 Tryd.underlying24 hi hz0 hz1 hz2 rfl (by decide) _ _ _ rfl (hown.out.alloc _) ⟨wr.heap.size, 0, none⟩ 1 1 [.slice (some ⟨ba, oa + p, none⟩) 0 (cap - p)] rfl rfl (cell_one wr _ _) (by intro uu hu; simp at hu; subst hu; rfl) (by unfold maxLen; omega) (by omega) (by simp; omega) ?_))
                intro v' w1 hown' hgrow _
                have HR1 : Hid (w1.ownsRow w.heap.size 22 1 v' (ps ++ [(p, 0)]).length ((ps ++ [(p, 0)]).map (pcv (some ⟨ba, oa, none⟩) cap))) := by
                  show World.ownsRow _ _ _ _ _ _ _
                  rw [List.length_append, List.map_append, HK.out, pcv_at]; exact hown'
                have HR2 : Hid (Below w.heap.size w w1) := (hbel.out.alloc hsz _).grown hgrow (by simp; omega) (fun j hj => (hown.out.lt j hj).1)
                have HP2 : Hid (Pcs 0 (ps ++ [(p, 0)]) (p + 0)) := HP.out.more
                have HK2 : Hid ((ps ++ [(p, 0)]).length = k + 1) := by show _ = _; rw [List.length_append, HK.out]; rfl
                clear hown' hgrow hown hbel HP
                go_wp2
                go_roundw
                case rel => exact ⟨ps ++ [(p, 0)], k + 1, p + 0, by go_num, by go_num, HK2, by omega, HP2, by omega, by omega, HR1, HR2⟩
                case measure => simp [intOf]; omega
              · clear bb
                go_wp2_with (first
                  | (at_builtin; refine wpList_append_own _ rfl _ _ 24 rfl w.heap.size 22 i0 (.slice none 0 0) 1 24 Tryd.underlying24 hi hz0 hz1 hz2 rfl (by decide) _ _ _ rfl (hown.out.alloc _) ⟨wr.heap.size, 0, none⟩ 1 1 [.slice (some ⟨ba, oa + p, none⟩) (n - p) (cap - p)] rfl rfl (cell_one wr _ _) (by intro uu hu; simp at hu; subst hu; rfl) (by unfold maxLen; omega) (by omega) (by simp; omega) ?_))
                intro v' w1 hown' hgrow _
                have HR1 : Hid (w1.ownsRow w.heap.size 22 1 v' (ps ++ [(p, (n - p))]).length ((ps ++ [(p, (n - p))]).map (pcv (some ⟨ba, oa, none⟩) cap))) := by
                  show World.ownsRow _ _ _ _ _ _ _
                  rw [List.length_append, List.map_append, HK.out, pcv_at]; exact hown'
                have HR2 : Hid (Below w.heap.size w w1) := (hbel.out.alloc hsz _).grown hgrow (by simp; omega) (fun j hj => (hown.out.lt j hj).1)
                have HP2 : Hid (Pcs 0 (ps ++ [(p, (n - p))]) (p + (n - p))) := HP.out.more
                have HK2 : Hid ((ps ++ [(p, (n - p))]).length = k + 1) := by show _ = _; rw [List.length_append, HK.out]; rfl
                clear hown' hgrow hown hbel HP
                go_wp2
                go_roundw
                case rel => exact ⟨ps ++ [(p, (n - p))], k + 1, p + (n - p), by go_num, by go_num, HK2, by omega, HP2, by omega, by omega, HR1, HR2⟩
                case measure => simp [intOf]; omega
            · obtain ⟨m, rfl⟩ := Int.eq_ofNat_of_zero_le (show 0 ≤ x by omega)
              by_cases hm : n < p + m
              · have hm2 : (n : Int) - (p : Int) < (m : Int) := by omega
                go_wp2_with (first
                  | (at_builtin; refine wpList_append_own _ rfl _ _ 24 rfl w.heap.size 22 i0 (.slice none 0 0) 1 24 Tryd.underlying24 hi hz0 hz1 hz2 rfl (by decide) _ _ _ rfl (hown.out.alloc _) ⟨wr.heap.size, 0, none⟩ 1 1 [.slice (some ⟨ba, oa + p, none⟩) (n - p) (cap - p)] rfl rfl (cell_one wr _ _) (by intro uu hu; simp at hu; subst hu; rfl) (by unfold maxLen; omega) (by omega) (by simp; omega) ?_))
                intro v' w1 hown' hgrow _
                have HR1 : Hid (w1.ownsRow w.heap.size 22 1 v' (ps ++ [(p, (n - p))]).length ((ps ++ [(p, (n - p))]).map (pcv (some ⟨ba, oa, none⟩) cap))) := by
                  show World.ownsRow _ _ _ _ _ _ _
                  rw [List.length_append, List.map_append, HK.out, pcv_at]; exact hown'
                have HR2 : Hid (Below w.heap.size w w1) := (hbel.out.alloc hsz _).grown hgrow (by simp; omega) (fun j hj => (hown.out.lt j hj).1)
                have HP2 : Hid (Pcs 0 (ps ++ [(p, (n - p))]) (p + (n - p))) := HP.out.more
                have HK2 : Hid ((ps ++ [(p, (n - p))]).length = k + 1) := by show _ = _; rw [List.length_append, HK.out]; rfl
                clear hown' hgrow hown hbel HP
                go_wp2
                go_roundw
                case rel => exact ⟨ps ++ [(p, (n - p))], k + 1, p + (n - p), by go_num, by go_num, HK2, by omega, HP2, by omega, by omega, HR1, HR2⟩
                case measure => simp [intOf]; omega
              · have hm2 : ¬ ((n : Int) - (p : Int) < (m : Int)) := by omega
                by_cases h2 : k < 20000
                · have h2' := h2
                  clear h2'
                  go_wp2_with (first
                    | (at_builtin; refine wpList_append_own _ rfl _ _ 24 rfl w.heap.size 22 i0 (.slice none 0 0) 1 24 Tryd.underlying24 hi hz0 hz1 hz2 rfl (by decide) _ _ _ rfl (hown.out.alloc _) ⟨wr.heap.size, 0, none⟩ 1 1 [.slice (some ⟨ba, oa + p, none⟩) m (cap - p)] rfl rfl (cell_one wr _ _) (by intro uu hu; simp at hu; subst hu; rfl) (by unfold maxLen; omega) (by omega) (by simp; omega) ?_))
                  intro v' w1 hown' hgrow _
                  have HR1 : Hid (w1.ownsRow w.heap.size 22 1 v' (ps ++ [(p, m)]).length ((ps ++ [(p, m)]).map (pcv (some ⟨ba, oa, none⟩) cap))) := by
                    show World.ownsRow _ _ _ _ _ _ _
                    rw [List.length_append, List.map_append, HK.out, pcv_at]; exact hown'
                  have HR2 : Hid (Below w.heap.size w w1) := (hbel.out.alloc hsz _).grown hgrow (by simp; omega) (fun j hj => (hown.out.lt j hj).1)
                  have HP2 : Hid (Pcs 0 (ps ++ [(p, m)]) (p + m)) := HP.out.more
                  have HK2 : Hid ((ps ++ [(p, m)]).length = k + 1) := by show _ = _; rw [List.length_append, HK.out]; rfl
                  clear hown' hgrow hown hbel HP
                  go_wp2
                  go_roundw
                  case rel => exact ⟨ps ++ [(p, m)], k + 1, p + m, by go_num, by go_num, HK2, by omega, HP2, by omega, by omega, HR1, HR2⟩
                  case measure => simp [intOf]; omega
                · have h2' := h2
                  clear h2'
                  go_wp2_with (first
                    | (at_builtin; refine wpList_append_own _ rfl _ _ 24 rfl w.heap.size 22 i0 (.slice none 0 0) 1 24 Tryd.underlying24 hi hz0 hz1 hz2 rfl (by decide) _ _ _ rfl (hown.out.alloc _) ⟨wr.heap.size, 0, none⟩ 1 1 [.slice (some ⟨ba, oa + p, none⟩) (n - p) (cap - p)] rfl rfl (cell_one wr _ _) (by intro uu hu; simp at hu; subst hu; rfl) (by unfold maxLen; omega) (by omega) (by simp; omega) ?_))
                  intro v' w1 hown' hgrow _
                  have HR1 : Hid (w1.ownsRow w.heap.size 22 1 v' (ps ++ [(p, (n - p))]).length ((ps ++ [(p, (n - p))]).map (pcv (some ⟨ba, oa, none⟩) cap))) := by
                    show World.ownsRow _ _ _ _ _ _ _
                    rw [List.length_append, List.map_append, HK.out, pcv_at]; exact hown'
                  have HR2 : Hid (Below w.heap.size w w1) := (hbel.out.alloc hsz _).grown hgrow (by simp; omega) (fun j hj => (hown.out.lt j hj).1)
                  have HP2 : Hid (Pcs 0 (ps ++ [(p, (n - p))]) (p + (n - p))) := HP.out.more
                  have HK2 : Hid ((ps ++ [(p, (n - p))]).length = k + 1) := by show _ = _; rw [List.length_append, HK.out]; rfl
                  clear hown' hgrow hown hbel HP
                  go_wp2
                  go_roundw
                  case rel => exact ⟨ps ++ [(p, (n - p))], k + 1, p + (n - p), by go_num, by go_num, HK2, by omega, HP2, by omega, by omega, HR1, HR2⟩
                  case measure => simp [intOf]; omega
          · obtain rfl : p = n := by omega
            have OW := hown
            go_wp2
            go_ret
            exact ⟨_, ps, rfl, OW.out, HP.out, by rw [HK.out]; exact hk, hbel.out⟩

theorem cut_any (a : Option Addr) (n cap : Nat) (l : List Int) (ca : Option Addr) (cn ccap : Nat) (cl : List Int) (w : World) (hs : Seg w a n l) (hnc : n ≤ cap) (hc : cap ≤ maxLen) (hI : SegI w ca cn cl) (hcc : cn ≤ ccap) :
    Calls Tryd.prog 12 #[.slice a n cap, .slice ca cn ccap] w fun r w' => CutPost w a n cap r w' := by
  have h2 := hI.2.1
  unfold maxLen at hc h2
  by_cases h : cn ≤ 64
  · exact cut_few a n cap l ca cn ccap cl w hs hnc (by omega) hI hcc (by omega) h
  · exact cut_many a n cap l ca cn ccap cl w hs hnc (by omega) hI hcc (by omega) (by omega)
end Go.Proofs.YtiajkdjljilndaaDoor
