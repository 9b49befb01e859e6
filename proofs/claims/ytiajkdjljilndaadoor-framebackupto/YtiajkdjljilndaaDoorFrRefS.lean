/- The contracts of the document's own Seal, and of the statements' helpers room and abc. -/
import Derived.Test.YtiajkdjljilndaaDoorFrRef
import Derived.Laws.AppendOwn
namespace Go.Proofs.YtiajkdjljilndaaDoor
open Go.RowKit Go.Wire1 Go.Crc2 Go.Frm

theorem one_cell (W : World) (z : Int) : ∀ j u, ([.int .u8 z] : List Value)[j]? = some u → (W.alloc (.cells #[.int .u8 z] 5)).cell? ((⟨W.heap.size, 0, none⟩ : Addr).add j) = some u := by
  intro jj uu hj
  match jj, hj with
  | 0, hj => simp at hj; subst hj; simp [Addr.add]
theorem one_one (z : Int) : ∀ v ∈ ([.int .u8 z] : List Value), v.oneCell' = true := by intro uu hu; simp at hu; subst hu; rfl

set_option maxHeartbeats 2000000 in
set_option maxRecDepth 100000 in
theorem rseal_ver (v : Int) (sa : Option Addr) (n cap : Nat) (w : World) (hv : verB v = false) :
    Calls Tryd.prog 27 #[.int .i64 v, .slice sa n cap] w fun r w' => r = .returned (.tuple #[.slice none 0 0, .int .i64 2]) ∧ w = w' := by
  go_enter Tryd.func27, Tryd.ntmps27
  go_wp2_with fail
  refine (rokay_any v _).mono ?_
  rintro r w1 ⟨rfl, rfl⟩
  rw [hv]
  clear hv
  go_wp2
  go_ret2
  exact ⟨rfl, rfl⟩

set_option maxHeartbeats 2000000 in
set_option maxRecDepth 100000 in
theorem rseal_large (v : Int) (sa : Option Addr) (n cap : Nat) (w : World) (hv : verB v = true) (hn : 1048576 < n) (hn63 : n ≤ maxLen) :
    Calls Tryd.prog 27 #[.int .i64 v, .slice sa n cap] w fun r w' => r = .returned (.tuple #[.slice none 0 0, .int .i64 73]) ∧ w = w' := by
  unfold maxLen at hn63
  go_enter Tryd.func27, Tryd.ntmps27
  go_wp2_with fail
  refine (rokay_any v _).mono ?_
  rintro r w1 ⟨rfl, rfl⟩
  rw [hv]
  clear hv
  go_wp2
  go_ret2
  exact ⟨rfl, rfl⟩

set_option maxHeartbeats 2000000 in
set_option maxRecDepth 100000 in
theorem rseal_any (v : Nat) (sa : Option Addr) (n cap : Nat) (l : List Int) (w : World) (hv : v ≤ 2) (hs : Seg w sa n l) (hy : Byt l) (hn : n ≤ 1048576) :
    Calls Tryd.prog 27 #[.int .i64 (v : Int), .slice sa n cap] w fun r w' => ∃ val, r = .returned (.tuple #[val, .int .i64 0]) ∧ w'.ownsRow w.heap.size 5 1 val (frm v l).length ((frm v l).map (Value.int .u8)) ∧ Below w.heap.size w w' := by
  obtain ⟨i0, hi, hz0, hz1, hz2⟩ := info_parts Tryd.info5
  have E : Hid (verB (v : Int) = true) := by show _ = _; unfold verB; simp; omega
  have hnn : (1048576 < (n : Int)) = False := by simp; omega
  have HS := hide hs
  have HY := hide hy
  have HL := hide hs.1
  have hfr : Hid (frm v l = body v l ++ fb (upd 0#32 (body v l))) := rfl
  have hbd : Hid (body v l = ([77, 84, (v : Int)] ++ enc n) ++ l) := by show _ = _; unfold body hdL; rw [hs.1]
  have hby := hide (byt_body v l hv hy)
  obtain ⟨FR, hFR⟩ : ∃ FR, Hid (FR = frm v l) := ⟨_, rfl⟩
  rw [← hFR.out]
  have hel := enc_le n (by omega)
  have HEL := hide hel
  clear hs hy hel
  go_enter Tryd.func27, Tryd.ntmps27
  go_wp2_with fail
  refine (rokay_any (v : Int) _).mono ?_
  rintro r w1 ⟨rfl, rfl⟩
  rw [E.out]
  go_wp2_with (first
        | (at_builtin; refine wpList_append_own _ rfl _ _ 22 rfl w.heap.size 5 i0 (.int .u8 0) 1 1 Tryd.underlying22 hi hz0 hz1 hz2 rfl (by decide) _ _ _ rfl ((World.ownsRow_nil w w.heap.size 5 1).alloc _) ⟨w.heap.size, 0, none⟩ 3 3 [.int .u8 77, .int .u8 84, .int .u8 (v : Int)] rfl rfl ?a1 ?a2 ?a3 ?a4 ?a5 ?_))
  case a1 =>
    intro jj uu hj
    match jj, hj with
    | 0, hj => simp at hj; subst hj; simp [Addr.add]
    | 1, hj => simp at hj; subst hj; simp [Addr.add]
    | 2, hj => simp at hj; subst hj; simp [Addr.add]
  case a2 => intro uu hu; simp at hu; rcases hu with rfl | rfl | rfl <;> rfl
  case a3 => unfold maxLen; omega
  case a4 => omega
  case a5 => simp
  intro v' w1 hown' hgrow _
  have OW1 : Hid (w1.ownsRow w.heap.size 5 1 v' ([77, 84, (v : Int)] : List Int).length (([77, 84, (v : Int)] : List Int).map (Value.int .u8))) := hown'
  have BW1 : Hid (Below w.heap.size w w1) := ((Below.refl _ _).alloc (Nat.le_refl _) _).grown hgrow (by simp) (fun j hj => by cases hj)
  clear hown' hgrow
  go_wp2_with fail
  go_loopw [7, 8] (fun nv lv wr => ∃ (y : Nat) (pre : List Int) (f : Nat), nv = .int .i64 (y : Int) ∧ y ≤ 1048576 ∧ Hid (y < 128 ^ (f + 1)) ∧ pre.length + f = 12 ∧ Hid (pre ++ encF (f + 1) y = [77, 84, (v : Int)] ++ enc n) ∧ Hid (wr.ownsRow w.heap.size 5 1 lv pre.length (pre.map (Value.int .u8))) ∧ Hid (Below w.heap.size w wr)) (fun nv _ _ => (intOf nv).toNat)
  case atStart => exact ⟨n, [77, 84, (v : Int)], 9, rfl, hn, pow10 n (by omega), rfl, rfl, OW1, BW1⟩
  case round =>
    obtain ⟨y, pre, f, rfl, hy1, HP, hf, HE, hown, hbel⟩ := hrel
    have hsz := hbel.out.size
    have hpl : pre.length ≤ 12 := by omega
    have HF := hide hf
    clear hf
    by_cases hc : 128 ≤ y
    · have e1 : (y : Int) % 128 = ((y % 128 : Nat) : Int) := by omega
      have e1t : Int.tmod (y : Int) 128 = ((y % 128 : Nat) : Int) := by rw [Int.tmod_eq_emod_of_nonneg (by omega)]; exact e1
      have e2 : (y : Int) / 128 = ((y / 128 : Nat) : Int) := by omega
      have e2t : Int.tdiv (y : Int) 128 = ((y / 128 : Nat) : Int) := by rw [Int.tdiv_eq_ediv_of_nonneg (by omega)]; exact e2
      have hm : y % 128 < 128 := by omega
      obtain ⟨g, rfl, hg⟩ := pow128 f y HP.out hc
      have HG := hide hg
      have HE2 : Hid ((pre ++ [((y % 128 + 128 : Nat) : Int)]) ++ encF (g + 1) (y / 128) = [77, 84, (v : Int)] ++ enc n) := by
        have := HE.out; rw [encF_big _ _ hc] at this; show _ = _; rw [List.append_assoc]; exact this
      have hd1 : y / 128 < y := by omega
      have hd2 : y / 128 ≤ 1048576 := by omega
      clear hg HP HE
      generalize y % 128 = m at *
      generalize y / 128 = d at *
      have hm2 : (m : Int) + 128 < 256 := by omega
      have ez : ((m + 128 : Nat) : Int) = (m : Int) + 128 := by omega
      rw [ez] at HE2
      go_wp2_with (first
        | (at_builtin; refine wpList_append_own _ rfl _ _ 22 rfl w.heap.size 5 i0 (.int .u8 0) 1 1 Tryd.underlying22 hi hz0 hz1 hz2 rfl (by decide) _ _ _ rfl (hown.out.alloc _) ⟨wr.heap.size, 0, none⟩ 1 1 [.int .u8 ((m : Int) + 128)] rfl rfl (one_cell wr ((m : Int) + 128)) (one_one ((m : Int) + 128)) (by unfold maxLen; omega) (by omega) (by simp; omega) ?_))
      intro v' w1 hown' hgrow _
      have R := push hsz hown.out hbel.out hown' hgrow
      have HR1 := hide R.1
      have HR2 := hide R.2
      clear hown' hgrow hown hbel R
      go_wp2
      go_roundw
      case rel => exact ⟨d, pre ++ [(m : Int) + 128], g, rfl, hd2, HG, by have := HF.out; simp; omega, HE2, HR1, HR2⟩
      case measure => simp [intOf]; omega
    · have HE2 : Hid (pre ++ [(y : Int)] = [77, 84, (v : Int)] ++ enc n) := by have := HE.out; rw [encF_small _ _ (by omega)] at this; exact this
      have hy2 : (y : Int) < 256 := by omega
      have hy3 : ¬ (127 < (y : Int)) := by omega
      go_wp2_with (first
        | (at_builtin; refine wpList_append_own _ rfl _ _ 22 rfl w.heap.size 5 i0 (.int .u8 0) 1 1 Tryd.underlying22 hi hz0 hz1 hz2 rfl (by decide) _ _ _ rfl (hown.out.alloc _) ⟨wr.heap.size, 0, none⟩ 1 1 [.int .u8 (y : Int)] rfl rfl (one_cell wr (y : Int)) (one_one (y : Int)) (by unfold maxLen; omega) (by omega) (by simp; omega) ?_))
      intro v' w1 hown' hgrow _
      have R := push hsz hown.out hbel.out hown' hgrow
      obtain ⟨H3, hH3⟩ : ∃ H3, Hid (H3 = [77, 84, (v : Int)] ++ enc n) := ⟨_, rfl⟩
      rw [HE2.out, ← hH3.out] at R
      have hl3 : H3.length ≤ 13 := by have := HEL.out; rw [hH3.out]; simp; omega
      have OW2 : Hid (w1.ownsRow w.heap.size 5 1 v' (H3 ++ l.take 0).length ((H3 ++ l.take 0).map (Value.int .u8))) := by rw [List.take_zero, List.append_nil]; exact R.1
      have BW2 := hide R.2
      clear hown' hgrow hown hbel R
      go_wp2
      go_loopw [8, 9] (fun lv kv wr => ∃ k : Nat, kv = .int .i64 (k : Int) ∧ k ≤ n ∧ Hid (wr.ownsRow w.heap.size 5 1 lv (H3 ++ l.take k).length ((H3 ++ l.take k).map (Value.int .u8))) ∧ Hid (Below w.heap.size w wr)) (fun _ kv _ => n - (intOf kv).toNat)
      case atStart => exact ⟨0, rfl, Nat.zero_le _, OW2, BW2⟩
      case round =>
        obtain ⟨k, rfl, hk, hown, hbel⟩ := hrel
        have hsz := hbel.out.size
        have htl : (H3 ++ l.take k).length ≤ 13 + n := by rw [List.length_append]; have := List.length_take_le k l; omega
        by_cases hlt : k < n
        · obtain ⟨ba, oa, rfl, hca⟩ := (HS.out.below hbel.out (Nat.le_refl _)).2.2 (by omega)
          have ca : wr.cell? ⟨ba, oa + k, none⟩ = some (.int .u8 (l.getD k 0)) := hca k hlt
          have HT : Hid (H3 ++ l.take (k + 1) = (H3 ++ l.take k) ++ [l.getD k 0]) := by show _ = _; rw [take_next (by have := HL.out; omega), List.append_assoc]
          clear hca
          generalize l.getD k 0 = z at *
          generalize H3 ++ l.take k = pre2 at *
          go_wp2_with (first
            | (at_builtin; refine wpList_append_own _ rfl _ _ 22 rfl w.heap.size 5 i0 (.int .u8 0) 1 1 Tryd.underlying22 hi hz0 hz1 hz2 rfl (by decide) _ _ _ rfl (hown.out.alloc _) ⟨wr.heap.size, 0, none⟩ 1 1 [.int .u8 z] rfl rfl (one_cell wr z) (one_one z) (by unfold maxLen; omega) (by omega) (by simp; omega) ?_))
          intro v' w1 hown' hgrow _
          have R := push hsz hown.out hbel.out hown' hgrow
          rw [← HT.out] at R
          have HR1 := hide R.1
          have HR2 := hide R.2
          clear hown' hgrow hown hbel R
          go_wp2
          go_roundw
          case rel => exact ⟨k + 1, by go_num, by omega, HR1, HR2⟩
          case measure => simp [intOf]; omega
        · have HT : Hid (H3 ++ l.take k = body v l) := by show _ = _; rw [List.take_of_length_le (by have := HL.out; omega), hbd.out, hH3.out]
          rw [HT.out] at hown htl
          obtain ⟨BD, hBD⟩ : ∃ BD, Hid (BD = body v l) := ⟨_, rfl⟩
          rw [← hBD.out] at hown htl
          obtain ⟨ab, cb, rfl, _, _, sgb⟩ := seg_own hown.out
          have SGB := hide sgb
          obtain ⟨bn, hbn⟩ : ∃ bn, BD.length = bn := ⟨_, rfl⟩
          rw [hbn] at SGB hown htl ⊢
          have HBN := hide hbn
          clear sgb hbn
          obtain ⟨u, hu⟩ : ∃ u, Hid (upd 0#32 BD = u) := ⟨_, rfl⟩
          have hF2 : Hid (FR = BD ++ fb u) := by show _ = _; rw [hFR.out, ← hu.out, hBD.out]; rfl
          go_wp2_with fail
          refine (rsum7_any ab bn cb BD wr SGB.out (by rw [hBD.out]; exact hby.out)).mono ?_
          rintro r_ w2 ⟨rfl, rfl⟩
          rw [hu.out]
          have OW3 : Hid (wr.ownsRow w.heap.size 5 1 (.slice ab bn cb) (BD ++ (fb u).take 0).length ((BD ++ (fb u).take 0).map (Value.int .u8))) := by rw [List.take_zero, List.append_nil, HBN.out]; exact hown.out
          clear hown SGB
          go_wp2
          go_loopw [8, 11] (fun lv kv w3 => ∃ k : Nat, kv = .int .i64 (k : Int) ∧ k ≤ 4 ∧ Hid (w3.ownsRow w.heap.size 5 1 lv (BD ++ (fb u).take k).length ((BD ++ (fb u).take k).map (Value.int .u8))) ∧ Hid (Below w.heap.size w w3)) (fun _ kv _ => 4 - (intOf kv).toNat)
          case atStart => exact ⟨0, rfl, Nat.zero_le _, OW3, hbel⟩
          case round =>
            obtain ⟨k4, rfl, hk4, hown, hbel⟩ := hrel
            have hsz := hbel.out.size
            have htl2 : (BD ++ (fb u).take k4).length ≤ 20 + n := by rw [List.length_append, HBN.out]; have := List.length_take_le k4 (fb u); omega
            by_cases hlt4 : k4 < 4
            · have HT4 : Hid (BD ++ (fb u).take (k4 + 1) = (BD ++ (fb u).take k4) ++ [bt u k4]) := by
                show _ = _
                rw [take_next (by rw [fb_len]; exact hlt4), List.append_assoc]
                have : (fb u).getD k4 0 = bt u k4 := by rcases (by omega : k4 = 0 ∨ k4 = 1 ∨ k4 = 2 ∨ k4 = 3) with rfl | rfl | rfl | rfl <;> rfl
                rw [this]
              generalize BD ++ (fb u).take k4 = pre3 at *
              go_wp2_with fail
              refine (rsumByte_any u k4 _ (by omega)).mono ?_
              rintro r_ w5 ⟨rfl, rfl⟩
              generalize bt u k4 = z at *
              go_wp2_with (first
                | (at_builtin; refine wpList_append_own _ rfl _ _ 22 rfl w.heap.size 5 i0 (.int .u8 0) 1 1 Tryd.underlying22 hi hz0 hz1 hz2 rfl (by decide) _ _ _ rfl (hown.out.alloc _) ⟨wr.heap.size, 0, none⟩ 1 1 [.int .u8 z] rfl rfl (one_cell wr z) (one_one z) (by unfold maxLen; omega) (by omega) (by simp; omega) ?_))
              intro v' w1 hown' hgrow _
              have R := push hsz hown.out hbel.out hown' hgrow
              rw [← HT4.out] at R
              have HR1 := hide R.1
              have HR2 := hide R.2
              clear hown' hgrow hown hbel R
              go_wp2
              go_roundw
              case rel => exact ⟨k4 + 1, by go_num, by omega, HR1, HR2⟩
              case measure => simp [intOf]; omega
            · have HT4 : Hid (BD ++ (fb u).take k4 = FR) := by show _ = _; rw [List.take_of_length_le (by rw [fb_len]; omega), hF2.out]
              rw [HT4.out] at hown
              go_wp2
              go_ret2
              exact ⟨_, rfl, hown.out, hbel.out⟩
end Go.Proofs.YtiajkdjljilndaaDoor
