/- Texts of the proof, joined. -/
import Derived.Test.YtnogdjpbnhnmaaaGreatDoorJ38
import Derived.Test.YtnogdjpbnhnmaaaGreatDoorJ40
import Derived.Test.YtnogdjpbnhnmaaaGreatDoorJ34
import Derived.Test.YtnogdjpbnhnmaaaGreatDoorJ15
/- The contract of the document's own Pack. -/
namespace Go.Proofs.YtnogdjpbnhnmaaaGreatDoor
open Go.RowKit Go.Wire1

theorem pack_bad {v : Int} {l : List Int} (h1 : ¬ v = 1) (h2 : ¬ v = 2) : packE v l = 2 ∧ packR v l = [] := by
  have h : packE v l = 2 := by unfold packE; rw [if_neg (by omega)]
  exact ⟨h, by unfold packR; rw [if_neg (by omega)]⟩
theorem pack_31 {v : Int} {l : List Int} (h : v = 1 ∨ v = 2) (hw : okW l.length = false) : packE v l = 31 ∧ packR v l = [] := by
  have h : packE v l = 31 := by unfold packE fault; rw [if_pos h, hw]; rfl
  exact ⟨h, by unfold packR; rw [if_neg (by omega)]⟩
theorem pack_32 {v : Int} {l : List Int} (h : v = 1 ∨ v = 2) (hw : okW l.length = true) (ho : okL l = false) : packE v l = 32 ∧ packR v l = [] := by
  have h : packE v l = 32 := by unfold packE fault; rw [if_pos h, hw, ho]; rfl
  exact ⟨h, by unfold packR; rw [if_neg (by omega)]⟩
theorem pack_ok {v : Int} {l : List Int} (h : v = 1 ∨ v = 2) (hw : okW l.length = true) (ho : okL l = true) : packE v l = 0 ∧ packR v l = packL v l := by
  have h : packE v l = 0 := by unfold packE fault; rw [if_pos h, hw, ho]; rfl
  exact ⟨h, by unfold packR; rw [if_pos h]⟩

set_option maxHeartbeats 2000000 in
set_option maxRecDepth 100000 in
theorem rpack_any (v : Int) (a : Option Addr) (n cap : Nat) (l : List Int) (w : World) (h : SegI w a n l) :
    Calls Tryz.prog 33 #[.int .i64 v, .slice a n cap] w fun e w' => ∃ u, e = .returned (.tuple #[u, .int .i64 (packE v l : Int)]) ∧ w'.ownsRow w.heap.size 5 1 u (packR v l).length ((packR v l).map (Value.int .u8)) ∧ Below w.heap.size w w' := by
  have HS : Hid (SegI w a n l) := h
  have HL : Hid (l.length = n) := h.1
  have hm := h.2.1
  clear h
  by_cases hv : v = 1 ∨ v = 2
  · have hbad : ((v != 1) && (v != 2)) = false := by
      rcases hv with rfl | rfl <;> rfl
    have HV : Hid (v = 1 ∨ v = 2) := hv
    have hcase : ((v == 1) = true ∧ v = 1) ∨ ((v == 1) = false ∧ v = 2) := by rcases hv with rfl | rfl; exact .inl ⟨rfl, rfl⟩; exact .inr ⟨rfl, rfl⟩
    rcases hcase with ⟨hb1, rfl⟩ | ⟨hb1, rfl⟩
    · clear hv hbad hb1
      go_enter Tryz.func33, Tryz.ntmps33
      go_wp2_with fail
      refine (width_any _ _ _ _ hm).mono ?_
      rintro e w' ⟨rfl, rfl⟩
      unfold maxLen at hm
      cases hw : okW n with
      | false =>
        have HQ : Hid (packE 1 l = 31 ∧ packR 1 l = []) := pack_31 (.inl rfl) (by rw [HL.out]; exact hw)
        clear hw
        go_wp2
        go_ret2
        exact ⟨_, by rw [HQ.out.1]; rfl, by rw [HQ.out.2]; exact World.ownsRow_nil _ _ _ _, Below.refl _ _⟩
      | true =>
        have hn := of_decide_eq_true hw
        have HW : Hid (okW n = true) := hw
        clear hw
        go_wp2_with fail
        refine (entries_any _ _ _ l _ HS.out).mono ?_
        rintro e w' ⟨rfl, rfl⟩
        cases ho : okL l with
        | false =>
          have HQ : Hid (packE 1 l = 32 ∧ packR 1 l = []) := pack_32 (.inl rfl) (by rw [HL.out]; exact HW.out) ho
          clear ho
          go_wp2
          go_ret2
          exact ⟨_, by rw [HQ.out.1]; rfl, by rw [HQ.out.2]; exact World.ownsRow_nil _ _ _ _, Below.refl _ _⟩
        | true =>
          have HO : Hid (okL l = true) := ho
          have HQ : Hid (packE 1 l = 0 ∧ packR 1 l = plainK l n) := by
            have := pack_ok (v := 1) (.inl rfl) (by rw [HL.out]; exact HW.out) ho
            exact ⟨this.1, by rw [this.2]; unfold packL; rw [if_pos rfl, HL.out]⟩
          clear ho HV
          go_wp2
          go_loopw [8, 10, 11, 12] (fun u wo bf i wr => ∃ k wn : Nat, i = .int .i64 (k : Int) ∧ k ≤ n ∧ wo = .int .u64 (wn : Int) ∧ Hid (wn = 2 ^ k) ∧ (∃ p : Int, bf = .int .i64 p) ∧ wr.ownsRow w.heap.size 5 1 u (plainK l k).length ((plainK l k).map (Value.int .u8)) ∧ Below w.heap.size w wr) (fun _ _ _ i _ => n - (intOf i).toNat)
          case atStart => exact ⟨0, 1, rfl, Nat.zero_le _, rfl, rfl, ⟨0, rfl⟩, World.ownsRow_nil _ _ _ _, Below.refl _ _⟩
          case round =>
            obtain ⟨k, wn, rfl, hk, rfl, HWN, ⟨p, rfl⟩, hown, hbel⟩ := hrel
            have hwn : wn ≤ 128 := by rw [HWN.out]; exact pow7 (by omega)
            by_cases hlt : k < n
            · obtain ⟨ba, oa, rfl, hca⟩ := (HS.out.below hbel (Nat.le_refl _)).2.2.1 (by omega)
              have ca := hca k hlt
              have ca0 := HS.out.2.2.1 (by omega)
              have hx := okL_at HO.out k
              have hpl := (plainK_len HO.out k).2
              obtain ⟨y, hy⟩ := Int.eq_ofNat_of_zero_le hx.1
              have HT : Hid (plainK l k ++ enc y = plainK l (k + 1)) := by show _ = _; simp only [plainK]; rw [hy]; rfl
              have HWN' : Hid (wn * 2 = 2 ^ (k + 1)) := by show _ = _; rw [HWN.out, Nat.pow_succ]
              rw [hy] at ca hx
              have hy2 : y ≤ 1048576 := by omega
              clear hy hx hca ca0
              generalize plainK l k = pre at *
              go_wp2_with fail
              refine (rputUint_any y _ (by omega)).mono ?_
              rintro e w2 ⟨v2, rfl, hown2, hb2⟩
              have hle := enc_le y (by omega)
              obtain ⟨a2, c2, rfl, hc2, _, hs2⟩ := seg_own hown2
              obtain ⟨a3, c3, hv3, hc3, _, hs3⟩ := seg_own hown
              subst hv3
              have S2 : Hid (Seg w2 a2 (enc y).length (enc y)) := hs2
              have S3 : Hid (Seg w2 a3 pre.length pre) := hs3.below hb2 (Nat.le_refl _)
              have B2 : Hid (Below w.heap.size w w2) := hbel.on hb2 (Nat.le_refl _)
              have ca2 : w2.cell? ⟨ba, oa + k, none⟩ = some (.int .i64 (y : Int)) := by rw [hb2.cell (p := ⟨ba, oa + k, none⟩) (cell_lt ca)]; exact ca
              generalize enc y = E at *
              generalize hE : E.length = m at *
              generalize hP : pre.length = pl at *
              clear hown2 hown hb2 hs2 hs3 ca hbel
              go_wp2_with fail
              refine (add_own (zs := plainK l (k + 1)) B2.out (Nat.le_refl _) S3.out S2.out (by omega) HT.out).mono ?_
              rintro e w3 ⟨u, rfl, hown3, hb3⟩
              have ca3 : w3.cell? ⟨ba, oa + k, none⟩ = some (.int .i64 (y : Int)) := by
                have hlt0 : ba < w.heap.size := by
                  obtain ⟨b', o', e', hc'⟩ := HS.out.2.2.1 (by omega)
                  injection e' with e'
                  injection e' with e1 e2
                  subst e1
                  exact cell_lt (hc' k hlt)
                rw [hb3.cell (p := ⟨ba, oa + k, none⟩) hlt0]
                rw [B2.out.cell (p := ⟨ba, oa + k, none⟩) hlt0] at ca2
                exact ca2
              clear ca2 S2 S3 B2
              go_wp2
              go_roundw
              case rel => exact ⟨k + 1, wn * 2, by go_num, by omega, by go_num, HWN', ⟨_, rfl⟩, hown3, hb3⟩
              case measure => simp [intOf]; omega
            · obtain rfl : n = k := by omega
              have O1 := hide hown
              have BB : Hid (Below w.heap.size w wr) := hbel
              clear hown hbel
              go_wp2
              go_ret2
              exact ⟨_, by rw [HQ.out.1]; rfl, by rw [HQ.out.2]; exact O1.out, BB.out⟩
    · clear hv hbad hb1
      go_enter Tryz.func33, Tryz.ntmps33
      go_wp2_with fail
      refine (width_any _ _ _ _ hm).mono ?_
      rintro e w' ⟨rfl, rfl⟩
      unfold maxLen at hm
      cases hw : okW n with
      | false =>
        have HQ : Hid (packE 2 l = 31 ∧ packR 2 l = []) := pack_31 (.inr rfl) (by rw [HL.out]; exact hw)
        clear hw
        go_wp2
        go_ret2
        exact ⟨_, by rw [HQ.out.1]; rfl, by rw [HQ.out.2]; exact World.ownsRow_nil _ _ _ _, Below.refl _ _⟩
      | true =>
        have hn := of_decide_eq_true hw
        have HW : Hid (okW n = true) := hw
        clear hw
        go_wp2_with fail
        refine (entries_any _ _ _ l _ HS.out).mono ?_
        rintro e w' ⟨rfl, rfl⟩
        cases ho : okL l with
        | false =>
          have HQ : Hid (packE 2 l = 32 ∧ packR 2 l = []) := pack_32 (.inr rfl) (by rw [HL.out]; exact HW.out) ho
          clear ho
          go_wp2
          go_ret2
          exact ⟨_, by rw [HQ.out.1]; rfl, by rw [HQ.out.2]; exact World.ownsRow_nil _ _ _ _, Below.refl _ _⟩
        | true =>
          have HO : Hid (okL l = true) := ho
          have HQ : Hid (packE 2 l = 0 ∧ packR 2 l = enc (maskK l n) ++ diffK l n) := by
            have := pack_ok (v := 2) (.inr rfl) (by rw [HL.out]; exact HW.out) ho
            exact ⟨this.1, by rw [this.2]; unfold packL Go.Wire1.tight; rw [if_neg (by decide), HL.out]⟩
          clear ho HV
          go_wp2
          obtain ⟨RR, HRR⟩ : ∃ RR, Hid (enc (maskK l n) ++ diffK l n = RR) := ⟨_, rfl⟩
          rw [HRR.out] at HQ
          go_loopw [8, 9, 10, 11, 12] (fun u mk wo bf i wr => ∃ k mm wn : Nat, i = .int .i64 (k : Int) ∧ k ≤ n ∧ mk = .int .u64 (mm : Int) ∧ Hid (mm = maskK l k) ∧ wo = .int .u64 (wn : Int) ∧ Hid (wn = 2 ^ k) ∧ (∃ p : Int, bf = .int .i64 p ∧ Hid (p = prev l k)) ∧ wr.ownsRow w.heap.size 5 1 u (diffK l k).length ((diffK l k).map (Value.int .u8)) ∧ Below w.heap.size w wr) (fun _ _ _ _ i _ => n - (intOf i).toNat)
          case atStart => exact ⟨0, 0, 1, rfl, Nat.zero_le _, rfl, rfl, rfl, rfl, ⟨0, rfl, rfl⟩, World.ownsRow_nil _ _ _ _, Below.refl _ _⟩
          case round =>
            obtain ⟨k, mm, wn, rfl, hk, rfl, HMM, rfl, HWN, ⟨p, rfl, HPV⟩, hown, hbel⟩ := hrel
            have hwn : wn ≤ 128 := by rw [HWN.out]; exact pow7 (by omega)
            have hmm : mm < wn := by rw [HWN.out, HMM.out]; exact maskK_lt l k
            by_cases hlt : k < n
            · obtain ⟨ba, oa, rfl, hca⟩ := (HS.out.below hbel (Nat.le_refl _)).2.2.1 (by omega)
              have ca := hca k hlt
              have hlt0 : ba < w.heap.size := by
                obtain ⟨b', o', e', hc'⟩ := HS.out.2.2.1 (by omega)
                injection e' with e'
                injection e' with e1 e2
                subst e1
                exact cell_lt (hc' k hlt)
              have hx := okL_at HO.out k
              have hp := prev_ok HO.out k
              have hpl := diffK_le HO.out k
              rw [← HPV.out] at hp
              have HWN' : Hid (wn * 2 = 2 ^ (k + 1)) := by show _ = _; rw [HWN.out, Nat.pow_succ]
              clear hca
              by_cases he : l.getD k 0 = p
              · have E1 := maskK_same (l := l) (k := k) (by rw [← HPV.out]; exact he)
                have HM' : Hid (mm = maskK l (k + 1)) := by show _ = _; rw [E1.1]; exact HMM.out
                have HP' : Hid (p = prev l (k + 1)) := by show _ = _; rw [prev_succ, he]
                have HD : Hid (diffK l (k + 1) = diffK l k) := E1.2
                rw [he] at ca
                clear he hx E1
                go_wp2
                go_roundw
                case rel => exact ⟨k + 1, mm, wn * 2, by go_num, by omega, rfl, HM', by go_num, HWN', ⟨p, rfl, HP'⟩, by rw [HD.out]; exact hown, hbel⟩
                case measure => simp [intOf]; omega
              · have E1 := maskK_diff (l := l) (k := k) (by rw [← HPV.out]; exact he)
                have HM' : Hid (mm + wn = maskK l (k + 1)) := by show _ = _; rw [E1.1, ← HMM.out, HWN.out]
                have HD : Hid (diffK l k ++ enc (zig (l.getD k 0 - p)) = diffK l (k + 1)) := by show _ = _; rw [E1.2, ← HPV.out]
                have HP' : Hid (l.getD k 0 = prev l (k + 1)) := by show _ = _; rw [prev_succ]
                have hne : (l.getD k 0 != p) = true := by simpa using he
                clear he E1
                generalize l.getD k 0 = x at *
                generalize diffK l k = pre at *
                go_wp2_with fail
                refine (rputInt_any (x - p) _ (by omega) (by omega)).mono ?_
                rintro e w2 ⟨v2, rfl, hown2, hb2⟩
                have hle := enc_le (zig (x - p)) (zig_lt _ (by omega) (by omega))
                obtain ⟨a2, c2, rfl, hc2, _, hs2⟩ := seg_own hown2
                obtain ⟨a3, c3, hv3, hc3, _, hs3⟩ := seg_own hown
                subst hv3
                have S2 : Hid (Seg w2 a2 (enc (zig (x - p))).length (enc (zig (x - p)))) := hs2
                have S3 : Hid (Seg w2 a3 pre.length pre) := hs3.below hb2 (Nat.le_refl _)
                have B2 : Hid (Below w.heap.size w w2) := hbel.on hb2 (Nat.le_refl _)
                have ca2 : w2.cell? ⟨ba, oa + k, none⟩ = some (.int .i64 x) := by rw [hb2.cell (p := ⟨ba, oa + k, none⟩) (cell_lt ca)]; exact ca
                generalize enc (zig (x - p)) = E at *
                generalize hE : E.length = m at *
                generalize hP : pre.length = pl at *
                clear hown2 hown hb2 hs2 hs3 ca hbel
                go_wp2_with fail
                refine (add_own (zs := diffK l (k + 1)) B2.out (Nat.le_refl _) S3.out S2.out (by omega) HD.out).mono ?_
                rintro e w3 ⟨u, rfl, hown3, hb3⟩
                have ca3 : w3.cell? ⟨ba, oa + k, none⟩ = some (.int .i64 x) := by
                  rw [hb3.cell (p := ⟨ba, oa + k, none⟩) hlt0]
                  rw [B2.out.cell (p := ⟨ba, oa + k, none⟩) hlt0] at ca2
                  exact ca2
                clear ca2 S2 S3 B2
                go_wp2
                go_roundw
                case rel => exact ⟨k + 1, mm + wn, wn * 2, by go_num, by omega, by go_num, HM', by go_num, HWN', ⟨x, rfl, HP'⟩, hown3, hb3⟩
                case measure => simp [intOf]; omega
            · obtain rfl : n = k := by omega
              have hpl := diffK_le HO.out n
              have HR : Hid (enc mm ++ diffK l n = RR) := by show _ = _; rw [HMM.out]; exact HRR.out
              clear HRR
              generalize diffK l n = pre at *
              go_wp2_with fail
              refine (rputUint_any mm _ (by omega)).mono ?_
              rintro e w2 ⟨v2, rfl, hown2, hb2⟩
              have hle := enc_le mm (by omega)
              obtain ⟨a2, c2, rfl, hc2, _, hs2⟩ := seg_own hown2
              obtain ⟨a3, c3, hv3, hc3, _, hs3⟩ := seg_own hown
              subst hv3
              have S2 : Hid (Seg w2 a2 (enc mm).length (enc mm)) := hs2
              have S3 : Hid (Seg w2 a3 pre.length pre) := hs3.below hb2 (Nat.le_refl _)
              have B2 : Hid (Below w.heap.size w w2) := hbel.on hb2 (Nat.le_refl _)
              generalize enc mm = E at *
              generalize hE : E.length = m at *
              generalize hP : pre.length = pl at *
              clear hown2 hown hb2 hs2 hs3 hbel
              go_wp2_with fail
              refine (add_own (zs := RR) B2.out (Nat.le_refl _) S2.out S3.out (by omega) HR.out).mono ?_
              rintro e w3 ⟨u, rfl, hown3, hb3⟩
              have O1 := hide hown3
              have BB : Hid (Below w.heap.size w w3) := hb3
              clear hown3 hb3 S2 S3 B2
              go_wp2
              go_ret2
              exact ⟨_, by rw [HQ.out.1]; rfl, by rw [HQ.out.2]; exact O1.out, BB.out⟩
  · obtain ⟨h1, h2⟩ : ¬ v = 1 ∧ ¬ v = 2 := ⟨fun h => hv (.inl h), fun h => hv (.inr h)⟩
    have HQ : Hid (packE v l = 2 ∧ packR v l = []) := pack_bad h1 h2
    have d1 : (v != 1) = true := by simpa using h1
    have d2 : (v != 2) = true := by simpa using h2
    clear hv h1 h2
    go_enter Tryz.func33, Tryz.ntmps33
    go_wp2
    go_ret2
    exact ⟨_, by rw [HQ.out.1]; rfl, by rw [HQ.out.2]; exact World.ownsRow_nil _ _ _ _, Below.refl _ _⟩

end Go.Proofs.YtnogdjpbnhnmaaaGreatDoor
