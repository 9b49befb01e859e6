/- The contract of the statements' helper sealed: the frames of payloads one behind the other. -/
import Derived.Test.YtiajkdjljilndaaDoorFrHead
import Derived.Test.YtiajkdjljilndaaDoorOwn2
namespace Go.Proofs.YtiajkdjljilndaaDoor
open Go.RowKit Go.Wire1 Go.Crc2 Go.Frm

theorem take_join_snoc (v : Nat) {ls : List (List Int)} {i : Nat} (h : i < ls.length) : joinF v (ls.take (i + 1)) = joinF v (ls.take i) ++ frm v (ls.getD i []) := by
  rw [List.take_succ_eq_append_getElem h, joinF_snoc]
  simp [List.getD, List.getElem?_eq_getElem h]
theorem joinF_take_le (v : Nat) (ls : List (List Int)) (i : Nat) : (joinF v (ls.take i)).length ≤ (joinF v ls).length := by
  have h : joinF v ls = joinF v (ls.take i) ++ joinF v (ls.drop i) := by rw [← joinF_app, List.take_append_drop]
  rw [h, List.length_append]; omega
theorem cell_oneb (W : World) (x : Int) : ∀ j u, ([.int .u8 x] : List Value)[j]? = some u → (W.alloc (.cells #[.int .u8 x] 5)).cell? ((⟨W.heap.size, 0, none⟩ : Addr).add j) = some u := by
  intro jj uu hj
  match jj, hj with
  | 0, hj => simp at hj; subst hj; simp [Addr.add]
def SdPost (v : Nat) (ls : List (List Int)) (w : World) (r : Ending) (w' : World) : Prop := ∃ a cap, r = .returned (.tuple #[.slice a (joinF v ls).length cap, .int .i64 ((joinF v (ls.take (ls.length - 1))).length : Int), .bool true]) ∧ w'.ownsRow w.heap.size 5 1 (.slice a (joinF v ls).length cap) (joinF v ls).length ((joinF v ls).map (Value.int .u8)) ∧ Below w.heap.size w w'

set_option maxHeartbeats 4000000 in
set_option maxRecDepth 100000 in
theorem sealed_any (v : Nat) (hv : v ≤ 2) (pa : Option Addr) (pn pcap : Nat) (ls : List (List Int)) (w : World) (hs : Chs w pa pn ls) (hl : ∀ p ∈ ls, p.length ≤ 1048576) (hup : (joinF v ls).length ≤ 70368744177664) (hH : Hal w) :
    Calls Tryd.prog 13 #[.int .i64 (v : Int), .slice pa pn pcap] w fun r w' => SdPost v ls w r w' := by
  obtain ⟨i0, hi, hz0, hz1, hz2⟩ := info_parts Tryd.info5
  have HS := hide hs
  have HL := hide hl
  have HUP := hide hup
  have HAL := hide hH
  have hpn : pn ≤ 9223372036854775807 := hs.2.1
  clear hs hl hup hH
  unfold SdPost
  go_enter Tryd.func13, Tryd.ntmps13
  go_wp2
  go_loopw [7, 8, 9] (fun lv tv iv wr => ∃ (i T : Nat), tv = .int .i64 (T : Int) ∧ iv = .int .i64 (i : Int) ∧ i ≤ pn ∧ Hid (T = (joinF v (ls.take (i - 1))).length) ∧ Hid (wr.ownsRow w.heap.size 5 1 lv (joinF v (ls.take i)).length ((joinF v (ls.take i)).map (Value.int .u8))) ∧ Hid (Below w.heap.size w wr)) (fun _ _ iv _ => pn - (intOf iv).toNat)
  case atStart => exact ⟨0, 0, rfl, rfl, Nat.zero_le _, rfl, World.ownsRow_nil _ _ _ _, Below.refl _ _⟩
  case round =>
    obtain ⟨i, T, rfl, rfl, hip, hT, HO, HB⟩ := hrel
    by_cases hlt : i < pn
    · obtain ⟨cb, co, rfl, hc⟩ := HS.out.2.2 (by omega)
      have hil : i < ls.length := by have := HS.out.1; omega
      obtain ⟨xa, xm, xc, hcell, hseg, hmc, hcm, hbyt⟩ := hc i hlt
      have HJN := hide (take_join_snoc v hil)
      have hxl : (ls.getD i []).length ≤ 1048576 := HL.out _ (by rw [List.getD, List.getElem?_eq_getElem hil]; exact List.getElem_mem hil)
      have hJL := joinF_take_le v ls (i + 1)
      rw [HJN.out] at hJL
      have hsl := fun W (h1 : Below w.heap.size w W) => seal_any v xa xm xc (ls.getD i []) W hv (hseg.below h1 (Nat.le_refl _)) hbyt (by rw [← hseg.1]; exact hxl) (HAL.out.later h1)
      have hfl := frm_long v (ls.getD i [])
      rw [hseg.1] at hfl
      obtain ⟨L0, hL0⟩ : ∃ L0, joinF v (ls.take i) = L0 := ⟨_, rfl⟩
      rw [hL0] at HO HJN hJL
      have hxb : xm ≤ 1048576 := by rw [← hseg.1]; exact hxl
      generalize frm v (ls.getD i []) = F at *
      rw [List.length_append] at hJL
      obtain ⟨fl, hF⟩ : ∃ fl, F.length = fl := ⟨_, rfl⟩
      rw [hF] at hfl hJL hsl
      have HSL := hide hsl
      have HF := hide hF
      have hflt : ¬ ((fl : Int) < 8 + (xm : Int)) := by omega
      have hlb : L0.length + fl ≤ 70368744177664 := by have := HUP.out; omega
      have hcell2 : wr.cell? ⟨cb, co + i, none⟩ = some (.slice xa xm xc) := by rw [HB.out.cell (p := ⟨cb, co + i, none⟩) (cell_lt hcell)]; exact hcell
      obtain ⟨la, lc, rfl⟩ := own_shape HO.out
      have hTn : Hid (L0.length = (joinF v (ls.take (i + 1 - 1))).length) := by show _ = _; rw [Nat.add_sub_cancel, hL0]
      obtain ⟨l0, hl0⟩ : ∃ l0, L0.length = l0 := ⟨_, rfl⟩
      rw [hl0] at HO hTn hlb ⊢
      have HL0 := hide hl0
      clear hc hcell hseg hbyt hsl hfl hF hxl hJL hL0 hl0 hil hT
      go_wp2_with fail
      refine (HSL.out wr HB.out).mono ?_
      rintro r w2 ⟨g, c, rfl, hg, hO2, hb2⟩
      have HSG := hide (own_segN hO2)
      have hcap := own_cap hO2
      unfold maxLen at hcap
      have HO2 : Hid (w2.ownsRow w.heap.size 5 1 (.slice la l0 lc) l0 (L0.map (Value.int .u8))) := own_below HO.out hb2 (Nat.le_refl _)
      have HFAR : Hid ((Value.slice la l0 lc).ownBlock ≠ some g) := by
        show _ ≠ _
        intro e
        have := (HO.out.lt g e).2
        omega
      have HB2 : Hid (Below w.heap.size w w2) := HB.out.trans (hb2.mono HB.out.size)
      have hcell3 : w2.cell? ⟨cb, co + i, none⟩ = some (.slice xa xm xc) := by rw [hb2.cell (p := ⟨cb, co + i, none⟩) (cell_lt hcell2)]; exact hcell2
      clear hO2 hb2 HO HB hg hcell2
      go_wp2_with fail
      refine (num_any 0 _).mono ?_
      rintro r w3 ⟨rfl, rfl⟩
      go_wp2
      clear hcell3
      go_loopw [7, 12] (fun lv jv wq => ∃ (j : Nat), jv = .int .i64 (j : Int) ∧ j ≤ fl ∧ Hid (Seg wq (some ⟨g, 0, none⟩) fl F) ∧ Hid (wq.ownsRow w.heap.size 5 1 lv (l0 + j) ((L0 ++ F.take j).map (Value.int .u8))) ∧ Hid (lv.ownBlock ≠ some g) ∧ Hid (Below w.heap.size w wq)) (fun _ jv _ => fl - (intOf jv).toNat)
      case atStart => exact ⟨0, rfl, Nat.zero_le _, HSG, by simpa using HO2, HFAR, HB2⟩
      case round =>
        clear HSG HO2 HFAR HB2
        obtain ⟨j, rfl, hj, HSG, HO2, HFAR, HB2⟩ := hrel
        by_cases hjl : j < fl
        · obtain ⟨ga, go, hge, hgc⟩ := HSG.out.2.2 (by omega)
          simp only [Option.some.injEq, Addr.mk.injEq, and_true] at hge
          obtain ⟨rfl, rfl⟩ := hge
          have cc := hgc j hjl
          rw [Nat.zero_add] at cc
          have HTK : Hid ((L0 ++ F.take (j + 1)) = (L0 ++ F.take j) ++ [F.getD j 0]) := by
            show _ = _
            have hjF : j < F.length := by rw [HF.out]; exact hjl
            rw [List.take_succ_eq_append_getElem hjF, List.append_assoc]
            simp [List.getD, List.getElem?_eq_getElem hjF]
          clear hgc
          generalize F.getD j 0 = x at *
          obtain ⟨Lj, hLj⟩ : ∃ Lj, L0 ++ F.take j = Lj := ⟨_, rfl⟩
          rw [hLj] at HO2 HTK
          clear hLj
          have hsz := HB2.out.size
          have hglt : g < wr.heap.size := cell_lt cc
          go_wp2_with (first
            | (at_builtin; refine wpList_append_own2 rfl _ _ 22 rfl w.heap.size 5 i0 (.int .u8 0) 1 1 Tryd.underlying22 hi hz0 hz1 hz2 rfl (by decide) _ _ _ rfl (HO2.out.alloc _) ⟨wr.heap.size, 0, none⟩ 1 1 [.int .u8 x] rfl rfl (cell_oneb wr x) (by intro uu hu; simp at hu; subst hu; rfl) (by decide) (by unfold maxLen; omega) (by omega) (by simp; omega) ?_))
          intro v' w4 hown' hgrow hwh
          have HO3 : Hid (w4.ownsRow w.heap.size 5 1 v' (l0 + (j + 1)) ((L0 ++ F.take (j + 1)).map (Value.int .u8))) := by
            rw [HTK.out, List.map_append]; exact hown'
          have hgb : w4.heap[g]? = wr.heap[g]? := by
            rw [hgrow.block g (by simp; omega) (fun e => HFAR.out e.symm)]
            exact Below.heap_alloc wr _ g hglt
          have HSG3 : Hid (Seg w4 (some ⟨g, 0, none⟩) fl F) := by
            refine ⟨HSG.out.1, HSG.out.2.1, fun hn => ?_⟩
            obtain ⟨ga, go, e, hcc⟩ := HSG.out.2.2 hn
            cases e
            exact ⟨g, 0, rfl, fun j hj => by rw [World.cell?_of_block (w := wr) hgb]; exact hcc j hj⟩
          have HF3 : Hid (v'.ownBlock ≠ some g) := by
            show _ ≠ _
            intro e
            rcases hwh with h | h
            · rw [h] at e; exact HFAR.out e
            · rw [h] at e
              simp only [Option.some.injEq] at e
              omega
          have HB3 : Hid (Below w.heap.size w w4) := (HB2.out.alloc hsz _).grown hgrow (by simp; omega) (fun j hj => (HO2.out.lt j hj).1)
          clear hown' hgrow hwh hgb HTK HSG HO2 HFAR HB2 cc
          go_wp2
          go_roundw
          case rel => exact ⟨j + 1, by go_num, by omega, HSG3, HO3, HF3, HB3⟩
          case measure => simp [intOf]; omega
        · obtain rfl : j = fl := by omega
          have HO4 : Hid (wr.ownsRow w.heap.size 5 1 u7 (joinF v (ls.take (i + 1))).length ((joinF v (ls.take (i + 1))).map (Value.int .u8))) := by
            rw [HJN.out, List.length_append, HL0.out, HF.out]
            have := HO2.out
            rw [List.take_of_length_le (Nat.le_of_eq HF.out)] at this
            exact this
          go_wp2
          go_roundw
          case rel => exact ⟨i + 1, l0, rfl, by go_num, by omega, hTn, HO4, HB2⟩
          case measure => simp [intOf]; omega
    · obtain rfl : i = pn := by omega
      have htk : ls.take i = ls := List.take_of_length_le (Nat.le_of_eq HS.out.1)
      have hT2 : Hid (T = (joinF v (ls.take (ls.length - 1))).length) := by rw [HS.out.1]; exact hT
      rw [htk] at HO
      obtain ⟨la, lc, rfl⟩ := own_shape HO.out
      go_wp2
      go_ret3
      refine ⟨la, lc, ?_, HO.out, HB.out⟩
      rw [hT2.out]; rfl
end Go.Proofs.YtiajkdjljilndaaDoor
