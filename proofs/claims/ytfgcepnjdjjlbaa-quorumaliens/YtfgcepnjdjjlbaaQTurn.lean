/- The contract of the statements' own turned. -/
import Derived.Test.YtfgcepnjdjjlbaaQAlike
namespace Go.Proofs.Ytfgcepnjdjjlbaa
open Go.RowKit Go.Wire1

def turnQ (i : Nat) (vs : List Vt) : List Vt := (vs.drop i).reverse ++ vs.take i
theorem turnQ_perm (i : Nat) (vs : List Vt) : (turnQ i vs).Perm vs := by
  unfold turnQ
  exact ((List.reverse_perm _).append_right _).trans ((List.perm_append_comm).trans (by rw [List.take_append_drop]))
theorem drop_rev {vs : List Vt} {j : Nat} {v : Vt} (h : vs[j]? = some v) : (vs.drop j).reverse = (vs.drop (j + 1)).reverse ++ [v] := by
  obtain ⟨hl, e⟩ := List.getElem?_eq_some_iff.1 h
  rw [List.drop_eq_getElem_cons hl, e, List.reverse_cons]
set_option maxHeartbeats 4000000 in
set_option maxRecDepth 100000 in
theorem turned_any (a : Option Addr) (N c : Nat) (vs : List Vt) (i : Nat) (hiN : i ≤ N) (w : World) (hv : VRow w a N vs) :
    Calls Try.prog 12 #[.slice a N c, .int .i64 (i : Int)] w fun e w' => ∃ a' c', e = .returned (.slice a' N c') ∧ VSeg w' a' N (turnQ i vs) ∧ Below w.heap.size w w' := by
  obtain ⟨i0, hi, hz0, hz1, hz2⟩ := info_parts infoVQ
  have HV := hide hv
  have HN : Hid (vs.length = N) := hv.len
  have htop := hv.top
  have hlenN := hv.len
  clear hv
  go_enter Try.func12, Try.ntmps12
  go_wp2
  go_loopw [5, 6] (fun x y wr => ∃ m : Nat, y = .int .i64 ((m : Int) - 1) ∧ i ≤ m ∧ m ≤ N ∧ Hid (wr.ownsRow w.heap.size 31 15 x ((vs.drop m).reverse).length ((((vs.drop m).reverse).map vcs).flatten)) ∧ Hid (Below w.heap.size w wr)) (fun _ y _ => (intOf y + 1).toNat)
  case atStart => exact ⟨N, rfl, hiN, Nat.le_refl _, by show World.ownsRow _ _ _ _ _ _ _; rw [List.drop_of_length_le (by omega)]; exact World.ownsRow_nil _ _ _ _, Below.refl _ _⟩
  case round =>
    obtain ⟨m, rfl, him, hmN, HO, HB⟩ := hrel
    by_cases hlt : i < m
    · obtain ⟨j, rfl⟩ : ∃ j, m = j + 1 := ⟨m - 1, by omega⟩
      rw [show ((j + 1 : Nat) : Int) - 1 = (j : Int) by omega]
      have hjN : j < N := by omega
      have hij : (i : Int) ≤ (j : Int) := by omega
      obtain ⟨v, hkv⟩ : ∃ v, vs[j]? = some v := ⟨_, List.getElem?_eq_getElem (by have := HN.out; omega)⟩
      obtain ⟨b, off, rfl, hat⟩ := (HV.out.below HB.out (Nat.le_refl _)).frAt (by omega)
      have HRG : Hid (wr.rangeAt b (off + j * 15) (vcs v)) := hat j v hkv
      have HE : Hid ((vs.drop j).reverse = (vs.drop (j + 1)).reverse ++ [v]) := by show _ = _; exact drop_rev hkv
      have hll : ((vs.drop (j + 1)).reverse).length ≤ N := by simp; omega
      clear hat hkv
      have HO1 := hide (vcs_one v)
      have HOX := HO
      obtain ⟨ob, hob⟩ : ∃ ob, Hid (u5.ownBlock = ob) := ⟨_, rfl⟩
      have HOB : Hid (∀ j, ob = some j → w.heap.size ≤ j ∧ j < wr.heap.size) := fun j hj => by rw [← hob.out] at hj; exact HO.out.lt j hj
      have hww := HB.out.size
      have HL1 : Hid (((vs.drop (j + 1)).reverse).length + 1 ≤ N) := by show _ ≤ _; simp; omega
      have hl1 := HL1.out
      clear HO
      generalize hfl : (vs.drop (j + 1)).reverse = fl at *
      go_wp2_with (first | (refine wpList_load_mid rfl 31 _ rfl b (off + j * 15) rfl (vcs v) _ HRG.out Try.underlying31 rfl (by kernel_rfl) ?_) | (refine wpList_buildOne rfl 25 31 _ rfl 15 (vcs v) rfl rfl i0 _ Try.underlying25 hi hz0 hz1 (by omega) (by omega) ?_) | (at_builtin; refine wpList_append_own_at _ rfl _ _ 25 rfl w.heap.size 31 i0 _ 15 168 Try.underlying25 hi hz0 hz1 hz2 (by kernel_rfl) (by decide) u5 _ _ rfl (World.ownsRow.alloc HOX.out _) ⟨wr.heap.size, 0, none⟩ 1 1 (vcs v) rfl rfl (rowVQ_new _ _) HO1.out (by unfold maxLen; omega) (by omega) (by simp; omega) ?_; intro v' w4 hown4 hgrow4 hnil4 hloc4; have HO4 := hide hown4; have HG4 := hide hgrow4; clear hown4 hgrow4 hnil4 hloc4))
      have HO5 : Hid (w4.ownsRow w.heap.size 31 15 v' ((vs.drop j).reverse).length ((((vs.drop j).reverse).map vcs).flatten)) := by
        show World.ownsRow _ _ _ _ _ _ _
        rw [HE.out, List.map_append, List.flatten_append, List.length_append]
        have := HO4.out
        simpa using this
      have HB4 : Hid (Below w.heap.size w w4) := (HB.out.alloc (by omega) _).grown HG4.out (by simp; omega) (fun j hj => (HOB.out j (by rw [← hob.out]; exact hj)).1)
      go_roundw
      case rel => exact ⟨j, by go_num, by omega, by omega, HO5, HB4⟩
      case measure => simp [intOf]
    · have hmi : m = i := by omega
      subst hmi
      have hge : ¬ (m : Int) ≤ (m : Int) - 1 := by omega
      go_wp2
      go_loopw [5, 7] (fun x y wr => ∃ q : Nat, y = .int .i64 (q : Int) ∧ q ≤ m ∧ Hid (wr.ownsRow w.heap.size 31 15 x ((vs.drop m).reverse ++ vs.take q).length ((((vs.drop m).reverse ++ vs.take q).map vcs).flatten)) ∧ Hid (Below w.heap.size w wr)) (fun _ y _ => m - (intOf y).toNat)
      case atStart => exact ⟨0, rfl, Nat.zero_le _, by show World.ownsRow _ _ _ _ _ _ _; rw [List.take_zero, List.append_nil]; exact HO.out, HB⟩
      case round =>
        clear HO HB
        obtain ⟨q, rfl, hq, HO, HB⟩ := hrel
        by_cases hlq : q < m
        · have hqN : q < N := by omega
          obtain ⟨v, hkv⟩ : ∃ v, vs[q]? = some v := ⟨_, List.getElem?_eq_getElem (by have := HN.out; omega)⟩
          obtain ⟨b, off, rfl, hat⟩ := (HV.out.below HB.out (Nat.le_refl _)).frAt (by omega)
          have HRG : Hid (wr.rangeAt b (off + q * 15) (vcs v)) := hat q v hkv
          have HE : Hid ((vs.drop m).reverse ++ vs.take (q + 1) = (vs.drop m).reverse ++ vs.take q ++ [v]) := by show _ = _; rw [List.take_add_one, hkv, List.append_assoc]; rfl
          have hll : ((vs.drop m).reverse ++ vs.take q).length ≤ N := by simp; omega
          clear hat hkv
          have HO1 := hide (vcs_one v)
          have HOX := HO
          obtain ⟨ob, hob⟩ : ∃ ob, Hid (u5.ownBlock = ob) := ⟨_, rfl⟩
          have HOB : Hid (∀ j, ob = some j → w.heap.size ≤ j ∧ j < wr.heap.size) := fun j hj => by rw [← hob.out] at hj; exact HO.out.lt j hj
          have hww := HB.out.size
          have HL1 : Hid (((vs.drop m).reverse ++ vs.take q).length + 1 ≤ N) := by show _ ≤ _; simp; omega
          have hl1 := HL1.out
          clear HO
          generalize hfl : (vs.drop m).reverse ++ vs.take q = fl at *
          go_wp2_with (first | (refine wpList_load_mid rfl 31 _ rfl b (off + q * 15) rfl (vcs v) _ HRG.out Try.underlying31 rfl (by kernel_rfl) ?_) | (refine wpList_buildOne rfl 25 31 _ rfl 15 (vcs v) rfl rfl i0 _ Try.underlying25 hi hz0 hz1 (by omega) (by omega) ?_) | (at_builtin; refine wpList_append_own_at _ rfl _ _ 25 rfl w.heap.size 31 i0 _ 15 168 Try.underlying25 hi hz0 hz1 hz2 (by kernel_rfl) (by decide) u5 _ _ rfl (World.ownsRow.alloc HOX.out _) ⟨wr.heap.size, 0, none⟩ 1 1 (vcs v) rfl rfl (rowVQ_new _ _) HO1.out (by unfold maxLen; omega) (by omega) (by simp; omega) ?_; intro v' w4 hown4 hgrow4 hnil4 hloc4; have HO4 := hide hown4; have HG4 := hide hgrow4; clear hown4 hgrow4 hnil4 hloc4))
          have HO5 : Hid (w4.ownsRow w.heap.size 31 15 v' ((vs.drop m).reverse ++ vs.take (q + 1)).length ((((vs.drop m).reverse ++ vs.take (q + 1)).map vcs).flatten)) := by
            show World.ownsRow _ _ _ _ _ _ _
            rw [HE.out, List.map_append, List.flatten_append, List.length_append]
            have := HO4.out
            simpa using this
          have HB4 : Hid (Below w.heap.size w w4) := (HB.out.alloc (by omega) _).grown HG4.out (by simp; omega) (fun j hj => (HOB.out j (by rw [← hob.out]; exact hj)).1)
          go_roundw
          case rel => exact ⟨q + 1, by go_num, by omega, HO5, HB4⟩
          case measure => simp [intOf]; omega
        · have hqm : q = m := by omega
          subst hqm
          have HL : Hid (((vs.drop q).reverse ++ vs.take q).length = N) := by show _ = _; simp; omega
          have HO2 : Hid (wr.ownsRow w.heap.size 31 15 u5 (turnQ q vs).length (((turnQ q vs).map vcs).flatten)) := HO.out
          obtain ⟨a', c', hu, hc', hrow⟩ := rowS_of HO2.out (List.length_map ..) (by decide) (fun cs hcs => by obtain ⟨v, _, rfl⟩ := List.mem_map.1 hcs; exact ⟨rfl, vcs_one v⟩)
          have HLT : Hid ((turnQ q vs).length = N) := HL.out
          rw [HLT.out] at hu hrow
          subst hu
          have HR : Hid (VSeg wr a' N (turnQ q vs)) := ⟨hrow, fun v hv => (HV.out.ok v ((turnQ_perm q vs).mem_iff.1 hv)).below HB.out (Nat.le_refl _)⟩
          clear hrow HO HO2 HL hc'
          go_wp2
          go_ret
          exact ⟨a', c', rfl, HR.out, HB.out⟩
end Go.Proofs.Ytfgcepnjdjjlbaa
