/- The document's board of votes, as cells: mathematics. -/
import Derived.Test.YtmplipkdaplpnaaQHigh
import Derived.Test.YtmplipkdaplpnaaQTal
namespace Go.Proofs.Ytmplipkdaplpnaa
open Go.RowKit Go.Wire1

def thC (m : List (Int × Vt)) : List Value := (List.range 7).map fun i : Nat => .bool (lkm m (i : Int)).isSome
def bvt (m : List (Int × Vt)) (i : Nat) : Vt := (lkm m (i : Int)).getD vZ
def voC (m : List (Int × Vt)) : List Value := ((List.range 7).map fun i : Nat => vcs (bvt m i)).flatten
/-- A board's cells: who is there, what they told, how many. -/
def bdC (m : List (Int × Vt)) : List Value := thC m ++ (voC m ++ [.int .i64 (m.length : Int)])
theorem thC_len (m : List (Int × Vt)) : (thC m).length = 7 := by simp [thC]
theorem flatW_len {K : Nat} : ∀ (css : List (List Value)), (∀ cs ∈ css, cs.length = K) → css.flatten.length = css.length * K
  | [], _ => by simp
  | c :: r, h => by
    rw [List.flatten_cons, List.length_append, h c (List.mem_cons_self ..), flatW_len r (fun cs hc => h cs (List.mem_cons_of_mem _ hc)), List.length_cons, Nat.succ_mul, Nat.add_comm]
theorem voC_fit (m : List (Int × Vt)) : ∀ cs ∈ (List.range 7).map (fun i : Nat => vcs (bvt m i)), cs.length = 15 := fun cs hc => by
  obtain ⟨i, _, rfl⟩ := List.mem_map.1 hc
  exact vcs_len _
theorem voC_len (m : List (Int × Vt)) : (voC m).length = 105 := by
  unfold voC
  rw [flatW_len _ (voC_fit m)]; simp
theorem bdC_len (m : List (Int × Vt)) : (bdC m).length = 113 := by
  unfold bdC
  rw [List.length_append, List.length_append, thC_len, voC_len]; rfl
theorem bd_there (m : List (Int × Vt)) {i : Nat} (h : i < 7) : (bdC m)[i]? = some (.bool (lkm m (i : Int)).isSome) := by
  unfold bdC
  rw [List.getElem?_append_left (by rw [thC_len]; exact h)]
  unfold thC
  rw [List.getElem?_map, List.getElem?_range h]; rfl
theorem bd_vote (m : List (Int × Vt)) {i j : Nat} (h : i < 7) (hj : j < 15) : (bdC m)[7 + i * 15 + j]? = (vcs (bvt m i))[j]? := by
  unfold bdC
  rw [List.getElem?_append_right (by rw [thC_len]; omega), thC_len, show 7 + i * 15 + j - 7 = i * 15 + j by omega, List.getElem?_append_left (by rw [voC_len]; omega)]
  unfold voC
  exact flatK_at _ (voC_fit m) i j _ (by rw [List.getElem?_map, List.getElem?_range h]; rfl) hj
theorem bd_cnt (m : List (Int × Vt)) : (bdC m)[112]? = some (.int .i64 (m.length : Int)) := by
  unfold bdC
  rw [List.getElem?_append_right (by rw [thC_len]; decide), thC_len, List.getElem?_append_right (by rw [voC_len]; decide), voC_len]; rfl
theorem bd_place (_m : List (Int × Vt)) {j : Nat} (h : j < 113) : (∃ i, i < 7 ∧ j = i) ∨ (∃ i k, i < 7 ∧ k < 15 ∧ j = 7 + i * 15 + k) ∨ j = 112 := by
  by_cases h1 : j < 7
  · exact .inl ⟨j, h1, rfl⟩
  · by_cases h2 : j = 112
    · exact .inr (.inr h2)
    · exact .inr (.inl ⟨(j - 7) / 15, (j - 7) % 15, by omega, by omega, by omega⟩)
theorem bd_range {w : World} {b : Nat} {m : List (Int × Vt)} (h : Blk w b (bdC m)) {i : Nat} (hi : i < 7) : w.rangeAt b (7 + i * 15) (vcs (bvt m i)) := fun j x hx => by
  have hj : j < 15 := by have := (List.getElem?_eq_some_iff.1 hx).1; rwa [vcs_len] at this
  exact h.cell _ _ (by rw [bd_vote m hi hj]; exact hx)
theorem lkm_snoc {m : List (Int × Vt)} {k : Int} {v : Vt} (hn : lkm m k = none) (x : Int) : lkm (m ++ [(k, v)]) x = if x = k then some v else lkm m x := by
  unfold lkm at hn ⊢
  rw [List.find?_append]
  by_cases h : x = k
  · subst h
    rw [if_pos rfl]
    cases hf : m.find? (fun p => p.1 == x) with
    | none => simp
    | some p => rw [hf] at hn; simp at hn
  · rw [if_neg h]
    have : ([(k, v)] : List (Int × Vt)).find? (fun p => p.1 == x) = none := by simp; omega
    rw [this, Option.or_none]
/-- One more is told. -/
theorem blk_told {w : World} {b i : Nat} {m : List (Int × Vt)} {v : Vt} (h : Blk w b (bdC m)) (hi : i < 7) (hn : lkm m (i : Int) = none) :
    Blk (((w.setCell ⟨b, i, none⟩ (.bool true)).setCells b (7 + i * 15) (vcs v)).setCell ⟨b, 112, none⟩ (.int .i64 ((m.length : Int) + 1))) b (bdC (m ++ [((i : Int), v)])) := by
  have h1 := h.setAt i (.bool true)
  have ht : (w.setCell ⟨b, i, none⟩ (.bool true)).there b (7 + i * 15) 15 := fun j hj => by
    have hlt : 7 + i * 15 + j < ((bdC m).set i (.bool true)).length := by rw [List.length_set, bdC_len]; omega
    exact ⟨by rw [h1.cell _ _ (List.getElem?_eq_getElem hlt)]; rfl, h1.thaw _⟩
  have hs := World.rangeAt_setCells_same (w.setCell ⟨b, i, none⟩ (.bool true)) b (7 + i * 15) (vcs v) (by rw [vcs_len]; exact ht)
  have hl2 : b < ((w.setCell ⟨b, i, none⟩ (.bool true)).setCells b (7 + i * 15) (vcs v)).heap.size := by
    have a1 := h1.lt
    have a2 := (below_cells (B := 0) (x := w.setCell ⟨b, i, none⟩ (.bool true)) (b := b) (Nat.zero_le _) (vcs v) (7 + i * 15) _ ⟨rfl, rfl, rfl, Nat.le_refl _, fun _ _ => rfl⟩).size
    omega
  refine ⟨fun j x hx => ?_, fun o => by rw [World.frozen?_setCell, World.frozen?_setCells]; exact h1.thaw o, by simpa [World.setCell] using hl2⟩
  have hlt := (List.getElem?_eq_some_iff.1 hx).1
  rw [bdC_len] at hlt
  have hold : ∀ y, (bdC m)[j]? = some y → j ≠ i → j ≠ 112 → (j < 7 + i * 15 ∨ 7 + i * 15 + 15 ≤ j) → (((w.setCell ⟨b, i, none⟩ (.bool true)).setCells b (7 + i * 15) (vcs v)).setCell ⟨b, 112, none⟩ (.int .i64 ((m.length : Int) + 1))).cell? ⟨b, j, none⟩ = some y := by
    intro y hy n1 n2 n3
    rw [World.cell?_setCell_other _ _ _ _ (by intro r; injection r with _ r2 _; omega)]
    have hc : (w.setCell ⟨b, i, none⟩ (.bool true)).rangeAt b j [y] := fun q u hu => by
      match q, hu with
      | 0, hu =>
        simp only [List.getElem?_cons_zero, Option.some.injEq] at hu
        subst hu
        exact h1.cell _ _ (by rw [Nat.add_zero, List.getElem?_set, if_neg (fun e => n1 e.symm)]; exact hy)
    have := World.rangeAt_setCells_apart hc b (7 + i * 15) (vcs v) (by rw [vcs_len]; show _ ∨ j + 1 ≤ _ ∨ _; omega) 0 y rfl
    exact this
  rcases bd_place m hlt with ⟨q, hq, rfl⟩ | ⟨q, p, hq, hp, rfl⟩ | rfl
  · rw [bd_there _ hq, lkm_snoc hn] at hx
    by_cases e : j = i
    · subst e
      rw [if_pos rfl] at hx
      simp only [Option.isSome_some, Option.some.injEq] at hx
      subst hx
      rw [World.cell?_setCell_other _ _ _ _ (by intro r; injection r with _ r2 _; omega)]
      have hc : (w.setCell ⟨b, j, none⟩ (.bool true)).rangeAt b j [.bool true] := fun q u hu => by
        match q, hu with
        | 0, hu =>
          simp only [List.getElem?_cons_zero, Option.some.injEq] at hu
          subst hu
          exact h1.cell _ _ (by rw [Nat.add_zero, List.getElem?_set, if_pos rfl, if_pos (by rw [bdC_len]; omega)])
      exact World.rangeAt_setCells_apart hc b (7 + j * 15) (vcs v) (by show _ ∨ j + 1 ≤ _ ∨ _; omega) 0 _ rfl
    · rw [if_neg (by omega)] at hx
      exact hold x (by rw [bd_there _ hq]; exact hx) e (by omega) (by omega)
  · rw [bd_vote _ hq hp] at hx
    unfold bvt at hx
    rw [lkm_snoc hn] at hx
    by_cases e : q = i
    · subst e
      rw [if_pos rfl] at hx
      rw [World.cell?_setCell_other _ _ _ _ (by intro r; injection r with _ r2 _; omega)]
      exact hs p x hx
    · rw [if_neg (by omega)] at hx
      exact hold x (by rw [bd_vote _ hq hp]; exact hx) (by omega) (by omega) (by omega)
  · rw [bd_cnt, List.length_append] at hx
    simp only [List.length_singleton, Option.some.injEq] at hx
    subst hx
    have hlt2 : 112 < ((bdC m).set i (.bool true)).length := by rw [List.length_set, bdC_len]; decide
    have hc : (w.setCell ⟨b, i, none⟩ (.bool true)).rangeAt b 112 [.int .i64 (m.length : Int)] := fun q u hu => by
      match q, hu with
      | 0, hu =>
        simp only [List.getElem?_cons_zero, Option.some.injEq] at hu
        subst hu
        exact h1.cell _ _ (by rw [Nat.add_zero, List.getElem?_set, if_neg (by omega)]; exact bd_cnt m)
    have hc2 := World.rangeAt_setCells_apart hc b (7 + i * 15) (vcs v) (by rw [vcs_len]; omega) 0 _ rfl
    rw [World.cell?_setCell_same _ ⟨b, 112, none⟩ _ hc2]
    simp
/-- The votes told by those below k, rising. -/
def ansK (m : List (Int × Vt)) (k : Nat) : List Vt := (List.range k).filterMap fun i : Nat => lkm m (i : Int)
theorem ansK_all (m : List (Int × Vt)) : ansK m 7 = ansQ m := rfl
theorem ansK_yes {m : List (Int × Vt)} {k : Nat} (h : (lkm m (k : Int)).isSome = true) : ansK m (k + 1) = ansK m k ++ [bvt m k] := by
  unfold ansK bvt
  rw [List.range_succ, List.filterMap_append]
  obtain ⟨v, hv⟩ := Option.isSome_iff_exists.1 h
  simp [hv]
theorem ansK_no {m : List (Int × Vt)} {k : Nat} (h : (lkm m (k : Int)).isSome = false) : ansK m (k + 1) = ansK m k := by
  unfold ansK
  rw [List.range_succ, List.filterMap_append]
  have : lkm m (k : Int) = none := by cases hl : lkm m (k : Int) with
    | none => rfl
    | some v => rw [hl] at h; cases h
  simp [this]
end Go.Proofs.Ytmplipkdaplpnaa
