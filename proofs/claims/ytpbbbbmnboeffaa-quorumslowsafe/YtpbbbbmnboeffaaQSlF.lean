/- The contract of the statements' own slow. -/
import Derived.Test.YtpbbbbmnboeffaaQBnt
namespace Go.Proofs.Ytpbbbbmnboeffaa
open Go.RowKit Go.Wire1

theorem blk_of_own {w : World} {D K n : Nat} {T : TypeId} {v : Value} {xs : List Value} (h : w.ownsRow D T K v n xs) (h0 : 0 < n) (hx : xs.length = n * K) : ∃ g cap, v = .slice (some ⟨g, 0, none⟩) n cap ∧ D ≤ g ∧ n ≤ cap ∧ Blk w g xs := by
  rcases h.2 with ⟨_, h2⟩ | ⟨g, cap, cur, rfl, hB, hh, h3, h4, h5, h6⟩
  · omega
  · refine ⟨g, cap, rfl, hB, h3, fun j u hj => ?_, fun o => h.frozenAt o, (h.lt g rfl).2⟩
    have hlt := (List.getElem?_eq_some_iff.1 hj).1
    rw [h.cellAt j (by omega)]
    exact hj
theorem flatV_len {K : Nat} : ∀ (css : List (List Value)), (∀ cs ∈ css, cs.length = K) → css.flatten.length = css.length * K
  | [], _ => by simp
  | c :: r, h => by
    rw [List.flatten_cons, List.length_append, h c (List.mem_cons_self ..), flatV_len r (fun cs hc => h cs (List.mem_cons_of_mem _ hc)), List.length_cons, Nat.succ_mul, Nat.add_comm]
theorem vcs_flat (us : List Vt) : (us.map vcs).flatten.length = us.length * 15 := by
  rw [flatV_len _ (fun cs hc => by obtain ⟨v, _, rfl⟩ := List.mem_map.1 hc; exact vcs_len v), List.length_map]
theorem flat_at {us : List Vt} {i j : Nat} {v : Vt} (hv : us[i]? = some v) (hj : j < 15) : (us.map vcs).flatten[i * 15 + j]? = (vcs v)[j]? :=
  flatK_at _ (fun cs hc => by obtain ⟨u, _, rfl⟩ := List.mem_map.1 hc; exact vcs_len u) i j (vcs v) (by rw [List.getElem?_map, hv]; rfl) hj
/-- A row of votes in a block: what lies at a place, and a store. -/
theorem blk_vote {w : World} {g i : Nat} {us : List Vt} {v : Vt} (h : Blk w g (us.map vcs).flatten) (hv : us[i]? = some v) : w.rangeAt g (i * 15) (vcs v) := fun j x hx => by
  have hj : j < 15 := by have := (List.getElem?_eq_some_iff.1 hx).1; rwa [vcs_len] at this
  exact h.cell _ _ (by rw [flat_at hv hj]; exact hx)
theorem blk_there {w : World} {g i : Nat} {us : List Vt} (h : Blk w g (us.map vcs).flatten) (hi : i < us.length) : w.there g (i * 15) 15 := fun j hj => by
  have hlt : i * 15 + j < (us.map vcs).flatten.length := by rw [vcs_flat]; omega
  exact ⟨by rw [h.cell _ _ (List.getElem?_eq_getElem hlt)]; rfl, h.thaw _⟩
theorem blk_put {w : World} {g i : Nat} {us : List Vt} {v : Vt} (h : Blk w g (us.map vcs).flatten) (hi : i < us.length) : Blk (w.setCells g (i * 15) (vcs v)) g ((us.set i v).map vcs).flatten := by
  have hs := World.rangeAt_setCells_same w g (i * 15) (vcs v) (by rw [vcs_len]; exact blk_there h hi)
  refine ⟨fun j x hx => ?_, fun o => by rw [World.frozen?_setCells]; exact h.thaw o, by have h1 := h.lt; have h2 := (below_cells (B := 0) (x := w) (b := g) (Nat.zero_le _) (vcs v) (i * 15) w ⟨rfl, rfl, rfl, Nat.le_refl _, fun _ _ => rfl⟩).size; omega⟩
  have hlt := (List.getElem?_eq_some_iff.1 hx).1
  rw [vcs_flat, List.length_set] at hlt
  have hji : j / 15 < us.length := by omega
  have e : j = j / 15 * 15 + j % 15 := by omega
  by_cases hc : j / 15 = i
  · have h1 : (us.set i v)[j / 15]? = some v := by rw [hc, List.getElem?_set_self hi]
    rw [e, flat_at h1 (Nat.mod_lt _ (by decide))] at hx
    have := hs (j % 15) x hx
    rw [e, hc]; exact this
  · have h1 : (us.set i v)[j / 15]? = us[j / 15]? := List.getElem?_set_ne (fun h => hc h.symm)
    rw [e, flat_at (h1.trans (List.getElem?_eq_getElem hji)) (Nat.mod_lt _ (by decide))] at hx
    have h2 := World.rangeAt_setCells_apart (blk_vote h (List.getElem?_eq_getElem hji)) g (i * 15) (vcs v) (by rw [vcs_len, vcs_len]; omega)
    have := h2 (j % 15) x hx
    rw [e]; exact this
theorem mine_other {w : World} {D gh N cap g o : Nat} {vs : List Value} {L : List Int} (h : MineI w D gh N cap L) (hne : gh ≠ g) : MineI (w.setCells g o vs) D gh N cap L :=
  ⟨World.ownsRow.kept (row := some g) h.1 (grown_cells _ _ _ _) (.inr (by intro e; simp only [Value.ownBlock, Option.some.injEq] at e; exact hne e)), h.2⟩
theorem rng_bal {w : World} {g o : Nat} {v : Vt} (h : w.rangeAt g o (vcs v)) : w.rangeAt g (o + 3) [.int .i64 v.rd, .int .i64 v.who] := fun j x hj => by
  match j, hj with
  | 0, hj => exact h 3 x hj
  | 1, hj => exact h 4 x hj
theorem blk_rowS {w : World} {g : Nat} {us : List Vt} (h : Blk w g (us.map vcs).flatten) (hm : us.length ≤ maxLen) : RowS w 15 (some ⟨g, 0, none⟩) us.length (us.map vcs) :=
  ⟨by rw [List.length_map], hm, fun _ => ⟨g, 0, rfl, fun i cs hi => by
    rw [List.getElem?_map] at hi
    cases hv : us[i]? with
    | none => rw [hv] at hi; cases hi
    | some v =>
      rw [hv] at hi
      simp only [Option.map_some, Option.some.injEq] at hi
      subst hi
      rw [Nat.zero_add]; exact blk_vote h hv⟩, fun cs hc => by obtain ⟨v, _, rfl⟩ := List.mem_map.1 hc; exact ⟨vcs_len v, vcs_one v⟩⟩
section
variable {n : Nat} {rd who : Int} {c : Cm} {seq : Int} {a : Option Addr} {k cap : Nat} {l : List Int} {os : List Vt}
theorem sU_ok {U : World} (hl : List Int) (hs : SegI U a k l) (hkc : k ≤ cap) (ho : ∀ v ∈ os, Vok U v) {i : Nat} (hi : i ≤ 7) : Vok U (sU n os rd who c seq a k cap l hl i) := by
  have hb : -9223372036854775808 ≤ (i : Int) ∧ (i : Int) ≤ 9223372036854775807 := by omega
  have hh : ∀ x y, Vok U (hV x y c seq a k cap l i) := fun x y => ⟨hs, hkc, hb⟩
  have hn : Vok U (nV i) := ⟨⟨rfl, Nat.zero_le _, fun h => absurd h (Nat.lt_irrefl 0), fun j => by simp [nV]⟩, Nat.le_refl _, hb⟩
  unfold sU
  split
  · exact hh _ _
  · unfold sA
    split
    · rename_i v hv
      have hv2 := ho v (List.mem_of_getElem? hv)
      unfold bentQ
      split
      · split
        · exact ⟨hv2.seg, hv2.cap, hb⟩
        · exact hh _ _
      · exact hn
    · exact hn
theorem sU_nil : (List.range n).map (sU n os rd who c seq a k cap l []) = (List.range n).map (sA n os rd who c seq a k cap l) := by
  apply List.map_congr_left
  intro i _
  unfold sU
  rw [if_neg (by rintro ⟨h, -⟩; cases h)]
theorem sU_at {hl : List Int} {q x : Nat} (hn : hl.Nodup) (hq : hl[q]? = some (x : Int)) : sU n os rd who c seq a k cap l (hl.take q) x = sA n os rd who c seq a k cap l x := by
  unfold sU
  rw [if_neg (by
    rintro ⟨h, -⟩
    have hnd := hn
    rw [← List.take_append_drop q hl, List.nodup_append] at hnd
    exact hnd.2.2 _ h _ (List.mem_of_getElem? (i := 0) (by rw [List.getElem?_drop]; simpa using hq)) rfl)]
theorem sU_step {hl : List Int} {q x : Nat} (hn : hl.Nodup) (hq : hl[q]? = some (x : Int)) (hx : x < n) : (List.range n).map (sU n os rd who c seq a k cap l (hl.take (q + 1))) = if abQ rd who (sA n os rd who c seq a k cap l x) = false then ((List.range n).map (sU n os rd who c seq a k cap l (hl.take q))).set x (hV rd who c seq a k cap l x) else (List.range n).map (sU n os rd who c seq a k cap l (hl.take q)) := by
  have hm : ∀ i : Nat, (i : Int) ∈ hl.take (q + 1) ↔ (i : Int) ∈ hl.take q ∨ i = x := by
    intro i
    rw [List.take_add_one, hq, List.mem_append]
    simp only [Option.toList_some, List.mem_singleton]
    constructor
    · rintro (h | h)
      · exact .inl h
      · exact .inr (by omega)
    · rintro (h | h)
      · exact .inl h
      · exact .inr (by omega)
  have hat := sU_at (n := n) (os := os) (rd := rd) (who := who) (c := c) (seq := seq) (a := a) (k := k) (cap := cap) (l := l) hn hq
  split
  · rename_i hab
    apply List.ext_getElem?
    intro j
    rw [List.getElem?_set]
    by_cases hjx : x = j
    · subst hjx
      rw [if_pos rfl, if_pos (by simpa using hx), List.getElem?_map, List.getElem?_range hx]
      simp only [Option.map_some, Option.some.injEq]
      unfold sU
      rw [if_pos ⟨(hm x).2 (.inr rfl), hab⟩]
    · rw [if_neg hjx, List.getElem?_map, List.getElem?_map]
      by_cases hjn : j < n
      · rw [List.getElem?_range hjn]
        simp only [Option.map_some, Option.some.injEq]
        unfold sU
        simp only [hm, show ¬ j = x from fun h => hjx h.symm, or_false]
      · rw [List.getElem?_eq_none (by simp; omega)]; rfl
  · rename_i hab
    apply List.map_congr_left
    intro i _
    by_cases hix : i = x
    · subst hix
      rw [hat]
      unfold sU
      rw [if_neg (by rintro ⟨-, h⟩; exact hab h)]
    · unfold sU
      simp only [hm, hix, or_false]
end
end Go.Proofs.Ytpbbbbmnboeffaa
