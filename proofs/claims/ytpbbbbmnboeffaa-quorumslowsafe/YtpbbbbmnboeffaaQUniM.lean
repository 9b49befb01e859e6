/- The union of own attributes and of votes that all count, in any order, as mathematics. -/
import Derived.Test.YtpbbbbmnboeffaaQNoM
namespace Go.Proofs.Ytpbbbbmnboeffaa
open Go.RowKit Go.Wire1

theorem maxAt_mem {n : Nat} {L : List (List Int)} (h : ∀ l ∈ L, l.length = n) {q : Nat} (hq : q < n) : (∀ l ∈ L, l.getD q 0 ≤ maxAt L q) ∧ (maxAt L q = 0 ∨ ∃ l ∈ L, l.getD q 0 = maxAt L q) := by
  revert h
  refine snoc_ind (P := fun L => (∀ l ∈ L, l.length = n) → (∀ l ∈ L, l.getD q 0 ≤ maxAt L q) ∧ (maxAt L q = 0 ∨ ∃ l ∈ L, l.getD q 0 = maxAt L q)) ?_ ?_ L
  · intro _; exact ⟨fun l h => (by cases h), .inl rfl⟩
  · intro r v ih h
    obtain ⟨h1, h2⟩ := ih (fun l hl => h l (List.mem_append_left _ hl))
    have hv : v.length = n := h v (by simp)
    rw [maxAt_snoc]
    by_cases hc : q < v.length ∧ maxAt r q < v.getD q 0
    · rw [if_pos hc]
      refine ⟨fun l hl => ?_, .inr ⟨v, by simp, rfl⟩⟩
      rcases List.mem_append.1 hl with hl | hl
      · have := h1 l hl; omega
      · simp only [List.mem_singleton] at hl; subst hl; exact Int.le_refl _
    · rw [if_neg hc]
      refine ⟨fun l hl => ?_, ?_⟩
      · rcases List.mem_append.1 hl with hl | hl
        · exact h1 l hl
        · simp only [List.mem_singleton] at hl; subst hl
          have : ¬ maxAt r q < l.getD q 0 := fun hh => hc ⟨by omega, hh⟩
          omega
      · rcases h2 with h2 | ⟨l, hl, e⟩
        · exact .inl h2
        · exact .inr ⟨l, List.mem_append_left _ hl, e⟩
theorem maxAt_congr {n : Nat} {L M : List (List Int)} (h : ∀ l ∈ L, l.length = n) (hm : ∀ l, l ∈ M ↔ l ∈ L) {q : Nat} (hq : q < n) : maxAt M q = maxAt L q := by
  obtain ⟨h1, h2⟩ := maxAt_mem h hq
  obtain ⟨h3, h4⟩ := maxAt_mem (L := M) (fun l hl => h l ((hm l).1 hl)) hq
  have n1 := maxAt_nonneg L q
  have n2 := maxAt_nonneg M q
  have a1 : maxAt M q ≤ maxAt L q := by
    rcases h4 with h4 | ⟨l, hl, e⟩
    · omega
    · rw [← e]; exact h1 l ((hm l).1 hl)
  have a2 : maxAt L q ≤ maxAt M q := by
    rcases h2 with h2 | ⟨l, hl, e⟩
    · omega
    · rw [← e]; exact h3 l ((hm l).2 hl)
  omega
/-- Vectors of n entries. -/
def Gd (n : Nat) (l : List Int) : Prop := l.length = n ∧ okL l = true
theorem union_good {n : Nat} (hn : 1 ≤ n ∧ n ≤ 7) {L : List (List Int)} (h0 : L ≠ []) (h : ∀ l ∈ L, Gd n l) : unionL L = rowOf n (maxAt L) := by
  match L, h0 with
  | x :: r, _ =>
    have hx : x.length = n := (h x (List.mem_cons_self ..)).1
    unfold unionL
    have ha : alikeB (x :: r) = true := alikeB_yes (by simp) (by simp only [List.getD_cons_zero]; unfold okW; rw [hx]; exact decide_eq_true hn) (List.all_eq_true.2 fun l hl => by
      simp only [List.getD_cons_zero, decide_eq_true_eq]
      rw [hx]; exact (h l hl).1)
    have hb : (x :: r).all okL = true := List.all_eq_true.2 fun l hl => (h l hl).2
    rw [if_pos ⟨ha, hb⟩]
    simp only [List.getD_cons_zero, hx]
theorem union_gd {n : Nat} (hn : 1 ≤ n ∧ n ≤ 7) {L : List (List Int)} (h0 : L ≠ []) (h : ∀ l ∈ L, Gd n l) : Gd n (unionL L) := by
  rw [union_good hn h0 h]
  refine ⟨rowOf_length _ _, ?_⟩
  unfold okL rowOf
  rw [List.all_map, List.all_eq_true]
  intro q _
  have h1 := maxAt_nonneg L q
  have h2 := maxAt_le (L := L) (List.all_eq_true.2 fun l hl => (h l hl).2) q
  simp [okE, h1, h2]
theorem union_perm {n : Nat} (hn : 1 ≤ n ∧ n ≤ 7) {l : List Int} {ds es : List (List Int)} (hl : Gd n l) (h : ∀ x ∈ ds, Gd n x) (hp : es.Perm ds) : unionL (l :: es) = unionL (l :: ds) := by
  have hall : ∀ x ∈ l :: ds, Gd n x := fun x hx => by
    rcases List.mem_cons.1 hx with rfl | hx
    · exact hl
    · exact h x hx
  have hm : ∀ x, x ∈ l :: es ↔ x ∈ l :: ds := fun x => by rw [List.mem_cons, List.mem_cons, hp.mem_iff]
  rw [union_good hn (by simp) hall, union_good hn (by simp) (fun x hx => hall x ((hm x).1 hx))]
  exact rowOf_congr fun q hq => maxAt_congr (fun x hx => (hall x hx).1) hm hq
theorem union_step {n : Nat} (hn : 1 ≤ n ∧ n ≤ 7) {l d : List Int} {ds : List (List Int)} (hl : Gd n l) (h : ∀ x ∈ ds, Gd n x) (hd : Gd n d) : unionL [unionL (l :: ds), d] = unionL (l :: (ds ++ [d])) := by
  have hall : ∀ x ∈ l :: ds, Gd n x := fun x hx => by
    rcases List.mem_cons.1 hx with rfl | hx
    · exact hl
    · exact h x hx
  have hu := union_gd hn (L := l :: ds) (by simp) hall
  have hall2 : ∀ x ∈ (l :: ds) ++ [d], Gd n x := fun x hx => by
    rcases List.mem_append.1 hx with hx | hx
    · exact hall x hx
    · simp only [List.mem_singleton] at hx; rw [hx]; exact hd
  rw [show l :: (ds ++ [d]) = (l :: ds) ++ [d] from rfl, union_good hn (L := (l :: ds) ++ [d]) (by simp) hall2, union_good hn (L := [unionL (l :: ds), d]) (by simp) (fun x hx => by
    simp only [List.mem_cons, List.not_mem_nil, or_false] at hx
    rcases hx with rfl | rfl
    · exact hu
    · exact hd)]
  refine rowOf_congr fun q hq => ?_
  have h1 : maxAt [unionL (l :: ds)] q = maxAt (l :: ds) q := by
    rw [show [unionL (l :: ds)] = [] ++ [unionL (l :: ds)] from rfl, maxAt_snoc, hu.1, union_good hn (L := l :: ds) (by simp) hall, rowOf_getD _ _ hq]
    have := maxAt_nonneg (l :: ds) q
    have h0 : maxAt [] q = 0 := rfl
    rw [h0]
    split
    · rfl
    · omega
  rw [show [unionL (l :: ds), d] = [unionL (l :: ds)] ++ [d] from rfl, maxAt_snoc, maxAt_snoc, h1]
theorem union_covers {n : Nat} (hn : 1 ≤ n ∧ n ≤ 7) {L : List (List Int)} (h : ∀ l ∈ L, Gd n l) {x : List Int} (hx : x ∈ L) : coversB (unionL L) x = true := by
  have h0 : L ≠ [] := List.ne_nil_of_mem hx
  have hu := union_gd hn h0 h
  have hg := h x hx
  unfold coversB isVec okW
  rw [hu.1, hg.1, hu.2, hg.2, decide_eq_true hn, decide_eq_true rfl]
  simp only [Bool.true_and, overK, List.all_eq_true, List.mem_range, decide_eq_true_eq]
  intro q hq
  rw [union_good hn h0 h, rowOf_getD _ _ hq]
  exact (maxAt_mem (fun l hl => (h l hl).1) hq).1 x hx
theorem uSeq_mem (seq : Int) (vs : List Vt) : (seq ≤ uSeq seq vs ∧ ∀ v ∈ vs, v.seq ≤ uSeq seq vs) ∧ (uSeq seq vs = seq ∨ ∃ v ∈ vs, v.seq = uSeq seq vs) := by
  refine snoc_ind (P := fun vs => (seq ≤ uSeq seq vs ∧ ∀ v ∈ vs, v.seq ≤ uSeq seq vs) ∧ (uSeq seq vs = seq ∨ ∃ v ∈ vs, v.seq = uSeq seq vs)) ?_ ?_ vs
  · exact ⟨⟨Int.le_refl _, fun v h => (by cases h)⟩, .inl rfl⟩
  · intro r v ih
    obtain ⟨⟨h1, h2⟩, h3⟩ := ih
    rw [uSeq_snoc]
    refine ⟨⟨by omega, fun u hu => ?_⟩, ?_⟩
    · rcases List.mem_append.1 hu with hu | hu
      · have := h2 u hu; omega
      · simp only [List.mem_singleton] at hu; subst hu; omega
    · by_cases hc : uSeq seq r ≤ v.seq
      · exact .inr ⟨v, by simp, by omega⟩
      · rcases h3 with h3 | ⟨u, hu, e⟩
        · exact .inl (by omega)
        · exact .inr ⟨u, List.mem_append_left _ hu, by omega⟩
theorem uSeq_perm (seq : Int) {vs ws : List Vt} (hp : ws.Perm vs) : uSeq seq ws = uSeq seq vs := by
  obtain ⟨⟨h1, h2⟩, h3⟩ := uSeq_mem seq vs
  obtain ⟨⟨h4, h5⟩, h6⟩ := uSeq_mem seq ws
  have a1 : uSeq seq ws ≤ uSeq seq vs := by
    rcases h6 with h6 | ⟨v, hv, e⟩
    · omega
    · rw [← e]; exact h2 v (hp.mem_iff.1 hv)
  have a2 : uSeq seq vs ≤ uSeq seq ws := by
    rcases h3 with h3 | ⟨v, hv, e⟩
    · omega
    · rw [← e]; exact h5 v (hp.mem_iff.2 hv)
  omega
/-- Where all votes count, all of them are told, in the order of ids. -/
theorem told_perm {n slf : Int} (h7 : n ≤ 7) {vs : List Vt} (hn : (vs.map (·.fr)).Nodup) (hall : ∀ v ∈ vs, sndQ n v.seq v.deps = true ∧ repQ n v.fr = true ∧ v.fr ≠ slf) : (toldA n slf vs).Perm vs := by
  have ht := tk_tal (fun v => sndQ n v.seq v.deps) n slf vs
  have hp := ansQ_perm ht.nd (fun p hp => by have := (ht.row p hp).1; omega)
  unfold toldA
  refine hp.trans ?_
  rw [tal_unlike _ _ _ vs hn, List.map_map]
  have hf : (vs.filter fun v => (sndQ n v.seq v.deps) && (repQ n v.fr && !(v.fr == slf))) = vs := List.filter_eq_self.2 fun v hv => by
    obtain ⟨h1, h2, h3⟩ := hall v hv
    rw [h1, h2, beq_eq_false_iff_ne.2 h3]; rfl
  rw [hf]
  have : ((fun p : Int × Vt => p.2) ∘ fun v : Vt => (v.fr, v)) = id := rfl
  rw [this, List.map_id]
/-- What Slow decides there. -/
theorem slow_all {n slf seq : Int} {l : List Int} {vs : List Vt} (hl : leadQ n slf seq l = true) (hn : (vs.map (·.fr)).Nodup) (hall : ∀ v ∈ vs, sndQ n v.seq v.deps = true ∧ repQ n v.fr = true ∧ v.fr ≠ slf) :
    slowQ n slf seq l vs = if (vs.length : Int) < (n - 1) / 2 then (0, 0, []) else (2, uSeq seq vs, unionL (l :: vs.map (·.deps))) := by
  obtain ⟨hsz, _, hs⟩ := lead_sz hl
  have h7 := sz_le hsz
  have hp := told_perm (slf := slf) h7 hn hall
  have hn3 : n = 3 ∨ n = 5 ∨ n = 7 := by unfold szQ at hsz; simpa using hsz
  have hg : ∀ {q : Int} {x : List Int}, sndQ n q x = true → Gd n.toNat x := fun {q x} h => by
    unfold sndQ isVec at h
    simp only [Bool.and_eq_true, decide_eq_true_eq] at h
    exact ⟨by omega, h.2.2.2.2⟩
  unfold slowQ
  rw [if_pos hl, hp.length_eq]
  split
  · rfl
  · rw [uSeq_perm seq hp]
    unfold uDeps
    rw [union_perm (n := n.toNat) (by omega) (hg hs) (fun x hx => by
      obtain ⟨v, hv, rfl⟩ := List.mem_map.1 hx
      exact hg (hall v hv).1) (hp.map _)]
end Go.Proofs.Ytpbbbbmnboeffaa
