/- What the first ballot may have committed is what a recovery plans: mathematics. -/
import Derived.Test.YtpbbbbmnboeffaaQNoM
import Derived.Test.YtpbbbbmnboeffaaQUniM
import Derived.Test.YtpbbbbmnboeffaaQHiM
import Derived.Test.YtpbbbbmnboeffaaQAcp
import Derived.Test.YtpbbbbmnboeffaaQCho
namespace Go.Proofs.Ytpbbbbmnboeffaa
open Go.RowKit Go.Wire1

/-- The vote of one that voted Same; the odd one's. -/
def vF (row : Int) (c : Cm) (seq : Int) (a : Option Addr) (k cap : Nat) (l : List Int) (i : Nat) : Vt := ⟨i, 1, true, 0, row, c, seq, a, k, cap, l⟩
def oF (odd : Vt) (row : Int) : Vt := { odd with rd := 0, who := row, same := false }
def aF (odd : Vt) (row : Int) (c : Cm) (seq : Int) (a : Option Addr) (k cap : Nat) (l : List Int) (i : Nat) : Vt := if (i : Int) = odd.fr then oF odd row else vF row c seq a k cap l i
def rF (odd : Vt) (row : Int) (i : Nat) : Bool := ((i : Int) != row) && ((i : Int) != odd.fr)
theorem aF_fr {odd : Vt} {row : Int} {c : Cm} {seq : Int} {a : Option Addr} {k cap : Nat} {l : List Int} (i : Nat) : (aF odd row c seq a k cap l i).fr = (i : Int) := by
  unfold aF
  split
  · rename_i h; exact h.symm
  · rfl
theorem range_len (n r o : Nat) (hn : n = 3 ∨ n = 5 ∨ n = 7) (hr : r < n) (ho : o < n) (hne : o ≠ r) : ((List.range n).filter fun i => decide (i ≠ r) && decide (i ≠ o)).length = n - 2 := by
  have key : ∀ n ∈ [3, 5, 7], ∀ r < n, ∀ o < n, o ≠ r → ((List.range n).filter fun i => decide (i ≠ r) && decide (i ≠ o)).length = n - 2 := by decide
  exact key n (by simp; omega) r hr o ho hne
theorem sz_nat {n : Nat} (h : szQ (n : Int) = true) : n = 3 ∨ n = 5 ∨ n = 7 := by
  unfold szQ at h
  simp only [Bool.or_eq_true, beq_iff_eq] at h
  omega
/-- A list of votes that are all there and all count: what is gathered is the same votes. -/
theorem talP_all {n : Int} {vs : List Vt} (hn : (vs.map (·.fr)).Nodup) (hall : ∀ v ∈ vs, okV n v = true ∧ repQ n v.fr = true) : talP n vs = vs.map fun v => (v.fr, v) := by
  unfold talP
  rw [tal_unlike _ _ _ _ hn, List.filter_eq_self.2]
  intro v hv
  obtain ⟨h1, h2⟩ := hall v hv
  have h3 : 0 ≤ v.fr := by unfold repQ at h2; simp only [Bool.and_eq_true, decide_eq_true_eq] at h2; exact h2.1
  rw [h1, h2, show (v.fr == -1) = false from beq_eq_false_iff_ne.2 (by omega)]
  rfl
theorem ansP_perm {n : Int} (h7 : n ≤ 7) {vs : List Vt} (hn : (vs.map (·.fr)).Nodup) (hall : ∀ v ∈ vs, okV n v = true ∧ repQ n v.fr = true) : (ansQ (talP n vs)).Perm vs := by
  have h := talP_all hn hall
  have hp := ansQ_perm (m := talP n vs) (by rw [h, List.map_map]; exact hn) (fun p hp => by
    rw [h] at hp
    obtain ⟨v, hv, rfl⟩ := List.mem_map.1 hp
    have h2 := (hall v hv).2
    unfold repQ at h2; simp only [Bool.and_eq_true, decide_eq_true_eq] at h2
    exact ⟨h2.1, by have := h2.2; show v.fr < 7; omega⟩)
  rw [show (talP n vs).map (·.2) = vs by rw [h, List.map_map]; simp [Function.comp_def]] at hp
  exact hp
theorem fast_yes {n slf seq : Int} {l : List Int} {vs : List Vt} (hl : leadQ n slf seq l = true) (hn : (vs.map (·.fr)).Nodup) (hall : ∀ v ∈ vs, v.seq = seq ∧ v.deps = l ∧ repQ n v.fr = true ∧ v.fr ≠ slf) (hc : 2 * ((n - 1) / 2) - 1 ≤ (vs.length : Int)) : fastQ n slf seq l vs = (1, seq, l) := by
  have h3 := lead_sz hl
  have hp : (toldA n slf vs).Perm vs := told_perm (sz_le h3.1) hn (fun v hv => by obtain ⟨e1, e2, e3, e4⟩ := hall v hv; rw [e1, e2]; exact ⟨h3.2.2, e3, e4⟩)
  have hcnt : cntQ seq l (toldA n slf vs) = vs.length := by
    unfold cntQ
    rw [hp.countP_eq, List.countP_eq_length]
    intro v hv
    obtain ⟨e1, e2, -, -⟩ := hall v hv
    simp [eqA, sameB, e1, e2]
  unfold fastQ
  rw [hl, if_pos rfl, hcnt, if_pos hc]
theorem rep_of {n i : Nat} (h : i < n) : repQ (n : Int) (i : Int) = true := by
  unfold repQ
  simp only [Bool.and_eq_true, decide_eq_true_eq]
  omega
section
variable {n r : Nat} {odd : Vt} {c : Cm} {seq : Int} {a : Option Addr} {k cap : Nat} {l : List Int}
theorem fast_safe (hz : szQ (n : Int) = true) (hr : r < n) (ho : repQ (n : Int) odd.fr = true) (hne : odd.fr ≠ (r : Int)) (hs : sndQ n seq l = true) :
    fastQ n (r : Int) seq l (((List.range n).filter (rF odd r)).map (aF odd r c seq a k cap l)) = (1, seq, l) := by
  have hn := sz_nat hz
  obtain ⟨o, hof⟩ : ∃ o : Nat, odd.fr = (o : Int) := ⟨odd.fr.toNat, by unfold repQ at ho; simp only [Bool.and_eq_true, decide_eq_true_eq] at ho; omega⟩
  have ho2 : o < n := by unfold repQ at ho; simp only [Bool.and_eq_true, decide_eq_true_eq] at ho; omega
  have hall : ∀ v ∈ ((List.range n).filter (rF odd r)).map (aF odd r c seq a k cap l), v.seq = seq ∧ v.deps = l ∧ repQ n v.fr = true ∧ v.fr ≠ (r : Int) := by
    intro v hv
    obtain ⟨i, hi, rfl⟩ := List.mem_map.1 hv
    obtain ⟨h1, h2⟩ := List.mem_filter.1 hi
    unfold rF at h2
    simp only [Bool.and_eq_true, bne_iff_ne] at h2
    rw [aF_fr]
    refine ⟨?_, ?_, rep_of (List.mem_range.1 h1), h2.1⟩ <;> (unfold aF; rw [if_neg h2.2]; rfl)
  refine fast_yes (by unfold leadQ; rw [hz, rep_of hr, hs]; rfl) ?_ hall ?_
  · rw [List.map_map]
    refine List.Pairwise.map _ (fun i j hij => ?_) ((List.nodup_range (n := n)).filter _)
    simp only [Function.comp_apply, aF_fr]
    intro e
    exact hij (by omega)
  · rw [List.length_map, show (List.range n).filter (rF odd r) = (List.range n).filter fun i => decide (i ≠ r) && decide (i ≠ o) by
      congr 1
      funext i
      unfold rF
      rw [hof]
      rw [Bool.eq_iff_iff]
      simp only [Bool.and_eq_true, bne_iff_ne, decide_eq_true_eq]
      omega, range_len n r o hn hr ho2 (by omega)]
    rcases hn with rfl | rfl | rfl <;> decide
theorem nodup_le : ∀ {L M : List Int}, L.Nodup → (∀ x ∈ L, x ∈ M) → L.length ≤ M.length
  | [], _, _, _ => Nat.zero_le _
  | x :: r, M, hn, hs => by
    have hx := hs x (List.mem_cons_self ..)
    have h1 := nodup_le (L := r) (M := M.erase x) (List.nodup_cons.1 hn).2 (fun y hy => (List.mem_erase_of_ne (by intro e; subst e; exact (List.nodup_cons.1 hn).1 hy)).2 (hs y (List.mem_cons_of_mem _ hy)))
    rw [List.length_erase_of_mem hx] at h1
    have := List.length_pos_of_mem hx
    rw [List.length_cons]; omega
theorem pickV_map {f : Nat → Vt} {n : Nat} {ids : List Int} (h : ∀ x ∈ ids, 0 ≤ x ∧ x < (n : Int)) : pickV ((List.range n).map f) ids = ids.map fun i => f i.toNat := by
  unfold pickV
  apply List.map_congr_left
  intro i hi
  have := h i hi
  rw [List.getD, List.getElem?_map, List.getElem?_range (by omega)]
  rfl
theorem ids_fr {f : Nat → Vt} (hf : ∀ i, (f i).fr = (i : Int)) {ids : List Int} (h : ∀ x ∈ ids, 0 ≤ x) : (ids.map fun i => f i.toNat).map (·.fr) = ids := by
  rw [List.map_map]
  have : ids.map ((fun v : Vt => v.fr) ∘ fun i => f i.toNat) = ids.map id := by
    apply List.map_congr_left
    intro i hi
    have := h i hi
    simp only [Function.comp_apply, hf, id]
    omega
  rw [this, List.map_id]
/-- What a plan is where the accepted ones among the highest all say the same. -/
theorem plan_acc {n row : Int} {vs : List Vt} {c : Cm} {seq : Int} {l : List Int} (hz : (szQ n && repQ n row) = true) (hn : (vs.map (·.fr)).Nodup) (hall : ∀ v ∈ vs, okV n v = true ∧ repQ n v.fr = true) (hlen : (n - 1) / 2 + 1 ≤ (vs.length : Int))
    (hx : ∃ x ∈ highQ vs, accQ x = true) (hsame : ∀ x ∈ highQ vs, accQ x = true → x.c = c ∧ x.seq = seq ∧ x.deps = l) : planQ n row vs = (2, c, seq, l) := by
  have hzz : szQ n = true := by cases h1 : szQ n with
    | true => rfl
    | false => rw [h1] at hz; cases hz
  have hp := ansP_perm (sz_le hzz) hn hall
  have hmem : ∀ v, v ∈ highQ (ansQ (talP n vs)) ↔ v ∈ highQ vs := fun v => by rw [highQ_iff, highQ_iff]; simp only [hp.mem_iff]
  have htl : (talP n vs).length = vs.length := by rw [talP_all hn hall, List.length_map]
  unfold planQ
  rw [hz, if_pos rfl, if_neg (by rw [htl]; omega)]
  obtain ⟨x, hx1, hx2⟩ := hx
  cases hq : highQ (ansQ (talP n vs)) with
  | nil => have := (hmem x).2 hx1; rw [hq] at this; cases this
  | cons h hr =>
    dsimp only
    cases ha : (h :: hr).filter accQ with
    | nil =>
      have : x ∈ (h :: hr).filter accQ := List.mem_filter.2 ⟨by rw [← hq]; exact (hmem x).2 hx1, hx2⟩
      rw [ha] at this; cases this
    | cons y t =>
      have hy : y ∈ (h :: hr).filter accQ := by rw [ha]; exact List.mem_cons_self ..
      obtain ⟨h1, h2⟩ := List.mem_filter.1 hy
      rw [← hq, hmem] at h1
      obtain ⟨e1, e2, e3⟩ := hsame y h1 h2
      dsimp only
      rw [e1, e2, e3]
theorem fast_plan (hz : szQ (n : Int) = true) (hr : r < n) (_ho : repQ (n : Int) odd.fr = true) (hs : sndQ n seq l = true) (hodd : odd.st = 0 ∨ (odd.st = 1 ∧ sndQ n odd.seq odd.deps = true)) (pick : List Int) :
    planQ n (r : Int) (pickV ((List.range n).map (aF odd r c seq a k cap l)) (chQ n r (n / 2 + 1) pick)) = (2, c, seq, l) := by
  have hn := sz_nat hz
  obtain ⟨f1, f2, f3, f4⟩ := chQ_facts n r (n / 2 + 1) pick
  generalize chQ n r (n / 2 + 1) pick = ids at *
  have hlen : ids.length = n / 2 + 1 := by
    refine Nat.le_antisymm f3 (Nat.not_lt.1 fun hlt => ?_)
    have h4 := f4 hlt
    have hsub : ((List.range n).filter fun i => decide (i ≠ r)).map (fun i : Nat => (i : Int)) ⊆ ids := by
      intro x hx
      obtain ⟨i, hi, rfl⟩ := List.mem_map.1 hx
      obtain ⟨h1, h2⟩ := List.mem_filter.1 hi
      exact h4 i (List.mem_range.1 h1) (by simp at h2; omega)
    have hnd : (((List.range n).filter fun i => decide (i ≠ r)).map (fun i : Nat => (i : Int))).Nodup := by
      refine List.Pairwise.map _ (fun i j hij => ?_) ((List.nodup_range (n := n)).filter _)
      omega
    have hle := nodup_le hnd (fun x hx => hsub hx)
    have hc : ((List.range n).filter fun i => decide (i ≠ r)).length = n - 1 := by
      have key : ∀ n ∈ [3, 5, 7], ∀ r < n, ((List.range n).filter fun i => decide (i ≠ r)).length = n - 1 := by decide
      exact key n (by simp; omega) r hr
    rw [List.length_map, hc] at hle
    omega
  have hrng : ∀ x ∈ ids, 0 ≤ x ∧ x < (n : Int) := fun x hx => ⟨(f2 x hx).1, (f2 x hx).2.1⟩
  rw [pickV_map hrng]
  have hfr : (ids.map fun i => aF odd r c seq a k cap l i.toNat).map (·.fr) = ids := ids_fr aF_fr (fun x hx => (hrng x hx).1)
  have hel : ∀ v ∈ ids.map (fun i => aF odd r c seq a k cap l i.toNat), repQ n v.fr = true ∧ v.fr ≠ (r : Int) ∧ v.rd = 0 ∧ v.who = (r : Int) ∧ ((v.same = true ∧ v.st = 1 ∧ v.c = c ∧ v.seq = seq ∧ v.deps = l ∧ v.fr ≠ odd.fr) ∨ (v.fr = odd.fr ∧ v.same = false ∧ v.st = odd.st ∧ v.seq = odd.seq ∧ v.deps = odd.deps)) := by
    intro v hv
    obtain ⟨i, hi, rfl⟩ := List.mem_map.1 hv
    have h2 := f2 i hi
    rw [aF_fr]
    refine ⟨rep_of (by omega), by omega, ?_⟩
    unfold aF
    split
    · rename_i e
      exact ⟨rfl, rfl, .inr ⟨e, rfl, rfl, rfl, rfl⟩⟩
    · rename_i e
      exact ⟨rfl, rfl, .inl ⟨rfl, rfl, rfl, rfl, rfl, e⟩⟩
  generalize hvs : (ids.map fun i => aF odd r c seq a k cap l i.toNat) = vs at *
  have hnod : (vs.map (·.fr)).Nodup := by rw [hfr]; exact f1
  have hvl : vs.length = n / 2 + 1 := by rw [← hlen, ← hvs, List.length_map]
  have hall : ∀ v ∈ vs, okV n v = true ∧ repQ n v.fr = true := by
    intro v hv
    obtain ⟨h1, h2, h3, h4, h5⟩ := hel v hv
    refine ⟨?_, h1⟩
    rcases h5 with ⟨-, e1, -, e2, e3, -⟩ | ⟨-, -, e1, e2, e3⟩
    · unfold okV; rw [e1, e2, e3]; exact hs
    · unfold okV
      rcases hodd with h | ⟨h, h'⟩
      · rw [e1, h]; rfl
      · rw [e1, e2, e3, h]; exact h'
  have hp := ansP_perm (sz_le hz) hnod hall
  have htl := talP_all hnod hall
  have hmem : ∀ v, v ∈ highQ (ansQ (talP n vs)) ↔ v ∈ vs ∧ votedQ v.st = true := by
    intro v
    rw [highQ_iff]
    simp only [hp.mem_iff]
    constructor
    · rintro ⟨h1, h2, -⟩; exact ⟨h1, h2⟩
    · rintro ⟨h1, h2⟩
      refine ⟨h1, h2, fun u hu _ hlt => ?_⟩
      have a1 := hel v h1
      have a2 := hel u hu
      unfold bLt at hlt
      omega
  -- how many are Same
  have hcount : n / 2 ≤ ((vs.filter fun v => votedQ v.st).filter (·.same)).length := by
    have h1 : ((vs.filter fun v => votedQ v.st).filter (·.same)) = vs.filter (·.same) := by
      rw [List.filter_filter]
      apply List.filter_congr
      intro v hv
      obtain ⟨-, -, -, -, h5⟩ := hel v hv
      rcases h5 with ⟨e0, e1, -⟩ | ⟨-, e0, -⟩
      · rw [e0, e1]; rfl
      · rw [e0]; simp
    rw [h1]
    have h2 : (vs.filter fun v => !v.same).length ≤ 1 := by
      have : ((vs.filter fun v => !v.same).map (·.fr)).Nodup := hnod.sublist (List.filter_sublist.map _)
      have hall1 : ∀ x ∈ (vs.filter fun v => !v.same).map (·.fr), x = odd.fr := by
        intro x hx
        obtain ⟨v, hv, rfl⟩ := List.mem_map.1 hx
        obtain ⟨h1, h2⟩ := List.mem_filter.1 hv
        rcases (hel v h1).2.2.2.2 with ⟨e0, -⟩ | ⟨e0, -⟩
        · rw [e0] at h2; cases h2
        · exact e0
      rw [← List.length_map (f := (·.fr))]
      generalize (vs.filter fun v => !v.same).map (·.fr) = L at *
      match L, this, hall1 with
      | [], _, _ => simp
      | [_], _, _ => simp
      | x :: y :: t, hnd, h =>
        have e1 := h x (List.mem_cons_self ..)
        have e2 := h y (List.mem_cons_of_mem _ (List.mem_cons_self ..))
        rw [List.nodup_cons] at hnd
        exact absurd (by rw [e1, ← e2]; exact List.mem_cons_self ..) hnd.1
    have h3 := List.length_eq_countP_add_countP (l := vs) (fun v => v.same)
    rw [List.countP_eq_length_filter, List.countP_eq_length_filter] at h3
    have h4 : (vs.filter fun v => decide ¬ v.same = true).length = (vs.filter fun v => !v.same).length := by
      congr 1
      apply List.filter_congr
      intro v _
      cases v.same <;> rfl
    omega
  have hpl : (highQ (ansQ (talP n vs))).filter (·.same) = ((ansQ (talP n vs)).filter fun v => votedQ v.st).filter (·.same) := by
    have e : highQ (ansQ (talP n vs)) = (ansQ (talP n vs)).filter fun v => votedQ v.st := by
      unfold highQ
      split
      · rename_i h; rw [h]
      · rename_i h
        rw [List.filter_eq_self]
        intro v hv
        have h1 := List.mem_filter.1 hv
        have h2 := List.mem_filter.1 (mxQ_mem h)
        have a1 := hel v (hp.mem_iff.1 h1.1)
        have a2 := hel _ (hp.mem_iff.1 h2.1)
        unfold atB
        rw [a1.2.2.1, a1.2.2.2.1, a2.2.2.1, a2.2.2.2.1]
        simp
    rw [e]
  have hpl2 : ((highQ (ansQ (talP n vs))).filter (·.same)).length = ((vs.filter fun v => votedQ v.st).filter (·.same)).length := by
    rw [hpl]; exact ((hp.filter _).filter _).length_eq
  unfold planQ
  rw [hz, rep_of hr, if_pos (by rfl), if_neg (by rw [htl, List.length_map, hvl]; omega)]
  cases hq : highQ (ansQ (talP n vs)) with
  | nil =>
    rw [hq] at hpl2
    simp only [List.filter_nil, List.length_nil] at hpl2
    omega
  | cons h hr2 =>
    dsimp only
    cases ha : (h :: hr2).filter accQ with
    | cons y t =>
      have hy : y ∈ (h :: hr2).filter accQ := by rw [ha]; exact List.mem_cons_self ..
      obtain ⟨h1, h2⟩ := List.mem_filter.1 hy
      rw [← hq, hmem] at h1
      unfold accQ at h2
      rw [beq_iff_eq] at h2
      rcases (hel y h1.1).2.2.2.2 with ⟨-, e1, -⟩ | ⟨-, -, e1, -⟩
      · omega
      · omega
    | nil =>
      dsimp only
      have hh : h ∈ vs := ((hmem h).1 (by rw [hq]; exact List.mem_cons_self ..)).1
      have a1 := hel h hh
      have hlk : (lkm (talP n vs) (r : Int)).isSome = false := by
        cases hk : (lkm (talP n vs) (r : Int)).isSome with
        | false => rfl
        | true =>
          rw [lkm_mem, htl, List.map_map] at hk
          obtain ⟨v, hv, e⟩ := List.mem_map.1 hk
          exact absurd e (hel v hv).2.1
      rw [hq] at hpl2
      rw [if_pos ⟨a1.2.2.1, a1.2.2.2.1, hlk, by rw [hpl2]; omega⟩]
      cases hf : (h :: hr2).filter (·.same) with
      | nil => rw [hf] at hpl2; simp only [List.length_nil] at hpl2; omega
      | cons y t =>
        have hy : y ∈ (h :: hr2).filter (·.same) := by rw [hf]; exact List.mem_cons_self ..
        obtain ⟨h1, h2⟩ := List.mem_filter.1 hy
        rw [← hq, hmem] at h1
        dsimp only
        rcases (hel y h1.1).2.2.2.2 with ⟨-, -, e1, e2, e3, -⟩ | ⟨-, e1, -⟩
        · rw [e1, e2, e3]
        · rw [e1] at h2; cases h2
end
end Go.Proofs.Ytpbbbbmnboeffaa
