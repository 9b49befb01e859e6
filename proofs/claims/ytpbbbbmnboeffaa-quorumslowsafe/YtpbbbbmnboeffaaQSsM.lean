/- What a majority has accepted is what a recovery plans: mathematics. -/
import Derived.Test.YtpbbbbmnboeffaaQFsM
namespace Go.Proofs.Ytpbbbbmnboeffaa
open Go.RowKit Go.Wire1

/-- Below of ballots; at the same one. -/
def blB (x y x' y' : Int) : Bool := if x = x' then decide (y < y') else decide (x < x')
def atQ (x y x' y' : Int) : Bool := (x == x') && (y == y')
/-- No vote; one that accepted; what may stand beside a majority. -/
def nV (i : Nat) : Vt := ⟨i, 0, false, 0, 0, cmZ, 0, none, 0, 0, []⟩
def hV (rd who : Int) (c : Cm) (seq : Int) (a : Option Addr) (k cap : Nat) (l : List Int) (i : Nat) : Vt := ⟨i, 2, false, rd, who, c, seq, a, k, cap, l⟩
def bentQ (n : Int) (i : Nat) (v : Vt) (rd who : Int) (c : Cm) (seq : Int) (a : Option Addr) (k cap : Nat) (l : List Int) : Vt :=
  if sndB n v.seq v.deps = true ∧ votedQ v.st = true then (if blB v.rd v.who rd who = true ∨ (atQ v.rd v.who rd who = true ∧ v.st = 1) then { v with fr := i } else hV v.rd v.who c seq a k cap l i) else nV i
section
variable {n : Nat} {rd who : Int} {c : Cm} {seq : Int} {a : Option Addr} {k cap : Nat} {l : List Int} {vs : List Vt}
def sA (n : Nat) (vs : List Vt) (rd who : Int) (c : Cm) (seq : Int) (a : Option Addr) (k cap : Nat) (l : List Int) (i : Nat) : Vt := match vs[i]? with
  | some v => bentQ n i v rd who c seq a k cap l
  | none => nV i
def abQ (rd who : Int) (v : Vt) : Bool := (v.st != 0) && blB rd who v.rd v.who
def sU (n : Nat) (vs : List Vt) (rd who : Int) (c : Cm) (seq : Int) (a : Option Addr) (k cap : Nat) (l : List Int) (hs : List Int) (i : Nat) : Vt := if (i : Int) ∈ hs ∧ abQ rd who (sA n vs rd who c seq a k cap l i) = false then hV rd who c seq a k cap l i else sA n vs rd who c seq a k cap l i
/-- What each of them is. -/
def Cls (n : Nat) (rd who : Int) (c : Cm) (seq : Int) (l : List Int) (v : Vt) : Prop :=
  v.st = 0 ∨ ((votedQ v.st = true ∧ sndQ n v.seq v.deps = true) ∧ (blB v.rd v.who rd who = true ∨ (v.rd = rd ∧ v.who = who ∧ v.st = 1) ∨ (v.st = 2 ∧ blB v.rd v.who rd who = false ∧ v.c = c ∧ v.seq = seq ∧ v.deps = l)))
theorem sA_cls (hz : szQ (n : Int) = true) (hs : sndQ n seq l = true) (i : Nat) : (sA n vs rd who c seq a k cap l i).fr = (i : Int) ∧ Cls n rd who c seq l (sA n vs rd who c seq a k cap l i) := by
  unfold sA
  split
  · rename_i v hv
    unfold bentQ
    split
    · rename_i h
      rw [sndB_sz hz] at h
      split
      · rename_i h2
        refine ⟨rfl, .inr ⟨⟨h.2, h.1⟩, ?_⟩⟩
        rcases h2 with h2 | ⟨h2, h3⟩
        · exact .inl h2
        · unfold atQ at h2
          simp only [Bool.and_eq_true, beq_iff_eq] at h2
          exact .inr (.inl ⟨h2.1, h2.2, h3⟩)
      · rename_i h2
        refine ⟨rfl, .inr ⟨⟨rfl, hs⟩, .inr (.inr ⟨rfl, ?_, rfl, rfl, rfl⟩)⟩⟩
        cases hb : blB v.rd v.who rd who with
        | true => exact absurd (.inl hb) h2
        | false => exact hb
    · exact ⟨rfl, .inl rfl⟩
  · exact ⟨rfl, .inl rfl⟩
theorem blB_irr (x y : Int) : blB x y x y = false := by unfold blB; rw [if_pos rfl]; exact decide_eq_false (by omega)
theorem sU_cls (hz : szQ (n : Int) = true) (hs : sndQ n seq l = true) (hl : List Int) (i : Nat) : (sU n vs rd who c seq a k cap l hl i).fr = (i : Int) ∧ Cls n rd who c seq l (sU n vs rd who c seq a k cap l hl i) := by
  unfold sU
  split
  · exact ⟨rfl, .inr ⟨⟨rfl, hs⟩, .inr (.inr ⟨rfl, blB_irr _ _, rfl, rfl, rfl⟩)⟩⟩
  · exact sA_cls hz hs i
theorem sU_acc (hz : szQ (n : Int) = true) (hs : sndQ n seq l = true) {hl : List Int} {i : Nat} (hi : (i : Int) ∈ hl) : (sU n vs rd who c seq a k cap l hl i).st = 2 ∧ blB (sU n vs rd who c seq a k cap l hl i).rd (sU n vs rd who c seq a k cap l hl i).who rd who = false := by
  unfold sU
  split
  · exact ⟨rfl, blB_irr _ _⟩
  · rename_i h
    have h2 : abQ rd who (sA n vs rd who c seq a k cap l i) = true := by
      cases hb : abQ rd who (sA n vs rd who c seq a k cap l i) with
      | true => rfl
      | false => exact absurd ⟨hi, hb⟩ h
    unfold abQ at h2
    simp only [Bool.and_eq_true, bne_iff_ne] at h2
    have hlow : blB (sA n vs rd who c seq a k cap l i).rd (sA n vs rd who c seq a k cap l i).who rd who = false := by
      have := h2.2
      unfold blB at this ⊢
      split at this
      · rename_i e
        rw [if_pos e.symm]
        rw [decide_eq_true_eq] at this
        exact decide_eq_false (by omega)
      · rename_i e
        rw [if_neg (fun h => e h.symm)]
        rw [decide_eq_true_eq] at this
        exact decide_eq_false (by omega)
    rcases (sA_cls (vs := vs) (rd := rd) (who := who) (c := c) (a := a) (k := k) (cap := cap) hz hs i).2 with h3 | ⟨-, h3 | ⟨e1, e2, -⟩ | ⟨h3, -⟩⟩
    · exact absurd h3 h2.1
    · rw [hlow] at h3; cases h3
    · rw [e1, e2, blB_irr] at h2; cases h2.2
    · exact ⟨h3, hlow⟩
theorem ch_len (but : Int) (hb : but < 0) (k : Nat) (hk : k ≤ n) (pick : List Int) : (chQ n but k pick).length = k := by
  obtain ⟨f1, f2, f3, f4⟩ := chQ_facts n but k pick
  refine Nat.le_antisymm f3 (Nat.not_lt.1 fun hlt => ?_)
  have h4 := f4 hlt
  have hnd : ((List.range n).map (fun i : Nat => (i : Int))).Nodup := by
    refine List.Pairwise.map _ (fun i j hij => ?_) (List.nodup_range (n := n))
    omega
  have hle := nodup_le hnd (M := chQ n but k pick) (fun x hx => by
    obtain ⟨i, hi, rfl⟩ := List.mem_map.1 hx
    exact h4 i (List.mem_range.1 hi) (by omega))
  rw [List.length_map, List.length_range] at hle
  omega
/-- Two lists of different numbers below n that are together longer than n meet. -/
theorem meet {xs ys : List Int} (hx : xs.Nodup) (hy : ys.Nodup) (hxr : ∀ x ∈ xs, 0 ≤ x ∧ x < (n : Int)) (hyr : ∀ x ∈ ys, 0 ≤ x ∧ x < (n : Int)) (hl : n < xs.length + ys.length) : ∃ x ∈ xs, x ∈ ys := by
  apply Classical.byContradiction
  intro hno
  have hnd : (xs ++ ys).Nodup := by
    rw [List.nodup_append]
    exact ⟨hx, hy, fun a ha b hb e => hno ⟨a, ha, by rw [e]; exact hb⟩⟩
  have hle := nodup_le hnd (M := (List.range n).map (fun i : Nat => (i : Int))) (fun x hx2 => by
    have : 0 ≤ x ∧ x < (n : Int) := by
      rcases List.mem_append.1 hx2 with h | h
      · exact hxr x h
      · exact hyr x h
    exact List.mem_map.2 ⟨x.toNat, List.mem_range.2 (by omega), by omega⟩)
  rw [List.length_append, List.length_map, List.length_range] at hle
  omega
theorem bLt_of (u v : Vt) : bLt u v ↔ blB u.rd u.who v.rd v.who = true := by
  unfold bLt blB
  split
  · rw [decide_eq_true_eq]; omega
  · rw [decide_eq_true_eq]; omega
theorem slow_plan {r : Nat} (hz : szQ (n : Int) = true) (hr : r < n) (hs : sndQ n seq l = true) (wh pick : List Int) :
    planQ n (r : Int) (pickV ((List.range n).map (sU n vs rd who c seq a k cap l (chQ n (-1) (n / 2 + 1) wh))) (chQ n (-1) (n / 2 + 1) pick)) = (2, c, seq, l) := by
  have hn := sz_nat hz
  obtain ⟨f1, f2, -, -⟩ := chQ_facts n (-1) (n / 2 + 1) pick
  obtain ⟨g1, g2, -, -⟩ := chQ_facts n (-1) (n / 2 + 1) wh
  have fl := ch_len (n := n) (-1) (by decide) (n / 2 + 1) (by omega) pick
  have gl := ch_len (n := n) (-1) (by decide) (n / 2 + 1) (by omega) wh
  obtain ⟨m, hm1, hm2⟩ := meet g1 f1 (fun x hx => ⟨(g2 x hx).1, (g2 x hx).2.1⟩) (fun x hx => ⟨(f2 x hx).1, (f2 x hx).2.1⟩) (n := n) (by omega)
  generalize chQ n (-1) (n / 2 + 1) wh = hl at *
  generalize chQ n (-1) (n / 2 + 1) pick = ids at *
  have hrng : ∀ x ∈ ids, 0 ≤ x ∧ x < (n : Int) := fun x hx => ⟨(f2 x hx).1, (f2 x hx).2.1⟩
  have hcl : ∀ i, (sU n vs rd who c seq a k cap l hl i).fr = (i : Int) ∧ Cls n rd who c seq l (sU n vs rd who c seq a k cap l hl i) := sU_cls hz hs hl
  have hac : (sU n vs rd who c seq a k cap l hl m.toNat).st = 2 ∧ blB (sU n vs rd who c seq a k cap l hl m.toNat).rd (sU n vs rd who c seq a k cap l hl m.toNat).who rd who = false := sU_acc hz hs (by have := hrng m hm2; rwa [Int.toNat_of_nonneg this.1])
  rw [pickV_map hrng]
  generalize sU n vs rd who c seq a k cap l hl = f at *
  have hfr : (ids.map fun i => f i.toNat).map (·.fr) = ids := ids_fr (fun i => (hcl i).1) (fun x hx => (hrng x hx).1)
  have hv0 : f m.toNat ∈ ids.map fun i => f i.toNat := List.mem_map.2 ⟨m, hm2, rfl⟩
  have hel : ∀ v ∈ ids.map (fun i => f i.toNat), Cls n rd who c seq l v ∧ repQ n v.fr = true := by
    intro v hv
    obtain ⟨i, hi, rfl⟩ := List.mem_map.1 hv
    have := hrng i hi
    exact ⟨(hcl _).2, by rw [(hcl _).1]; exact rep_of (by omega)⟩
  have hlen : (ids.map fun i => f i.toNat).length = n / 2 + 1 := by rw [List.length_map, fl]
  generalize ids.map (fun i => f i.toNat) = us at *
  generalize f m.toNat = v0 at *
  have hlow : ∀ y, blB y.rd y.who rd who = true → bLt y v0 := by
    intro y hy
    have h2 := hac.2
    rw [bLt_of]
    unfold blB at hy h2 ⊢
    split at hy
    · rename_i e
      split at h2
      · rename_i e2
        rw [if_pos (by omega)]
        simp only [decide_eq_true_eq, decide_eq_false_iff_not] at *
        omega
      · simp only [decide_eq_true_eq, decide_eq_false_iff_not] at *
        rw [if_neg (by omega)]
        simp only [decide_eq_true_eq]
        omega
    · rename_i e
      split at h2
      · rename_i e2
        simp only [decide_eq_true_eq, decide_eq_false_iff_not] at *
        rw [if_neg (by omega)]
        simp only [decide_eq_true_eq]
        omega
      · simp only [decide_eq_true_eq, decide_eq_false_iff_not] at *
        rw [if_neg (by omega)]
        simp only [decide_eq_true_eq]
        omega
  have hvt : votedQ v0.st = true := by rw [hac.1]; rfl
  refine plan_acc (by rw [hz, rep_of hr]; rfl) (by rw [hfr]; exact f1) (fun v hv => ?_) (by rw [hlen]; omega) ?_ ?_
  · obtain ⟨h1, h2⟩ := hel v hv
    refine ⟨?_, h2⟩
    unfold okV
    rcases h1 with h | ⟨⟨h, h'⟩, -⟩
    · rw [h]; rfl
    · rw [h]; exact h'
  · obtain ⟨x, hx1, hx2⟩ := highQ_some hv0 hvt
    have hx3 := highQ_iff.1 hx1
    rcases (hel x hx3.1).1 with h | ⟨-, h | ⟨e1, e2, -⟩ | ⟨h, -⟩⟩
    · have := hx3.2.1
      rw [h] at this; cases this
    · exact absurd (hlow x h) hx2
    · refine ⟨v0, highQ_iff.2 ⟨hv0, hvt, fun u hu hw hlt => ?_⟩, by unfold accQ; rw [hac.1]; rfl⟩
      refine hx3.2.2 u hu hw ?_
      have h2 := hac.2
      rw [bLt_of, e1, e2] at hx2
      rw [bLt_of] at hlt ⊢
      rw [e1, e2]
      unfold blB at hx2 h2 hlt ⊢
      have hb1 : v0.rd = rd ∧ v0.who = who := by
        by_cases e : v0.rd = rd
        · rw [if_pos e.symm] at hx2
          rw [if_pos e] at h2
          simp only [decide_eq_true_eq, decide_eq_false_iff_not] at hx2 h2
          omega
        · rw [if_neg (fun h => e h.symm)] at hx2
          rw [if_neg e] at h2
          simp only [decide_eq_true_eq, decide_eq_false_iff_not] at hx2 h2
          omega
      rw [hb1.1, hb1.2] at hlt
      exact hlt
    · exact ⟨x, hx1, by unfold accQ; rw [h]; rfl⟩
  · intro x hx hxa
    have hx3 := highQ_iff.1 hx
    unfold accQ at hxa
    rw [beq_iff_eq] at hxa
    rcases (hel x hx3.1).1 with h | ⟨-, h | ⟨-, -, h⟩ | ⟨-, -, h⟩⟩
    · omega
    · exact absurd (hlow x h) (hx3.2.2 v0 hv0 hvt)
    · omega
    · exact h
end
end Go.Proofs.Ytpbbbbmnboeffaa
