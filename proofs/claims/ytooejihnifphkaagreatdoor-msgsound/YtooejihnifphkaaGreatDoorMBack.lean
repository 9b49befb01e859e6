/- What Encode wrote is read back, whatever stands behind it; cut short it ends too early: the mathematics. -/
import Derived.Test.YtooejihnifphkaaGreatDoorMEnc2
namespace Go.Proofs.YtooejihnifphkaaGreatDoor
open Go.RowKit Go.Wire1

/-- A reading of bytes that were written. -/
structure Rds {α : Type} (R : List Int → Int → α × List Int × Int) (B : List Int) (a : α) : Prop where
  full : ∀ r, R (B ++ r) 0 = (a, r, 0)
  cut : ∀ k, k < B.length → (R (B.take k) 0).2.2 = 11
def Stk {α : Type} (R : List Int → Int → α × List Int × Int) : Prop := ∀ l f, f ≠ 0 → (R l f).2.2 = f
theorem refF_stk {e f : Int} (h : f ≠ 0) : refF e f = f := by unfold refF; rw [if_neg h]
theorem refF_z {e : Int} : refF e 0 = e := rfl
theorem take_l {B C : List Int} {k : Nat} (h : k < B.length) : (B ++ C).take k = B.take k := by rw [List.take_append, show k - B.length = 0 by omega]; simp
theorem take_r {B C : List Int} {k : Nat} (h : ¬ k < B.length) : (B ++ C).take k = B ++ C.take (k - B.length) := by rw [List.take_append, List.take_of_length_le (by omega)]
theorem num_stk : Stk iNum := fun l f h => by unfold iNum; rw [if_neg h]
theorem num_rds {x : Nat} (hx : x < 18446744073709551616) : Rds iNum (enc x) x := by
  refine ⟨fun r => ?_, fun k hk => ?_⟩
  · unfold iNum; rw [if_pos rfl, dec_enc x r hx]; simp
  · unfold iNum; rw [if_pos rfl, dec_cut x k hk]; rfl
theorem next_stk : Stk iNext := fun l f h => by unfold iNext; rw [if_neg h]
theorem next_rds (x : Int) : Rds iNext [x] x := by
  refine ⟨fun r => by unfold iNext; rw [if_pos rfl]; rfl, fun k hk => ?_⟩
  obtain rfl : k = 0 := by simpa using hk
  rfl
theorem two_stk : Stk iTwo := fun l f h => by
  unfold iTwo
  show (iNum (iNum l f).2.1 (iNum l f).2.2).2.2 = f
  rw [num_stk l f h]; exact num_stk _ f h
theorem top31_nat {x : Nat} (h : x ≤ 2147483647) : top31 x = (x : Int) := by unfold top31; omega
theorem two_rds {x y : Nat} (hx : x ≤ 2147483647) (hy : y ≤ 2147483647) : Rds iTwo (enc x ++ enc y) ((x : Int), (y : Int)) := by
  have rx := num_rds (x := x) (by omega)
  have ry := num_rds (x := y) (by omega)
  refine ⟨fun r => ?_, fun k hk => ?_⟩
  · unfold iTwo
    rw [List.append_assoc, rx.full]
    simp only [ry.full, top31_nat hx, top31_nat hy]
  · unfold iTwo
    show (iNum (iNum ((enc x ++ enc y).take k) 0).2.1 (iNum ((enc x ++ enc y).take k) 0).2.2).2.2 = 11
    by_cases h : k < (enc x).length
    · rw [take_l h, rx.cut k h]; exact num_stk _ 11 (by decide)
    · rw [take_r h, rx.full]
      rw [List.length_append] at hk
      exact ry.cut _ (by omega)
theorem pack_stk : Stk iPack := fun l f h => by unfold iPack; exact num_stk l f h
theorem pack_rds {x y : Nat} (hx : x ≤ 2147483647) (hy : y ≤ 7) : Rds iPack (enc (8 * x + y)) ((x : Int), (y : Int)) := by
  have rx := num_rds (x := 8 * x + y) (by omega)
  refine ⟨fun r => ?_, fun k hk => ?_⟩
  · unfold iPack
    rw [rx.full]
    simp only
    rw [show (8 * x + y) / 8 = x by omega, show (8 * x + y) % 8 = y by omega, top31_nat hx]
  · unfold iPack; exact rx.cut k hk
theorem inst_stk (v : Int) : Stk (iInst v) := fun l f h => by
  unfold iInst
  split
  · exact two_stk l f h
  · exact pack_stk l f h
theorem inst_rds (v : Int) {x y : Nat} (hx : x ≤ 7) (hy : y ≤ 2147483647) : Rds (iInst v) (insP v x y) ((x : Int), (y : Int)) := by
  unfold insP
  by_cases hv : v = 1
  · rw [if_pos hv]
    have t := two_rds (x := x) (y := y) (by omega) hy
    exact ⟨fun r => by unfold iInst; rw [if_pos hv]; exact t.full r, fun k hk => by unfold iInst; rw [if_pos hv]; exact t.cut k hk⟩
  · rw [if_neg hv]
    have t := pack_rds (x := y) (y := x) hy hx
    exact ⟨fun r => by unfold iInst; rw [if_neg hv, t.full r], fun k hk => by unfold iInst; rw [if_neg hv]; exact t.cut k hk⟩
theorem bal_stk (v : Int) : Stk (iBal v) := fun l f h => by
  unfold iBal
  split
  · exact two_stk l f h
  · exact pack_stk l f h
theorem bal_rds (v : Int) {x y : Nat} (hx : x ≤ 2147483647) (hy : y ≤ 7) : Rds (iBal v) (balP v x y) ((x : Int), (y : Int)) := by
  unfold balP
  by_cases hv : v = 1
  · rw [if_pos hv]
    have t := two_rds (x := x) (y := y) hx (by omega)
    exact ⟨fun r => by unfold iBal; rw [if_pos hv]; exact t.full r, fun k hk => by unfold iBal; rw [if_pos hv]; exact t.cut k hk⟩
  · rw [if_neg hv]
    have t := pack_rds (x := x) (y := y) hx hy
    exact ⟨fun r => by unfold iBal; rw [if_neg hv]; exact t.full r, fun k hk => by unfold iBal; rw [if_neg hv]; exact t.cut k hk⟩
theorem balF_stk (v n : Int) (kd : Nat) (row : Int) : Stk (iBalF v n kd row) := fun l f h => by
  unfold iBalF
  show refF _ (iBal v l f).2.2 = f
  rw [bal_stk v l f h]; exact refF_stk h
theorem balF_rds (v n : Int) (kd : Nat) (row : Int) {x y : Nat} (hx : x ≤ 2147483647) (hy : y ≤ 7) (hb : ballB kd n row (x : Int) (y : Int) = true) : Rds (iBalF v n kd row) (balP v x y) ((x : Int), (y : Int)) := by
  have t := bal_rds v hx hy
  refine ⟨fun r => ?_, fun k hk => ?_⟩
  · unfold iBalF; rw [t.full]; simp only [hb, refF_z]; rfl
  · unfold iBalF
    show refF _ (iBal v _ 0).2.2 = 11
    rw [t.cut k hk]; exact refF_stk (by decide)
theorem head_stk (v n : Int) : Stk (iHead v n) := fun l f h => by
  unfold iHead
  show refF _ (iInst v _ (refF _ (iNext l f).2.2)).2.2 = f
  rw [next_stk l f h, refF_stk h, inst_stk v _ f h]; exact refF_stk h
theorem head_rds (v n : Int) {kd row num : Nat} (hr : row ≤ 7) (hn : num ≤ 2147483647) (hk : isMK v (kd : Int) = true) (hi : instB n (row : Int) (num : Int) = true) : Rds (iHead v n) (staP v kd row num) ((kd : Int), (row : Int), (num : Int)) := by
  have t := inst_rds v hr hn
  have nx := next_rds (kd : Int)
  have e : staP v kd row num = [(kd : Int)] ++ insP v row num := rfl
  refine ⟨fun r => ?_, fun k hk2 => ?_⟩
  · unfold iHead
    rw [e, List.append_assoc, nx.full]
    simp only [hk, unl, refF_z, if_true, t.full, hi]
  · unfold iHead
    show refF _ (iInst v _ (refF _ (iNext ((staP v kd row num).take k) 0).2.2)).2.2 = 11
    rw [e] at hk2 ⊢
    by_cases h : k < [(kd : Int)].length
    · rw [take_l h, nx.cut k h]
      simp only [refF_stk (show (11 : Int) ≠ 0 by decide), fun l => inst_stk v l 11 (by decide)]
    · rw [take_r h, nx.full]
      simp only [hk, unl, refF_z, if_true]
      rw [List.length_append] at hk2
      rw [t.cut _ (by omega)]; exact refF_stk (by decide)
theorem vote_stk (v : Int) : Stk (iVote v) := fun l f h => by
  unfold iVote
  split
  · unfold vote1
    split
    · show refF _ (iNext l f).2.2 = f
      rw [next_stk l f h]; exact refF_stk h
    · show refF _ (iNext _ (refF _ (iNext l f).2.2)).2.2 = f
      rw [next_stk l f h, refF_stk h, next_stk _ f h]; exact refF_stk h
  · unfold vote2
    have := next_stk l f h
    split
    · exact this
    · split
      · exact this
      · show refF _ (iNext l f).2.2 = f
        rw [this]; exact refF_stk h
theorem vote_rds (v : Int) {st : Nat} {sm : Bool} (hs : st ≤ 2) (hm : sm = true → st = 1) : Rds (iVote v) (votP v st sm) ((st : Int), sm) := by
  unfold votP
  by_cases hv : v = 1
  · rw [if_pos hv]
    have hst : st = 0 ∨ st = 1 ∨ st = 2 := by omega
    refine ⟨fun r => ?_, fun k hk => ?_⟩
    · unfold iVote; rw [if_pos hv]
      rcases hst with rfl | rfl | rfl <;> cases sm <;> first | rfl | (exact absurd (hm rfl) (by decide))
    · unfold iVote; rw [if_pos hv]
      have hk2 : k < (if st = 0 then 1 else 2) := by
        rcases hst with rfl | rfl | rfl <;> cases sm <;> simpa [votP1] using hk
      have hk3 : k = 0 ∨ (st ≠ 0 ∧ k = 1) := by split at hk2 <;> omega
      rcases hk3 with rfl | ⟨h0, rfl⟩
      · rfl
      · rcases hst with rfl | rfl | rfl <;> cases sm <;> first
          | (exact absurd rfl h0)
          | (exact absurd (hm rfl) (by decide))
          | rfl
  · rw [if_neg hv]
    have hst : st = 0 ∨ st = 1 ∨ st = 2 := by omega
    refine ⟨fun r => ?_, fun k hk => ?_⟩
    · unfold iVote; rw [if_neg hv]
      rcases hst with rfl | rfl | rfl <;> cases sm <;> first | rfl | (exact absurd (hm rfl) (by decide))
    · unfold iVote; rw [if_neg hv]
      obtain rfl : k = 0 := by simpa [votP2] using hk
      rfl
theorem cmd_stk (v : Int) : Stk (iCmd v) := fun l f h => by unfold iCmd; rw [if_neg h]
theorem cmd_rds {v : Int} {c : Cm} (h : chk v c = 0) (hn1 : -9223372036854775808 ≤ c.n) (hn2 : c.n ≤ 9223372036854775807) : Rds (iCmd v) (encC c) c := by
  refine ⟨fun r => ?_, fun k hk => ?_⟩
  · unfold iCmd; rw [if_pos rfl, decC_full h hn1 hn2]; simp
  · unfold iCmd; rw [if_pos rfl, decC_cut h hk]
theorem deps_stk (v n : Int) : Stk (iDeps v n) := fun l f h => by unfold iDeps; rw [if_neg h]
theorem deps_rds {v n : Int} {dl : List Int} (hv : v = 1 ∨ v = 2) (h : isVec dl = true) (hl : (dl.length : Int) = n) : Rds (iDeps v n) (packR v dl) dl := by
  subst hl
  refine ⟨fun r => ?_, fun k hk => ?_⟩
  · unfold iDeps; rw [if_pos rfl, upk_back hv h]; simp [upL, upN, upE]
  · unfold iDeps; rw [if_pos rfl, upk_cut hv h hk]; rfl
theorem attr_stk (v n : Int) (noop : Bool) : Stk (iAttr v n noop) := fun l f h => by
  unfold iAttr
  show refF _ (iDeps v n _ (refF _ (iNum l f).2.2)).2.2 = f
  rw [num_stk l f h, refF_stk h, deps_stk v n _ f h]; exact refF_stk h
theorem attr_rds {v n : Int} {noop : Bool} {sq : Nat} {dl : List Int} (hv : v = 1 ∨ v = 2) (hn : 1 ≤ n ∧ n ≤ 7) (hs : seqB noop (sq : Int) = true) (hd : depsB n noop dl = true) : Rds (iAttr v n noop) (attP v sq dl) ((sq : Int), dl) := by
  have h1 := val_seq hs
  have h2 := val_deps hd hn
  have rn := num_rds (x := sq) (by omega)
  have rd := deps_rds hv h2.2.1 h2.1
  have ht := top31_nat (x := sq) (by omega)
  refine ⟨fun r => ?_, fun k hk => ?_⟩
  · unfold iAttr attP
    rw [List.append_assoc, rn.full]
    simp only [ht, hs, unl, refF_z, if_true, rd.full, hd]
  · unfold iAttr
    show refF _ (iDeps v n _ (refF _ (iNum ((attP v sq dl).take k) 0).2.2)).2.2 = 11
    unfold attP at hk ⊢
    by_cases h : k < (enc sq).length
    · rw [take_l h, rn.cut k h]
      simp only [refF_stk (show (11 : Int) ≠ 0 by decide), fun l => deps_stk v n l 11 (by decide)]
    · rw [take_r h, rn.full]
      simp only [ht, hs, unl, refF_z, if_true]
      rw [List.length_append] at hk
      rw [rd.cut _ (by omega)]; exact refF_stk (by decide)
theorem load_stk (v n : Int) (may : Bool) : Stk (iLoad v n may) := fun l f h => by
  unfold iLoad
  show (iAttr v n _ _ (refF _ (iCmd v l f).2.2)).2.2 = f
  rw [cmd_stk v l f h, refF_stk h]; exact attr_stk v n _ _ f h
theorem load_rds {v n : Int} {may : Bool} {c : Cm} {sq : Nat} {dl : List Int} (hv : v = 1 ∨ v = 2) (hn : 1 ≤ n ∧ n ≤ 7) (hl : loadF v n may c (sq : Int) dl = 0) (hn1 : -9223372036854775808 ≤ c.n) (hn2 : c.n ≤ 9223372036854775807) : Rds (iLoad v n may) (lodP v c sq dl) (c, (sq : Int), dl) := by
  obtain ⟨h1, h2, h3, h4⟩ := val_load hl
  have rc := cmd_rds h1 hn1 hn2
  have ra := attr_rds hv hn h3 h4
  refine ⟨fun r => ?_, fun k hk => ?_⟩
  · unfold iLoad lodP
    rw [List.append_assoc, rc.full]
    simp only [h2, unl, refF_z, if_true, ra.full]
  · unfold iLoad
    show (iAttr v n _ _ (refF _ (iCmd v ((lodP v c sq dl).take k) 0).2.2)).2.2 = 11
    unfold lodP at hk ⊢
    by_cases h : k < (encC c).length
    · rw [take_l h, rc.cut k h, refF_stk (by decide)]; exact attr_stk v n _ _ 11 (by decide)
    · rw [take_r h, rc.full]
      simp only [h2, unl, refF_z, if_true]
      rw [List.length_append] at hk
      exact ra.cut _ (by omega)
end Go.Proofs.YtooejihnifphkaaGreatDoor
