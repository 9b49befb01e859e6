/- Texts of the proof, joined. -/
import Derived.Test.YtbdkelffncmkhaaGreatDoorJ38
import Derived.Test.YtbdkelffncmkhaaGreatDoorJ40
import Derived.Test.YtbdkelffncmkhaaGreatDoorJ09
import Derived.Test.YtbdkelffncmkhaaGreatDoorJ13
import Derived.Test.YtbdkelffncmkhaaGreatDoorJ36
import Derived.Test.YtbdkelffncmkhaaGreatDoorRows
import Derived.Test.YtbdkelffncmkhaaGreatDoorJ03
import Derived.WalkKit
import Derived.Deep.QuietTactic
import Derived.BigQuiet
/- What Check takes: the bounds of a valid message's fields; its bytes. -/
namespace Go.Proofs.YtbdkelffncmkhaaGreatDoor
open Go.RowKit Go.Wire1

theorem unl_zero {b : Bool} {e : Int} (he : e ≠ 0) : unl b e = 0 ↔ b = true := by
  unfold unl
  cases b <;> simp [he]
theorem orL_cons {x : Int} {r : List Int} : orL (x :: r) = 0 ↔ x = 0 ∧ orL r = 0 := by
  rw [orL]
  by_cases h : x = 0
  · rw [if_pos h]; simp [h]
  · rw [if_neg h]; simp [h]
theorem orL_nil : orL [] = 0 := rfl
theorem val_inst {n row num : Int} (h : instB n row num = true) : 0 ≤ row ∧ row < n ∧ 1 ≤ num ∧ num ≤ 1048576 := by
  unfold instB at h
  simpa only [Bool.and_eq_true, decide_eq_true_eq] using h
theorem val_bal {n row x y : Int} (h : balB n row x y = true) : 0 ≤ x ∧ x ≤ 65535 ∧ 0 ≤ y ∧ y < n ∧ (0 < x ∨ y = row) := by
  unfold balB at h
  simpa only [Bool.and_eq_true, Bool.or_eq_true, decide_eq_true_eq, beq_iff_eq] using h
theorem val_ball {k : Nat} {n row x y : Int} (h : ballB k n row x y = true) : balB n row x y = true ∧ (rndM.getD k 0 : Int) ≤ x := by
  unfold ballB at h
  simpa only [Bool.and_eq_true, decide_eq_true_eq] using h
theorem val_deps {n : Int} {noop : Bool} {l : List Int} (h : depsB n noop l = true) (hn : 1 ≤ n ∧ n ≤ 7) : (l.length : Int) = n ∧ isVec l = true ∧ ∀ d ∈ l, 0 ≤ d ∧ d ≤ if noop then 0 else 1048576 := by
  unfold depsB at h
  simp only [Bool.and_eq_true, beq_iff_eq, List.all_eq_true] at h
  obtain ⟨h1, h2⟩ := h
  have h3 : ∀ d ∈ l, 0 ≤ d ∧ d ≤ if noop then 0 else 1048576 := fun d hd => by
    have := h2 d hd
    unfold depP at this
    simp only [Bool.and_eq_true, decide_eq_true_eq] at this
    exact this
  refine ⟨h1, ?_, h3⟩
  unfold isVec
  have e1 : okW l.length = true := by unfold okW; simp; omega
  have e2 : okL l = true := by
    unfold okL
    rw [List.all_eq_true]
    intro d hd
    have := h3 d hd
    unfold okE
    cases noop <;> simp at this ⊢ <;> omega
  rw [e1, e2]; rfl
theorem val_call {v n : Int} (h : callF v n = 0) : (v = 1 ∨ v = 2) ∧ 1 ≤ n ∧ n ≤ 7 := by
  unfold callF at h
  split at h
  · rename_i h1
    split at h
    · rename_i h2; exact ⟨h1, h2⟩
    · cases h
  · cases h
theorem val_load {v n : Int} {may : Bool} {c : Cm} {sq : Int} {dl : List Int} (h : loadF v n may c sq dl = 0) : chk v c = 0 ∧ (may || !(c.kind == 0)) = true ∧ seqB (c.kind == 0) sq = true ∧ depsB n (c.kind == 0) dl = true := by
  unfold loadF at h
  simp only [orL_cons, orL_nil, and_true, unl_zero (show (57 : Int) ≠ 0 by decide), unl_zero (show (55 : Int) ≠ 0 by decide), unl_zero (show (56 : Int) ≠ 0 by decide)] at h
  exact ⟨by omega, h.2.1, h.2.2.1, h.2.2.2⟩
theorem val_seq {noop : Bool} {sq : Int} (h : seqB noop sq = true) : 0 ≤ sq ∧ sq ≤ 1073741824 := by
  unfold seqB at h
  cases noop <;> simp at h <;> omega
/-- A valid message's bytes, in parts. -/
def msP (v : Int) (m : Ms) : Nat → List (List Int)
  | 1 => [staP v m.kind.toNat m.row.toNat m.num.toNat, balP v m.x.toNat m.y.toNat, lodP v m.c m.sq.toNat m.dl]
  | 2 => [staP v m.kind.toNat m.row.toNat m.num.toNat, balP v m.x.toNat m.y.toNat, attP v m.sq.toNat m.dl]
  | 3 => [staP v m.kind.toNat m.row.toNat m.num.toNat, balP v m.x.toNat m.y.toNat]
  | 4 => [staP v m.kind.toNat m.row.toNat m.num.toNat, lodP v m.c m.sq.toNat m.dl]
  | 5 => [staP v m.kind.toNat m.row.toNat m.num.toNat, balP v m.x.toNat m.y.toNat, votP v 0 false]
  | 6 => [staP v m.kind.toNat m.row.toNat m.num.toNat, balP v m.x.toNat m.y.toNat, votP v m.st.toNat m.sm, balP v m.p.toNat m.q.toNat, lodP v m.c m.sq.toNat m.dl]
  | 7 => [staP v m.kind.toNat m.row.toNat m.num.toNat, balP v m.x.toNat m.y.toNat, balP v m.p.toNat m.q.toNat]
  | _ => [staP v m.kind.toNat m.row.toNat m.num.toNat]
def msB (v : Int) (m : Ms) : List Int := (msP v m (shK m)).flatten
/-- What Check takes. -/
theorem val_msg {v n : Int} {m : Ms} (h : chkM v n m = 0) : callF v n = 0 ∧ isMK v m.kind = true ∧ extraM m = false ∧ shF v n m (shK m) = 0 := by
  unfold chkM at h
  split at h
  · rename_i h1
    split at h
    · rename_i h2
      split at h
      · cases h
      · rename_i h3; exact ⟨h1, h2, by simpa using h3, h⟩
    · cases h
  · rename_i h1; exact absurd h h1
theorem shF_inst {v n : Int} {m : Ms} {k : Nat} (h : shF v n m k = 0) : instB n m.row m.num = true := by
  have h52 : (52 : Int) ≠ 0 := by decide
  match k with
  | 0 => exact (unl_zero h52).1 h
  | 1 => exact (unl_zero h52).1 (orL_cons.1 h).1
  | 2 => exact (unl_zero h52).1 (orL_cons.1 h).1
  | 3 => exact (unl_zero h52).1 (orL_cons.1 h).1
  | 4 => exact (unl_zero h52).1 (orL_cons.1 h).1
  | 5 => exact (unl_zero h52).1 (orL_cons.1 h).1
  | 6 => exact (unl_zero h52).1 (orL_cons.1 h).1
  | 7 => exact (unl_zero h52).1 (orL_cons.1 h).1
  | k + 8 => exact (unl_zero h52).1 h
def hasB : Nat → Bool
  | 1 => true
  | 2 => true
  | 3 => true
  | 5 => true
  | 6 => true
  | 7 => true
  | _ => false
theorem shF_ball {v n : Int} {m : Ms} {k : Nat} (h : shF v n m k = 0) (hb : hasB k = true) : ballB m.kind.toNat n m.row m.x m.y = true := by
  have h53 : (53 : Int) ≠ 0 := by decide
  match k, hb with
  | 1, _ => exact (unl_zero h53).1 (orL_cons.1 (orL_cons.1 h).2).1
  | 2, _ => exact (unl_zero h53).1 (orL_cons.1 (orL_cons.1 h).2).1
  | 3, _ => exact (unl_zero h53).1 (orL_cons.1 (orL_cons.1 h).2).1
  | 5, _ => exact (unl_zero h53).1 (orL_cons.1 (orL_cons.1 h).2).1
  | 6, _ => exact (unl_zero h53).1 (orL_cons.1 (orL_cons.1 h).2).1
  | 7, _ => exact (unl_zero h53).1 (orL_cons.1 (orL_cons.1 h).2).1
end Go.Proofs.YtbdkelffncmkhaaGreatDoor
/- Encode, at every message. -/
namespace Go.Proofs.YtbdkelffncmkhaaGreatDoor
open Go.RowKit Go.Wire1

/-- What Encode answers. -/
def EnPost (v n : Int) (m : Ms) (w : World) (r : Ending) (w' : World) : Prop := ∃ u, r = .returned (.tuple #[u, .int .i64 (chkM v n m)]) ∧ w'.ownsRow w.heap.size 5 1 u (if chkM v n m = 0 then msB v m else []).length ((if chkM v n m = 0 then msB v m else []).map (Value.int .u8)) ∧ Below w.heap.size w w'
theorem val_vote {n row x y st : Int} {sm : Bool} {p q : Int} (h : voteB n row x y st sm p q = true) : (st = 1 ∨ st = 2) ∧ 0 ≤ p ∧ p ≤ 65535 ∧ 0 ≤ q ∧ q < n ∧ (0 < p ∨ q = row) ∧ belB p q x y = true ∧ ((st = 1 ∧ p = 0) ∨ sm = false) := by
  unfold voteB at h
  simp only [Bool.and_eq_true, Bool.or_eq_true, beq_iff_eq, Bool.not_eq_true'] at h
  obtain ⟨h1, h2, h3, h4⟩ := h
  have hb := val_bal h2
  exact ⟨h1, hb.1, hb.2.1, hb.2.2.1, hb.2.2.2.1, hb.2.2.2.2, h3, h4⟩
theorem val_nack {n row x y p q : Int} (h : nackB n row x y p q = true) : 0 ≤ p ∧ p ≤ 65535 ∧ 0 ≤ q ∧ q < n ∧ (0 < p ∨ q = row) ∧ belB x y p q = true := by
  unfold nackB at h
  rw [Bool.and_eq_true] at h
  have hb := val_bal h.1
  exact ⟨hb.1, hb.2.1, hb.2.2.1, hb.2.2.2.1, hb.2.2.2.2, h.2⟩
end Go.Proofs.YtbdkelffncmkhaaGreatDoor
/- What Encode wrote is read back, whatever stands behind it; cut short it ends too early: the mathematics. -/
namespace Go.Proofs.YtbdkelffncmkhaaGreatDoor
open Go.RowKit Go.Wire1

/-- A reading of bytes that were written. -/
structure Rds {α : Type} (R : List Int → Int → α × List Int × Int) (B : List Int) (a : α) : Prop where
  full : ∀ r, R (B ++ r) 0 = (a, r, 0)
  cut : ∀ k, k < B.length → (R (B.take k) 0).2.2 = 11
def Stk {α : Type} (R : List Int → Int → α × List Int × Int) : Prop := ∀ l f, f ≠ 0 → (R l f).2.2 = f
theorem refF_stk {e f : Int} (h : f ≠ 0) : refF e f = f := by unfold refF; rw [if_neg h]
theorem take_l {B C : List Int} {k : Nat} (h : k < B.length) : (B ++ C).take k = B.take k := by rw [List.take_append, show k - B.length = 0 by omega]; simp
theorem take_r {B C : List Int} {k : Nat} (h : ¬ k < B.length) : (B ++ C).take k = B ++ C.take (k - B.length) := by rw [List.take_append, List.take_of_length_le (by omega)]
theorem num_stk : Stk iNum := fun l f h => by unfold iNum; rw [if_neg h]
theorem next_stk : Stk iNext := fun l f h => by unfold iNext; rw [if_neg h]
theorem two_stk : Stk iTwo := fun l f h => by
  unfold iTwo
  show (iNum (iNum l f).2.1 (iNum l f).2.2).2.2 = f
  rw [num_stk l f h]; exact num_stk _ f h
theorem pack_stk : Stk iPack := fun l f h => by unfold iPack; exact num_stk l f h
theorem inst_stk (v : Int) : Stk (iInst v) := fun l f h => by
  unfold iInst
  split
  · exact two_stk l f h
  · exact pack_stk l f h
theorem bal_stk (v : Int) : Stk (iBal v) := fun l f h => by
  unfold iBal
  split
  · exact two_stk l f h
  · exact pack_stk l f h
theorem balF_stk (v n : Int) (kd : Nat) (row : Int) : Stk (iBalF v n kd row) := fun l f h => by
  unfold iBalF
  show refF _ (iBal v l f).2.2 = f
  rw [bal_stk v l f h]; exact refF_stk h
theorem vote_stk (v : Int) : Stk (iVote v) := fun l f h => by
  unfold iVote
  split
  · unfold vote1
    split
    · show refF _ (iNext l f).2.2 = f
      rw [next_stk l f h]; exact refF_stk h
    · show refF _ (iNext _ (refF _ (iNext l f).2.2)).2.2 = f
      rw [next_stk l f h, refF_stk h, next_stk _ f h]; exact refF_stk h
  · unfold vote2
    have := next_stk l f h
    split
    · exact this
    · split
      · exact this
      · show refF _ (iNext l f).2.2 = f
        rw [this]; exact refF_stk h
theorem cmd_stk (v : Int) : Stk (iCmd v) := fun l f h => by unfold iCmd; rw [if_neg h]
theorem deps_stk (v n : Int) : Stk (iDeps v n) := fun l f h => by unfold iDeps; rw [if_neg h]
theorem attr_stk (v n : Int) (noop : Bool) : Stk (iAttr v n noop) := fun l f h => by
  unfold iAttr
  show refF _ (iDeps v n _ (refF _ (iNum l f).2.2)).2.2 = f
  rw [num_stk l f h, refF_stk h, deps_stk v n _ f h]; exact refF_stk h
theorem load_stk (v n : Int) (may : Bool) : Stk (iLoad v n may) := fun l f h => by
  unfold iLoad
  show (iAttr v n _ _ (refF _ (iCmd v l f).2.2)).2.2 = f
  rw [cmd_stk v l f h, refF_stk h]; exact attr_stk v n _ _ f h
end Go.Proofs.YtbdkelffncmkhaaGreatDoor
/- A valid message's bytes are read back as the message: the mathematics. -/
namespace Go.Proofs.YtbdkelffncmkhaaGreatDoor
open Go.RowKit Go.Wire1

theorem Stk.bind {α β : Type} {R1 : List Int → Int → α × List Int × Int} {R2 : α → List Int → Int → β × List Int × Int} (h1 : Stk R1) (h2 : ∀ a, Stk (R2 a)) : Stk (fun l f => R2 (R1 l f).1 (R1 l f).2.1 (R1 l f).2.2) := fun l f h => by
  have e := h1 l f h
  have := h2 (R1 l f).1 (R1 l f).2.1 (R1 l f).2.2 (by rw [e]; exact h)
  show (R2 (R1 l f).1 (R1 l f).2.1 (R1 l f).2.2).2.2 = f
  rw [this, e]
theorem Rds.bind {α β : Type} {R1 : List Int → Int → α × List Int × Int} {R2 : α → List Int → Int → β × List Int × Int} {B1 B2 : List Int} {a : α} {b : β} (h1 : Rds R1 B1 a) (s2 : ∀ a, Stk (R2 a)) (h2 : Rds (R2 a) B2 b) : Rds (fun l f => R2 (R1 l f).1 (R1 l f).2.1 (R1 l f).2.2) (B1 ++ B2) b := by
  refine ⟨fun r => ?_, fun k hk => ?_⟩
  · simp only [List.append_assoc, h1.full, h2.full]
  · by_cases h : k < B1.length
    · rw [take_l h]
      have e := h1.cut k h
      have := s2 (R1 (B1.take k) 0).1 (R1 (B1.take k) 0).2.1 (R1 (B1.take k) 0).2.2 (by rw [e]; decide)
      exact this.trans e
    · rw [take_r h]
      simp only [h1.full]
      rw [List.length_append] at hk
      exact h2.cut _ (by omega)
def endM (m : Ms) (e : Int) (l : List Int) (f : Int) : Ms × List Int × Int := (m, l, refF e f)
theorem endM_stk (m : Ms) (e : Int) : Stk (endM m e) := fun _l _f h => refF_stk h
def stopM (m : Ms) (l : List Int) (f : Int) : Ms × List Int × Int := (m, l, f)
theorem stopM_stk (m : Ms) : Stk (stopM m) := fun _ _ _ => rfl
def lMs (v n : Int) (may : Bool) (mk : Cm → Int → List Int → Ms) (l : List Int) (f : Int) : Ms × List Int × Int := stopM (mk (iLoad v n may l f).1.1 (iLoad v n may l f).1.2.1 (iLoad v n may l f).1.2.2) (iLoad v n may l f).2.1 (iLoad v n may l f).2.2
theorem lMs_stk (v n : Int) (may : Bool) (mk : Cm → Int → List Int → Ms) : Stk (lMs v n may mk) := Stk.bind (R1 := iLoad v n may) (R2 := fun t => stopM (mk t.1 t.2.1 t.2.2)) (load_stk v n may) fun _ => stopM_stk _
def aMs (v n : Int) (mk : Int → List Int → Ms) (l : List Int) (f : Int) : Ms × List Int × Int := stopM (mk (iAttr v n false l f).1.1 (iAttr v n false l f).1.2) (iAttr v n false l f).2.1 (iAttr v n false l f).2.2
theorem aMs_stk (v n : Int) (mk : Int → List Int → Ms) : Stk (aMs v n mk) := Stk.bind (R1 := iAttr v n false) (R2 := fun t => stopM (mk t.1 t.2)) (attr_stk v n false) fun _ => stopM_stk _
def bMs (v n : Int) (kd : Nat) (row : Int) (K : Int → Int → List Int → Int → Ms × List Int × Int) (l : List Int) (f : Int) : Ms × List Int × Int := K (iBalF v n kd row l f).1.1 (iBalF v n kd row l f).1.2 (iBalF v n kd row l f).2.1 (iBalF v n kd row l f).2.2
theorem bMs_stk (v n : Int) (kd : Nat) (row : Int) {K : Int → Int → List Int → Int → Ms × List Int × Int} (hK : ∀ x y, Stk (K x y)) : Stk (bMs v n kd row K) := Stk.bind (R1 := iBalF v n kd row) (R2 := fun t => K t.1 t.2) (balF_stk v n kd row) fun _ => hK _ _
def pMs (v : Int) (K : Int → Int → List Int → Int → Ms × List Int × Int) (l : List Int) (f : Int) : Ms × List Int × Int := K (iBal v l f).1.1 (iBal v l f).1.2 (iBal v l f).2.1 (iBal v l f).2.2
theorem pMs_stk (v : Int) {K : Int → Int → List Int → Int → Ms × List Int × Int} (hK : ∀ x y, Stk (K x y)) : Stk (pMs v K) := Stk.bind (R1 := iBal v) (R2 := fun t => K t.1 t.2) (bal_stk v) fun _ => hK _ _
def vMs (v : Int) (K : Int → Bool → List Int → Int → Ms × List Int × Int) (l : List Int) (f : Int) : Ms × List Int × Int := K (iVote v l f).1.1 (iVote v l f).1.2 (iVote v l f).2.1 (iVote v l f).2.2
theorem vMs_stk (v : Int) {K : Int → Bool → List Int → Int → Ms × List Int × Int} (hK : ∀ x y, Stk (K x y)) : Stk (vMs v K) := Stk.bind (R1 := iVote v) (R2 := fun t => K t.1 t.2) (vote_stk v) fun _ => hK _ _
def gMs (e : Int) (K : List Int → Int → Ms × List Int × Int) (l : List Int) (f : Int) : Ms × List Int × Int := K l (refF e f)
theorem gMs_stk (e : Int) {K : List Int → Int → Ms × List Int × Int} (hK : Stk K) : Stk (gMs e K) := fun l f h => by
  show (K l (refF e f)).2.2 = f
  rw [refF_stk h]; exact hK l f h
/-- What a scan reads of a message behind its head. -/
def rTail (v n k row num : Int) (l : List Int) (f : Int) : Ms × List Int × Int :=
  if k = 1 then bMs v n 1 row (fun x y => lMs v n false fun c sq dl => ⟨1, row, num, x, y, 0, 0, 0, false, c, sq, dl⟩) l f
  else if k = 3 then bMs v n 3 row (fun x y => lMs v n true fun c sq dl => ⟨3, row, num, x, y, 0, 0, 0, false, c, sq, dl⟩) l f
  else if k = 2 then bMs v n 2 row (fun x y => aMs v n fun sq dl => ⟨2, row, num, x, y, 0, 0, 0, false, zeroC, sq, dl⟩) l f
  else if k = 4 then bMs v n 4 row (fun x y => stopM ⟨4, row, num, x, y, 0, 0, 0, false, zeroC, 0, []⟩) l f
  else if k = 6 then bMs v n 6 row (fun x y => stopM ⟨6, row, num, x, y, 0, 0, 0, false, zeroC, 0, []⟩) l f
  else if k = 5 then lMs v n true (fun c sq dl => ⟨5, row, num, 0, 0, 0, 0, 0, false, c, sq, dl⟩) l f
  else if k = 7 then bMs v n 7 row (fun x y => vMs v fun st sm l f => if st = 0 then stopM ⟨7, row, num, x, y, 0, 0, 0, false, zeroC, 0, []⟩ l f else pMs v (fun p q => gMs (unl (voteB n row x y st sm p q) 54) (lMs v n (st != 1) fun c sq dl => ⟨7, row, num, x, y, p, q, st, sm, c, sq, dl⟩)) l f) l f
  else if k = 8 then bMs v n 8 row (fun x y => pMs v fun p q => endM ⟨8, row, num, x, y, p, q, 0, false, zeroC, 0, []⟩ (unl (nackB n row x y p q) 54)) l f
  else stopM ⟨k, row, num, 0, 0, 0, 0, 0, false, zeroC, 0, []⟩ l f
theorem rdMsg_tail (v n : Int) (l : List Int) (f : Int) : rdMsg v n l f = rTail v n (iHead v n l f).1.1 (iHead v n l f).1.2.1 (iHead v n l f).1.2.2 (iHead v n l f).2.1 (iHead v n l f).2.2 := rfl
theorem told_stk (v n row num x y : Int) (st : Int) (sm : Bool) : Stk fun l f => if st = 0 then stopM ⟨7, row, num, x, y, 0, 0, 0, false, zeroC, 0, []⟩ l f else pMs v (fun p q => gMs (unl (voteB n row x y st sm p q) 54) (lMs v n (st != 1) fun c sq dl => ⟨7, row, num, x, y, p, q, st, sm, c, sq, dl⟩)) l f := fun l f h => by
  show (if st = 0 then stopM ⟨7, row, num, x, y, 0, 0, 0, false, zeroC, 0, []⟩ l f else pMs v (fun p q => gMs (unl (voteB n row x y st sm p q) 54) (lMs v n (st != 1) fun c sq dl => ⟨7, row, num, x, y, p, q, st, sm, c, sq, dl⟩)) l f).2.2 = f
  split
  · exact stopM_stk _ l f h
  · exact pMs_stk v (fun p q => gMs_stk _ (lMs_stk _ _ _ _)) l f h
theorem rTail_stk (v n k row num : Int) : Stk (rTail v n k row num) := fun l f h => by
  unfold rTail
  split
  · exact bMs_stk _ _ _ _ (fun _ _ => lMs_stk _ _ _ _) l f h
  split
  · exact bMs_stk _ _ _ _ (fun _ _ => lMs_stk _ _ _ _) l f h
  split
  · exact bMs_stk _ _ _ _ (fun _ _ => aMs_stk _ _ _) l f h
  split
  · exact bMs_stk _ _ _ _ (fun _ _ => stopM_stk _) l f h
  split
  · exact bMs_stk _ _ _ _ (fun _ _ => stopM_stk _) l f h
  split
  · exact lMs_stk _ _ _ _ l f h
  split
  · exact bMs_stk _ _ _ _ (fun x y => vMs_stk v fun st sm => told_stk v n row num x y st sm) l f h
  split
  · exact bMs_stk _ _ _ _ (fun _ _ => pMs_stk v fun _ _ => endM_stk _ _) l f h
  · exact stopM_stk _ l f h
end Go.Proofs.YtbdkelffncmkhaaGreatDoor
/- The contract of mootref.SameCmd. -/
namespace Go.Proofs.YtbdkelffncmkhaaGreatDoor
open Go.RowKit Go.Wire1

def sameC (c d : Cm) : Bool := (c.kind == d.kind) && (c.client == d.client) && (c.req == d.req) && (c.n == d.n) && teq c.key d.key && teq c.key2 d.key2 && teq c.val d.val && teq c.old d.old

set_option maxHeartbeats 1000000 in
set_option maxRecDepth 100000 in
theorem sameCmd_any (c d : Cm) (w : World) :
    Calls Tryz.prog 22 #[.agg #[.int .i64 c.kind, .int .i64 c.client, .int .i64 c.req, .string c.key, .string c.key2, .string c.val, .string c.old, .int .i64 c.n], .agg #[.int .i64 d.kind, .int .i64 d.client, .int .i64 d.req, .string d.key, .string d.key2, .string d.val, .string d.old, .int .i64 d.n]] w fun e w' => e = .returned (.bool (sameC c d)) ∧ Below w.heap.size w w' := by
  obtain ⟨r, hr⟩ : ∃ r, Hid (sameC c d = r) := ⟨_, rfl⟩
  rw [hr.out]
  have BB : ∀ o p, Hid (Below w.heap.size w ((w.alloc o).alloc p)) := fun o p => ((Below.refl _ w).alloc (Nat.le_refl _) _).alloc (by simp) _
  by_cases h0 : c.kind = d.kind
  rotate_left
  · have e : Hid (r = false) := by rw [← hr.out]; simp [Hid, sameC, teq, h0]
    rw [e.out]
    clear hr e
    go_enter Tryz.func22, Tryz.ntmps22
    go_wp2
    go_ret
    exact ⟨rfl, (BB _ _).out⟩
  by_cases h1 : c.client = d.client
  rotate_left
  · have e : Hid (r = false) := by rw [← hr.out]; simp [Hid, sameC, teq, h0, h1]
    rw [e.out]
    clear hr e
    go_enter Tryz.func22, Tryz.ntmps22
    go_wp2
    go_ret
    exact ⟨rfl, (BB _ _).out⟩
  by_cases h2 : c.req = d.req
  rotate_left
  · have e : Hid (r = false) := by rw [← hr.out]; simp [Hid, sameC, teq, h0, h1, h2]
    rw [e.out]
    clear hr e
    go_enter Tryz.func22, Tryz.ntmps22
    go_wp2
    go_ret
    exact ⟨rfl, (BB _ _).out⟩
  by_cases h3 : c.n = d.n
  rotate_left
  · have e : Hid (r = false) := by rw [← hr.out]; simp [Hid, sameC, teq, h0, h1, h2, h3]
    rw [e.out]
    clear hr e
    go_enter Tryz.func22, Tryz.ntmps22
    go_wp2
    go_ret
    exact ⟨rfl, (BB _ _).out⟩
  cases h4 : (c.key.toList == d.key.toList) with
  | false =>
    have e : Hid (r = false) := by rw [← hr.out]; simp [Hid, sameC, teq, h0, h1, h2, h3, h4]
    rw [e.out]
    clear hr e
    go_enter Tryz.func22, Tryz.ntmps22
    go_wp2
    go_ret
    exact ⟨rfl, (BB _ _).out⟩
  | true =>
    cases h5 : (c.key2.toList == d.key2.toList) with
    | false =>
      have e : Hid (r = false) := by rw [← hr.out]; simp [Hid, sameC, teq, h0, h1, h2, h3, h4, h5]
      rw [e.out]
      clear hr e
      go_enter Tryz.func22, Tryz.ntmps22
      go_wp2
      go_ret
      exact ⟨rfl, (BB _ _).out⟩
    | true =>
      cases h6 : (c.val.toList == d.val.toList) with
      | false =>
        have e : Hid (r = false) := by rw [← hr.out]; simp [Hid, sameC, teq, h0, h1, h2, h3, h4, h5, h6]
        rw [e.out]
        clear hr e
        go_enter Tryz.func22, Tryz.ntmps22
        go_wp2
        go_ret
        exact ⟨rfl, (BB _ _).out⟩
      | true =>
        cases h7 : (c.old.toList == d.old.toList) with
        | false =>
          have e : Hid (r = false) := by rw [← hr.out]; simp [Hid, sameC, teq, h0, h1, h2, h3, h4, h5, h6, h7]
          rw [e.out]
          clear hr e
          go_enter Tryz.func22, Tryz.ntmps22
          go_wp2
          go_ret
          exact ⟨rfl, (BB _ _).out⟩
        | true =>
          have e : Hid (r = true) := by rw [← hr.out]; simp [Hid, sameC, teq, h0, h1, h2, h3, h4, h5, h6, h7]
          rw [e.out]
          clear hr e
          go_enter Tryz.func22, Tryz.ntmps22
          go_wp2
          go_ret
          exact ⟨rfl, (BB _ _).out⟩
end Go.Proofs.YtbdkelffncmkhaaGreatDoor
/- The contract of SameInts: two lists of ints in memory, alike or not; it only reads. -/
namespace Go.Proofs.YtbdkelffncmkhaaGreatDoor
open Go.RowKit Go.Wire1

set_option maxHeartbeats 400000 in
set_option maxRecDepth 100000 in
theorem sameI_any (a b : Option Addr) (n m cap cap' : Nat) (xs ys : List Int) (w : World) (ha : SegI w a n xs) (hb : SegI w b m ys) :
    Calls Tryz.prog 23 #[.slice a n cap, .slice b m cap'] w fun e w' => e = .returned (.bool (sameB xs ys)) ∧ ∃ q, w' = w.drewN q := by
  obtain ⟨hn, hn', ha, -⟩ := ha
  obtain ⟨hm, hm', hb, -⟩ := hb
  unfold maxLen at hn' hm'
  by_cases hnm : n = m
  · subst hnm
    have HN : Hid (xs.length = n) := hn
    have HM : Hid (ys.length = n) := hm
    clear hn hm
    go_enter Tryz.func23, Tryz.ntmps23
    go_wp2
    go_loopw [5] (fun i wr => ∃ k q : Nat, i = .int .i64 (k : Int) ∧ k ≤ n ∧ Hid (xs.take k = ys.take k) ∧ wr = w.drewN q) (fun i _ => n - (intOf i).toNat)
    case atStart => exact ⟨0, 0, rfl, Nat.zero_le _, rfl, rfl⟩
    case round =>
      obtain ⟨k, q, rfl, hk, HT, rfl⟩ := hrel
      by_cases hlt : k < n
      · obtain ⟨ba, oa, rfl, hca⟩ := ha (by omega)
        obtain ⟨bb, ob, rfl, hcb⟩ := hb (by omega)
        have ca : w.cell? ⟨ba, oa + k, none⟩ = some (.int .i64 (xs.getD k 0)) := hca k hlt
        have cb : w.cell? ⟨bb, ob + k, none⟩ = some (.int .i64 (ys.getD k 0)) := hcb k hlt
        clear ha hb hca hcb
        by_cases he : xs.getD k 0 = ys.getD k 0
        · have HT' : Hid (xs.take (k + 1) = ys.take (k + 1)) := take_step (by have := HN.out; omega) (by have := HM.out; omega) HT.out he
          rw [← he] at cb
          clear he
          generalize xs.getD k 0 = c at ca cb
          go_wp2
          go_quiet (fail)
          go_wp2
          go_roundw
          case rel => exact ⟨k + 1, _, by go_num, by omega, HT', rfl⟩
          case measure => simp [intOf]; omega
        · have HS : Hid (sameB xs ys = false) := same_no he
          have hb' : (xs.getD k 0 != ys.getD k 0) = true := by simpa using he
          clear he
          generalize xs.getD k 0 = c at ca hb'
          generalize ys.getD k 0 = d at cb hb'
          go_wp2
          go_quiet (fail)
          go_wp2
          go_ret
          exact ⟨by rw [HS.out]; rfl, _, by rw [World.drewN_drewN]⟩
      · have HS : Hid (sameB xs ys = true) := same_yes (by have := HT.out; rwa [List.take_of_length_le (by have := HN.out; omega), List.take_of_length_le (by have := HM.out; omega)] at this)
        go_wp2
        go_ret
        exact ⟨by rw [HS.out]; rfl, _, rfl⟩
  · have HS : Hid (sameB xs ys = false) := same_len (by omega)
    have hne : ((n : Int) != (m : Int)) = true := by rw [bne_iff_ne]; omega
    go_enter Tryz.func23, Tryz.ntmps23
    go_wp2
    go_ret
    exact ⟨by rw [HS.out]; rfl, 0, rfl⟩
end Go.Proofs.YtbdkelffncmkhaaGreatDoor
