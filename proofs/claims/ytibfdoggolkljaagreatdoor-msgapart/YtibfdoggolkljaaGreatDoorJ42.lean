import Derived.WalkKit
import Derived.Deep.QuietTactic
import Derived.BigQuiet
import Derived.Deep.Cut
import Derived.Test.YtibfdoggolkljaaGreatDoorJ41
set_option maxHeartbeats 2000000
set_option maxRecDepth 100000
namespace Go.Proofs.YtibfdoggolkljaaGreatDoor
open Go.RowKit Go.Wire1
theorem Stk.bind {α β : Type} {R1 : List Int → Int → α × List Int × Int} {R2 : α → List Int → Int → β × List Int × Int} (h1 : Stk R1) (h2 : ∀ a, Stk (R2 a)) : Stk (fun l f => R2 (R1 l f).1 (R1 l f).2.1 (R1 l f).2.2) := fun l f h => by
 have e := h1 l f h
 have := h2 (R1 l f).1 (R1 l f).2.1 (R1 l f).2.2 (by rw [e]; exact h)
 show (R2 (R1 l f).1 (R1 l f).2.1 (R1 l f).2.2).2.2 = f
 rw [this, e]
theorem Rds.bind {α β : Type} {R1 : List Int → Int → α × List Int × Int} {R2 : α → List Int → Int → β × List Int × Int} {B1 B2 : List Int} {a : α} {b : β} (h1 : Rds R1 B1 a) (s2 : ∀ a, Stk (R2 a)) (h2 : Rds (R2 a) B2 b) : Rds (fun l f => R2 (R1 l f).1 (R1 l f).2.1 (R1 l f).2.2) (B1 ++ B2) b := by
 refine ⟨fun r => ?_, fun k hk => ?_⟩
 ·simp only [List.append_assoc, h1.full, h2.full]
 ·by_cases h : k < B1.length
  ·rw [take_l h]
   have e := h1.cut k h
   have := s2 (R1 (B1.take k) 0).1 (R1 (B1.take k) 0).2.1 (R1 (B1.take k) 0).2.2 (by rw [e]; decide)
   exact this.trans e
  ·rw [take_r h]
   simp only [h1.full]
   rw [zL] at hk
   exact h2.cut _ (by omega)
def endM (m : Ms) (e : Int) (l : List Int) (f : Int) : Ms × List Int × Int := (m, l, refF e f)
theorem endM_stk (m : Ms) (e : Int) : Stk (endM m e) := fun _l _f h => refF_stk h
theorem endM_rds (m : Ms) {e : Int} (he : e = 0) : Rds (endM m e) [] m := ⟨fun r => by subst he; rfl, fun k hk => absurd hk (by simp)⟩
def stopM (m : Ms) (l : List Int) (f : Int) : Ms × List Int × Int := (m, l, f)
theorem stopM_stk (m : Ms) : Stk (stopM m) := fun _ _ _ => rfl
theorem stopM_rds (m : Ms) : Rds (stopM m) [] m := ⟨fun r => rfl, fun k hk => absurd hk (by simp)⟩
def lMs (v n : Int) (may : Bool) (mk : Cm → Int → List Int → Ms) (l : List Int) (f : Int) : Ms × List Int × Int := stopM (mk (iLoad v n may l f).1.1 (iLoad v n may l f).1.2.1 (iLoad v n may l f).1.2.2) (iLoad v n may l f).2.1 (iLoad v n may l f).2.2
theorem lMs_stk (v n : Int) (may : Bool) (mk : Cm → Int → List Int → Ms) : Stk (lMs v n may mk) := Stk.bind (R1 := iLoad v n may) (R2 := fun t => stopM (mk t.1 t.2.1 t.2.2)) (load_stk v n may) fun _ => stopM_stk _
theorem lMs_rds {v n : Int} {may : Bool} (mk : Cm → Int → List Int → Ms) {c : Cm} {sq : Nat} {dl : List Int} (hv : v = 1 ∨ v = 2) (hn : 1 ≤ n ∧ n ≤ 7) (hl : loadF v n may c (sq : Int) dl = 0) (hn1 : -9223372036854775808 ≤ c.n) (hn2 : c.n ≤ 9223372036854775807) : Rds (lMs v n may mk) (lodP v c sq dl ++ []) (mk c (sq : Int) dl) :=
 Rds.bind (R1 := iLoad v n may) (R2 := fun t => stopM (mk t.1 t.2.1 t.2.2)) (load_rds hv hn hl hn1 hn2) (fun _ => stopM_stk _) (stopM_rds _)
def aMs (v n : Int) (mk : Int → List Int → Ms) (l : List Int) (f : Int) : Ms × List Int × Int := stopM (mk (iAttr v n false l f).1.1 (iAttr v n false l f).1.2) (iAttr v n false l f).2.1 (iAttr v n false l f).2.2
theorem aMs_stk (v n : Int) (mk : Int → List Int → Ms) : Stk (aMs v n mk) := Stk.bind (R1 := iAttr v n false) (R2 := fun t => stopM (mk t.1 t.2)) (attr_stk v n false) fun _ => stopM_stk _
theorem aMs_rds {v n : Int} (mk : Int → List Int → Ms) {sq : Nat} {dl : List Int} (hv : v = 1 ∨ v = 2) (hn : 1 ≤ n ∧ n ≤ 7) (hs : seqB false (sq : Int) = true) (hd : depsB n false dl = true) : Rds (aMs v n mk) (attP v sq dl ++ []) (mk (sq : Int) dl) :=
 Rds.bind (R1 := iAttr v n false) (R2 := fun t => stopM (mk t.1 t.2)) (attr_rds hv hn hs hd) (fun _ => stopM_stk _) (stopM_rds _)
def bMs (v n : Int) (kd : Nat) (row : Int) (K : Int → Int → List Int → Int → Ms × List Int × Int) (l : List Int) (f : Int) : Ms × List Int × Int := K (iBalF v n kd row l f).1.1 (iBalF v n kd row l f).1.2 (iBalF v n kd row l f).2.1 (iBalF v n kd row l f).2.2
theorem bMs_stk (v n : Int) (kd : Nat) (row : Int) {K : Int → Int → List Int → Int → Ms × List Int × Int} (hK : ∀ x y, Stk (K x y)) : Stk (bMs v n kd row K) := Stk.bind (R1 := iBalF v n kd row) (R2 := fun t => K t.1 t.2) (balF_stk v n kd row) fun _ => hK _ _
theorem bMs_rds (v n : Int) (kd : Nat) (row : Int) {x y : Nat} (hx : x ≤ 2147483647) (hy : y ≤ 7) (hb : ballB kd n row (x : Int) (y : Int) = true) {K : Int → Int → List Int → Int → Ms × List Int × Int} (hK : ∀ x y, Stk (K x y)) {B : List Int} {m : Ms} (h : Rds (K x y) B m) : Rds (bMs v n kd row K) (balP v x y ++ B) m :=
 Rds.bind (R1 := iBalF v n kd row) (R2 := fun t => K t.1 t.2) (balF_rds v n kd row hx hy hb) (fun _ => hK _ _) h
def pMs (v : Int) (K : Int → Int → List Int → Int → Ms × List Int × Int) (l : List Int) (f : Int) : Ms × List Int × Int := K (iBal v l f).1.1 (iBal v l f).1.2 (iBal v l f).2.1 (iBal v l f).2.2
theorem pMs_stk (v : Int) {K : Int → Int → List Int → Int → Ms × List Int × Int} (hK : ∀ x y, Stk (K x y)) : Stk (pMs v K) := Stk.bind (R1 := iBal v) (R2 := fun t => K t.1 t.2) (bal_stk v) fun _ => hK _ _
theorem pMs_rds (v : Int) {x y : Nat} (hx : x ≤ 2147483647) (hy : y ≤ 7) {K : Int → Int → List Int → Int → Ms × List Int × Int} (hK : ∀ x y, Stk (K x y)) {B : List Int} {m : Ms} (h : Rds (K x y) B m) : Rds (pMs v K) (balP v x y ++ B) m :=
 Rds.bind (R1 := iBal v) (R2 := fun t => K t.1 t.2) (bal_rds v hx hy) (fun _ => hK _ _) h
def vMs (v : Int) (K : Int → Bool → List Int → Int → Ms × List Int × Int) (l : List Int) (f : Int) : Ms × List Int × Int := K (iVote v l f).1.1 (iVote v l f).1.2 (iVote v l f).2.1 (iVote v l f).2.2
theorem vMs_stk (v : Int) {K : Int → Bool → List Int → Int → Ms × List Int × Int} (hK : ∀ x y, Stk (K x y)) : Stk (vMs v K) := Stk.bind (R1 := iVote v) (R2 := fun t => K t.1 t.2) (vote_stk v) fun _ => hK _ _
theorem vMs_rds (v : Int) {st : Nat} {sm : Bool} (hs : st ≤ 2) (hm : sm = true → st = 1) {K : Int → Bool → List Int → Int → Ms × List Int × Int} (hK : ∀ x y, Stk (K x y)) {B : List Int} {m : Ms} (h : Rds (K st sm) B m) : Rds (vMs v K) (votP v st sm ++ B) m :=
 Rds.bind (R1 := iVote v) (R2 := fun t => K t.1 t.2) (vote_rds v hs hm) (fun _ => hK _ _) h
def gMs (e : Int) (K : List Int → Int → Ms × List Int × Int) (l : List Int) (f : Int) : Ms × List Int × Int := K l (refF e f)
theorem gMs_stk (e : Int) {K : List Int → Int → Ms × List Int × Int} (hK : Stk K) : Stk (gMs e K) := fun l f h => by
 show (K l (refF e f)).2.2 = f
 rw [refF_stk h]; exact hK l f h
theorem gMs_rds {e : Int} (he : e = 0) {K : List Int → Int → Ms × List Int × Int} {B : List Int} {m : Ms} (h : Rds K B m) : Rds (gMs e K) B m := by
 subst he
 exact ⟨fun r => h.full r, fun k hk => h.cut k hk⟩
def rTail (v n k row num : Int) (l : List Int) (f : Int) : Ms × List Int × Int :=
 if k = 1 then bMs v n 1 row (fun x y => lMs v n false fun c sq dl => ⟨1, row, num, x, y, 0, 0, 0, false, c, sq, dl⟩) l f
 else if k = 3 then bMs v n 3 row (fun x y => lMs v n true fun c sq dl => ⟨3, row, num, x, y, 0, 0, 0, false, c, sq, dl⟩) l f
 else if k = 2 then bMs v n 2 row (fun x y => aMs v n fun sq dl => ⟨2, row, num, x, y, 0, 0, 0, false, zeroC, sq, dl⟩) l f
 else if k = 4 then bMs v n 4 row (fun x y => stopM ⟨4, row, num, x, y, 0, 0, 0, false, zeroC, 0, []⟩) l f
 else if k = 6 then bMs v n 6 row (fun x y => stopM ⟨6, row, num, x, y, 0, 0, 0, false, zeroC, 0, []⟩) l f
 else if k = 5 then lMs v n true (fun c sq dl => ⟨5, row, num, 0, 0, 0, 0, 0, false, c, sq, dl⟩) l f
 else if k = 7 then bMs v n 7 row (fun x y => vMs v fun st sm l f => if st = 0 then stopM ⟨7, row, num, x, y, 0, 0, 0, false, zeroC, 0, []⟩ l f else pMs v (fun p q => gMs (unl (voteB n row x y st sm p q) 54) (lMs v n (st != 1) fun c sq dl => ⟨7, row, num, x, y, p, q, st, sm, c, sq, dl⟩)) l f) l f
 else if k = 8 then bMs v n 8 row (fun x y => pMs v fun p q => endM ⟨8, row, num, x, y, p, q, 0, false, zeroC, 0, []⟩ (unl (nackB n row x y p q) 54)) l f
 else stopM ⟨k, row, num, 0, 0, 0, 0, 0, false, zeroC, 0, []⟩ l f
theorem told_stk (v n row num x y : Int) (st : Int) (sm : Bool) : Stk fun l f => if st = 0 then stopM ⟨7, row, num, x, y, 0, 0, 0, false, zeroC, 0, []⟩ l f else pMs v (fun p q => gMs (unl (voteB n row x y st sm p q) 54) (lMs v n (st != 1) fun c sq dl => ⟨7, row, num, x, y, p, q, st, sm, c, sq, dl⟩)) l f := fun l f h => by
 show (if st = 0 then stopM ⟨7, row, num, x, y, 0, 0, 0, false, zeroC, 0, []⟩ l f else pMs v (fun p q => gMs (unl (voteB n row x y st sm p q) 54) (lMs v n (st != 1) fun c sq dl => ⟨7, row, num, x, y, p, q, st, sm, c, sq, dl⟩)) l f).2.2 = f
 split
 ·exact stopM_stk _ l f h
 ·exact pMs_stk v (fun p q => gMs_stk _ (lMs_stk _ _ _ _)) l f h
theorem rTail_stk (v n k row num : Int) : Stk (rTail v n k row num) := fun l f h => by
 unfold rTail
 split
 ·exact bMs_stk _ _ _ _ (fun _ _ => lMs_stk _ _ _ _) l f h
 split
 ·exact bMs_stk _ _ _ _ (fun _ _ => lMs_stk _ _ _ _) l f h
 split
 ·exact bMs_stk _ _ _ _ (fun _ _ => aMs_stk _ _ _) l f h
 split
 ·exact bMs_stk _ _ _ _ (fun _ _ => stopM_stk _) l f h
 split
 ·exact bMs_stk _ _ _ _ (fun _ _ => stopM_stk _) l f h
 split
 ·exact lMs_stk _ _ _ _ l f h
 split
 ·exact bMs_stk _ _ _ _ (fun x y => vMs_stk v fun st sm => told_stk v n row num x y st sm) l f h
 split
 ·exact bMs_stk _ _ _ _ (fun _ _ => pMs_stk v fun _ _ => endM_stk _ _) l f h
 ·exact stopM_stk _ l f h
theorem rTail_eq {v n k row num : Int} {K : List Int → Int → Ms × List Int × Int} {B : List Int} {m : Ms} (h : Rds K B m) (e : ∀ l f, rTail v n k row num l f = K l f) : Rds (rTail v n k row num) B m := by
 have : rTail v n k row num = K := funext fun l => funext fun f => e l f
 rw [this]; exact h
theorem msB_rds {v n : Int} {m : Ms} (h0 : chkM v n m = 0) (hn1 : -9223372036854775808 ≤ m.c.n) (hn2 : m.c.n ≤ 9223372036854775807) : Rds (rdMsg v n) (msB v m) (only m (shK m)) := by
 obtain ⟨h1, h2, h3, h4⟩ := val_msg h0
 obtain ⟨hv, hn⟩ := val_call h1
 have hi := shF_inst h4
 have hin := val_inst hi
 obtain ⟨kd, hkd, hkd9, hkd0⟩ := isMK_nat h2
 obtain ⟨k, row, num, x, y, p, q, st, sm, c, sq, dl⟩ := m
 obtain rfl : k = (kd : Int) := hkd
 obtain ⟨rw', rfl⟩ := zI (show 0 ≤ row from hin.1)
 obtain ⟨nu, rfl⟩ := zI (show 0 ≤ num by have := hin.2.2.1; simp only at this; omega)
 simp only at hin hi h2 hn1 hn2
 have hd := head_rds v n (kd := kd) (row := rw') (num := nu) (by omega) (by omega) h2 hi
 have go : ∀ T m', Rds (rTail v n (kd : Int) (rw' : Int) (nu : Int)) T m' → Rds (rdMsg v n) (staP v kd rw' nu ++ T) m' := fun T m' ht =>
  Rds.bind (R1 := iHead v n) (R2 := fun a => rTail v n a.1 a.2.1 a.2.2) hd (fun a => rTail_stk _ _ _ _ _) ht
 have bal : ∀ z, hasB z = true → shF v n ⟨(kd : Int), (rw' : Int), (nu : Int), x, y, p, q, st, sm, c, sq, dl⟩ z = 0 → ∃ xx yy : Nat, x = (xx : Int) ∧ y = (yy : Int) ∧ xx ≤ 2147483647 ∧ yy ≤ 7 ∧ ballB kd n (rw' : Int) (xx : Int) (yy : Int) = true := fun z hz h => by
  have hb := shF_ball h hz
  have hbb := val_bal (val_ball hb).1
  obtain ⟨xx, rfl⟩ := zI (show 0 ≤ x from hbb.1)
  obtain ⟨yy, rfl⟩ := zI (show 0 ≤ y from hbb.2.2.1)
  simp only at hbb
  exact ⟨xx, yy, rfl, rfl, by omega, by omega, hb⟩
 have lod : ∀ may, loadF v n may c sq dl = 0 → ∃ qq : Nat, sq = (qq : Int) := fun may h => by
  have hsq := val_seq (val_load h).2.2.1
  obtain ⟨qq, rfl⟩ := zI (show 0 ≤ sq from hsq.1)
  exact ⟨qq, rfl⟩
 unfold msB
 rcases (by omega : kd = 1 ∨ kd = 2 ∨ kd = 3 ∨ kd = 4 ∨ kd = 5 ∨ kd = 6 ∨ kd = 7 ∨ kd = 8 ∨ kd = 9) with rfl | rfl | rfl | rfl | rfl | rfl | rfl | rfl | rfl
 ·obtain ⟨xx, yy, rfl, rfl, hx, hy, hb⟩ := bal 1 rfl h4
  have hl : loadF v n false c sq dl = 0 := (orL_cons.1 (orL_cons.1 (orL_cons.1 h4).2).2).1
  obtain ⟨qq, rfl⟩ := lod _ hl
  exact go _ _ (rTail_eq (bMs_rds v n 1 _ hx hy hb (K := fun x y => lMs v n false fun c sq dl => ⟨1, rw', nu, x, y, 0, 0, 0, false, c, sq, dl⟩) (fun _ _ => lMs_stk _ _ _ _) (lMs_rds _ hv hn hl hn1 hn2)) fun l f => rfl)
 ·obtain ⟨xx, yy, rfl, rfl, hx, hy, hb⟩ := bal 2 rfl h4
  have hs5 := (unl_zero (show (55 : Int) ≠ 0 by decide)).1 (orL_cons.1 (orL_cons.1 (orL_cons.1 h4).2).2).1
  have hd5 := (unl_zero (show (56 : Int) ≠ 0 by decide)).1 (orL_cons.1 (orL_cons.1 (orL_cons.1 (orL_cons.1 h4).2).2).2).1
  have hsq := val_seq hs5
  obtain ⟨qq, rfl⟩ := zI (show 0 ≤ sq from hsq.1)
  exact go _ _ (rTail_eq (bMs_rds v n 2 _ hx hy hb (K := fun x y => aMs v n fun sq dl => ⟨2, rw', nu, x, y, 0, 0, 0, false, zeroC, sq, dl⟩) (fun _ _ => aMs_stk _ _ _) (aMs_rds _ hv hn hs5 hd5)) fun l f => rfl)
 ·obtain ⟨xx, yy, rfl, rfl, hx, hy, hb⟩ := bal 1 rfl h4
  have hl : loadF v n true c sq dl = 0 := (orL_cons.1 (orL_cons.1 (orL_cons.1 h4).2).2).1
  obtain ⟨qq, rfl⟩ := lod _ hl
  exact go _ _ (rTail_eq (bMs_rds v n 3 _ hx hy hb (K := fun x y => lMs v n true fun c sq dl => ⟨3, rw', nu, x, y, 0, 0, 0, false, c, sq, dl⟩) (fun _ _ => lMs_stk _ _ _ _) (lMs_rds _ hv hn hl hn1 hn2)) fun l f => rfl)
 ·obtain ⟨xx, yy, rfl, rfl, hx, hy, hb⟩ := bal 3 rfl h4
  exact go _ _ (rTail_eq (bMs_rds v n 4 _ hx hy hb (K := fun x y => stopM ⟨4, rw', nu, x, y, 0, 0, 0, false, zeroC, 0, []⟩) (fun _ _ => stopM_stk _) (stopM_rds _)) fun l f => rfl)
 ·have hl : loadF v n true c sq dl = 0 := (orL_cons.1 (orL_cons.1 h4).2).1
  obtain ⟨qq, rfl⟩ := lod _ hl
  exact go _ _ (rTail_eq (lMs_rds _ hv hn hl hn1 hn2) fun l f => rfl)
 ·obtain ⟨xx, yy, rfl, rfl, hx, hy, hb⟩ := bal 3 rfl h4
  exact go _ _ (rTail_eq (bMs_rds v n 6 _ hx hy hb (K := fun x y => stopM ⟨6, rw', nu, x, y, 0, 0, 0, false, zeroC, 0, []⟩) (fun _ _ => stopM_stk _) (stopM_rds _)) fun l f => rfl)
 ·by_cases hst : st = 0
  ·subst hst
   obtain ⟨xx, yy, rfl, rfl, hx, hy, hb⟩ := bal 5 rfl h4
   exact go _ _ (rTail_eq (bMs_rds v n 7 _ hx hy hb (fun x y => vMs_stk v fun st sm => told_stk v n _ _ x y st sm) (vMs_rds v (st := 0) (sm := false) (by decide) (by decide) (fun st sm => told_stk v n _ _ _ _ st sm) (stopM_rds _))) fun l f => rfl)
  ·have hz : shK ⟨((7 : Nat) : Int), (rw' : Int), (nu : Int), x, y, p, q, st, sm, c, sq, dl⟩ = 6 := by unfold shK; simp [hst]
   rw [hz] at h4 ⊢
   obtain ⟨xx, yy, rfl, rfl, hx, hy, hb⟩ := bal 6 rfl h4
   have hvt := (unl_zero (show (54 : Int) ≠ 0 by decide)).1 (orL_cons.1 (orL_cons.1 (orL_cons.1 h4).2).2).1
   have hl : loadF v n (st != 1) c sq dl = 0 := (orL_cons.1 (orL_cons.1 (orL_cons.1 (orL_cons.1 h4).2).2).2).1
   have hvv := val_vote hvt
   obtain ⟨pp, rfl⟩ := zI (show 0 ≤ p from hvv.2.1)
   obtain ⟨rr, rfl⟩ := zI (show 0 ≤ q from hvv.2.2.2.1)
   obtain ⟨ss, rfl⟩ := zI (show 0 ≤ st by have := hvv.1; simp only at this; omega)
   simp only at hvv
   obtain ⟨qq, rfl⟩ := lod _ hl
   have hss : ss ≤ 2 := by omega
   have hsm : sm = true → ss = 1 := fun e => by subst e; have := hvv.2.2.2.2.2.2.2; simp at this; omega
   have hu : unl (voteB n (rw' : Int) (xx : Int) (yy : Int) (ss : Int) sm (pp : Int) (rr : Int)) 54 = 0 := (unl_zero (by decide)).2 hvt
   refine go _ _ (rTail_eq (bMs_rds v n 7 _ hx hy hb (fun x y => vMs_stk v fun st sm => told_stk v n _ _ x y st sm) (vMs_rds v hss hsm (fun st sm => told_stk v n _ _ _ _ st sm) ?_)) fun l f => rfl)
   simp only [if_neg hst]
   exact pMs_rds v (by omega) (by omega) (fun p q => gMs_stk _ (lMs_stk _ _ _ _)) (gMs_rds hu (lMs_rds _ hv hn hl hn1 hn2))
 ·obtain ⟨xx, yy, rfl, rfl, hx, hy, hb⟩ := bal 7 rfl h4
  have hnk := (unl_zero (show (54 : Int) ≠ 0 by decide)).1 (orL_cons.1 (orL_cons.1 (orL_cons.1 h4).2).2).1
  have hvv := val_nack hnk
  obtain ⟨pp, rfl⟩ := zI (show 0 ≤ p from hvv.1)
  obtain ⟨rr, rfl⟩ := zI (show 0 ≤ q from hvv.2.2.1)
  simp only at hvv
  have hu : unl (nackB n (rw' : Int) (xx : Int) (yy : Int) (pp : Int) (rr : Int)) 54 = 0 := (unl_zero (by decide)).2 hnk
  have hpp : pp ≤ 2147483647 := by omega
  have hrr : rr ≤ 7 := by omega
  exact go _ _ (rTail_eq (bMs_rds v n 8 _ hx hy hb (K := fun x y => pMs v fun p q => endM ⟨8, rw', nu, x, y, p, q, 0, false, zeroC, 0, []⟩ (unl (nackB n rw' x y p q) 54)) (fun x y => pMs_stk v fun _ _ => endM_stk _ _) (pMs_rds v hpp hrr (fun _ _ => endM_stk _ _) (endM_rds _ hu))) fun l f => rfl)
 ·exact go _ _ (rTail_eq (stopM_rds _) fun l f => rfl)
open Go.RowKit Go.Wire1
def sameC (c d : Cm) : Bool := (c.kind == d.kind) && (c.client == d.client) && (c.req == d.req) && (c.n == d.n) && teq c.key d.key && teq c.key2 d.key2 && teq c.val d.val && teq c.old d.old
theorem sameCmd_any (c d : Cm) (w : World) :
  Calls Tryz.prog 17 #[.agg #[.int .i64 c.kind, .int .i64 c.client, .int .i64 c.req, .string c.key, .string c.key2, .string c.val, .string c.old, .int .i64 c.n], .agg #[.int .i64 d.kind, .int .i64 d.client, .int .i64 d.req, .string d.key, .string d.key2, .string d.val, .string d.old, .int .i64 d.n]] w fun e w' => e = .returned (.bool (sameC c d)) ∧ Below w.heap.size w w' := by
 obtain ⟨r, hr⟩ : ∃ r, Hid (sameC c d = r) := ⟨_, rfl⟩
 rw [hr.out]
 have BB : ∀ o p, Hid (Below w.heap.size w ((w.alloc o).alloc p)) := fun o p => ((Below.refl _ w).alloc zN _).alloc (by simp) _
 by_cases h0 : c.kind = d.kind
 rotate_left
 ·have e : Hid (r = false) := by rw [← hr.out]; simp [Hid, sameC, teq, h0]
  rw [e.out]
  clear hr e
  go_enter Tryz.func17, Tryz.ntmps17
  go_wp2
  go_ret
  exact ⟨rfl, (BB _ _).out⟩
 by_cases h1 : c.client = d.client
 rotate_left
 ·have e : Hid (r = false) := by rw [← hr.out]; simp [Hid, sameC, teq, h0, h1]
  rw [e.out]
  clear hr e
  go_enter Tryz.func17, Tryz.ntmps17
  go_wp2
  go_ret
  exact ⟨rfl, (BB _ _).out⟩
 by_cases h2 : c.req = d.req
 rotate_left
 ·have e : Hid (r = false) := by rw [← hr.out]; simp [Hid, sameC, teq, h0, h1, h2]
  rw [e.out]
  clear hr e
  go_enter Tryz.func17, Tryz.ntmps17
  go_wp2
  go_ret
  exact ⟨rfl, (BB _ _).out⟩
 by_cases h3 : c.n = d.n
 rotate_left
 ·have e : Hid (r = false) := by rw [← hr.out]; simp [Hid, sameC, teq, h0, h1, h2, h3]
  rw [e.out]
  clear hr e
  go_enter Tryz.func17, Tryz.ntmps17
  go_wp2
  go_ret
  exact ⟨rfl, (BB _ _).out⟩
 cases h4 : (c.key.toList == d.key.toList) with
 | false =>
  have e : Hid (r = false) := by rw [← hr.out]; simp [Hid, sameC, teq, h0, h1, h2, h3, h4]
  rw [e.out]
  clear hr e
  go_enter Tryz.func17, Tryz.ntmps17
  go_wp2
  go_ret
  exact ⟨rfl, (BB _ _).out⟩
 | true =>
  cases h5 : (c.key2.toList == d.key2.toList) with
  | false =>
   have e : Hid (r = false) := by rw [← hr.out]; simp [Hid, sameC, teq, h0, h1, h2, h3, h4, h5]
   rw [e.out]
   clear hr e
   go_enter Tryz.func17, Tryz.ntmps17
   go_wp2
   go_ret
   exact ⟨rfl, (BB _ _).out⟩
  | true =>
   cases h6 : (c.val.toList == d.val.toList) with
   | false =>
    have e : Hid (r = false) := by rw [← hr.out]; simp [Hid, sameC, teq, h0, h1, h2, h3, h4, h5, h6]
    rw [e.out]
    clear hr e
    go_enter Tryz.func17, Tryz.ntmps17
    go_wp2
    go_ret
    exact ⟨rfl, (BB _ _).out⟩
   | true =>
    cases h7 : (c.old.toList == d.old.toList) with
    | false =>
     have e : Hid (r = false) := by rw [← hr.out]; simp [Hid, sameC, teq, h0, h1, h2, h3, h4, h5, h6, h7]
     rw [e.out]
     clear hr e
     go_enter Tryz.func17, Tryz.ntmps17
     go_wp2
     go_ret
     exact ⟨rfl, (BB _ _).out⟩
    | true =>
     have e : Hid (r = true) := by rw [← hr.out]; simp [Hid, sameC, teq, h0, h1, h2, h3, h4, h5, h6, h7]
     rw [e.out]
     clear hr e
     go_enter Tryz.func17, Tryz.ntmps17
     go_wp2
     go_ret
     exact ⟨rfl, (BB _ _).out⟩
open Go.RowKit Go.Wire1
theorem sameI_any (a b : Option Addr) (n m cap cap' : Nat) (xs ys : List Int) (w : World) (ha : SegI w a n xs) (hb : SegI w b m ys) :
  Calls Tryz.prog 18 #[.slice a n cap, .slice b m cap'] w fun e w' => e = .returned (.bool (sameB xs ys)) ∧ ∃ q, w' = w.drewN q := by
 obtain ⟨hn, hn', ha, -⟩ := ha
 obtain ⟨hm, hm', hb, -⟩ := hb
 unfold maxLen at hn' hm'
 by_cases hnm : n = m
 ·subst hnm
  have HN : Hid (xs.length = n) := hn
  have HM : Hid (ys.length = n) := hm
  clear hn hm
  go_enter Tryz.func18, Tryz.ntmps18
  go_wp2
  go_loopw [5] (fun i wr => ∃ k q : Nat, i = .int .i64 k ∧ k ≤ n ∧ Hid (xs.take k = ys.take k) ∧ wr = w.drewN q) (fun i _ => n - (intOf i).toNat)
  case atStart => exact ⟨0, 0, rfl, Nat.zero_le _, rfl, rfl⟩
  case round =>
   obtain ⟨k, q, rfl, hk, HT, rfl⟩ := hrel
   by_cases hlt : k < n
   ·obtain ⟨ba, oa, rfl, hca⟩ := ha (by omega)
    obtain ⟨bb, ob, rfl, hcb⟩ := hb (by omega)
    have ca : w.cell? ⟨ba, oa + k, none⟩ = some (.int .i64 (xs.getD k 0)) := hca k hlt
    have cb : w.cell? ⟨bb, ob + k, none⟩ = some (.int .i64 (ys.getD k 0)) := hcb k hlt
    clear ha hb hca hcb
    by_cases he : xs.getD k 0 = ys.getD k 0
    ·have HT' : Hid (xs.take (k + 1) = ys.take (k + 1)) := take_step (by have := HN.out; omega) (by have := HM.out; omega) HT.out he
     rw [← he] at cb
     clear he
     generalize xs.getD k 0 = c at ca cb
     go_wp2
     go_quiet (fail)
     go_wp2
     go_roundw
     case rel => exact ⟨k + 1, _, by go_num, by omega, HT', rfl⟩
     case measure => simp [intOf]; omega
    ·have HS : Hid (sameB xs ys = false) := same_no he
     have hb' : (xs.getD k 0 != ys.getD k 0) = true := by simpa using he
     clear he
     generalize xs.getD k 0 = c at ca hb'
     generalize ys.getD k 0 = d at cb hb'
     go_wp2
     go_quiet (fail)
     go_wp2
     go_ret
     exact ⟨by rw [HS.out]; rfl, _, by rw [World.drewN_drewN]⟩
   ·have HS : Hid (sameB xs ys = true) := same_yes (by have := HT.out; rwa [List.take_of_length_le (by have := HN.out; omega), List.take_of_length_le (by have := HM.out; omega)] at this)
    go_wp2
    go_ret
    exact ⟨by rw [HS.out]; rfl, _, rfl⟩
 ·have HS : Hid (sameB xs ys = false) := same_len (by omega)
  have hne : ((n : Int) != (m : Int)) = true := by rw [bne_iff_ne]; omega
  go_enter Tryz.func18, Tryz.ntmps18
  go_wp2
  go_ret
  exact ⟨by rw [HS.out]; rfl, 0, rfl⟩
open Go.RowKit Go.Wire1
theorem msameC_self (c : Cm) : sameC c c = true := by simp [sameC, teq]
theorem sameB_self (l : List Int) : sameB l l = true := by
 unfold sameB
 simp
theorem sameInst_same (x y : Int) (w : World) : Calls Tryz.prog 15 #[.agg #[.int .i64 x, .int .i64 y], .agg #[.int .i64 x, .int .i64 y]] w fun e w' => e = .returned (.bool true) ∧ Below w.heap.size w w' := by
 have BB : ∀ o p, Hid (Below w.heap.size w ((w.alloc o).alloc p)) := fun o p => ((Below.refl _ w).alloc zN _).alloc (by simp) _
 go_enter Tryz.func15, Tryz.ntmps15
 go_wp2
 go_ret
 exact ⟨rfl, (BB _ _).out⟩
theorem sameBallot_same (x y : Int) (w : World) : Calls Tryz.prog 16 #[.agg #[.int .i64 x, .int .i64 y], .agg #[.int .i64 x, .int .i64 y]] w fun e w' => e = .returned (.bool true) ∧ Below w.heap.size w w' := by
 have BB : ∀ o p, Hid (Below w.heap.size w ((w.alloc o).alloc p)) := fun o p => ((Below.refl _ w).alloc zN _).alloc (by simp) _
 go_enter Tryz.func16, Tryz.ntmps16
 go_wp2
 go_ret
 exact ⟨rfl, (BB _ _).out⟩
theorem sameMsg_same (m : Ms) (ua va : Option Addr) (uk uc vk vc : Nat) (w : World) (h1 : SegI w ua uk m.dl) (h2 : SegI w va vk m.dl) :
  Calls Tryz.prog 7 #[.agg (mgc m (.slice ua uk uc)).toArray, .agg (mgc m (.slice va vk vc)).toArray] w fun e w' => e = .returned (.bool true) ∧ Below w.heap.size w w' := by
 obtain ⟨V, hV⟩ : ∃ V, V = (w.alloc (.cells (mgc m (.slice ua uk uc)).toArray 30)).alloc (.cells (mgc m (.slice va vk vc)).toArray 30) := ⟨_, rfl⟩
 have BV : Hid (Below w.heap.size w V) := by rw [hV]; exact ((Below.refl _ w).alloc zN _).alloc (by simp) _
 have QV : Hid (Blk V w.heap.size (mgc m (.slice ua uk uc)) ∧ Blk V (w.heap.size + 1) (mgc m (.slice va vk vc))) := by
  rw [hV]
  refine ⟨(blk_new w 30 (mgc m (.slice ua uk uc))).on ((Below.refl _ _).alloc zN _), ?_⟩
  have := blk_new (w.alloc (.cells (mgc m (.slice ua uk uc)).toArray 30)) 30 (mgc m (.slice va vk vc))
  rwa [show (w.alloc (.cells (mgc m (.slice ua uk uc)).toArray 30)).heap.size = w.heap.size + 1 by simp] at this
 have H1 := hide h1
 have H2 := hide h2
 clear h1 h2
 have Vp0 : V.cell? ⟨w.heap.size, 0, none⟩ = some (.int .i64 m.kind) := QV.out.1.cell 0 _ rfl
 have Vq0 : V.cell? ⟨w.heap.size + 1, 0, none⟩ = some (.int .i64 m.kind) := QV.out.2.cell 0 _ rfl
 have Vp7 : V.cell? ⟨w.heap.size, 7, none⟩ = some (.int .i64 m.st) := QV.out.1.cell 7 _ rfl
 have Vq7 : V.cell? ⟨w.heap.size + 1, 7, none⟩ = some (.int .i64 m.st) := QV.out.2.cell 7 _ rfl
 have Vp8 : V.cell? ⟨w.heap.size, 8, none⟩ = some (.bool m.sm) := QV.out.1.cell 8 _ rfl
 have Vq8 : V.cell? ⟨w.heap.size + 1, 8, none⟩ = some (.bool m.sm) := QV.out.2.cell 8 _ rfl
 have Vp17 : V.cell? ⟨w.heap.size, 17, none⟩ = some (.int .i64 m.sq) := QV.out.1.cell 17 _ rfl
 have Vq17 : V.cell? ⟨w.heap.size + 1, 17, none⟩ = some (.int .i64 m.sq) := QV.out.2.cell 17 _ rfl
 have Vp1 : V.cell? ⟨w.heap.size, 1, none⟩ = some (.int .i64 m.row) := QV.out.1.cell 1 _ rfl
 have Vq1 : V.cell? ⟨w.heap.size + 1, 1, none⟩ = some (.int .i64 m.row) := QV.out.2.cell 1 _ rfl
 have Vp2 : V.cell? ⟨w.heap.size, 2, none⟩ = some (.int .i64 m.num) := QV.out.1.cell 2 _ rfl
 have Vq2 : V.cell? ⟨w.heap.size + 1, 2, none⟩ = some (.int .i64 m.num) := QV.out.2.cell 2 _ rfl
 go_enter Tryz.func7, Tryz.ntmps7
 go_upto_region 1 with fail
 rw [← hV]
 clear hV
 go_wp2_with fail
 refine (sameInst_same m.row m.num _).mono ?_
 rintro e W ⟨rfl, h⟩
 have BW : Hid (Below w.heap.size w W) := BV.out.trans (h.mono BV.out.size)
 have QW : Hid (Blk W w.heap.size (mgc m (.slice ua uk uc)) ∧ Blk W (w.heap.size + 1) (mgc m (.slice va vk vc))) := ⟨QV.out.1.on h, QV.out.2.on h⟩
 clear h
 have Wp3 : W.cell? ⟨w.heap.size, 3, none⟩ = some (.int .i64 m.x) := QW.out.1.cell 3 _ rfl
 have Wq3 : W.cell? ⟨w.heap.size + 1, 3, none⟩ = some (.int .i64 m.x) := QW.out.2.cell 3 _ rfl
 have Wp4 : W.cell? ⟨w.heap.size, 4, none⟩ = some (.int .i64 m.y) := QW.out.1.cell 4 _ rfl
 have Wq4 : W.cell? ⟨w.heap.size + 1, 4, none⟩ = some (.int .i64 m.y) := QW.out.2.cell 4 _ rfl
 go_wp2_with fail
 refine (sameBallot_same m.x m.y _).mono ?_
 rintro e X ⟨rfl, h⟩
 have BX : Hid (Below w.heap.size w X) := BW.out.trans (h.mono BW.out.size)
 have QX : Hid (Blk X w.heap.size (mgc m (.slice ua uk uc)) ∧ Blk X (w.heap.size + 1) (mgc m (.slice va vk vc))) := ⟨QW.out.1.on h, QW.out.2.on h⟩
 clear h
 have Xp5 : X.cell? ⟨w.heap.size, 5, none⟩ = some (.int .i64 m.p) := QX.out.1.cell 5 _ rfl
 have Xq5 : X.cell? ⟨w.heap.size + 1, 5, none⟩ = some (.int .i64 m.p) := QX.out.2.cell 5 _ rfl
 have Xp6 : X.cell? ⟨w.heap.size, 6, none⟩ = some (.int .i64 m.q) := QX.out.1.cell 6 _ rfl
 have Xq6 : X.cell? ⟨w.heap.size + 1, 6, none⟩ = some (.int .i64 m.q) := QX.out.2.cell 6 _ rfl
 go_wp2_with fail
 refine (sameBallot_same m.p m.q _).mono ?_
 rintro e X2 ⟨rfl, h⟩
 have BX2 : Hid (Below w.heap.size w X2) := BX.out.trans (h.mono BX.out.size)
 have QX2 : Hid (Blk X2 w.heap.size (mgc m (.slice ua uk uc)) ∧ Blk X2 (w.heap.size + 1) (mgc m (.slice va vk vc))) := ⟨QX.out.1.on h, QX.out.2.on h⟩
 clear h
 have X2p9 : X2.cell? ⟨w.heap.size, 9, none⟩ = some (.int .i64 m.c.kind) := QX2.out.1.cell 9 _ rfl
 have X2q9 : X2.cell? ⟨w.heap.size + 1, 9, none⟩ = some (.int .i64 m.c.kind) := QX2.out.2.cell 9 _ rfl
 have X2p10 : X2.cell? ⟨w.heap.size, 10, none⟩ = some (.int .i64 m.c.client) := QX2.out.1.cell 10 _ rfl
 have X2q10 : X2.cell? ⟨w.heap.size + 1, 10, none⟩ = some (.int .i64 m.c.client) := QX2.out.2.cell 10 _ rfl
 have X2p11 : X2.cell? ⟨w.heap.size, 11, none⟩ = some (.int .i64 m.c.req) := QX2.out.1.cell 11 _ rfl
 have X2q11 : X2.cell? ⟨w.heap.size + 1, 11, none⟩ = some (.int .i64 m.c.req) := QX2.out.2.cell 11 _ rfl
 have X2p12 : X2.cell? ⟨w.heap.size, 12, none⟩ = some (.string m.c.key) := QX2.out.1.cell 12 _ rfl
 have X2q12 : X2.cell? ⟨w.heap.size + 1, 12, none⟩ = some (.string m.c.key) := QX2.out.2.cell 12 _ rfl
 have X2p13 : X2.cell? ⟨w.heap.size, 13, none⟩ = some (.string m.c.key2) := QX2.out.1.cell 13 _ rfl
 have X2q13 : X2.cell? ⟨w.heap.size + 1, 13, none⟩ = some (.string m.c.key2) := QX2.out.2.cell 13 _ rfl
 have X2p14 : X2.cell? ⟨w.heap.size, 14, none⟩ = some (.string m.c.val) := QX2.out.1.cell 14 _ rfl
 have X2q14 : X2.cell? ⟨w.heap.size + 1, 14, none⟩ = some (.string m.c.val) := QX2.out.2.cell 14 _ rfl
 have X2p15 : X2.cell? ⟨w.heap.size, 15, none⟩ = some (.string m.c.old) := QX2.out.1.cell 15 _ rfl
 have X2q15 : X2.cell? ⟨w.heap.size + 1, 15, none⟩ = some (.string m.c.old) := QX2.out.2.cell 15 _ rfl
 have X2p16 : X2.cell? ⟨w.heap.size, 16, none⟩ = some (.int .i64 m.c.n) := QX2.out.1.cell 16 _ rfl
 have X2q16 : X2.cell? ⟨w.heap.size + 1, 16, none⟩ = some (.int .i64 m.c.n) := QX2.out.2.cell 16 _ rfl
 go_wp2_with fail
 refine (sameCmd_any m.c m.c _).mono ?_
 rintro e Y ⟨rfl, h⟩
 rw [msameC_self]
 have BY : Hid (Below w.heap.size w Y) := BX2.out.trans (h.mono BX2.out.size)
 have QY : Hid (Blk Y w.heap.size (mgc m (.slice ua uk uc)) ∧ Blk Y (w.heap.size + 1) (mgc m (.slice va vk vc))) := ⟨QX2.out.1.on h, QX2.out.2.on h⟩
 clear h
 have Yp18 : Y.cell? ⟨w.heap.size, 18, none⟩ = some (.slice ua uk uc) := QY.out.1.cell 18 _ rfl
 have Yq18 : Y.cell? ⟨w.heap.size + 1, 18, none⟩ = some (.slice va vk vc) := QY.out.2.cell 18 _ rfl
 go_wp2_with fail
 refine (sameI_any _ _ _ _ _ _ _ _ _ (H1.out.below BY.out zN) (H2.out.below BY.out zN)).mono ?_
 rintro e Z ⟨rfl, q, rfl⟩
 rw [sameB_self]
 go_wp2
 go_ret
 exact ⟨rfl, ⟨BY.out.1, BY.out.2, BY.out.3, BY.out.4, BY.out.5⟩⟩
open Go.RowKit Go.Wire1
theorem same_any (a b : Option Addr) (n m cap cap' : Nat) (xs ys : List Int) (w : World) (ha : Seg w a n xs) (hb : Seg w b m ys) :
  Calls Tryz.prog 8 #[.slice a n cap, .slice b m cap'] w fun e w' => e = .returned (.bool (sameB xs ys)) ∧ ∃ q, w' = w.drewN q := by
 obtain ⟨hn, hn', ha⟩ := ha
 obtain ⟨hm, hm', hb⟩ := hb
 unfold maxLen at hn' hm'
 by_cases hnm : n = m
 ·subst hnm
  have HN : Hid (xs.length = n) := hn
  have HM : Hid (ys.length = n) := hm
  clear hn hm
  go_enter Tryz.func8, Tryz.ntmps8
  go_wp2
  go_loopw [5] (fun i wr => ∃ k q : Nat, i = .int .i64 k ∧ k ≤ n ∧ Hid (xs.take k = ys.take k) ∧ wr = w.drewN q) (fun i _ => n - (intOf i).toNat)
  case atStart => exact ⟨0, 0, rfl, Nat.zero_le _, rfl, rfl⟩
  case round =>
   obtain ⟨k, q, rfl, hk, HT, rfl⟩ := hrel
   by_cases hlt : k < n
   ·obtain ⟨ba, oa, rfl, hca⟩ := ha (by omega)
    obtain ⟨bb, ob, rfl, hcb⟩ := hb (by omega)
    have ca : w.cell? ⟨ba, oa + k, none⟩ = some (.int .u8 (xs.getD k 0)) := hca k hlt
    have cb : w.cell? ⟨bb, ob + k, none⟩ = some (.int .u8 (ys.getD k 0)) := hcb k hlt
    clear ha hb hca hcb
    by_cases he : xs.getD k 0 = ys.getD k 0
    ·have HT' : Hid (xs.take (k + 1) = ys.take (k + 1)) := take_step (by have := HN.out; omega) (by have := HM.out; omega) HT.out he
     rw [← he] at cb
     clear he
     generalize xs.getD k 0 = c at ca cb
     go_wp2
     go_quiet (fail)
     go_wp2
     go_roundw
     case rel => exact ⟨k + 1, _, by go_num, by omega, HT', rfl⟩
     case measure => simp [intOf]; omega
    ·have HS : Hid (sameB xs ys = false) := same_no he
     have hb' : (xs.getD k 0 != ys.getD k 0) = true := by simpa using he
     clear he
     generalize xs.getD k 0 = c at ca hb'
     generalize ys.getD k 0 = d at cb hb'
     go_wp2
     go_quiet (fail)
     go_wp2
     go_ret
     exact ⟨by rw [HS.out]; rfl, _, by rw [World.drewN_drewN]⟩
   ·have HS : Hid (sameB xs ys = true) := same_yes (by have := HT.out; rwa [List.take_of_length_le (by have := HN.out; omega), List.take_of_length_le (by have := HM.out; omega)] at this)
    go_wp2
    go_ret
    exact ⟨by rw [HS.out]; rfl, _, rfl⟩
 ·have HS : Hid (sameB xs ys = false) := same_len (by omega)
  have hne : ((n : Int) != (m : Int)) = true := by rw [bne_iff_ne]; omega
  go_enter Tryz.func8, Tryz.ntmps8
  go_wp2
  go_ret
  exact ⟨by rw [HS.out]; rfl, 0, rfl⟩
end Go.Proofs.YtibfdoggolkljaaGreatDoor
