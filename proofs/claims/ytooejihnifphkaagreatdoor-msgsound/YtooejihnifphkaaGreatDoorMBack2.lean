/- A valid message's bytes are read back as the message: the mathematics. -/
import Derived.Test.YtooejihnifphkaaGreatDoorMBack
namespace Go.Proofs.YtooejihnifphkaaGreatDoor
open Go.RowKit Go.Wire1

theorem Stk.bind {α β : Type} {R1 : List Int → Int → α × List Int × Int} {R2 : α → List Int → Int → β × List Int × Int} (h1 : Stk R1) (h2 : ∀ a, Stk (R2 a)) : Stk (fun l f => R2 (R1 l f).1 (R1 l f).2.1 (R1 l f).2.2) := fun l f h => by
  have e := h1 l f h
  have := h2 (R1 l f).1 (R1 l f).2.1 (R1 l f).2.2 (by rw [e]; exact h)
  show (R2 (R1 l f).1 (R1 l f).2.1 (R1 l f).2.2).2.2 = f
  rw [this, e]
theorem Rds.bind {α β : Type} {R1 : List Int → Int → α × List Int × Int} {R2 : α → List Int → Int → β × List Int × Int} {B1 B2 : List Int} {a : α} {b : β} (h1 : Rds R1 B1 a) (s2 : ∀ a, Stk (R2 a)) (h2 : Rds (R2 a) B2 b) : Rds (fun l f => R2 (R1 l f).1 (R1 l f).2.1 (R1 l f).2.2) (B1 ++ B2) b := by
  refine ⟨fun r => ?_, fun k hk => ?_⟩
  · simp only [List.append_assoc, h1.full, h2.full]
  · by_cases h : k < B1.length
    · rw [take_l h]
      have e := h1.cut k h
      have := s2 (R1 (B1.take k) 0).1 (R1 (B1.take k) 0).2.1 (R1 (B1.take k) 0).2.2 (by rw [e]; decide)
      exact this.trans e
    · rw [take_r h]
      simp only [h1.full]
      rw [List.length_append] at hk
      exact h2.cut _ (by omega)
def endM (m : Ms) (e : Int) (l : List Int) (f : Int) : Ms × List Int × Int := (m, l, refF e f)
theorem endM_stk (m : Ms) (e : Int) : Stk (endM m e) := fun _l _f h => refF_stk h
theorem endM_rds (m : Ms) {e : Int} (he : e = 0) : Rds (endM m e) [] m := ⟨fun r => by subst he; rfl, fun k hk => absurd hk (by simp)⟩
def stopM (m : Ms) (l : List Int) (f : Int) : Ms × List Int × Int := (m, l, f)
theorem stopM_stk (m : Ms) : Stk (stopM m) := fun _ _ _ => rfl
theorem stopM_rds (m : Ms) : Rds (stopM m) [] m := ⟨fun r => rfl, fun k hk => absurd hk (by simp)⟩
def lMs (v n : Int) (may : Bool) (mk : Cm → Int → List Int → Ms) (l : List Int) (f : Int) : Ms × List Int × Int := stopM (mk (iLoad v n may l f).1.1 (iLoad v n may l f).1.2.1 (iLoad v n may l f).1.2.2) (iLoad v n may l f).2.1 (iLoad v n may l f).2.2
theorem lMs_stk (v n : Int) (may : Bool) (mk : Cm → Int → List Int → Ms) : Stk (lMs v n may mk) := Stk.bind (R1 := iLoad v n may) (R2 := fun t => stopM (mk t.1 t.2.1 t.2.2)) (load_stk v n may) fun _ => stopM_stk _
theorem lMs_rds {v n : Int} {may : Bool} (mk : Cm → Int → List Int → Ms) {c : Cm} {sq : Nat} {dl : List Int} (hv : v = 1 ∨ v = 2) (hn : 1 ≤ n ∧ n ≤ 7) (hl : loadF v n may c (sq : Int) dl = 0) (hn1 : -9223372036854775808 ≤ c.n) (hn2 : c.n ≤ 9223372036854775807) : Rds (lMs v n may mk) (lodP v c sq dl ++ []) (mk c (sq : Int) dl) :=
  Rds.bind (R1 := iLoad v n may) (R2 := fun t => stopM (mk t.1 t.2.1 t.2.2)) (load_rds hv hn hl hn1 hn2) (fun _ => stopM_stk _) (stopM_rds _)
def aMs (v n : Int) (mk : Int → List Int → Ms) (l : List Int) (f : Int) : Ms × List Int × Int := stopM (mk (iAttr v n false l f).1.1 (iAttr v n false l f).1.2) (iAttr v n false l f).2.1 (iAttr v n false l f).2.2
theorem aMs_stk (v n : Int) (mk : Int → List Int → Ms) : Stk (aMs v n mk) := Stk.bind (R1 := iAttr v n false) (R2 := fun t => stopM (mk t.1 t.2)) (attr_stk v n false) fun _ => stopM_stk _
theorem aMs_rds {v n : Int} (mk : Int → List Int → Ms) {sq : Nat} {dl : List Int} (hv : v = 1 ∨ v = 2) (hn : 1 ≤ n ∧ n ≤ 7) (hs : seqB false (sq : Int) = true) (hd : depsB n false dl = true) : Rds (aMs v n mk) (attP v sq dl ++ []) (mk (sq : Int) dl) :=
  Rds.bind (R1 := iAttr v n false) (R2 := fun t => stopM (mk t.1 t.2)) (attr_rds hv hn hs hd) (fun _ => stopM_stk _) (stopM_rds _)
def bMs (v n : Int) (kd : Nat) (row : Int) (K : Int → Int → List Int → Int → Ms × List Int × Int) (l : List Int) (f : Int) : Ms × List Int × Int := K (iBalF v n kd row l f).1.1 (iBalF v n kd row l f).1.2 (iBalF v n kd row l f).2.1 (iBalF v n kd row l f).2.2
theorem bMs_stk (v n : Int) (kd : Nat) (row : Int) {K : Int → Int → List Int → Int → Ms × List Int × Int} (hK : ∀ x y, Stk (K x y)) : Stk (bMs v n kd row K) := Stk.bind (R1 := iBalF v n kd row) (R2 := fun t => K t.1 t.2) (balF_stk v n kd row) fun _ => hK _ _
theorem bMs_rds (v n : Int) (kd : Nat) (row : Int) {x y : Nat} (hx : x ≤ 2147483647) (hy : y ≤ 7) (hb : ballB kd n row (x : Int) (y : Int) = true) {K : Int → Int → List Int → Int → Ms × List Int × Int} (hK : ∀ x y, Stk (K x y)) {B : List Int} {m : Ms} (h : Rds (K x y) B m) : Rds (bMs v n kd row K) (balP v x y ++ B) m :=
  Rds.bind (R1 := iBalF v n kd row) (R2 := fun t => K t.1 t.2) (balF_rds v n kd row hx hy hb) (fun _ => hK _ _) h
def pMs (v : Int) (K : Int → Int → List Int → Int → Ms × List Int × Int) (l : List Int) (f : Int) : Ms × List Int × Int := K (iBal v l f).1.1 (iBal v l f).1.2 (iBal v l f).2.1 (iBal v l f).2.2
theorem pMs_stk (v : Int) {K : Int → Int → List Int → Int → Ms × List Int × Int} (hK : ∀ x y, Stk (K x y)) : Stk (pMs v K) := Stk.bind (R1 := iBal v) (R2 := fun t => K t.1 t.2) (bal_stk v) fun _ => hK _ _
theorem pMs_rds (v : Int) {x y : Nat} (hx : x ≤ 2147483647) (hy : y ≤ 7) {K : Int → Int → List Int → Int → Ms × List Int × Int} (hK : ∀ x y, Stk (K x y)) {B : List Int} {m : Ms} (h : Rds (K x y) B m) : Rds (pMs v K) (balP v x y ++ B) m :=
  Rds.bind (R1 := iBal v) (R2 := fun t => K t.1 t.2) (bal_rds v hx hy) (fun _ => hK _ _) h
def vMs (v : Int) (K : Int → Bool → List Int → Int → Ms × List Int × Int) (l : List Int) (f : Int) : Ms × List Int × Int := K (iVote v l f).1.1 (iVote v l f).1.2 (iVote v l f).2.1 (iVote v l f).2.2
theorem vMs_stk (v : Int) {K : Int → Bool → List Int → Int → Ms × List Int × Int} (hK : ∀ x y, Stk (K x y)) : Stk (vMs v K) := Stk.bind (R1 := iVote v) (R2 := fun t => K t.1 t.2) (vote_stk v) fun _ => hK _ _
theorem vMs_rds (v : Int) {st : Nat} {sm : Bool} (hs : st ≤ 2) (hm : sm = true → st = 1) {K : Int → Bool → List Int → Int → Ms × List Int × Int} (hK : ∀ x y, Stk (K x y)) {B : List Int} {m : Ms} (h : Rds (K st sm) B m) : Rds (vMs v K) (votP v st sm ++ B) m :=
  Rds.bind (R1 := iVote v) (R2 := fun t => K t.1 t.2) (vote_rds v hs hm) (fun _ => hK _ _) h
def gMs (e : Int) (K : List Int → Int → Ms × List Int × Int) (l : List Int) (f : Int) : Ms × List Int × Int := K l (refF e f)
theorem gMs_stk (e : Int) {K : List Int → Int → Ms × List Int × Int} (hK : Stk K) : Stk (gMs e K) := fun l f h => by
  show (K l (refF e f)).2.2 = f
  rw [refF_stk h]; exact hK l f h
theorem gMs_rds {e : Int} (he : e = 0) {K : List Int → Int → Ms × List Int × Int} {B : List Int} {m : Ms} (h : Rds K B m) : Rds (gMs e K) B m := by
  subst he
  exact ⟨fun r => h.full r, fun k hk => h.cut k hk⟩
/-- What a scan reads of a message behind its head. -/
def rTail (v n k row num : Int) (l : List Int) (f : Int) : Ms × List Int × Int :=
  if k = 1 then bMs v n 1 row (fun x y => lMs v n false fun c sq dl => ⟨1, row, num, x, y, 0, 0, 0, false, c, sq, dl⟩) l f
  else if k = 3 then bMs v n 3 row (fun x y => lMs v n true fun c sq dl => ⟨3, row, num, x, y, 0, 0, 0, false, c, sq, dl⟩) l f
  else if k = 2 then bMs v n 2 row (fun x y => aMs v n fun sq dl => ⟨2, row, num, x, y, 0, 0, 0, false, zeroC, sq, dl⟩) l f
  else if k = 4 then bMs v n 4 row (fun x y => stopM ⟨4, row, num, x, y, 0, 0, 0, false, zeroC, 0, []⟩) l f
  else if k = 6 then bMs v n 6 row (fun x y => stopM ⟨6, row, num, x, y, 0, 0, 0, false, zeroC, 0, []⟩) l f
  else if k = 5 then lMs v n true (fun c sq dl => ⟨5, row, num, 0, 0, 0, 0, 0, false, c, sq, dl⟩) l f
  else if k = 7 then bMs v n 7 row (fun x y => vMs v fun st sm l f => if st = 0 then stopM ⟨7, row, num, x, y, 0, 0, 0, false, zeroC, 0, []⟩ l f else pMs v (fun p q => gMs (unl (voteB n row x y st sm p q) 54) (lMs v n (st != 1) fun c sq dl => ⟨7, row, num, x, y, p, q, st, sm, c, sq, dl⟩)) l f) l f
  else if k = 8 then bMs v n 8 row (fun x y => pMs v fun p q => endM ⟨8, row, num, x, y, p, q, 0, false, zeroC, 0, []⟩ (unl (nackB n row x y p q) 54)) l f
  else stopM ⟨k, row, num, 0, 0, 0, 0, 0, false, zeroC, 0, []⟩ l f
theorem rdMsg_tail (v n : Int) (l : List Int) (f : Int) : rdMsg v n l f = rTail v n (iHead v n l f).1.1 (iHead v n l f).1.2.1 (iHead v n l f).1.2.2 (iHead v n l f).2.1 (iHead v n l f).2.2 := rfl
theorem told_stk (v n row num x y : Int) (st : Int) (sm : Bool) : Stk fun l f => if st = 0 then stopM ⟨7, row, num, x, y, 0, 0, 0, false, zeroC, 0, []⟩ l f else pMs v (fun p q => gMs (unl (voteB n row x y st sm p q) 54) (lMs v n (st != 1) fun c sq dl => ⟨7, row, num, x, y, p, q, st, sm, c, sq, dl⟩)) l f := fun l f h => by
  show (if st = 0 then stopM ⟨7, row, num, x, y, 0, 0, 0, false, zeroC, 0, []⟩ l f else pMs v (fun p q => gMs (unl (voteB n row x y st sm p q) 54) (lMs v n (st != 1) fun c sq dl => ⟨7, row, num, x, y, p, q, st, sm, c, sq, dl⟩)) l f).2.2 = f
  split
  · exact stopM_stk _ l f h
  · exact pMs_stk v (fun p q => gMs_stk _ (lMs_stk _ _ _ _)) l f h
theorem rTail_stk (v n k row num : Int) : Stk (rTail v n k row num) := fun l f h => by
  unfold rTail
  split
  · exact bMs_stk _ _ _ _ (fun _ _ => lMs_stk _ _ _ _) l f h
  split
  · exact bMs_stk _ _ _ _ (fun _ _ => lMs_stk _ _ _ _) l f h
  split
  · exact bMs_stk _ _ _ _ (fun _ _ => aMs_stk _ _ _) l f h
  split
  · exact bMs_stk _ _ _ _ (fun _ _ => stopM_stk _) l f h
  split
  · exact bMs_stk _ _ _ _ (fun _ _ => stopM_stk _) l f h
  split
  · exact lMs_stk _ _ _ _ l f h
  split
  · exact bMs_stk _ _ _ _ (fun x y => vMs_stk v fun st sm => told_stk v n row num x y st sm) l f h
  split
  · exact bMs_stk _ _ _ _ (fun _ _ => pMs_stk v fun _ _ => endM_stk _ _) l f h
  · exact stopM_stk _ l f h
theorem rTail_eq {v n k row num : Int} {K : List Int → Int → Ms × List Int × Int} {B : List Int} {m : Ms} (h : Rds K B m) (e : ∀ l f, rTail v n k row num l f = K l f) : Rds (rTail v n k row num) B m := by
  have : rTail v n k row num = K := funext fun l => funext fun f => e l f
  rw [this]; exact h
/-- A valid message's bytes are read back. -/
theorem msB_rds {v n : Int} {m : Ms} (h0 : chkM v n m = 0) (hn1 : -9223372036854775808 ≤ m.c.n) (hn2 : m.c.n ≤ 9223372036854775807) : Rds (rdMsg v n) (msB v m) (only m (shK m)) := by
  obtain ⟨h1, h2, h3, h4⟩ := val_msg h0
  obtain ⟨hv, hn⟩ := val_call h1
  have hi := shF_inst h4
  have hin := val_inst hi
  obtain ⟨kd, hkd, hkd9, hkd0⟩ := isMK_nat h2
  obtain ⟨k, row, num, x, y, p, q, st, sm, c, sq, dl⟩ := m
  obtain rfl : k = (kd : Int) := hkd
  obtain ⟨rw', rfl⟩ := Int.eq_ofNat_of_zero_le (show 0 ≤ row from hin.1)
  obtain ⟨nu, rfl⟩ := Int.eq_ofNat_of_zero_le (show 0 ≤ num by have := hin.2.2.1; simp only at this; omega)
  simp only at hin hi h2 hn1 hn2
  have hd := head_rds v n (kd := kd) (row := rw') (num := nu) (by omega) (by omega) h2 hi
  have go : ∀ T m', Rds (rTail v n (kd : Int) (rw' : Int) (nu : Int)) T m' → Rds (rdMsg v n) (staP v kd rw' nu ++ T) m' := fun T m' ht =>
    Rds.bind (R1 := iHead v n) (R2 := fun a => rTail v n a.1 a.2.1 a.2.2) hd (fun a => rTail_stk _ _ _ _ _) ht
  have bal : ∀ z, hasB z = true → shF v n ⟨(kd : Int), (rw' : Int), (nu : Int), x, y, p, q, st, sm, c, sq, dl⟩ z = 0 → ∃ xx yy : Nat, x = (xx : Int) ∧ y = (yy : Int) ∧ xx ≤ 2147483647 ∧ yy ≤ 7 ∧ ballB kd n (rw' : Int) (xx : Int) (yy : Int) = true := fun z hz h => by
    have hb := shF_ball h hz
    have hbb := val_bal (val_ball hb).1
    obtain ⟨xx, rfl⟩ := Int.eq_ofNat_of_zero_le (show 0 ≤ x from hbb.1)
    obtain ⟨yy, rfl⟩ := Int.eq_ofNat_of_zero_le (show 0 ≤ y from hbb.2.2.1)
    simp only at hbb
    exact ⟨xx, yy, rfl, rfl, by omega, by omega, hb⟩
  have lod : ∀ may, loadF v n may c sq dl = 0 → ∃ qq : Nat, sq = (qq : Int) := fun may h => by
    have hsq := val_seq (val_load h).2.2.1
    obtain ⟨qq, rfl⟩ := Int.eq_ofNat_of_zero_le (show 0 ≤ sq from hsq.1)
    exact ⟨qq, rfl⟩
  unfold msB
  rcases (by omega : kd = 1 ∨ kd = 2 ∨ kd = 3 ∨ kd = 4 ∨ kd = 5 ∨ kd = 6 ∨ kd = 7 ∨ kd = 8 ∨ kd = 9) with rfl | rfl | rfl | rfl | rfl | rfl | rfl | rfl | rfl
  · obtain ⟨xx, yy, rfl, rfl, hx, hy, hb⟩ := bal 1 rfl h4
    have hl : loadF v n false c sq dl = 0 := (orL_cons.1 (orL_cons.1 (orL_cons.1 h4).2).2).1
    obtain ⟨qq, rfl⟩ := lod _ hl
    exact go _ _ (rTail_eq (bMs_rds v n 1 _ hx hy hb (K := fun x y => lMs v n false fun c sq dl => ⟨1, rw', nu, x, y, 0, 0, 0, false, c, sq, dl⟩) (fun _ _ => lMs_stk _ _ _ _) (lMs_rds _ hv hn hl hn1 hn2)) fun l f => rfl)
  · obtain ⟨xx, yy, rfl, rfl, hx, hy, hb⟩ := bal 2 rfl h4
    have hs5 := (unl_zero (show (55 : Int) ≠ 0 by decide)).1 (orL_cons.1 (orL_cons.1 (orL_cons.1 h4).2).2).1
    have hd5 := (unl_zero (show (56 : Int) ≠ 0 by decide)).1 (orL_cons.1 (orL_cons.1 (orL_cons.1 (orL_cons.1 h4).2).2).2).1
    have hsq := val_seq hs5
    obtain ⟨qq, rfl⟩ := Int.eq_ofNat_of_zero_le (show 0 ≤ sq from hsq.1)
    exact go _ _ (rTail_eq (bMs_rds v n 2 _ hx hy hb (K := fun x y => aMs v n fun sq dl => ⟨2, rw', nu, x, y, 0, 0, 0, false, zeroC, sq, dl⟩) (fun _ _ => aMs_stk _ _ _) (aMs_rds _ hv hn hs5 hd5)) fun l f => rfl)
  · obtain ⟨xx, yy, rfl, rfl, hx, hy, hb⟩ := bal 1 rfl h4
    have hl : loadF v n true c sq dl = 0 := (orL_cons.1 (orL_cons.1 (orL_cons.1 h4).2).2).1
    obtain ⟨qq, rfl⟩ := lod _ hl
    exact go _ _ (rTail_eq (bMs_rds v n 3 _ hx hy hb (K := fun x y => lMs v n true fun c sq dl => ⟨3, rw', nu, x, y, 0, 0, 0, false, c, sq, dl⟩) (fun _ _ => lMs_stk _ _ _ _) (lMs_rds _ hv hn hl hn1 hn2)) fun l f => rfl)
  · obtain ⟨xx, yy, rfl, rfl, hx, hy, hb⟩ := bal 3 rfl h4
    exact go _ _ (rTail_eq (bMs_rds v n 4 _ hx hy hb (K := fun x y => stopM ⟨4, rw', nu, x, y, 0, 0, 0, false, zeroC, 0, []⟩) (fun _ _ => stopM_stk _) (stopM_rds _)) fun l f => rfl)
  · have hl : loadF v n true c sq dl = 0 := (orL_cons.1 (orL_cons.1 h4).2).1
    obtain ⟨qq, rfl⟩ := lod _ hl
    exact go _ _ (rTail_eq (lMs_rds _ hv hn hl hn1 hn2) fun l f => rfl)
  · obtain ⟨xx, yy, rfl, rfl, hx, hy, hb⟩ := bal 3 rfl h4
    exact go _ _ (rTail_eq (bMs_rds v n 6 _ hx hy hb (K := fun x y => stopM ⟨6, rw', nu, x, y, 0, 0, 0, false, zeroC, 0, []⟩) (fun _ _ => stopM_stk _) (stopM_rds _)) fun l f => rfl)
  · by_cases hst : st = 0
    · subst hst
      obtain ⟨xx, yy, rfl, rfl, hx, hy, hb⟩ := bal 5 rfl h4
      exact go _ _ (rTail_eq (bMs_rds v n 7 _ hx hy hb (fun x y => vMs_stk v fun st sm => told_stk v n _ _ x y st sm) (vMs_rds v (st := 0) (sm := false) (by decide) (by decide) (fun st sm => told_stk v n _ _ _ _ st sm) (stopM_rds _))) fun l f => rfl)
    · have hz : shK ⟨((7 : Nat) : Int), (rw' : Int), (nu : Int), x, y, p, q, st, sm, c, sq, dl⟩ = 6 := by unfold shK; simp [hst]
      rw [hz] at h4 ⊢
      obtain ⟨xx, yy, rfl, rfl, hx, hy, hb⟩ := bal 6 rfl h4
      have hvt := (unl_zero (show (54 : Int) ≠ 0 by decide)).1 (orL_cons.1 (orL_cons.1 (orL_cons.1 h4).2).2).1
      have hl : loadF v n (st != 1) c sq dl = 0 := (orL_cons.1 (orL_cons.1 (orL_cons.1 (orL_cons.1 h4).2).2).2).1
      have hvv := val_vote hvt
      obtain ⟨pp, rfl⟩ := Int.eq_ofNat_of_zero_le (show 0 ≤ p from hvv.2.1)
      obtain ⟨rr, rfl⟩ := Int.eq_ofNat_of_zero_le (show 0 ≤ q from hvv.2.2.2.1)
      obtain ⟨ss, rfl⟩ := Int.eq_ofNat_of_zero_le (show 0 ≤ st by have := hvv.1; simp only at this; omega)
      simp only at hvv
      obtain ⟨qq, rfl⟩ := lod _ hl
      have hss : ss ≤ 2 := by omega
      have hsm : sm = true → ss = 1 := fun e => by subst e; have := hvv.2.2.2.2.2.2.2; simp at this; omega
      have hu : unl (voteB n (rw' : Int) (xx : Int) (yy : Int) (ss : Int) sm (pp : Int) (rr : Int)) 54 = 0 := (unl_zero (by decide)).2 hvt
      refine go _ _ (rTail_eq (bMs_rds v n 7 _ hx hy hb (fun x y => vMs_stk v fun st sm => told_stk v n _ _ x y st sm) (vMs_rds v hss hsm (fun st sm => told_stk v n _ _ _ _ st sm) ?_)) fun l f => rfl)
      simp only [if_neg hst]
      exact pMs_rds v (by omega) (by omega) (fun p q => gMs_stk _ (lMs_stk _ _ _ _)) (gMs_rds hu (lMs_rds _ hv hn hl hn1 hn2))
  · obtain ⟨xx, yy, rfl, rfl, hx, hy, hb⟩ := bal 7 rfl h4
    have hnk := (unl_zero (show (54 : Int) ≠ 0 by decide)).1 (orL_cons.1 (orL_cons.1 (orL_cons.1 h4).2).2).1
    have hvv := val_nack hnk
    obtain ⟨pp, rfl⟩ := Int.eq_ofNat_of_zero_le (show 0 ≤ p from hvv.1)
    obtain ⟨rr, rfl⟩ := Int.eq_ofNat_of_zero_le (show 0 ≤ q from hvv.2.2.1)
    simp only at hvv
    have hu : unl (nackB n (rw' : Int) (xx : Int) (yy : Int) (pp : Int) (rr : Int)) 54 = 0 := (unl_zero (by decide)).2 hnk
    have hpp : pp ≤ 2147483647 := by omega
    have hrr : rr ≤ 7 := by omega
    exact go _ _ (rTail_eq (bMs_rds v n 8 _ hx hy hb (K := fun x y => pMs v fun p q => endM ⟨8, rw', nu, x, y, p, q, 0, false, zeroC, 0, []⟩ (unl (nackB n rw' x y p q) 54)) (fun x y => pMs_stk v fun _ _ => endM_stk _ _) (pMs_rds v hpp hrr (fun _ _ => endM_stk _ _) (endM_rds _ hu))) fun l f => rfl)
  · exact go _ _ (rTail_eq (stopM_rds _) fun l f => rfl)
end Go.Proofs.YtooejihnifphkaaGreatDoor
