/- Texts of the proof, joined. -/
import Derived.Test.YtlapgnbiflcpfaaGreatDoorJ38
import Derived.Test.YtlapgnbiflcpfaaGreatDoorJ09
import Derived.Deep.QuietTactic
import Derived.BigQuiet
/- What package record's Decode reads with no fault: Check takes it, and its bytes are those that were read. -/
namespace Go.Proofs.YtlapgnbiflcpfaaGreatDoor
open Go.RowKit Go.Wire1

theorem rupk_one {n : Int} {b xs : List Int} {p : Nat} (hy : Byt b) (h : upk 2 n b = .ok (xs, p)) : isVec xs = true ∧ (xs.length : Int) = n ∧ packL 2 xs = b.take p := by
  have hl := upk_len hy h
  refine ⟨hl.2.2, hl.1, ?_⟩
  unfold upk at h
  rw [if_pos (.inr rfl)] at h
  split at h
  · rename_i hn
    unfold packL
    have hn2 : n.toNat = xs.length := by omega
    rw [if_neg (by decide)] at h ⊢
    unfold upk2 at h
    cases hd : dec b with
    | error i => rw [hd] at h; cases h
    | ok q =>
      obtain ⟨M, p0⟩ := q
      rw [hd] at h
      simp only at h
      split at h
      · cases h
      · rename_i hM
        have hf := rd2_form hy (dec_len hy hd).2.2 (dec_form hy hd) h
        unfold Go.Wire1.tight
        rw [hn2] at hf hM
        rw [hf.2, Nat.mod_eq_of_lt (by omega), hf.1]
  · cases h
theorem rWh_inv {l : List Int} (hy : Byt l) (h : (rWh l).2.2 = 0) : l = enc (rWh l).1 ++ (rWh l).2.1 ∧ Byt (rWh l).2.1 := by
  unfold rWh at h ⊢
  cases hd : dec l with
  | error i =>
    rw [hd] at h
    exfalso
    have : (11 : Int) + (i : Int) = 0 := h
    omega
  | ok q =>
    obtain ⟨x, m⟩ := q
    show l = enc x ++ l.drop m ∧ Byt (l.drop m)
    rw [dec_form hy hd, List.take_append_drop]
    exact ⟨rfl, byt_drop hy m⟩
theorem go_inv {k : Nat} {x : Nat} {xs : List Nat} {s r : Rc} {l : List Int} (h : rdGo k (x :: xs) s l = (r, 0)) : rdE k s l x = 0 ∧ faultR (k : Int) (rdR k s l x) x = 0 ∧ rdGo k xs (rdR k s l x) (rdL k s l x) = (r, 0) := by
  have h' : (if rdE k s l x = 0 then (if faultR (k : Int) (rdR k s l x) x = 0 then rdGo k xs (rdR k s l x) (rdL k s l x) else (rdR k s l x, ((faultR (k : Int) (rdR k s l x) x : Nat) : Int))) else (rdR k s l x, rdE k s l x)) = (r, 0) := h
  by_cases h1 : rdE k s l x = 0
  · rw [if_pos h1] at h'
    by_cases h2 : faultR (k : Int) (rdR k s l x) x = 0
    · rw [if_pos h2] at h'
      exact ⟨h1, h2, h'⟩
    · rw [if_neg h2] at h'
      have := (Prod.mk.inj h').2
      exact absurd (by omega) h2
  · rw [if_neg h1] at h'
    exact absurd (Prod.mk.inj h').2 h1
theorem go_end {k : Nat} {s r : Rc} {l : List Int} (h : rdGo k [] s l = (r, 0)) : s = r ∧ l = [] := by
  have h' : (s, ((unlR (l.length == 0) 68 : Nat) : Int)) = (r, 0) := h
  obtain ⟨h1, h2⟩ := Prod.mk.inj h'
  refine ⟨h1, ?_⟩
  cases l with
  | nil => rfl
  | cons a t => exact absurd (show ((68 : Nat) : Int) = 0 from h2) (by decide)
theorem inv_id {k : Nat} {s : Rc} {l : List Int} (hy : Byt l) (h : rdE k s l 119 = 0) : ∃ y : Nat, rdR k s l 119 = { s with id := t31 y } ∧ l = enc y ++ rdL k s l 119 ∧ Byt (rdL k s l 119) :=
  ⟨(rWh l).1, rfl, rWh_inv hy h⟩
theorem t31_small {y : Nat} (h : t31 y ≤ 1073741824) : t31 y = (y : Int) := by unfold t31 at h ⊢; omega
theorem inv_n {k : Nat} {s : Rc} {l : List Int} (hy : Byt l) (h : rdE k s l 110 = 0) (hf : faultR (k : Int) (rdR k s l 110) 110 = 0) : ∃ v : Int, rdR k s l 110 = { s with n := v } ∧ l = wrF { s with n := v } 110 ++ rdL k s l 110 ∧ Byt (rdL k s l 110) := by
  obtain ⟨e, hb⟩ := rWh_inv hy h
  refine ⟨t31 (rWh l).1, rfl, ?_, hb⟩
  have h1 := unl_zero (by decide) (show unlR (headB (rdR k s l 110)) 66 = 0 from hf)
  have h2 : t31 (rWh l).1 ≤ 7 := by
    simp only [headB, isSizeB, Bool.and_eq_true, decide_eq_true_eq] at h1
    exact h1.1.2
  show l = enc (t31 (rWh l).1).toNat ++ (rWh l).2.1
  rw [t31_small (by omega)]
  exact e
theorem pair_eq {y : Nat} (h : t31 (y / 8) ≤ 1048576) : (8 * t31 (y / 8) + ((y % 8 : Nat) : Int)).toNat = y := by unfold t31 at h ⊢; omega
theorem inv_inst {k : Nat} {s : Rc} {l : List Int} (hy : Byt l) (h : rdE k s l 105 = 0) (hf : faultR (k : Int) (rdR k s l 105) 105 = 0) : ∃ a b : Int, rdR k s l 105 = { s with num := a, row := b } ∧ l = wrF { s with num := a, row := b } 105 ++ rdL k s l 105 ∧ Byt (rdL k s l 105) := by
  obtain ⟨e, hb⟩ := rWh_inv hy h
  refine ⟨t31 ((rWh l).1 / 8), (((rWh l).1 % 8 : Nat) : Int), rfl, ?_, hb⟩
  have h1 := unl_zero (by decide) (show unlR (rinstB (k : Int) (((rWh l).1 % 8 : Nat) : Int) (t31 ((rWh l).1 / 8))) 62 = 0 from hf)
  have h2 : t31 ((rWh l).1 / 8) ≤ 1048576 := by
    simp only [rinstB, Bool.and_eq_true, decide_eq_true_eq] at h1
    exact h1.2.2.2
  show l = enc (8 * t31 ((rWh l).1 / 8) + (((rWh l).1 % 8 : Nat) : Int)).toNat ++ (rWh l).2.1
  rw [pair_eq h2]
  exact e
theorem bal_round {n : Int} {r : Rc} (h : balR n r = true) : r.round ≤ 65535 := by
  unfold balR at h
  split at h
  · omega
  · simp only [Bool.and_eq_true, decide_eq_true_eq] at h
    exact h.2.1
theorem inv_bal {k : Nat} {s : Rc} {l : List Int} (hy : Byt l) (h : rdE k s l 98 = 0) (hf : faultR (k : Int) (rdR k s l 98) 98 = 0) : ∃ a b : Int, rdR k s l 98 = { s with round := a, who := b } ∧ l = wrF { s with round := a, who := b } 98 ++ rdL k s l 98 ∧ Byt (rdL k s l 98) := by
  obtain ⟨e, hb⟩ := rWh_inv hy h
  refine ⟨t31 ((rWh l).1 / 8), (((rWh l).1 % 8 : Nat) : Int), rfl, ?_, hb⟩
  have h1 := unl_zero (by decide) (show unlR (balR (k : Int) (rdR k s l 98)) 63 = 0 from hf)
  have h2 : t31 ((rWh l).1 / 8) ≤ 65535 := bal_round h1
  show l = enc (8 * t31 ((rWh l).1 / 8) + (((rWh l).1 % 8 : Nat) : Int)).toNat ++ (rWh l).2.1
  rw [pair_eq (by omega)]
  exact e
theorem inv_same {k : Nat} {s : Rc} {l : List Int} (hy : Byt l) (h : rdE k s l 115 = 0) : ∃ b : Bool, rdR k s l 115 = { s with same := b } ∧ l = wrF { s with same := b } 115 ++ rdL k s l 115 ∧ Byt (rdL k s l 115) := by
  cases l with
  | nil => exact absurd (show (11 : Int) = 0 from h) (by decide)
  | cons x t =>
    have h' : ((unlR (decide (x ≤ 1)) 64 : Nat) : Int) = 0 := h
    have h1 : decide (x ≤ 1) = true := unl_zero (e := 64) (by decide) (by omega)
    have h2 : x ≤ 1 := of_decide_eq_true h1
    have h3 := hy x List.mem_cons_self
    refine ⟨x == 1, rfl, ?_, fun z hz => hy z (List.mem_cons_of_mem _ hz)⟩
    show x :: t = [if (x == 1) = true then 1 else 0] ++ t
    rcases (by omega : x = 0 ∨ x = 1) with rfl | rfl <;> rfl
theorem inv_cmd {k : Nat} {s : Rc} {l : List Int} (hy : Byt l) (h : rdE k s l 99 = 0) : ∃ c : Cm, rdR k s l 99 = { s with c := c } ∧ l = wrF { s with c := c } 99 ++ rdL k s l 99 ∧ Byt (rdL k s l 99) := by
  have h1 := decC_one hy (show (decC 2 l).2.2 = 0 from h)
  refine ⟨(decC 2 l).1, rfl, ?_, byt_drop hy _⟩
  show l = encC (decC 2 l).1 ++ l.drop (decC 2 l).2.1
  rw [h1.2.2.2.2, List.take_append_drop]
theorem inv_seq {k : Nat} {s : Rc} {l : List Int} (hy : Byt l) (h : rdE k s l 113 = 0) (hf : faultR (k : Int) (rdR k s l 113) 113 = 0) : ∃ q : Int, rdR k s l 113 = { s with seq := q } ∧ l = wrF { s with seq := q } 113 ++ rdL k s l 113 ∧ Byt (rdL k s l 113) := by
  have hE : (if noopR s then 0 else (rWh l).2.2) = 0 := h
  have hR : rdR k s l 113 = if noopR s then s else { s with seq := t31 (rWh l).1 } := rfl
  have hL : rdL k s l 113 = if noopR s then l else (rWh l).2.1 := rfl
  cases hn : noopR s with
  | true =>
    rw [hn, if_pos rfl] at hR hL
    refine ⟨s.seq, hR, ?_, by rw [hL]; exact hy⟩
    rw [hL]
    show l = (if noopR s then [] else _) ++ l
    rw [hn]
    rfl
  | false =>
    rw [hn, if_neg (by decide)] at hE hR hL
    obtain ⟨e, hb⟩ := rWh_inv hy hE
    refine ⟨t31 (rWh l).1, hR, ?_, by rw [hL]; exact hb⟩
    rw [hR] at hf
    have h1 := unl_zero (by decide) (show unlR (seqR { s with seq := t31 (rWh l).1 }) 65 = 0 from hf)
    have h2 : t31 (rWh l).1 ≤ 1073741824 := by
      unfold seqR at h1
      rw [show noopR { s with seq := t31 (rWh l).1 } = noopR s from rfl, hn, if_neg (by decide)] at h1
      simp only [Bool.and_eq_true, decide_eq_true_eq] at h1
      exact h1.2
    rw [hL]
    show l = (if noopR s then [] else enc (t31 (rWh l).1).toNat) ++ (rWh l).2.1
    rw [hn, t31_small h2]
    exact e
theorem inv_deps {k : Nat} {s : Rc} {l : List Int} (hy : Byt l) (h : rdE k s l 100 = 0) : ∃ d : List Int, rdR k s l 100 = { s with deps := d } ∧ l = wrF { s with deps := d } 100 ++ rdL k s l 100 ∧ Byt (rdL k s l 100) := by
  have hE : (if noopR s then 0 else ((upE (upk 2 (k : Int) l) : Nat) : Int)) = 0 := h
  have hL : rdL k s l 100 = if noopR s then l else l.drop (upN (upk 2 (k : Int) l)) := rfl
  cases hn : noopR s with
  | true =>
    rw [hn, if_pos rfl] at hL
    refine ⟨_, rfl, ?_, by rw [hL]; exact hy⟩
    rw [hL]
    show l = (if noopR s then [] else _) ++ l
    rw [hn]
    rfl
  | false =>
    rw [hn, if_neg (by decide)] at hE hL
    cases hu : upk 2 (k : Int) l with
    | error e =>
      rw [hu] at hE
      have := upk_err hu
      have hE' : ((e : Nat) : Int) = 0 := hE
      omega
    | ok q =>
      obtain ⟨xs, p⟩ := q
      have h1 := rupk_one hy hu
      rw [hu] at hL
      refine ⟨_, rfl, ?_, by rw [hL]; exact byt_drop hy _⟩
      rw [hL, hn, hu]
      show l = (if noopR s then [] else packL 2 xs) ++ l.drop p
      rw [hn, h1.2.2]
      exact (List.take_append_drop p l).symm
theorem app3 {a b c : List Int} (h : a = b ++ c) {d : List Int} (hc : c = d) : a = b ++ d := by rw [h, hc]
set_option maxRecDepth 100000 in
theorem rec_one {k : Nat} {l : List Int} {r : Rc} {x : Int} (hn : isSizeB (k : Int) = true) (hk : isKindR x = true) (hy : Byt l) (h : rdGo k (rowR x) { zeroRc with kind := x } l = (r, 0)) : chkR (k : Int) r = 0 ∧ recB r = x :: l := by
  obtain ⟨j, hj, hj6⟩ := kindR_nat hk
  have hj0 : 0 < j := by
    simp only [isKindR, Bool.and_eq_true, decide_eq_true_eq] at hk
    omega
  subst hj
  have fin : ∀ r : Rc, isKindR r.kind = true → extraR r = false → firstR (k : Int) r (rowR r.kind) = 0 → chkR (k : Int) r = 0 := fun r h1 h2 h3 => by
    unfold chkR
    rw [hn, h1, h2, h3]
    rfl
  have fr : ∀ (r : Rc) (xs : List Nat), (∀ x ∈ xs, faultR (k : Int) r x = 0) → firstR (k : Int) r xs = 0 := fun r xs => by
    induction xs with
    | nil => intro _; rfl
    | cons a t ih =>
      intro H
      show (if faultR (k : Int) r a = 0 then firstR (k : Int) r t else _) = 0
      rw [if_pos (H a List.mem_cons_self)]
      exact ih fun y hy => H y (List.mem_cons_of_mem _ hy)
  rcases (by omega : j = 1 ∨ j = 2 ∨ j = 3 ∨ j = 4 ∨ j = 5) with rfl | rfl | rfl | rfl | rfl
  · obtain ⟨e1, f1, h⟩ := go_inv (x := 119) (xs := [110]) h
    obtain ⟨y, r1, l1, b1⟩ := inv_id hy e1
    rw [r1] at h
    obtain ⟨e2, f2, h⟩ := go_inv (x := 110) (xs := []) h
    obtain ⟨v, r2, l2, b2⟩ := inv_n b1 e2 f2
    rw [r2] at h f2
    obtain ⟨rfl, l3⟩ := go_end h
    have hb := unl_zero (by decide) (show unlR (headB _) 66 = 0 from f2)
    have hid : t31 y = (y : Int) := t31_small (by
      simp only [headB, isSizeB, Bool.and_eq_true, decide_eq_true_eq] at hb
      omega)
    refine ⟨fin _ rfl (by kernel_rfl) (fr _ [119, 110] (by
      intro x hx
      simp only [List.mem_cons, List.not_mem_nil, or_false] at hx
      rcases hx with rfl | rfl
      · rfl
      · exact f2)), ?_⟩
    rw [l1, l2, l3]
    show (1 : Int) :: (enc (t31 y).toNat ++ (enc v.toNat ++ [])) = 1 :: (enc y ++ (enc v.toNat ++ []))
    rw [hid]
    rfl
  · obtain ⟨e1, f1, h⟩ := go_inv (x := 105) (xs := [98]) h
    obtain ⟨a1, c1, r1, l1, b1⟩ := inv_inst hy e1 f1
    rw [r1] at h f1
    obtain ⟨e2, f2, h⟩ := go_inv (x := 98) (xs := []) h
    obtain ⟨a2, c2, r2, l2, b2⟩ := inv_bal b1 e2 f2
    rw [r2] at h f2
    obtain ⟨rfl, l3⟩ := go_end h
    refine ⟨fin _ rfl (by kernel_rfl) (fr _ [105, 98] (by
      intro x hx
      simp only [List.mem_cons, List.not_mem_nil, or_false] at hx
      rcases hx with rfl | rfl
      · exact f1
      · exact f2)), ?_⟩
    rw [l1, l2, l3]
    rfl
  · obtain ⟨e1, f1, h⟩ := go_inv (x := 105) (xs := [98, 115, 99, 113, 100]) h
    obtain ⟨a1, c1, r1, l1, b1⟩ := inv_inst hy e1 f1
    rw [r1] at h f1
    obtain ⟨e2, f2, h⟩ := go_inv (x := 98) (xs := [115, 99, 113, 100]) h
    obtain ⟨a2, c2, r2, l2, b2⟩ := inv_bal b1 e2 f2
    rw [r2] at h f2
    obtain ⟨e3, f3, h⟩ := go_inv (x := 115) (xs := [99, 113, 100]) h
    obtain ⟨a3, r3, l3, b3⟩ := inv_same b2 e3
    rw [r3] at h f3
    obtain ⟨e4, f4, h⟩ := go_inv (x := 99) (xs := [113, 100]) h
    obtain ⟨a4, r4, l4, b4⟩ := inv_cmd b3 e4
    rw [r4] at h f4
    obtain ⟨e5, f5, h⟩ := go_inv (x := 113) (xs := [100]) h
    obtain ⟨a5, r5, l5, b5⟩ := inv_seq b4 e5 f5
    rw [r5] at h f5
    obtain ⟨e6, f6, h⟩ := go_inv (x := 100) (xs := []) h
    obtain ⟨a6, r6, l6, b6⟩ := inv_deps b5 e6
    rw [r6] at h f6
    obtain ⟨rfl, l7⟩ := go_end h
    refine ⟨fin _ rfl rfl (fr _ [105, 98, 115, 99, 113, 100] (by
      intro x hx
      simp only [List.mem_cons, List.not_mem_nil, or_false] at hx
      rcases hx with rfl | rfl | rfl | rfl | rfl | rfl
      · exact f1
      · exact f2
      · exact f3
      · exact f4
      · exact f5
      · exact f6)), ?_⟩
    rw [app3 l1 (app3 l2 (app3 l3 (app3 l4 (app3 l5 (app3 l6 l7)))))]
    rfl
  · obtain ⟨e1, f1, h⟩ := go_inv (x := 105) (xs := [98, 99, 113, 100]) h
    obtain ⟨a1, c1, r1, l1, b1⟩ := inv_inst hy e1 f1
    rw [r1] at h f1
    obtain ⟨e2, f2, h⟩ := go_inv (x := 98) (xs := [99, 113, 100]) h
    obtain ⟨a2, c2, r2, l2, b2⟩ := inv_bal b1 e2 f2
    rw [r2] at h f2
    obtain ⟨e4, f4, h⟩ := go_inv (x := 99) (xs := [113, 100]) h
    obtain ⟨a4, r4, l4, b4⟩ := inv_cmd b2 e4
    rw [r4] at h f4
    obtain ⟨e5, f5, h⟩ := go_inv (x := 113) (xs := [100]) h
    obtain ⟨a5, r5, l5, b5⟩ := inv_seq b4 e5 f5
    rw [r5] at h f5
    obtain ⟨e6, f6, h⟩ := go_inv (x := 100) (xs := []) h
    obtain ⟨a6, r6, l6, b6⟩ := inv_deps b5 e6
    rw [r6] at h f6
    obtain ⟨rfl, l7⟩ := go_end h
    refine ⟨fin _ rfl rfl (fr _ [105, 98, 99, 113, 100] (by
      intro x hx
      simp only [List.mem_cons, List.not_mem_nil, or_false] at hx
      rcases hx with rfl | rfl | rfl | rfl | rfl
      · exact f1
      · exact f2
      · exact f4
      · exact f5
      · exact f6)), ?_⟩
    rw [app3 l1 (app3 l2 (app3 l4 (app3 l5 (app3 l6 l7))))]
    rfl
  · obtain ⟨e1, f1, h⟩ := go_inv (x := 105) (xs := [99, 113, 100]) h
    obtain ⟨a1, c1, r1, l1, b1⟩ := inv_inst hy e1 f1
    rw [r1] at h f1
    obtain ⟨e4, f4, h⟩ := go_inv (x := 99) (xs := [113, 100]) h
    obtain ⟨a4, r4, l4, b4⟩ := inv_cmd b1 e4
    rw [r4] at h f4
    obtain ⟨e5, f5, h⟩ := go_inv (x := 113) (xs := [100]) h
    obtain ⟨a5, r5, l5, b5⟩ := inv_seq b4 e5 f5
    rw [r5] at h f5
    obtain ⟨e6, f6, h⟩ := go_inv (x := 100) (xs := []) h
    obtain ⟨a6, r6, l6, b6⟩ := inv_deps b5 e6
    rw [r6] at h f6
    obtain ⟨rfl, l7⟩ := go_end h
    refine ⟨fin _ rfl rfl (fr _ [105, 99, 113, 100] (by
      intro x hx
      simp only [List.mem_cons, List.not_mem_nil, or_false] at hx
      rcases hx with rfl | rfl | rfl | rfl
      · exact f1
      · exact f4
      · exact f5
      · exact f6)), ?_⟩
    rw [app3 l1 (app3 l4 (app3 l5 (app3 l6 l7)))]
    rfl
theorem decR_one {n : Int} {l : List Int} (hy : Byt l) (h : (decR n l).2 = 0) : chkR n (decR n l).1 = 0 ∧ recB (decR n l).1 = l := by
  unfold decR at h ⊢
  cases hs : isSizeB n with
  | false =>
    rw [hs] at h
    exact absurd (show (3 : Int) = 0 from h) (by decide)
  | true =>
    rw [if_pos rfl]
    rw [hs, if_pos rfl] at h
    obtain ⟨k, rfl, -, -⟩ := size_nat hs
    rw [show ((k : Int)).toNat = k from rfl] at h ⊢
    by_cases h0 : (rdRec k l).2 = 0
    · rw [if_pos h0]
      cases l with
      | nil => exact absurd (show (11 : Int) = 0 from h0) (by decide)
      | cons x t =>
        have e : rdRec k (x :: t) = if isKindR x then rdGo k (rowR x) { zeroRc with kind := x } t else (zeroRc, 61) := rfl
        cases hk : isKindR x with
        | false =>
          rw [e, hk] at h0
          exact absurd (show (61 : Int) = 0 from h0) (by decide)
        | true =>
          rw [hk, if_pos rfl] at e
          rw [e] at h0 ⊢
          exact rec_one hs hk (fun z hz => hy z (List.mem_cons_of_mem _ hz)) (Prod.ext rfl h0)
    · rw [if_neg h0] at h
      exact absurd h h0
theorem rgI_bd {l : List Int} (hy : Byt l) (s : St) : -9223372036854775808 ≤ (gI l s).1 ∧ (gI l s).1 ≤ 9223372036854775807 := by
  unfold gI
  split
  · split
    · rename_i x m hd
      exact unzig_bd _ (dec_lt (byt_drop hy _) hd)
    · simp
  · simp
theorem rsTail_n {v x : Int} {cl rq : Nat} {ky : ByteArray} {l : List Int} {s : St} (hy : Byt l) : -9223372036854775808 ≤ (sTail v x cl rq ky l s).1.n ∧ (sTail v x cl rq ky l s).1.n ≤ 9223372036854775807 := by
  unfold sTail
  split
  · simp
  · split
    · simp
    · split
      · simp
      · split
        · exact rgI_bd hy s
        · simp
theorem rdecC_n {v : Int} {l : List Int} (hy : Byt l) : -9223372036854775808 ≤ (decC v l).1.n ∧ (decC v l).1.n ≤ 9223372036854775807 := by
  unfold decC
  split
  · split
    · show -9223372036854775808 ≤ (sCmd v (l.take 131281) ⟨0, 0, 0⟩).1.n ∧ (sCmd v (l.take 131281) ⟨0, 0, 0⟩).1.n ≤ 9223372036854775807
      unfold sCmd
      split
      · exact rsTail_n (byt_take hy _)
      · simp
    · simp [zeroC]
  · simp [zeroC]
theorem rdL_byt {k : Nat} {s : Rc} {l : List Int} (hy : Byt l) (x : Nat) : Byt (rdL k s l x) := by
  have h1 : Byt (rWh l).2.1 := by
    unfold rWh
    split
    · exact byt_drop hy _
    · exact hy
  have h2 : Byt (rOct l).2.1 := by
    unfold rOct
    split
    · exact fun z hz => absurd hz List.not_mem_nil
    · exact fun z hz => hy z (List.mem_cons_of_mem _ hz)
  unfold rdL
  split
  · exact h1
  · exact h1
  · exact h1
  · exact h1
  · exact h2
  · exact byt_drop hy _
  · split
    · exact hy
    · exact h1
  · split
    · exact hy
    · exact byt_drop hy _
theorem rdR_c {k : Nat} {s : Rc} {l : List Int} (x : Nat) : (rdR k s l x).c = s.c ∨ (rdR k s l x).c = (decC 2 l).1 := by
  unfold rdR
  split
  · exact .inl rfl
  · exact .inl rfl
  · exact .inl rfl
  · exact .inl rfl
  · exact .inl rfl
  · exact .inr rfl
  · split <;> exact .inl rfl
  · exact .inl rfl
theorem rdGo_c {k : Nat} : ∀ (xs : List Nat) (s : Rc) (l : List Int), Byt l → (rdGo k xs s l).1.c = s.c ∨ ∃ l', Byt l' ∧ (rdGo k xs s l).1.c = (decC 2 l').1
  | [], s, l, _ => .inl rfl
  | x :: xs, s, l, hy => by
    have h1 : (rdR k s l x).c = s.c ∨ ∃ l', Byt l' ∧ (rdR k s l x).c = (decC 2 l').1 := (rdR_c x).imp id fun h => ⟨l, hy, h⟩
    have e : rdGo k (x :: xs) s l = if rdE k s l x = 0 then (if faultR (k : Int) (rdR k s l x) x = 0 then rdGo k xs (rdR k s l x) (rdL k s l x) else (rdR k s l x, ((faultR (k : Int) (rdR k s l x) x : Nat) : Int))) else (rdR k s l x, rdE k s l x) := rfl
    rw [e]
    split
    · split
      · rcases rdGo_c xs (rdR k s l x) (rdL k s l x) (rdL_byt hy x) with h | h
        · rw [h]; exact h1
        · exact .inr h
      · exact h1
    · exact h1
theorem decR_c {n : Int} {l : List Int} (hy : Byt l) : (decR n l).1.c = zeroC ∨ ∃ l', Byt l' ∧ (decR n l).1.c = (decC 2 l').1 := by
  unfold decR
  split
  · split
    · unfold rdRec
      split
      · exact .inl rfl
      · split
        · exact rdGo_c _ _ _ (fun z hz => hy z (List.mem_cons_of_mem _ hz))
        · exact .inl rfl
    · exact .inl rfl
  · exact .inl rfl
theorem decR_kys {n : Int} {l : List Int} (hy : Byt l) : Kys (decR n l).1 ∧ -9223372036854775808 ≤ (decR n l).1.c.n ∧ (decR n l).1.c.n ≤ 9223372036854775807 := by
  unfold Kys
  rcases decR_c (n := n) hy with h | ⟨l', h', h⟩
  · rw [h]
    exact ⟨⟨by show (0 : Nat) ≤ _; omega, by show (0 : Nat) ≤ _; omega⟩, by show _ ≤ (0 : Int); omega, by show (0 : Int) ≤ _; omega⟩
  · rw [h]
    exact ⟨dec_keys h', rdecC_n h'⟩
theorem decR_bad {n : Int} {l : List Int} (h : (decR n l).2 ≠ 0) : (decR n l).1 = zeroRc := by
  unfold decR at h ⊢
  split
  · rename_i hs
    split
    · rename_i h0
      rw [if_pos hs, if_pos h0] at h
      exact absurd rfl h
    · rfl
  · rfl
theorem chkR_lay (n : Int) (r : Rc) (a : Option Addr) (d c : Nat) : chkR n (r.lay a d c) = chkR n r := by
  have h : ∀ xs, firstR n (r.lay a d c) xs = firstR n r xs := fun xs => by
    induction xs with
    | nil => rfl
    | cons x t ih =>
      show (if faultR n (r.lay a d c) x = 0 then firstR n (r.lay a d c) t else faultR n (r.lay a d c) x) = if faultR n r x = 0 then firstR n r t else faultR n r x
      rw [faultR_lay, ih]
  unfold chkR
  rw [h]
  rfl
theorem recB_lay (r : Rc) (a : Option Addr) (d c : Nat) : recB (r.lay a d c) = recB r := rfl
end Go.Proofs.YtlapgnbiflcpfaaGreatDoor
/- The contract of SameBytes: two lists of bytes in memory, alike or not; it only reads. -/
namespace Go.Proofs.YtlapgnbiflcpfaaGreatDoor
open Go.RowKit Go.Wire1

set_option maxHeartbeats 400000 in
set_option maxRecDepth 100000 in
theorem same_any (a b : Option Addr) (n m cap cap' : Nat) (xs ys : List Int) (w : World) (ha : Seg w a n xs) (hb : Seg w b m ys) :
    Calls Tryz.prog 9 #[.slice a n cap, .slice b m cap'] w fun e w' => e = .returned (.bool (sameB xs ys)) ∧ ∃ q, w' = w.drewN q := by
  obtain ⟨hn, hn', ha⟩ := ha
  obtain ⟨hm, hm', hb⟩ := hb
  unfold maxLen at hn' hm'
  by_cases hnm : n = m
  · subst hnm
    have HN : Hid (xs.length = n) := hn
    have HM : Hid (ys.length = n) := hm
    clear hn hm
    go_enter Tryz.func9, Tryz.ntmps9
    go_wp2
    go_loopw [5] (fun i wr => ∃ k q : Nat, i = .int .i64 (k : Int) ∧ k ≤ n ∧ Hid (xs.take k = ys.take k) ∧ wr = w.drewN q) (fun i _ => n - (intOf i).toNat)
    case atStart => exact ⟨0, 0, rfl, Nat.zero_le _, rfl, rfl⟩
    case round =>
      obtain ⟨k, q, rfl, hk, HT, rfl⟩ := hrel
      by_cases hlt : k < n
      · obtain ⟨ba, oa, rfl, hca⟩ := ha (by omega)
        obtain ⟨bb, ob, rfl, hcb⟩ := hb (by omega)
        have ca : w.cell? ⟨ba, oa + k, none⟩ = some (.int .u8 (xs.getD k 0)) := hca k hlt
        have cb : w.cell? ⟨bb, ob + k, none⟩ = some (.int .u8 (ys.getD k 0)) := hcb k hlt
        clear ha hb hca hcb
        by_cases he : xs.getD k 0 = ys.getD k 0
        · have HT' : Hid (xs.take (k + 1) = ys.take (k + 1)) := take_step (by have := HN.out; omega) (by have := HM.out; omega) HT.out he
          rw [← he] at cb
          clear he
          generalize xs.getD k 0 = c at ca cb
          go_wp2
          go_quiet (fail)
          go_wp2
          go_roundw
          case rel => exact ⟨k + 1, _, by go_num, by omega, HT', rfl⟩
          case measure => simp [intOf]; omega
        · have HS : Hid (sameB xs ys = false) := same_no he
          have hb' : (xs.getD k 0 != ys.getD k 0) = true := by simpa using he
          clear he
          generalize xs.getD k 0 = c at ca hb'
          generalize ys.getD k 0 = d at cb hb'
          go_wp2
          go_quiet (fail)
          go_wp2
          go_ret
          exact ⟨by rw [HS.out]; rfl, _, by rw [World.drewN_drewN]⟩
      · have HS : Hid (sameB xs ys = true) := same_yes (by have := HT.out; rwa [List.take_of_length_le (by have := HN.out; omega), List.take_of_length_le (by have := HM.out; omega)] at this)
        go_wp2
        go_ret
        exact ⟨by rw [HS.out]; rfl, _, rfl⟩
  · have HS : Hid (sameB xs ys = false) := same_len (by omega)
    have hne : ((n : Int) != (m : Int)) = true := by rw [bne_iff_ne]; omega
    go_enter Tryz.func9, Tryz.ntmps9
    go_wp2
    go_ret
    exact ⟨by rw [HS.out]; rfl, 0, rfl⟩
end Go.Proofs.YtlapgnbiflcpfaaGreatDoor
