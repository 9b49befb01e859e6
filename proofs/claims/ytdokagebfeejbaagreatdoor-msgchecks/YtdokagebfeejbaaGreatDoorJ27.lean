/- Texts of the proof, joined. -/
import Derived.Test.YtdokagebfeejbaaGreatDoorJ22
import Derived.Test.YtdokagebfeejbaaGreatDoorJ26
import Derived.Test.YtdokagebfeejbaaGreatDoorJ11
import Derived.Test.YtdokagebfeejbaaGreatDoorJ07
/- The document's own Check of messages gives what the program's gives: the mathematics. -/
namespace Go.Proofs.YtdokagebfeejbaaGreatDoor
open Go.RowKit Go.Wire1

theorem ik5_mk {v : Int} (hv : v = 1 ∨ v = 2) (k : Int) : ik5 v k = isMK v k := by
  by_cases hk : 1 ≤ k ∧ k ≤ 9
  · rcases (by omega : k = 1 ∨ k = 2 ∨ k = 3 ∨ k = 4 ∨ k = 5 ∨ k = 6 ∨ k = 7 ∨ k = 8 ∨ k = 9) with rfl | rfl | rfl | rfl | rfl | rfl | rfl | rfl | rfl <;> rcases hv with rfl | rfl <;> decide
  · have a : ik5 v k = false := by
      rw [Bool.eq_false_iff]; intro h
      simp only [ik5, Bool.or_eq_true, Bool.and_eq_true, beq_iff_eq, decide_eq_true_eq] at h
      omega
    have b : isMK v k = false := by
      rw [Bool.eq_false_iff]; intro h
      simp only [isMK, Bool.and_eq_true, decide_eq_true_eq] at h
      omega
    rw [a, b]
theorem orL_cons0 (L : List Int) : orL (0 :: L) = orL L := if_pos rfl
theorem unl_t (e : Int) : unl true e = 0 := rfl
theorem orL_ball0 (n row x y : Int) (k : Nat) (hk : rndM.getD k 0 = 0) (L : List Int) : orL (unl (ballB k n row x y) 53 :: L) = orL (unl (balB n row x y) 53 :: L) := by
  unfold ballB
  rw [hk]
  cases h : balB n row x y with
  | false => rfl
  | true =>
    have h0 : 0 ≤ x := by simp only [balB, Bool.and_eq_true, decide_eq_true_eq] at h; exact h.1
    rw [decide_eq_true (show ((0 : Nat) : Int) ≤ x from h0)]; rfl
theorem orL_ball1 (n row x y : Int) (k : Nat) (hk : rndM.getD k 0 = 1) (L : List Int) : orL (unl (ballB k n row x y) 53 :: L) = orL (unl (balB n row x y) 53 :: unl (!(x == 0)) 53 :: L) := by
  unfold ballB
  rw [hk]
  cases h : balB n row x y with
  | false => rfl
  | true =>
    have h0 : 0 ≤ x := by simp only [balB, Bool.and_eq_true, decide_eq_true_eq] at h; exact h.1
    rw [unl_t, orL_cons0]
    by_cases hx : x = 0
    · rw [decide_eq_false (by omega : ¬ ((1 : Nat) : Int) ≤ x), show (x == 0) = true by simp [hx]]; rfl
    · rw [decide_eq_true (by omega : ((1 : Nat) : Int) ≤ x), show (x == 0) = false from beq_eq_false_iff_ne.2 hx]; rfl
theorem orL_app (x : Int) (L M : List Int) (h : orL L = orL M) : orL (x :: L) = orL (x :: M) := by unfold orL; rw [h]
theorem orL_one (a : Int) : orL [a] = a := by
  show (if a = 0 then 0 else a) = a
  split
  · rename_i h; exact h.symm
  · rfl
theorem orL_nest (L M : List Int) : orL (L ++ [orL M]) = orL (L ++ M) := by
  induction L with
  | nil => exact orL_one _
  | cons x L ih => exact orL_app x _ _ ih
theorem orL_may (a c d : Int) (b : Bool) : orL [a, unl (true || b) 57, c, d] = orL [a, c, d] := by
  apply orL_app; rfl
theorem orL_nack (n row x y p q : Int) : orL [unl (nackB n row x y p q) 54] = orL [unl (balB n row p q) 54, unl (belB x y p q) 54] := by
  unfold nackB
  cases balB n row p q <;> rfl
theorem tail_1a (v n : Int) (m : Ms) (hv : v = 1 ∨ v = 2) (hn : 1 ≤ n ∧ n ≤ 7) (hik : ik5 v m.kind = true) (hex : extraM m = false) (hii : instB n m.row m.num = true) (h : m.kind = 1) : chkM v n m = orL [unl (balB n m.row m.x m.y) 53, (chk v m.c : Int), unl (!(m.c.kind == 0)) 57, unl (seqB (m.c.kind == 0) m.sq) 55, unl (depsB n (m.c.kind == 0) m.dl) 56] := by
  unfold chkM callF
  rw [if_pos hv, if_pos hn, if_pos rfl, ← ik5_mk hv, hik, if_pos rfl, hex, if_neg Bool.false_ne_true, (exm_1 m (.inl h)).1]
  show orL [unl (instB n m.row m.num) 52, unl (ballB m.kind.toNat n m.row m.x m.y) 53, loadF v n (m.kind != 1) m.c m.sq m.dl] = _
  rw [hii, unl_t, orL_cons0]
  rw [orL_ball0 n m.row m.x m.y m.kind.toNat (by rw [h]; rfl)]
  rw [show (m.kind != 1) = false from by rw [h]; rfl]
  unfold loadF
  refine (orL_nest [unl (balB n m.row m.x m.y) 53] [(chk v m.c : Int), unl (false || !(m.c.kind == 0)) 57, unl (seqB (m.c.kind == 0) m.sq) 55, unl (depsB n (m.c.kind == 0) m.dl) 56]).trans ?_
  rfl
theorem tail_1b (v n : Int) (m : Ms) (hv : v = 1 ∨ v = 2) (hn : 1 ≤ n ∧ n ≤ 7) (hik : ik5 v m.kind = true) (hex : extraM m = false) (hii : instB n m.row m.num = true) (h : m.kind = 3) : chkM v n m = orL [unl (balB n m.row m.x m.y) 53, (chk v m.c : Int), unl (seqB (m.c.kind == 0) m.sq) 55, unl (depsB n (m.c.kind == 0) m.dl) 56] := by
  unfold chkM callF
  rw [if_pos hv, if_pos hn, if_pos rfl, ← ik5_mk hv, hik, if_pos rfl, hex, if_neg Bool.false_ne_true, (exm_1 m (.inr h)).1]
  show orL [unl (instB n m.row m.num) 52, unl (ballB m.kind.toNat n m.row m.x m.y) 53, loadF v n (m.kind != 1) m.c m.sq m.dl] = _
  rw [hii, unl_t, orL_cons0]
  rw [orL_ball0 n m.row m.x m.y m.kind.toNat (by rw [h]; rfl)]
  rw [show (m.kind != 1) = true from by rw [h]; rfl]
  unfold loadF
  refine (orL_nest [unl (balB n m.row m.x m.y) 53] [(chk v m.c : Int), unl (true || !(m.c.kind == 0)) 57, unl (seqB (m.c.kind == 0) m.sq) 55, unl (depsB n (m.c.kind == 0) m.dl) 56]).trans ?_
  exact orL_app _ _ _ (orL_may _ _ _ _)
theorem tail_2 (v n : Int) (m : Ms) (hv : v = 1 ∨ v = 2) (hn : 1 ≤ n ∧ n ≤ 7) (hik : ik5 v m.kind = true) (hex : extraM m = false) (hii : instB n m.row m.num = true) (h : m.kind = 2) : chkM v n m = orL [unl (balB n m.row m.x m.y) 53, unl (seqB false m.sq) 55, unl (depsB n false m.dl) 56] := by
  unfold chkM callF
  rw [if_pos hv, if_pos hn, if_pos rfl, ← ik5_mk hv, hik, if_pos rfl, hex, if_neg Bool.false_ne_true, (exm_2 m h).1]
  show orL [unl (instB n m.row m.num) 52, unl (ballB m.kind.toNat n m.row m.x m.y) 53, unl (seqB false m.sq) 55, unl (depsB n false m.dl) 56] = _
  rw [hii, unl_t, orL_cons0]
  rw [orL_ball0 n m.row m.x m.y m.kind.toNat (by rw [h]; rfl)]
theorem tail_3a (v n : Int) (m : Ms) (hv : v = 1 ∨ v = 2) (hn : 1 ≤ n ∧ n ≤ 7) (hik : ik5 v m.kind = true) (hex : extraM m = false) (hii : instB n m.row m.num = true) (h : m.kind = 4) : chkM v n m = orL [unl (balB n m.row m.x m.y) 53] := by
  unfold chkM callF
  rw [if_pos hv, if_pos hn, if_pos rfl, ← ik5_mk hv, hik, if_pos rfl, hex, if_neg Bool.false_ne_true, (exm_3 m (.inl h)).1]
  show orL [unl (instB n m.row m.num) 52, unl (ballB m.kind.toNat n m.row m.x m.y) 53] = _
  rw [hii, unl_t, orL_cons0]
  rw [orL_ball0 n m.row m.x m.y m.kind.toNat (by rw [h]; rfl)]
theorem tail_3b (v n : Int) (m : Ms) (hv : v = 1 ∨ v = 2) (hn : 1 ≤ n ∧ n ≤ 7) (hik : ik5 v m.kind = true) (hex : extraM m = false) (hii : instB n m.row m.num = true) (h : m.kind = 6) : chkM v n m = orL [unl (balB n m.row m.x m.y) 53, unl (!(m.x == 0)) 53] := by
  unfold chkM callF
  rw [if_pos hv, if_pos hn, if_pos rfl, ← ik5_mk hv, hik, if_pos rfl, hex, if_neg Bool.false_ne_true, (exm_3 m (.inr h)).1]
  show orL [unl (instB n m.row m.num) 52, unl (ballB m.kind.toNat n m.row m.x m.y) 53] = _
  rw [hii, unl_t, orL_cons0]
  rw [orL_ball1 n m.row m.x m.y m.kind.toNat (by rw [h]; rfl)]
theorem tail_4 (v n : Int) (m : Ms) (hv : v = 1 ∨ v = 2) (hn : 1 ≤ n ∧ n ≤ 7) (hik : ik5 v m.kind = true) (hex : extraM m = false) (hii : instB n m.row m.num = true) (h : m.kind = 5) : chkM v n m = orL [(chk v m.c : Int), unl (seqB (m.c.kind == 0) m.sq) 55, unl (depsB n (m.c.kind == 0) m.dl) 56] := by
  unfold chkM callF
  rw [if_pos hv, if_pos hn, if_pos rfl, ← ik5_mk hv, hik, if_pos rfl, hex, if_neg Bool.false_ne_true, (exm_4 m h).1]
  show orL [unl (instB n m.row m.num) 52, loadF v n true m.c m.sq m.dl] = _
  rw [hii, unl_t, orL_cons0]
  unfold loadF
  refine (orL_nest [] [(chk v m.c : Int), unl (true || !(m.c.kind == 0)) 57, unl (seqB (m.c.kind == 0) m.sq) 55, unl (depsB n (m.c.kind == 0) m.dl) 56]).trans ?_
  exact orL_may _ _ _ _
theorem tail_5 (v n : Int) (m : Ms) (hv : v = 1 ∨ v = 2) (hn : 1 ≤ n ∧ n ≤ 7) (hik : ik5 v m.kind = true) (hex : extraM m = false) (hii : instB n m.row m.num = true) (h : m.kind = 7 ∧ m.st = 0) : chkM v n m = orL [unl (balB n m.row m.x m.y) 53, unl (!(m.x == 0)) 53] := by
  unfold chkM callF
  rw [if_pos hv, if_pos hn, if_pos rfl, ← ik5_mk hv, hik, if_pos rfl, hex, if_neg Bool.false_ne_true, (exm_5 m h).1]
  show orL [unl (instB n m.row m.num) 52, unl (ballB m.kind.toNat n m.row m.x m.y) 53] = _
  rw [hii, unl_t, orL_cons0]
  rw [orL_ball1 n m.row m.x m.y m.kind.toNat (by rw [h.1]; rfl)]
theorem tail_6a (v n : Int) (m : Ms) (hv : v = 1 ∨ v = 2) (hn : 1 ≤ n ∧ n ≤ 7) (hik : ik5 v m.kind = true) (hex : extraM m = false) (hii : instB n m.row m.num = true) (h : m.kind = 7 ∧ m.st = 1) : chkM v n m = orL [unl (balB n m.row m.x m.y) 53, unl (!(m.x == 0)) 53, unl (voteB n m.row m.x m.y m.st m.sm m.p m.q) 54, (chk v m.c : Int), unl (!(m.c.kind == 0)) 57, unl (seqB (m.c.kind == 0) m.sq) 55, unl (depsB n (m.c.kind == 0) m.dl) 56] := by
  unfold chkM callF
  rw [if_pos hv, if_pos hn, if_pos rfl, ← ik5_mk hv, hik, if_pos rfl, hex, if_neg Bool.false_ne_true, (exm_6 m ⟨h.1, by omega⟩).1]
  show orL [unl (instB n m.row m.num) 52, unl (ballB m.kind.toNat n m.row m.x m.y) 53, unl (voteB n m.row m.x m.y m.st m.sm m.p m.q) 54, loadF v n (m.st != 1) m.c m.sq m.dl] = _
  rw [hii, unl_t, orL_cons0]
  rw [orL_ball1 n m.row m.x m.y m.kind.toNat (by rw [h.1]; rfl)]
  rw [show (m.st != 1) = false from by rw [h.2]; rfl]
  unfold loadF
  refine (orL_nest [unl (balB n m.row m.x m.y) 53, unl (!(m.x == 0)) 53, unl (voteB n m.row m.x m.y m.st m.sm m.p m.q) 54] [(chk v m.c : Int), unl (false || !(m.c.kind == 0)) 57, unl (seqB (m.c.kind == 0) m.sq) 55, unl (depsB n (m.c.kind == 0) m.dl) 56]).trans ?_
  rfl
theorem tail_6b (v n : Int) (m : Ms) (hv : v = 1 ∨ v = 2) (hn : 1 ≤ n ∧ n ≤ 7) (hik : ik5 v m.kind = true) (hex : extraM m = false) (hii : instB n m.row m.num = true) (h : m.kind = 7 ∧ m.st ≠ 0 ∧ m.st ≠ 1) : chkM v n m = orL [unl (balB n m.row m.x m.y) 53, unl (!(m.x == 0)) 53, unl (voteB n m.row m.x m.y m.st m.sm m.p m.q) 54, (chk v m.c : Int), unl (seqB (m.c.kind == 0) m.sq) 55, unl (depsB n (m.c.kind == 0) m.dl) 56] := by
  unfold chkM callF
  rw [if_pos hv, if_pos hn, if_pos rfl, ← ik5_mk hv, hik, if_pos rfl, hex, if_neg Bool.false_ne_true, (exm_6 m ⟨h.1, h.2.1⟩).1]
  show orL [unl (instB n m.row m.num) 52, unl (ballB m.kind.toNat n m.row m.x m.y) 53, unl (voteB n m.row m.x m.y m.st m.sm m.p m.q) 54, loadF v n (m.st != 1) m.c m.sq m.dl] = _
  rw [hii, unl_t, orL_cons0]
  rw [orL_ball1 n m.row m.x m.y m.kind.toNat (by rw [h.1]; rfl)]
  rw [show (m.st != 1) = true from bne_iff_ne.2 h.2.2]
  unfold loadF
  refine (orL_nest [unl (balB n m.row m.x m.y) 53, unl (!(m.x == 0)) 53, unl (voteB n m.row m.x m.y m.st m.sm m.p m.q) 54] [(chk v m.c : Int), unl (true || !(m.c.kind == 0)) 57, unl (seqB (m.c.kind == 0) m.sq) 55, unl (depsB n (m.c.kind == 0) m.dl) 56]).trans ?_
  exact orL_app _ _ _ (orL_app _ _ _ (orL_app _ _ _ (orL_may _ _ _ _)))
theorem tail_7 (v n : Int) (m : Ms) (hv : v = 1 ∨ v = 2) (hn : 1 ≤ n ∧ n ≤ 7) (hik : ik5 v m.kind = true) (hex : extraM m = false) (hii : instB n m.row m.num = true) (h : m.kind = 8) : chkM v n m = orL [unl (balB n m.row m.x m.y) 53, unl (balB n m.row m.p m.q) 54, unl (belB m.x m.y m.p m.q) 54] := by
  unfold chkM callF
  rw [if_pos hv, if_pos hn, if_pos rfl, ← ik5_mk hv, hik, if_pos rfl, hex, if_neg Bool.false_ne_true, (exm_7 m h).1]
  show orL [unl (instB n m.row m.num) 52, unl (ballB m.kind.toNat n m.row m.x m.y) 53, unl (nackB n m.row m.x m.y m.p m.q) 54] = _
  rw [hii, unl_t, orL_cons0]
  rw [orL_ball0 n m.row m.x m.y m.kind.toNat (by rw [h]; rfl)]
  exact orL_app _ _ _ (orL_nack _ _ _ _ _ _)
theorem tail_0 (v n : Int) (m : Ms) (hv : v = 1 ∨ v = 2) (hn : 1 ≤ n ∧ n ≤ 7) (hik : ik5 v m.kind = true) (hex : extraM m = false) (hii : instB n m.row m.num = true) (h : m.kind = 9) : chkM v n m = orL [] := by
  unfold chkM callF
  rw [if_pos hv, if_pos hn, if_pos rfl, ← ik5_mk hv, hik, if_pos rfl, hex, if_neg Bool.false_ne_true, (exm_0 m h).1]
  show unl (instB n m.row m.num) 52 = _
  rw [hii]; rfl
end Go.Proofs.YtdokagebfeejbaaGreatDoor
/- The document's own depsFit of messages. -/
namespace Go.Proofs.YtdokagebfeejbaaGreatDoor
open Go.RowKit Go.Wire1

set_option maxHeartbeats 4000000 in
set_option maxRecDepth 100000 in
theorem df5_any (n : Int) (noop : Bool) (a : Option Addr) (m cap : Nat) (l : List Int) (w : World) (h : SegI w a m l) :
    Calls Tryz.prog 37 #[.int .i64 n, .bool noop, .slice a m cap] w fun e w' => e = .returned (.bool (depsB n noop l)) ∧ w = w' := by
  obtain ⟨hm, hm', ha, -⟩ := h
  have HN : Hid (l.length = m) := hm
  unfold maxLen at hm'
  clear hm
  obtain ⟨b, hb⟩ : ∃ b, Hid (depsB n noop l = b) := ⟨_, rfl⟩
  rw [hb.out]
  by_cases h0 : (m : Int) = n
  rotate_left
  · obtain rfl : false = b := by
      rw [← hb.out]; unfold depsB; rw [HN.out]
      rw [show (((m : Nat) : Int) == n) = false by rw [beq_eq_false_iff_ne]; exact h0]; rfl
    have g0 : ((m : Int) != n) = true := by rw [bne_iff_ne]; exact h0
    clear h0 hb
    go_enter Tryz.func37, Tryz.ntmps37
    go_wp2
    go_ret
    exact ⟨rfl, rfl⟩
  subst h0
  have HB : Hid (l.all (depP (if noop then 0 else 1048576)) = b) := by show _ = _; rw [← hb.out]; unfold depsB; rw [HN.out]; simp
  clear hb
  cases noop with
  | false =>
    simp only [Bool.false_eq_true, if_false] at HB
    go_enter Tryz.func37, Tryz.ntmps37
    go_wp2
    go_loop [7] (fun i => ∃ k : Nat, i = .int .i64 (k : Int) ∧ k ≤ m ∧ Hid ((l.take k).all (depP 1048576) = true)) (fun i => m - (intOf i).toNat)
    case atStart => exact ⟨0, rfl, Nat.zero_le _, rfl⟩
    case round =>
      obtain ⟨k, rfl, hk, HT⟩ := hrel
      by_cases hlt : k < m
      · obtain ⟨ba, oa, rfl, hca⟩ := ha (by omega)
        have ca := hca k hlt
        clear ha hca
        have hkl : Hid (k < l.length) := by have := HN.out; show _ < _; omega
        by_cases h0 : l.getD k 0 < 0
        · obtain rfl : false = b := by rw [← HB.out]; exact (all_no hkl.out (by simp only [depP]; rw [decide_eq_false (by omega)]; rfl)).symm
          clear HB HT
          generalize l.getD k 0 = c at *
          go_wp2
          go_ret
          exact ⟨rfl, rfl⟩
        · by_cases h1 : (1048576 : Int) < l.getD k 0
          · obtain rfl : false = b := by rw [← HB.out]; exact (all_no hkl.out (by simp only [depP]; rw [decide_eq_false (by omega : ¬ l.getD k 0 ≤ 1048576), Bool.and_false])).symm
            clear HB HT
            generalize l.getD k 0 = c at *
            go_wp2
            go_ret
            exact ⟨rfl, rfl⟩
          · have HT' : Hid ((l.take (k + 1)).all (depP 1048576) = true) := all_step hkl.out HT.out (by simp only [depP]; rw [decide_eq_true (by omega), decide_eq_true (by omega)]; rfl)
            generalize l.getD k 0 = c at *
            go_wp2
            go_round
            case rel => exact ⟨k + 1, by go_num, by omega, HT'⟩
            case measure => simp [intOf]; omega
      · obtain rfl : true = b := by rw [← HB.out]; have := HT.out; rw [List.take_of_length_le (by have := HN.out; omega)] at this; exact this.symm
        clear HB HT
        go_wp2
        go_ret
        exact ⟨rfl, rfl⟩
  | true =>
    simp only [if_true] at HB
    go_enter Tryz.func37, Tryz.ntmps37
    go_wp2
    go_loop [7] (fun i => ∃ k : Nat, i = .int .i64 (k : Int) ∧ k ≤ m ∧ Hid ((l.take k).all (depP 0) = true)) (fun i => m - (intOf i).toNat)
    case atStart => exact ⟨0, rfl, Nat.zero_le _, rfl⟩
    case round =>
      obtain ⟨k, rfl, hk, HT⟩ := hrel
      by_cases hlt : k < m
      · obtain ⟨ba, oa, rfl, hca⟩ := ha (by omega)
        have ca := hca k hlt
        clear ha hca
        have hkl : Hid (k < l.length) := by have := HN.out; show _ < _; omega
        by_cases h0 : l.getD k 0 < 0
        · obtain rfl : false = b := by rw [← HB.out]; exact (all_no hkl.out (by simp only [depP]; rw [decide_eq_false (by omega)]; rfl)).symm
          clear HB HT
          generalize l.getD k 0 = c at *
          go_wp2
          go_ret
          exact ⟨rfl, rfl⟩
        · by_cases h1 : (1048576 : Int) < l.getD k 0
          · obtain rfl : false = b := by rw [← HB.out]; exact (all_no hkl.out (by simp only [depP]; rw [decide_eq_false (by omega : ¬ l.getD k 0 ≤ 0), Bool.and_false])).symm
            clear HB HT
            generalize l.getD k 0 = c at *
            go_wp2
            go_ret
            exact ⟨rfl, rfl⟩
          · by_cases h2 : l.getD k 0 = 0
            · have HT' : Hid ((l.take (k + 1)).all (depP 0) = true) := all_step hkl.out HT.out (by simp only [depP]; rw [decide_eq_true (by omega), decide_eq_true (by omega)]; rfl)
              have d2 : (l.getD k 0 != 0) = false := by simp only [h2]; rfl
              clear h2
              generalize l.getD k 0 = c at *
              go_wp2
              go_round
              case rel => exact ⟨k + 1, by go_num, by omega, HT'⟩
              case measure => simp [intOf]; omega
            · obtain rfl : false = b := by rw [← HB.out]; exact (all_no hkl.out (by simp only [depP]; rw [decide_eq_false (by omega : ¬ l.getD k 0 ≤ 0), Bool.and_false])).symm
              have d2 : (l.getD k 0 != 0) = true := by rw [bne_iff_ne]; exact h2
              clear HB HT h2
              generalize l.getD k 0 = c at *
              go_wp2
              go_ret
              exact ⟨rfl, rfl⟩
      · obtain rfl : true = b := by rw [← HB.out]; have := HT.out; rw [List.take_of_length_le (by have := HN.out; omega)] at this; exact this.symm
        clear HB HT
        go_wp2
        go_ret
        exact ⟨rfl, rfl⟩
theorem df5_any' (n : Int) (noop : Bool) (a : Option Addr) (m cap : Nat) (l : List Int) (w : World) (h : SegI w a m l) :
    Calls Tryz.prog 37 #[.int .i64 n, .bool noop, .slice a m cap] w fun e w' => e = .returned (.bool (depsB n noop l)) ∧ Below w.heap.size w w' := (df5_any n noop a m cap l w h).mono fun _ _ ⟨h, e⟩ => ⟨h, e ▸ Below.refl _ _⟩
end Go.Proofs.YtdokagebfeejbaaGreatDoor
/- The plain mathematics of the document's own Check; nothing of the program is named here. -/
namespace Go.Wire1
open Go.RowKit

/-- The bytes of a text, as numbers. -/
def tb (s : ByteArray) (i : Nat) : Int := ((s.data.toList.getD i 0).toNat : Int)
def hasC (s : ByteArray) (b : Int) : Bool := (List.range s.size).any fun i => tb s i == b
theorem hasC_step {s : ByteArray} {b : Int} {i : Nat} (h : (List.range i).any (fun i => tb s i == b) = false) (h2 : (tb s i == b) = false) : (List.range (i + 1)).any (fun i => tb s i == b) = false := by
  rw [List.range_succ, List.any_append, h]; simp [h2]
theorem hasC_hit {s : ByteArray} {b : Int} {i : Nat} (hi : i < s.size) (h2 : (tb s i == b) = true) : hasC s b = true := List.any_eq_true.2 ⟨i, List.mem_range.2 hi, h2⟩

/-- The document's letters of a kind's fields. -/
def fldS (kind : Int) : ByteArray :=
  if kind = 1 ∨ kind = 3 then ⟨#[99, 114, 107]⟩ else if kind = 2 then ⟨#[99, 114, 107, 118]⟩ else if kind = 4 then ⟨#[99, 114, 107, 110]⟩
  else if kind = 5 then ⟨#[99, 114, 107, 111, 118]⟩ else if kind = 6 ∨ kind = 7 ∨ kind = 8 then ⟨#[99, 114, 107, 106]⟩ else ⟨#[]⟩
theorem fldS_size (kind : Int) : (fldS kind).size ≤ 5 := by
  unfold fldS; repeat' split
  all_goals decide
def letF : List Int := [99, 114, 107, 106, 118, 111, 110]
theorem has_letter {kind : Int} (h0 : 0 ≤ kind) (h9 : kind < 9) {f : Nat} (hf : f < 7) : hasC (fldS kind) (letF.getD f 0) = hasF kind f := by
  obtain ⟨k, rfl⟩ := Int.eq_ofNat_of_zero_le h0
  have h : ∀ k : Fin 9, ∀ f : Fin 7, hasC (fldS (k.val : Int)) (letF.getD f.val 0) = hasF (k.val : Int) f.val := by decide +kernel
  exact h ⟨k, by omega⟩ ⟨f, hf⟩

def knownR (v kind : Int) : Bool := if v = 1 then decide (0 ≤ kind) && decide (kind ≤ 5) else decide (0 ≤ kind) && decide (kind ≤ 8)
theorem known_eq {v kind : Int} (hv : v = 1 ∨ v = 2) : knownR v kind = isKd v kind := by
  unfold knownR isKd
  by_cases h0 : 0 ≤ kind
  · by_cases h9 : kind < 9
    · obtain ⟨k, rfl⟩ := Int.eq_ofNat_of_zero_le h0
      have h : ∀ k : Fin 9, ((decide ((k.val : Int) ≤ 5) = decide ((fromL.getD k.val 0 : Int) ≤ 1)) ∧ (decide ((k.val : Int) ≤ 8) = decide ((fromL.getD k.val 0 : Int) ≤ 2))) := by decide
      have := h ⟨k, by omega⟩
      simp only at this
      rcases hv with rfl | rfl
      · simp [h9, this.1]
      · simp [h9]
        have := this.2
        simp at this
        omega
    · rcases hv with rfl | rfl <;> simp [h9] <;> omega
  · simp [h0]
def numR (t : Bool) (x top : Int) (e : Nat) : Nat := if t then (if x < 0 ∨ top < x then e else 0) else (if x = 0 then 0 else 48)
def txtR (t : Bool) (s : ByteArray) (least top : Nat) (e : Nat) : Nat := if t then (if s.size < least ∨ top < s.size then e else 0) else (if s.toList.isEmpty then 0 else 48)
def key2R (c : Cm) : Nat := if txtR (hasF c.kind 3) c.key2 1 64 45 = 0 ∧ hasF c.kind 3 = true ∧ isPairB c.kind c.key c.key2 = false then 45 else txtR (hasF c.kind 3) c.key2 1 64 45
def nR (c : Cm) : Nat := if c.n = 0 then 0 else if hasF c.kind 6 then 0 else 48

theorem f0_eq (v : Int) (c : Cm) : numR (hasF c.kind 0) c.client 65535 42 = faultF v c 0 := by
  unfold numR faultF
  cases hasF c.kind 0 <;> simp [zeroF, allowF, errF]
  by_cases h : c.client < 0 ∨ 65535 < c.client
  · rw [if_pos h, if_neg (by omega)]
  · rw [if_neg h, if_pos (by omega)]
theorem f1_eq (v : Int) (c : Cm) : numR (hasF c.kind 1) c.req 1073741824 43 = faultF v c 1 := by
  unfold numR faultF
  cases hasF c.kind 1 <;> simp [zeroF, allowF, errF]
  by_cases h : c.req < 0 ∨ 1073741824 < c.req
  · rw [if_pos h, if_neg (by omega)]
  · rw [if_neg h, if_pos (by omega)]
theorem f2_eq (v : Int) (c : Cm) : txtR (hasF c.kind 2) c.key 1 64 44 = faultF v c 2 := by
  unfold txtR faultF
  cases hasF c.kind 2
  · simp [zeroF]
  · show (if c.key.size < 1 ∨ 64 < c.key.size then 44 else 0) = if (decide (1 ≤ c.key.size) && decide (c.key.size ≤ 64)) = true then 0 else 44
    generalize c.key.size = m
    by_cases h : m < 1 ∨ 64 < m
    · rw [if_pos h, if_neg (by simp; omega)]
    · rw [if_neg h, if_pos (by simp; omega)]
theorem f3_eq (v : Int) (c : Cm) : key2R c = faultF v c 3 := by
  unfold key2R txtR faultF
  cases hasF c.kind 3
  · simp [zeroF]
  · show (if (if c.key2.size < 1 ∨ 64 < c.key2.size then 45 else 0) = 0 ∧ true = true ∧ isPairB c.kind c.key c.key2 = false then 45 else (if c.key2.size < 1 ∨ 64 < c.key2.size then 45 else 0)) = if ((decide (1 ≤ c.key2.size) && decide (c.key2.size ≤ 64)) && isPairB c.kind c.key c.key2) = true then 0 else 45
    generalize c.key2.size = m
    generalize isPairB c.kind c.key c.key2 = q
    by_cases h : m < 1 ∨ 64 < m
    · rw [if_pos h, if_neg (by simp), if_neg (by simp; omega)]
    · rw [if_neg h]
      cases q
      · simp
      · rw [if_neg (by simp), if_pos (by simp; omega)]
theorem f4_eq (v : Int) (c : Cm) : txtR (hasF c.kind 4) c.val 0 (mostV v) 46 = faultF v c 4 := by
  unfold txtR faultF
  cases hasF c.kind 4 <;> simp [zeroF, allowF, errF]
  by_cases h : mostV v < c.val.size
  · rw [if_pos h, if_neg (by omega)]
  · rw [if_neg h, if_pos (by omega)]
theorem f5_eq (v : Int) (c : Cm) : txtR (hasF c.kind 5) c.old 0 (mostV v) 47 = faultF v c 5 := by
  unfold txtR faultF
  cases hasF c.kind 5 <;> simp [zeroF, allowF, errF]
  by_cases h : mostV v < c.old.size
  · rw [if_pos h, if_neg (by omega)]
  · rw [if_neg h, if_pos (by omega)]
theorem f6_eq (v : Int) (c : Cm) : nR c = faultF v c 6 := by
  unfold nR faultF
  cases hasF c.kind 6 <;> simp [zeroF, allowF]
/-- The first number that is not 0. -/
def first0 : List Nat → Nat
  | [] => 0
  | x :: r => if x = 0 then first0 r else x
theorem first0_eq (v : Int) (c : Cm) : first0 [numR (hasF c.kind 0) c.client 65535 42, numR (hasF c.kind 1) c.req 1073741824 43, txtR (hasF c.kind 2) c.key 1 64 44, key2R c, txtR (hasF c.kind 4) c.val 0 (mostV v) 46, txtR (hasF c.kind 5) c.old 0 (mostV v) 47, nR c] = firstF v c 7 0 := by
  rw [f0_eq v c, f1_eq v c, f2_eq v c, f3_eq v c, f4_eq v c, f5_eq v c, f6_eq v c]
  simp only [first0, firstF]
end Go.Wire1
