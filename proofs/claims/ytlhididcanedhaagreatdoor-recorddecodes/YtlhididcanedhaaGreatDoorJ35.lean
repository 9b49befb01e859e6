/- Texts of the proof, joined. -/
import Derived.Test.YtlhididcanedhaaGreatDoorJ23
import Derived.Test.YtlhididcanedhaaGreatDoorJ18
import Derived.Test.YtlhididcanedhaaGreatDoorJ19
import Derived.Test.YtlhididcanedhaaGreatDoorJ34
import Derived.Test.YtlhididcanedhaaGreatDoorJ21
/- The contract of the document's own plain reading (version 1). -/
namespace Go.Proofs.YtlhididcanedhaaGreatDoor
open Go.RowKit Go.Wire1

theorem refU_ok {n cap : Nat} {sa : Option Addr} {l : List Int} {w : World} (hs : Seg w sa n l) (hy : Byt l) {x m : Nat} (hd : dec l = .ok (x, m)) :
    Calls Tryz.prog 105 #[.slice sa n cap] w fun e w' => e = .returned (.tuple #[.int .u64 (x : Int), .int .i64 (m : Int), .int .i64 0]) ∧ w = w' :=
  (refUint_any n cap sa l w hs hy).mono fun e w' ⟨h1, h2⟩ => by rw [hd] at h1; exact ⟨h1, h2.symm⟩
theorem refU_bad {n cap : Nat} {sa : Option Addr} {l : List Int} {w : World} (hs : Seg w sa n l) (hy : Byt l) {i : Nat} (hd : dec l = .error i) :
    Calls Tryz.prog 105 #[.slice sa n cap] w fun e w' => e = .returned (.tuple #[.int .u64 0, .int .i64 0, .int .i64 (11 + (i : Int))]) ∧ w = w' :=
  (refUint_any n cap sa l w hs hy).mono fun e w' ⟨h1, h2⟩ => by rw [hd] at h1; exact ⟨h1, h2.symm⟩
theorem refI_ok {n cap : Nat} {sa : Option Addr} {l : List Int} {w : World} (hs : Seg w sa n l) (hy : Byt l) {x m : Nat} (hd : dec l = .ok (x, m)) :
    Calls Tryz.prog 160 #[.slice sa n cap] w fun e w' => e = .returned (.tuple #[.int .i64 (unzig x), .int .i64 (m : Int), .int .i64 0]) ∧ w = w' :=
  (refInt_any n cap sa l w hs hy).mono fun e w' ⟨h1, h2⟩ => by rw [hd] at h1; exact ⟨h1, h2.symm⟩
theorem refI_bad {n cap : Nat} {sa : Option Addr} {l : List Int} {w : World} (hs : Seg w sa n l) (hy : Byt l) {i : Nat} (hd : dec l = .error i) :
    Calls Tryz.prog 160 #[.slice sa n cap] w fun e w' => e = .returned (.tuple #[.int .i64 0, .int .i64 0, .int .i64 (11 + (i : Int))]) ∧ w = w' :=
  (refInt_any n cap sa l w hs hy).mono fun e w' ⟨h1, h2⟩ => by rw [hd] at h1; exact ⟨h1, h2.symm⟩
theorem ownI_nil (w : World) (B : Nat) : w.ownsRow B 3 1 (.slice none 0 0) ([] : List Int).length (([] : List Int).map (Value.int .i64)) := World.ownsRow_nil _ _ _ _

set_option maxHeartbeats 1000000 in
set_option maxRecDepth 100000 in
theorem rplain_any (n m cap : Nat) (sa : Option Addr) (l : List Int) (w : World) (hn : n ≤ 7) (hs : Seg w sa m l) (hsrc : Src sa m cap) (hy : Byt l) :
    Calls Tryz.prog 136 #[.int .i64 (n : Int), .slice sa m cap] w fun e w' => ∃ u, e = .returned (.tuple #[u, .int .i64 (upN (rd1 l n) : Int), .int .i64 (upE (rd1 l n) : Int)]) ∧ w'.ownsRow w.heap.size 3 1 u (upL (rd1 l n)).length ((upL (rd1 l n)).map (Value.int .i64)) ∧ Below w.heap.size w w' := by
  obtain ⟨i0, hi, hz0, hz1, hz2⟩ := info_parts Tryz.info3
  obtain ⟨R, hR⟩ : ∃ R, Hid (rd1 l n = R) := ⟨_, rfl⟩
  rw [hR.out]
  have HS : Hid (Seg w sa m l) := hs
  have HL : Hid (l.length = m) := hs.1
  have HY : Hid (Byt l) := hy
  clear hs hy
  go_enter Tryz.func136, Tryz.ntmps136
  go_wp2
  go_loopw [7, 8, 9] (fun v q i wr => ∃ k p : Nat, i = .int .i64 (k : Int) ∧ k ≤ n ∧ q = .int .i64 (p : Int) ∧ p ≤ m ∧ (∃ xs, Hid (rd1 l k = .ok (xs, p)) ∧ xs.length = k ∧ wr.ownsRow w.heap.size 3 1 v xs.length (xs.map (Value.int .i64))) ∧ Below w.heap.size w wr) (fun _ _ i _ => n - (intOf i).toNat)
  case atStart => exact ⟨0, 0, rfl, Nat.zero_le _, rfl, Nat.zero_le _, ⟨[], rfl, rfl, World.ownsRow_nil _ _ _ _⟩, Below.refl _ _⟩
  case round =>
    obtain ⟨k, p, rfl, hk, rfl, hp, ⟨xs, HR, hxl, hown⟩, hbel⟩ := hrel
    have hsz := hbel.size
    have HB : Hid (Below w.heap.size w wr) := hbel
    by_cases hlt : k < n
    · rcases hsrc with ⟨rfl, rfl⟩ | ⟨⟨b, off, rfl⟩, hmc, hcm⟩
      · obtain rfl : p = 0 := by omega
        have hnil : Hid (l.drop 0 = []) := by show _ = _; rw [List.drop_zero, List.eq_nil_of_length_eq_zero HL.out]
        have HQ : Hid (R = .error 11) := by show _ = _; rw [← hR.out]; exact rd1_err' (rd1_bad HR.out (i := 0) (by rw [hnil.out]; rfl)) (by omega)
        clear hR hown hbel
        rcases sa with _ | ad
        all_goals
          go_wp2_with fail
          refine (refU_bad (l := []) (seg_empty _ _) (fun z hz => by cases hz) (i := 0) rfl).mono ?_
          rintro e w2 ⟨rfl, rfl⟩
          go_wp2
          go_ret3
          exact ⟨_, by rw [HQ.out]; rfl, by rw [HQ.out]; exact ownI_nil _ _, HB.out⟩
      · unfold maxLen at hcm
        by_cases hpc : p = cap
        · obtain rfl : p = m := by omega
          subst hpc
          have hnil : Hid (l.drop p = []) := List.drop_eq_nil_of_le (by rw [HL.out]; omega)
          have HQ : Hid (R = .error 11) := by show _ = _; rw [← hR.out]; exact rd1_err' (rd1_bad HR.out (i := 0) (by rw [hnil.out]; rfl)) (by omega)
          clear hR hown hbel
          go_wp2_with fail
          refine (refU_bad (l := []) (seg_empty _ _) (fun z hz => by cases hz) (i := 0) rfl).mono ?_
          rintro e w2 ⟨rfl, rfl⟩
          go_wp2
          go_ret3
          exact ⟨_, by rw [HQ.out]; rfl, by rw [HQ.out]; exact ownI_nil _ _, HB.out⟩
        · have SD : Hid (Seg wr (some ⟨b, off + p, none⟩) (m - p) (l.drop p)) := by
            have := seg_cut (HS.out.below HB.out (Nat.le_refl _)) hp hmc
            rwa [if_neg hpc] at this
          have BD : Hid (Byt (l.drop p)) := byt_drop HY.out p
          cases hd : dec (l.drop p) with
          | error i =>
            have hi3 := dec_err hd
            have HQ : Hid (R = .error (11 + i)) := by show _ = _; rw [← hR.out]; exact rd1_err' (rd1_bad HR.out hd) (by omega)
            have HD : Hid (dec (l.drop p) = .error i) := hd
            have hne : ((11 + (i : Int)) != 0) = true := by rw [bne_iff_ne]; omega
            clear hd hR hown hbel
            go_wp2_with fail
            refine (refU_bad SD.out BD.out HD.out).mono ?_
            rintro e w2 ⟨rfl, rfl⟩
            go_wp2
            go_ret3
            exact ⟨_, by rw [HQ.out]; rfl, by rw [HQ.out]; exact ownI_nil _ _, HB.out⟩
          | ok q =>
            obtain ⟨x, mm⟩ := q
            have hml := dec_len BD.out hd
            rw [List.length_drop, HL.out] at hml
            have hxl2 := dec_lt BD.out hd
            have HD : Hid (dec (l.drop p) = .ok (x, mm)) := hd
            clear hd
            go_wp2_with fail
            refine (refU_ok SD.out BD.out HD.out).mono ?_
            rintro e w2 ⟨rfl, rfl⟩
            by_cases hx : (1048576 : Int) < (x : Int)
            · have HQ : Hid (R = .error 32) := by show _ = _; rw [← hR.out]; exact rd1_err' (rd1_big HR.out HD.out (by omega)) (by omega)
              clear hR hown hbel
              go_wp2
              go_ret3
              exact ⟨_, by rw [HQ.out]; rfl, by rw [HQ.out]; exact ownI_nil _ _, HB.out⟩
            · have HR' : Hid (rd1 l (k + 1) = .ok (xs ++ [(x : Int)], p + mm)) := rd1_step HR.out HD.out (by omega)
              have hxl' : Hid ((xs ++ [(x : Int)]).length = k + 1) := by show _ = _; rw [List.length_append, hxl]; rfl
              clear hR HR
              go_wp2_with (first
                | (at_builtin; refine wpList_append_own _ rfl _ _ 28 rfl w.heap.size 3 i0 (.int .i64 0) 1 8 Tryz.underlying28 hi hz0 hz1 hz2 rfl (by decide) _ _ _ rfl (hown.alloc _) ⟨wr.heap.size, 0, none⟩ 1 1 [.int .i64 (x : Int)] rfl rfl ?c1 ?c2 ?c3 ?c4 ?c5 ?_))
              case c1 =>
                intro j u hj
                match j, hj with
                | 0, hj => simp at hj; subst hj; simp [Addr.add]
              case c2 => intro u hu; simp at hu; subst hu; rfl
              case c3 => unfold maxLen; omega
              case c4 => omega
              case c5 => simp; omega
              intro v' w1 hown' hgrow _
              have RR := pushI hsz hown hbel (by rw [hxl]; exact hown') hgrow
              have RO := hide RR.1
              clear hown' hgrow hown
              go_wp2
              go_roundw
              case rel => exact ⟨k + 1, p + mm, by go_num, by omega, by go_num, by omega, ⟨_, HR', hxl'.out, RO.out⟩, RR.2⟩
              case measure => simp [intOf]; omega
    · obtain rfl : n = k := by omega
      have HQ : Hid (R = .ok (xs, p)) := by show _ = _; rw [← hR.out]; exact HR.out
      have O1 := hide hown
      clear hR HR hown hbel
      go_wp2
      go_ret3
      exact ⟨_, by rw [HQ.out]; rfl, by rw [HQ.out]; exact O1.out, HB.out⟩
end Go.Proofs.YtlhididcanedhaaGreatDoor
/- The contract of the document's own packed reading (version 2), and of its Unpack. -/
namespace Go.Proofs.YtlhididcanedhaaGreatDoor
open Go.RowKit Go.Wire1

/-- The mask's first k bits. -/
def bitsK (mk k : Nat) : List Int := (List.range k).map fun j => ((mk / 2 ^ j % 2 : Nat) : Int)
theorem bitsK_len (mk k : Nat) : (bitsK mk k).length = k := by simp [bitsK]
theorem bitsK_succ (mk k : Nat) : bitsK mk (k + 1) = bitsK mk k ++ [((mk / 2 ^ k % 2 : Nat) : Int)] := by simp [bitsK, List.range_succ]
theorem bitsK_at (mk : Nat) {k n : Nat} (h : k < n) : (bitsK mk n).getD k 0 = ((mk / 2 ^ k % 2 : Nat) : Int) := by simp [bitsK, h]
/-- The row in the middle: the entries that are made, then the bits. -/
theorem mid_at {xs : List Int} {mk k n : Nat} (hx : xs.length = k) (hk : k < n) : (xs ++ (bitsK mk n).drop k).getD k 0 = ((mk / 2 ^ k % 2 : Nat) : Int) := by
  rw [List.getD, List.getElem?_append_right (by omega), hx, Nat.sub_self, List.getElem?_drop, Nat.add_zero]
  have := bitsK_at mk hk
  rw [List.getD] at this
  exact this
theorem mid_set {xs : List Int} {mk k n : Nat} (y : Int) (hx : xs.length = k) (hk : k < n) : (xs ++ (bitsK mk n).drop k).set k y = (xs ++ [y]) ++ (bitsK mk n).drop (k + 1) := by
  have hd : (bitsK mk n).drop k = (bitsK mk n).getD k 0 :: (bitsK mk n).drop (k + 1) := drop_cons (by rw [bitsK_len]; exact hk)
  rw [hd, List.set_append_right _ _ (by omega), hx, Nat.sub_self, List.set_cons_zero, List.append_assoc]; rfl
set_option maxHeartbeats 2000000 in
set_option maxRecDepth 100000 in
theorem rpacked_any (n m cap : Nat) (sa : Option Addr) (l : List Int) (w : World) (hn1 : 1 ≤ n) (hn : n ≤ 7) (hs : Seg w sa m l) (hsrc : Src sa m cap) (hy : Byt l) :
    Calls Tryz.prog 137 #[.int .i64 (n : Int), .slice sa m cap] w fun e w' => ∃ u, e = .returned (.tuple #[u, .int .i64 (upN (upk2 l n) : Int), .int .i64 (upE (upk2 l n) : Int)]) ∧ w'.ownsRow w.heap.size 3 1 u (upL (upk2 l n)).length ((upL (upk2 l n)).map (Value.int .i64)) ∧ Below w.heap.size w w' := by
  obtain ⟨i0, hi, hz0, hz1, hz2⟩ := info_parts Tryz.info3
  obtain ⟨R, hR⟩ : ∃ R, Hid (upk2 l n = R) := ⟨_, rfl⟩
  rw [hR.out]
  have HS : Hid (Seg w sa m l) := hs
  have HL : Hid (l.length = m) := hs.1
  have HY : Hid (Byt l) := hy
  clear hs hy
  cases hd0 : dec l with
  | error i =>
    have hi3 := dec_err hd0
    have HQ : Hid (R = .error (11 + i)) := by show _ = _; rw [← hR.out]; unfold upk2; rw [hd0]
    have HD : Hid (dec l = .error i) := hd0
    have hne : ((11 + (i : Int)) != 0) = true := by rw [bne_iff_ne]; omega
    clear hd0 hR
    go_enter Tryz.func137, Tryz.ntmps137
    go_wp2_with fail
    refine (refU_bad HS.out HY.out HD.out).mono ?_
    rintro e w2 ⟨rfl, rfl⟩
    go_wp2
    go_ret3
    exact ⟨_, by rw [HQ.out]; rfl, by rw [HQ.out]; exact ownI_nil _ _, Below.refl _ _⟩
  | ok q =>
    obtain ⟨mk, p0⟩ := q
    have hml := dec_len HY.out hd0
    rw [HL.out] at hml
    have hmk := dec_lt HY.out hd0
    have HD : Hid (dec l = .ok (mk, p0)) := hd0
    have HF : Hid (R = if 2 ^ n ≤ mk then .error 33 else rd2 l mk p0 n) := by show _ = _; rw [← hR.out]; unfold upk2; rw [hd0]
    clear hd0 hR
    go_enter Tryz.func137, Tryz.ntmps137
    go_wp2_with fail
    refine (refU_ok HS.out HY.out HD.out).mono ?_
    rintro e w2 ⟨rfl, rfl⟩
    go_wp2
    go_loopw [7, 10, 12] (fun mq v i wr => ∃ k mm : Nat, i = .int .i64 (k : Int) ∧ k ≤ n ∧ mq = .int .u64 (mm : Int) ∧ mm < 18446744073709551616 ∧ Hid (mm = mk / 2 ^ k) ∧ wr.ownsRow w.heap.size 3 1 v (bitsK mk k).length ((bitsK mk k).map (Value.int .i64)) ∧ Below w.heap.size w wr) (fun _ _ i _ => n - (intOf i).toNat)
    case atStart => exact ⟨0, mk, rfl, Nat.zero_le _, rfl, hmk, by show mk = mk / 2 ^ 0; rw [Nat.pow_zero, Nat.div_one], World.ownsRow_nil _ _ _ _, Below.refl _ _⟩
    case round =>
      obtain ⟨k, mm, rfl, hk, rfl, hmm, HMM, hown, hbel⟩ := hrel
      have hsz := hbel.size
      have hbl := bitsK_len mk k
      by_cases hlt : k < n
      · have HMM' : Hid (mm / 2 = mk / 2 ^ (k + 1)) := by show _ = _; rw [HMM.out, Nat.div_div_eq_div_mul, ← Nat.pow_succ]
        have HBS : Hid (bitsK mk (k + 1) = bitsK mk k ++ [((mm % 2 : Nat) : Int)]) := by show _ = _; rw [bitsK_succ, HMM.out]
        generalize bitsK mk k = pre at *
        by_cases hb : mm % 2 = 1
        · have hbi : ((mm : Int) % 2 == 1) = true := by rw [beq_iff_eq]; omega
          rw [hb] at HBS
          clear hb
          go_wp2_with (first
            | (at_builtin; refine wpList_append_own _ rfl _ _ 28 rfl w.heap.size 3 i0 (.int .i64 0) 1 8 Tryz.underlying28 hi hz0 hz1 hz2 rfl (by decide) _ _ _ rfl (hown.alloc _) ⟨wr.heap.size, 0, none⟩ 1 1 [.int .i64 0] rfl rfl ?c1 ?c2 ?c3 ?c4 ?c5 ?_))
          case c1 =>
            intro j u hj
            match j, hj with
            | 0, hj => simp at hj; subst hj; simp [Addr.add]
          case c2 => intro u hu; simp at hu; subst hu; rfl
          case c3 => unfold maxLen; omega
          case c4 => omega
          case c5 => simp; omega
          intro v' w1 hown' hgrow _
          have RR := pushI (z := 0) hsz hown hbel (by rw [hbl]; exact hown') hgrow
          obtain ⟨g, cp, hv, hmine⟩ := mineI_of RR.1 (by rw [List.length_append]; simp)
          have hpl : (pre ++ [(0 : Int)]).length = k + 1 := by rw [List.length_append, hbl]; rfl
          rw [hpl] at hv hmine
          subst hv
          have cx := hmine.cell (j := k) (by omega)
          have fz := hmine.frozen k
          have hgB := hmine.2.2.2.2
          have hcp := hmine.2.2.1
          have HM1 : Hid (MineI (w1.setCell ⟨g, k, none⟩ (.int .i64 1)) w.heap.size g (k + 1) cp (pre ++ [1])) := by
            have := hmine.store k 1
            rwa [List.set_append_right _ _ (by omega), hbl, Nat.sub_self, List.set_cons_zero] at this
          have HB1 : Hid (Below w.heap.size w (w1.setCell ⟨g, k, none⟩ (.int .i64 1))) := below_store RR.2 hgB _
          have HBL : Hid ((bitsK mk (k + 1)).length = k + 1) := bitsK_len _ _
          clear hown' hgrow hown RR hmine
          go_wp2
          go_roundw
          case rel => exact ⟨k + 1, mm / 2, by go_num, by omega, by go_num, by omega, HMM', by rw [HBL.out, HBS.out]; exact HM1.out.1, HB1.out⟩
          case measure => simp [intOf]; omega
        · have hb0 : mm % 2 = 0 := by omega
          have hbi : ((mm : Int) % 2 == 1) = false := by rw [beq_eq_false_iff_ne]; omega
          rw [hb0] at HBS
          clear hb hb0
          go_wp2_with (first
            | (at_builtin; refine wpList_append_own _ rfl _ _ 28 rfl w.heap.size 3 i0 (.int .i64 0) 1 8 Tryz.underlying28 hi hz0 hz1 hz2 rfl (by decide) _ _ _ rfl (hown.alloc _) ⟨wr.heap.size, 0, none⟩ 1 1 [.int .i64 0] rfl rfl ?c1 ?c2 ?c3 ?c4 ?c5 ?_))
          case c1 =>
            intro j u hj
            match j, hj with
            | 0, hj => simp at hj; subst hj; simp [Addr.add]
          case c2 => intro u hu; simp at hu; subst hu; rfl
          case c3 => unfold maxLen; omega
          case c4 => omega
          case c5 => simp; omega
          intro v' w1 hown' hgrow _
          have RR := pushI (z := 0) hsz hown hbel (by rw [hbl]; exact hown') hgrow
          have RO := hide RR.1
          clear hown' hgrow hown
          go_wp2
          go_roundw
          case rel => exact ⟨k + 1, mm / 2, by go_num, by omega, by go_num, by omega, HMM', by rw [HBS.out]; exact RO.out, RR.2⟩
          case measure => simp [intOf]; omega
      · obtain rfl : n = k := by omega
        have HB : Hid (Below w.heap.size w wr) := hbel
        by_cases hbig : 2 ^ n ≤ mk
        · have HQ : Hid (R = .error 33) := by show _ = _; rw [HF.out, if_pos hbig]
          have hmz : ((mm : Int) != 0) = true := by
            rw [bne_iff_ne]
            have : 1 ≤ mk / 2 ^ n := by rw [Nat.le_div_iff_mul_le (Nat.two_pow_pos n)]; omega
            have := HMM.out
            omega
          clear HF hown hbel hbig
          go_wp2
          go_ret3
          exact ⟨_, by rw [HQ.out]; rfl, by rw [HQ.out]; exact ownI_nil _ _, HB.out⟩
        · have HQ0 : Hid (rd2 l mk p0 n = R) := by show _ = _; rw [HF.out, if_neg hbig]
          have hm0 : mm = 0 := by have := HMM.out; rw [Nat.div_eq_of_lt (by omega)] at this; exact this
          have hmz : ((mm : Int) != 0) = false := by rw [hm0]; rfl
          have hmine0 := mineI_of hown (by omega)
          obtain ⟨g, cp, hv, hmine⟩ := hmine0
          rw [hbl] at hv hmine
          subst hv
          have hgB := hmine.2.2.2.2
          have hcp := hmine.2.2.1
          have HM0 : Hid (MineI wr w.heap.size g n cp (bitsK mk n)) := hmine
          clear HF hown hbel hbig hm0 hmine
          go_wp2
          go_loopw [8, 11, 14] (fun q pv i w3 => ∃ k p : Nat, i = .int .i64 (k : Int) ∧ k ≤ n ∧ q = .int .i64 (p : Int) ∧ p ≤ m ∧ (∃ xs, Hid (rd2 l mk p0 k = .ok (xs, p)) ∧ Hid (MineI w3 w.heap.size g n cp (xs ++ (bitsK mk n).drop k)) ∧ ∃ z : Int, pv = .int .i64 z ∧ Hid (z = last0 xs)) ∧ Hid (Below w.heap.size w w3)) (fun _ _ i _ => n - (intOf i).toNat)
          case atStart => exact ⟨0, p0, rfl, Nat.zero_le _, rfl, by omega, ⟨[], rfl, HM0, 0, rfl, rfl⟩, HB⟩
          case round =>
            obtain ⟨k, p, rfl, hk, rfl, hp, ⟨xs, HR, HM, z, rfl, HZL⟩, HB3⟩ := hrel
            have hxs := rd2_len HY.out (by rw [HL.out]; omega) HR.out
            have hzb : 0 ≤ z ∧ z ≤ 1048576 := by rw [HZL.out]; exact last_ok hxs.2.2
            by_cases hlt2 : k < n
            · have cx := HM.out.cell (j := k) (by omega)
              rw [mid_at hxs.1 hlt2] at cx
              have fz := HM.out.frozen k
              by_cases hb : mk / 2 ^ k % 2 = 1
              · rw [hb] at cx
                rcases hsrc with ⟨rfl, rfl⟩ | ⟨⟨b, off, rfl⟩, hmc, hcm⟩
                · exact absurd hml.1 (by omega)
                · unfold maxLen at hcm
                  have BD : Hid (Byt (l.drop p)) := byt_drop HY.out p
                  have SD0 := seg_cut (HS.out.below HB3.out (Nat.le_refl _)) hp hmc
                  by_cases hpc : p = cap
                  · rw [if_pos hpc] at SD0
                    obtain rfl : p = m := by omega
                    subst hpc
                    rw [Nat.sub_self] at SD0
                    have SD := hide SD0
                    clear SD0
                    cases hd : dec (l.drop p) with
                    | error i =>
                      have hi3 := dec_err hd
                      have HD : Hid (dec (l.drop p) = .error i) := hd
                      have hne : ((11 + (i : Int)) != 0) = true := by rw [bne_iff_ne]; omega
                      have HQ : Hid (R = .error (11 + i)) := by show _ = _; rw [← HQ0.out]; exact rd2_err' (rd2_bad HR.out hb (by rw [← HZL.out]; unfold entry; rw [HD.out])) (by omega)
                      clear HQ0 HR HM hb
                      clear hd
                      go_wp2_with fail
                      refine (refI_bad SD.out BD.out HD.out).mono ?_
                      rintro e w5 ⟨rfl, rfl⟩
                      go_wp2
                      go_ret3
                      exact ⟨_, by rw [HQ.out]; rfl, by rw [HQ.out]; exact ownI_nil _ _, HB3.out⟩
                    | ok q =>
                      obtain ⟨u, mm2⟩ := q
                      have hml2 := dec_len BD.out hd
                      rw [List.length_drop, HL.out] at hml2
                      have hub := unzig_bd u (dec_lt BD.out hd)
                      have HD : Hid (dec (l.drop p) = .ok (u, mm2)) := hd
                      omega
                  · rw [if_neg hpc] at SD0
                    have SD := hide SD0
                    clear SD0
                    cases hd : dec (l.drop p) with
                    | error i =>
                      have hi3 := dec_err hd
                      have HD : Hid (dec (l.drop p) = .error i) := hd
                      have hne : ((11 + (i : Int)) != 0) = true := by rw [bne_iff_ne]; omega
                      have HQ : Hid (R = .error (11 + i)) := by show _ = _; rw [← HQ0.out]; exact rd2_err' (rd2_bad HR.out hb (by rw [← HZL.out]; unfold entry; rw [HD.out])) (by omega)
                      clear HQ0 HR HM hb
                      clear hd
                      go_wp2_with fail
                      refine (refI_bad SD.out BD.out HD.out).mono ?_
                      rintro e w5 ⟨rfl, rfl⟩
                      go_wp2
                      go_ret3
                      exact ⟨_, by rw [HQ.out]; rfl, by rw [HQ.out]; exact ownI_nil _ _, HB3.out⟩
                    | ok q =>
                      obtain ⟨u, mm2⟩ := q
                      have hml2 := dec_len BD.out hd
                      rw [List.length_drop, HL.out] at hml2
                      have hub := unzig_bd u (dec_lt BD.out hd)
                      have HD : Hid (dec (l.drop p) = .ok (u, mm2)) := hd
                      obtain ⟨d, hdd⟩ : ∃ d, Hid (unzig u = d) := ⟨_, rfl⟩
                      rw [hdd.out] at hub
                      clear hd
                      go_wp2_with fail
                      refine (refI_ok SD.out BD.out HD.out).mono ?_
                      rintro e w5 ⟨rfl, rfl⟩
                      rw [hdd.out]
                      by_cases h0 : d = 0
                      · subst h0
                        have HQ : Hid (R = .error 34) := by show _ = _; rw [← HQ0.out]; exact rd2_err' (rd2_bad HR.out hb (by rw [← HZL.out]; unfold entry; rw [HD.out]; simp only; rw [hdd.out, if_pos rfl])) (by omega)
                        clear HQ0 HR HM hb
                        go_wp2
                        go_ret3
                        exact ⟨_, by rw [HQ.out]; rfl, by rw [HQ.out]; exact ownI_nil _ _, HB3.out⟩
                      · have hz0' : (d == 0) = false := beq_eq_false_iff_ne.2 h0
                        by_cases h1 : 1048576 < d
                        · have HQ : Hid (R = .error 32) := by show _ = _; rw [← HQ0.out]; exact rd2_err' (rd2_bad HR.out hb (by rw [← HZL.out]; unfold entry; rw [HD.out]; simp only; rw [hdd.out, if_neg h0, if_pos (.inr (by omega))])) (by omega)
                          clear h0
                          clear HQ0 HR HM hb
                          go_wp2
                          go_ret3
                          exact ⟨_, by rw [HQ.out]; rfl, by rw [HQ.out]; exact ownI_nil _ _, HB3.out⟩
                        · by_cases h2 : d < -1048576
                          · have HQ : Hid (R = .error 32) := by show _ = _; rw [← HQ0.out]; exact rd2_err' (rd2_bad HR.out hb (by rw [← HZL.out]; unfold entry; rw [HD.out]; simp only; rw [hdd.out, if_neg h0, if_pos (.inl (by omega))])) (by omega)
                            clear h0
                            clear HQ0 HR HM hb
                            go_wp2
                            go_ret3
                            exact ⟨_, by rw [HQ.out]; rfl, by rw [HQ.out]; exact ownI_nil _ _, HB3.out⟩
                          · by_cases h3 : z + d < 0
                            · have HQ : Hid (R = .error 32) := by show _ = _; rw [← HQ0.out]; exact rd2_err' (rd2_bad HR.out hb (by rw [← HZL.out]; unfold entry; rw [HD.out]; simp only; rw [hdd.out, if_neg h0, if_pos (.inl (by omega))])) (by omega)
                              clear h0
                              clear HQ0 HR HM hb
                              go_wp2
                              go_ret3
                              exact ⟨_, by rw [HQ.out]; rfl, by rw [HQ.out]; exact ownI_nil _ _, HB3.out⟩
                            · by_cases h4 : 1048576 < z + d
                              · have HQ : Hid (R = .error 32) := by show _ = _; rw [← HQ0.out]; exact rd2_err' (rd2_bad HR.out hb (by rw [← HZL.out]; unfold entry; rw [HD.out]; simp only; rw [hdd.out, if_neg h0, if_pos (.inr (by omega))])) (by omega)
                                clear h0
                                clear HQ0 HR HM hb
                                go_wp2
                                go_ret3
                                exact ⟨_, by rw [HQ.out]; rfl, by rw [HQ.out]; exact ownI_nil _ _, HB3.out⟩
                              · have HR' : Hid (rd2 l mk p0 (k + 1) = .ok (xs ++ [z + d], p + mm2)) := rd2_set HR.out hb (by rw [← HZL.out]; unfold entry; rw [HD.out]; simp only; rw [hdd.out, if_neg h0, if_neg (by omega)])
                                have HM3 := hide (HM.out.store k (z + d))
                                rw [mid_set (z + d) hxs.1 hlt2] at HM3
                                have HB4 := hide (below_store (k := k) HB3.out hgB (.int .i64 (z + d)))
                                have HL3 : Hid (z + d = last0 (xs ++ [z + d])) := (last_snoc xs _).symm
                                clear HR HM HB3 hb h0
                                go_wp2
                                go_roundw
                                case rel => exact ⟨k + 1, p + mm2, by go_num, by omega, by go_num, by omega, ⟨_, HR', HM3, z + d, rfl, HL3⟩, HB4⟩
                                case measure => simp [intOf]; omega
              · have hb0 : mk / 2 ^ k % 2 = 0 := by omega
                rw [hb0] at cx
                have HR' : Hid (rd2 l mk p0 (k + 1) = .ok (xs ++ [z], p)) := by show _ = _; rw [HZL.out]; exact rd2_keep HR.out hb
                have HM3 := hide (HM.out.store k z)
                rw [mid_set z hxs.1 hlt2] at HM3
                have HB4 := hide (below_store (k := k) HB3.out hgB (.int .i64 z))
                have HL3 : Hid (z = last0 (xs ++ [z])) := (last_snoc xs z).symm
                clear HR HM HB3 hb hb0
                go_wp2
                go_roundw
                case rel => exact ⟨k + 1, p, by go_num, by omega, rfl, hp, ⟨_, HR', HM3, z, rfl, HL3⟩, HB4⟩
                case measure => simp [intOf]; omega
            · obtain rfl : n = k := by omega
              have HQ : Hid (R = .ok (xs, p)) := by show _ = _; rw [← HQ0.out]; exact HR.out
              have HE2 : Hid (xs ++ (bitsK mk n).drop n = xs) := by show _ = _; rw [List.drop_of_length_le (by rw [bitsK_len]; omega), List.append_nil]
              rw [HE2.out] at HM
              clear HR HQ0
              go_wp2
              go_ret3
              exact ⟨_, by rw [HQ.out]; rfl, by rw [HQ.out]; simp only [upL]; rw [hxs.1]; exact HM.out.1, HB3.out⟩

set_option maxHeartbeats 1000000 in
set_option maxRecDepth 100000 in
theorem runpack_any (v n : Int) (m cap : Nat) (sa : Option Addr) (l : List Int) (w : World) (hs : Seg w sa m l) (hsrc : Src sa m cap) (hy : Byt l) :
    Calls Tryz.prog 108 #[.int .i64 v, .int .i64 n, .slice sa m cap] w fun e w' => ∃ u, e = .returned (.tuple #[u, .int .i64 (upN (upk v n l) : Int), .int .i64 (upE (upk v n l) : Int)]) ∧ w'.ownsRow w.heap.size 3 1 u (upL (upk v n l)).length ((upL (upk v n l)).map (Value.int .i64)) ∧ Below w.heap.size w w' := by
  obtain ⟨R, hR⟩ : ∃ R, Hid (upk v n l = R) := ⟨_, rfl⟩
  rw [hR.out]
  have HS : Hid (Seg w sa m l) := hs
  have HY : Hid (Byt l) := hy
  have HC : Hid (Src sa m cap) := hsrc
  clear hs hy hsrc
  by_cases hv : v = 1 ∨ v = 2
  · by_cases h1 : n < 1
    · have HQ : Hid (R = .error 3) := by show _ = _; rw [← hR.out]; unfold upk; rw [if_pos hv, if_neg (by omega)]
      rcases hv with rfl | rfl
      all_goals
        go_enter Tryz.func108, Tryz.ntmps108
        go_wp2
        go_ret3
        exact ⟨_, by rw [HQ.out]; rfl, by rw [HQ.out]; exact ownI_nil _ _, Below.refl _ _⟩
    · by_cases h2 : 7 < n
      · have HQ : Hid (R = .error 3) := by show _ = _; rw [← hR.out]; unfold upk; rw [if_pos hv, if_neg (by omega)]
        rcases hv with rfl | rfl
        all_goals
          go_enter Tryz.func108, Tryz.ntmps108
          go_wp2
          go_ret3
          exact ⟨_, by rw [HQ.out]; rfl, by rw [HQ.out]; exact ownI_nil _ _, Below.refl _ _⟩
      · obtain ⟨nn, rfl⟩ := Int.eq_ofNat_of_zero_le (show 0 ≤ n by omega)
        rcases hv with rfl | rfl
        · have HR : Hid (rd1 l nn = R) := by show _ = _; rw [← hR.out]; unfold upk; rw [if_pos (.inl rfl), if_pos (by omega), if_pos rfl, Int.toNat_natCast]
          clear hR
          go_enter Tryz.func108, Tryz.ntmps108
          go_wp2_with fail
          refine (rplain_any nn m cap sa l _ (by omega) HS.out HC.out HY.out).mono ?_
          rw [HR.out]
          rintro e w2 ⟨u, rfl, hown, hb2⟩
          have O1 := hide hown
          have BB := hide hb2
          clear hown hb2
          go_wp2
          go_ret3
          exact ⟨_, rfl, O1.out, BB.out⟩
        · have HR : Hid (upk2 l nn = R) := by show _ = _; rw [← hR.out]; unfold upk; rw [if_pos (.inr rfl), if_pos (by omega), if_neg (by decide), Int.toNat_natCast]
          clear hR
          go_enter Tryz.func108, Tryz.ntmps108
          go_wp2_with fail
          refine (rpacked_any nn m cap sa l _ (by omega) (by omega) HS.out HC.out HY.out).mono ?_
          rw [HR.out]
          rintro e w2 ⟨u, rfl, hown, hb2⟩
          have O1 := hide hown
          have BB := hide hb2
          clear hown hb2
          go_wp2
          go_ret3
          exact ⟨_, rfl, O1.out, BB.out⟩
  · have HQ : Hid (R = .error 2) := by show _ = _; rw [← hR.out]; unfold upk; rw [if_neg hv]
    have d1 : (v != 1) = true := by simp only [bne_iff_ne]; exact fun h => hv (.inl h)
    have d2 : (v != 2) = true := by simp only [bne_iff_ne]; exact fun h => hv (.inr h)
    clear hv
    go_enter Tryz.func108, Tryz.ntmps108
    go_wp2
    go_ret3
    exact ⟨_, by rw [HQ.out]; rfl, by rw [HQ.out]; exact ownI_nil _ _, Below.refl _ _⟩
end Go.Proofs.YtlhididcanedhaaGreatDoor
