/- The contract of the document's own plain reading (version 1). -/
import Derived.Test.YtkddbcgkfnmgbabDoorRef
import Derived.Test.YtkddbcgkfnmgbabDoorUMath
import Derived.Test.YtkddbcgkfnmgbabDoorVUnp
import Derived.Test.YtkddbcgkfnmgbabDoorVRef0
namespace Go.Proofs.YtkddbcgkfnmgbabDoor
open Go.RowKit Go.Wire1

theorem refU_ok {n cap : Nat} {sa : Option Addr} {l : List Int} {w : World} (hs : Seg w sa n l) (hy : Byt l) {x m : Nat} (hd : dec l = .ok (x, m)) :
    Calls Tryd.prog 38 #[.slice sa n cap] w fun e w' => e = .returned (.tuple #[.int .u64 (x : Int), .int .i64 (m : Int), .int .i64 0]) ∧ w = w' :=
  (refUint_any n cap sa l w hs hy).mono fun e w' ⟨h1, h2⟩ => by rw [hd] at h1; exact ⟨h1, h2.symm⟩
theorem refU_bad {n cap : Nat} {sa : Option Addr} {l : List Int} {w : World} (hs : Seg w sa n l) (hy : Byt l) {i : Nat} (hd : dec l = .error i) :
    Calls Tryd.prog 38 #[.slice sa n cap] w fun e w' => e = .returned (.tuple #[.int .u64 0, .int .i64 0, .int .i64 (11 + (i : Int))]) ∧ w = w' :=
  (refUint_any n cap sa l w hs hy).mono fun e w' ⟨h1, h2⟩ => by rw [hd] at h1; exact ⟨h1, h2.symm⟩
theorem refI_ok {n cap : Nat} {sa : Option Addr} {l : List Int} {w : World} (hs : Seg w sa n l) (hy : Byt l) {x m : Nat} (hd : dec l = .ok (x, m)) :
    Calls Tryd.prog 39 #[.slice sa n cap] w fun e w' => e = .returned (.tuple #[.int .i64 (unzig x), .int .i64 (m : Int), .int .i64 0]) ∧ w = w' :=
  (refInt_any n cap sa l w hs hy).mono fun e w' ⟨h1, h2⟩ => by rw [hd] at h1; exact ⟨h1, h2.symm⟩
theorem refI_bad {n cap : Nat} {sa : Option Addr} {l : List Int} {w : World} (hs : Seg w sa n l) (hy : Byt l) {i : Nat} (hd : dec l = .error i) :
    Calls Tryd.prog 39 #[.slice sa n cap] w fun e w' => e = .returned (.tuple #[.int .i64 0, .int .i64 0, .int .i64 (11 + (i : Int))]) ∧ w = w' :=
  (refInt_any n cap sa l w hs hy).mono fun e w' ⟨h1, h2⟩ => by rw [hd] at h1; exact ⟨h1, h2.symm⟩
theorem ownI_nil (w : World) (B : Nat) : w.ownsRow B 3 1 (.slice none 0 0) ([] : List Int).length (([] : List Int).map (Value.int .i64)) := World.ownsRow_nil _ _ _ _

set_option maxHeartbeats 1000000 in
set_option maxRecDepth 100000 in
theorem rplain_any (n m cap : Nat) (sa : Option Addr) (l : List Int) (w : World) (hn : n ≤ 7) (hs : Seg w sa m l) (hsrc : Src sa m cap) (hy : Byt l) :
    Calls Tryd.prog 26 #[.int .i64 (n : Int), .slice sa m cap] w fun e w' => ∃ u, e = .returned (.tuple #[u, .int .i64 (upN (rd1 l n) : Int), .int .i64 (upE (rd1 l n) : Int)]) ∧ w'.ownsRow w.heap.size 3 1 u (upL (rd1 l n)).length ((upL (rd1 l n)).map (Value.int .i64)) ∧ Below w.heap.size w w' := by
  obtain ⟨i0, hi, hz0, hz1, hz2⟩ := info_parts Tryd.info3
  obtain ⟨R, hR⟩ : ∃ R, Hid (rd1 l n = R) := ⟨_, rfl⟩
  rw [hR.out]
  have HS : Hid (Seg w sa m l) := hs
  have HL : Hid (l.length = m) := hs.1
  have HY : Hid (Byt l) := hy
  clear hs hy
  go_enter Tryd.func26, Tryd.ntmps26
  go_wp2
  go_loopw [7, 8, 9] (fun v q i wr => ∃ k p : Nat, i = .int .i64 (k : Int) ∧ k ≤ n ∧ q = .int .i64 (p : Int) ∧ p ≤ m ∧ (∃ xs, Hid (rd1 l k = .ok (xs, p)) ∧ xs.length = k ∧ wr.ownsRow w.heap.size 3 1 v xs.length (xs.map (Value.int .i64))) ∧ Below w.heap.size w wr) (fun _ _ i _ => n - (intOf i).toNat)
  case atStart => exact ⟨0, 0, rfl, Nat.zero_le _, rfl, Nat.zero_le _, ⟨[], rfl, rfl, World.ownsRow_nil _ _ _ _⟩, Below.refl _ _⟩
  case round =>
    obtain ⟨k, p, rfl, hk, rfl, hp, ⟨xs, HR, hxl, hown⟩, hbel⟩ := hrel
    have hsz := hbel.size
    have HB : Hid (Below w.heap.size w wr) := hbel
    by_cases hlt : k < n
    · rcases hsrc with ⟨rfl, rfl⟩ | ⟨⟨b, off, rfl⟩, hmc, hcm⟩
      · obtain rfl : p = 0 := by omega
        have hnil : Hid (l.drop 0 = []) := by show _ = _; rw [List.drop_zero, List.eq_nil_of_length_eq_zero HL.out]
        have HQ : Hid (R = .error 11) := by show _ = _; rw [← hR.out]; exact rd1_err' (rd1_bad HR.out (i := 0) (by rw [hnil.out]; rfl)) (by omega)
        clear hR hown hbel
        rcases sa with _ | ad
        all_goals
          go_wp2_with fail
          refine (refU_bad (l := []) (seg_empty _ _) (fun z hz => by cases hz) (i := 0) rfl).mono ?_
          rintro e w2 ⟨rfl, rfl⟩
          go_wp2
          go_ret3
          exact ⟨_, by rw [HQ.out]; rfl, by rw [HQ.out]; exact ownI_nil _ _, HB.out⟩
      · unfold maxLen at hcm
        by_cases hpc : p = cap
        · obtain rfl : p = m := by omega
          subst hpc
          have hnil : Hid (l.drop p = []) := List.drop_eq_nil_of_le (by rw [HL.out]; omega)
          have HQ : Hid (R = .error 11) := by show _ = _; rw [← hR.out]; exact rd1_err' (rd1_bad HR.out (i := 0) (by rw [hnil.out]; rfl)) (by omega)
          clear hR hown hbel
          go_wp2_with fail
          refine (refU_bad (l := []) (seg_empty _ _) (fun z hz => by cases hz) (i := 0) rfl).mono ?_
          rintro e w2 ⟨rfl, rfl⟩
          go_wp2
          go_ret3
          exact ⟨_, by rw [HQ.out]; rfl, by rw [HQ.out]; exact ownI_nil _ _, HB.out⟩
        · have SD : Hid (Seg wr (some ⟨b, off + p, none⟩) (m - p) (l.drop p)) := by
            have := seg_cut (HS.out.below HB.out (Nat.le_refl _)) hp hmc
            rwa [if_neg hpc] at this
          have BD : Hid (Byt (l.drop p)) := byt_drop HY.out p
          cases hd : dec (l.drop p) with
          | error i =>
            have hi3 := dec_err hd
            have HQ : Hid (R = .error (11 + i)) := by show _ = _; rw [← hR.out]; exact rd1_err' (rd1_bad HR.out hd) (by omega)
            have HD : Hid (dec (l.drop p) = .error i) := hd
            have hne : ((11 + (i : Int)) != 0) = true := by rw [bne_iff_ne]; omega
            clear hd hR hown hbel
            go_wp2_with fail
            refine (refU_bad SD.out BD.out HD.out).mono ?_
            rintro e w2 ⟨rfl, rfl⟩
            go_wp2
            go_ret3
            exact ⟨_, by rw [HQ.out]; rfl, by rw [HQ.out]; exact ownI_nil _ _, HB.out⟩
          | ok q =>
            obtain ⟨x, mm⟩ := q
            have hml := dec_len BD.out hd
            rw [List.length_drop, HL.out] at hml
            have hxl2 := dec_lt BD.out hd
            have HD : Hid (dec (l.drop p) = .ok (x, mm)) := hd
            clear hd
            go_wp2_with fail
            refine (refU_ok SD.out BD.out HD.out).mono ?_
            rintro e w2 ⟨rfl, rfl⟩
            by_cases hx : (1048576 : Int) < (x : Int)
            · have HQ : Hid (R = .error 32) := by show _ = _; rw [← hR.out]; exact rd1_err' (rd1_big HR.out HD.out (by omega)) (by omega)
              clear hR hown hbel
              go_wp2
              go_ret3
              exact ⟨_, by rw [HQ.out]; rfl, by rw [HQ.out]; exact ownI_nil _ _, HB.out⟩
            · have HR' : Hid (rd1 l (k + 1) = .ok (xs ++ [(x : Int)], p + mm)) := rd1_step HR.out HD.out (by omega)
              have hxl' : Hid ((xs ++ [(x : Int)]).length = k + 1) := by show _ = _; rw [List.length_append, hxl]; rfl
              clear hR HR
              go_wp2_with (first
                | (at_builtin; refine wpList_append_own _ rfl _ _ 22 rfl w.heap.size 3 i0 (.int .i64 0) 1 8 Tryd.underlying22 hi hz0 hz1 hz2 rfl (by decide) _ _ _ rfl (hown.alloc _) ⟨wr.heap.size, 0, none⟩ 1 1 [.int .i64 (x : Int)] rfl rfl ?c1 ?c2 ?c3 ?c4 ?c5 ?_))
              case c1 =>
                intro j u hj
                match j, hj with
                | 0, hj => simp at hj; subst hj; simp [Addr.add]
              case c2 => intro u hu; simp at hu; subst hu; rfl
              case c3 => unfold maxLen; omega
              case c4 => omega
              case c5 => simp; omega
              intro v' w1 hown' hgrow _
              have RR := pushI hsz hown hbel (by rw [hxl]; exact hown') hgrow
              have RO := hide RR.1
              clear hown' hgrow hown
              go_wp2
              go_roundw
              case rel => exact ⟨k + 1, p + mm, by go_num, by omega, by go_num, by omega, ⟨_, HR', hxl'.out, RO.out⟩, RR.2⟩
              case measure => simp [intOf]; omega
    · obtain rfl : n = k := by omega
      have HQ : Hid (R = .ok (xs, p)) := by show _ = _; rw [← hR.out]; exact HR.out
      have O1 := hide hown
      clear hR HR hown hbel
      go_wp2
      go_ret3
      exact ⟨_, by rw [HQ.out]; rfl, by rw [HQ.out]; exact O1.out, HB.out⟩
end Go.Proofs.YtkddbcgkfnmgbabDoor
