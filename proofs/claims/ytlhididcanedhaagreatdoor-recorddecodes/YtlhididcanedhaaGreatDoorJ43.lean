/- Texts of the proof, joined. -/
import Derived.Test.YtlhididcanedhaaGreatDoorJ07
import Derived.Deep.QuietTactic
import Derived.BigQuiet
import Derived.Test.YtlhididcanedhaaGreatDoorRows
import Derived.WalkKit
import Derived.Test.YtlhididcanedhaaGreatDoorJ28
import Derived.Test.YtlhididcanedhaaGreatDoorJ26
import Derived.Test.YtlhididcanedhaaGreatDoorJ18
/- The contract of SameBytes: two lists of bytes in memory, alike or not; it only reads. -/
namespace Go.Proofs.YtlhididcanedhaaGreatDoor
open Go.RowKit Go.Wire1

set_option maxHeartbeats 400000 in
set_option maxRecDepth 100000 in
theorem same_any (a b : Option Addr) (n m cap cap' : Nat) (xs ys : List Int) (w : World) (ha : Seg w a n xs) (hb : Seg w b m ys) :
    Calls Tryz.prog 7 #[.slice a n cap, .slice b m cap'] w fun e w' => e = .returned (.bool (sameB xs ys)) ∧ ∃ q, w' = w.drewN q := by
  obtain ⟨hn, hn', ha⟩ := ha
  obtain ⟨hm, hm', hb⟩ := hb
  unfold maxLen at hn' hm'
  by_cases hnm : n = m
  · subst hnm
    have HN : Hid (xs.length = n) := hn
    have HM : Hid (ys.length = n) := hm
    clear hn hm
    go_enter Tryz.func7, Tryz.ntmps7
    go_wp2
    go_loopw [5] (fun i wr => ∃ k q : Nat, i = .int .i64 (k : Int) ∧ k ≤ n ∧ Hid (xs.take k = ys.take k) ∧ wr = w.drewN q) (fun i _ => n - (intOf i).toNat)
    case atStart => exact ⟨0, 0, rfl, Nat.zero_le _, rfl, rfl⟩
    case round =>
      obtain ⟨k, q, rfl, hk, HT, rfl⟩ := hrel
      by_cases hlt : k < n
      · obtain ⟨ba, oa, rfl, hca⟩ := ha (by omega)
        obtain ⟨bb, ob, rfl, hcb⟩ := hb (by omega)
        have ca : w.cell? ⟨ba, oa + k, none⟩ = some (.int .u8 (xs.getD k 0)) := hca k hlt
        have cb : w.cell? ⟨bb, ob + k, none⟩ = some (.int .u8 (ys.getD k 0)) := hcb k hlt
        clear ha hb hca hcb
        by_cases he : xs.getD k 0 = ys.getD k 0
        · have HT' : Hid (xs.take (k + 1) = ys.take (k + 1)) := take_step (by have := HN.out; omega) (by have := HM.out; omega) HT.out he
          rw [← he] at cb
          clear he
          generalize xs.getD k 0 = c at ca cb
          go_wp2
          go_quiet (fail)
          go_wp2
          go_roundw
          case rel => exact ⟨k + 1, _, by go_num, by omega, HT', rfl⟩
          case measure => simp [intOf]; omega
        · have HS : Hid (sameB xs ys = false) := same_no he
          have hb' : (xs.getD k 0 != ys.getD k 0) = true := by simpa using he
          clear he
          generalize xs.getD k 0 = c at ca hb'
          generalize ys.getD k 0 = d at cb hb'
          go_wp2
          go_quiet (fail)
          go_wp2
          go_ret
          exact ⟨by rw [HS.out]; rfl, _, by rw [World.drewN_drewN]⟩
      · have HS : Hid (sameB xs ys = true) := same_yes (by have := HT.out; rwa [List.take_of_length_le (by have := HN.out; omega), List.take_of_length_le (by have := HM.out; omega)] at this)
        go_wp2
        go_ret
        exact ⟨by rw [HS.out]; rfl, _, rfl⟩
  · have HS : Hid (sameB xs ys = false) := same_len (by omega)
    have hne : ((n : Int) != (m : Int)) = true := by rw [bne_iff_ne]; omega
    go_enter Tryz.func7, Tryz.ntmps7
    go_wp2
    go_ret
    exact ⟨by rw [HS.out]; rfl, 0, rfl⟩
end Go.Proofs.YtlhididcanedhaaGreatDoor
/- The contract of the statements' helper Bytes: a new list. -/
namespace Go.Proofs.YtlhididcanedhaaGreatDoor
open Go.RowKit Go.Wire1

set_option maxHeartbeats 1000000 in
set_option maxRecDepth 100000 in
theorem bytes_any (a : Option Addr) (n cap : Nat) (xs : List Int) (w : World) (ha : Seg w a n xs) (hlen : n ≤ 140737488355328) :
    Calls Tryz.prog 13 #[.slice a n cap] w fun e w' => ∃ v, e = .returned v ∧ w'.ownsRow w.heap.size 5 1 v xs.length (xs.map (Value.int .u8)) ∧ Below w.heap.size w w' := by
  obtain ⟨i0, hi, hz0, hz1, hz2⟩ := info_parts Tryz.info5
  have HA : Hid (Seg w a n xs) := ha
  have hxl : Hid (xs.length = n) := ha.1
  clear ha
  go_enter Tryz.func13, Tryz.ntmps13
  go_wp2
  go_loopw [3, 4] (fun v c wr => ∃ k : Nat, c = .int .i64 (k : Int) ∧ k ≤ n ∧ wr.ownsRow w.heap.size 5 1 v (xs.take k).length ((xs.take k).map (Value.int .u8)) ∧ Below w.heap.size w wr) (fun _ c _ => n - (intOf c).toNat)
  case atStart => exact ⟨0, rfl, Nat.zero_le _, World.ownsRow_nil _ _ _ _, Below.refl _ _⟩
  case round =>
    obtain ⟨k, rfl, hk, hown, hbel⟩ := hrel
    have hsz := hbel.size
    have htl : (xs.take k).length ≤ k := List.length_take_le _ _
    by_cases hlt : k < n
    · obtain ⟨ba, oa, rfl, hca⟩ := (HA.out.below hbel (Nat.le_refl _)).2.2 (by omega)
      have ca : wr.cell? ⟨ba, oa + k, none⟩ = some (.int .u8 (xs.getD k 0)) := hca k hlt
      have HT : Hid (xs.take (k + 1) = xs.take k ++ [xs.getD k 0]) := take_next (by have := hxl.out; omega)
      clear hca
      generalize xs.getD k 0 = z at *
      generalize xs.take k = pre at *
      go_wp2_with (first
        | (at_builtin; refine wpList_append_own _ rfl _ _ 31 rfl w.heap.size 5 i0 (.int .u8 0) 1 1 Tryz.underlying31 hi hz0 hz1 hz2 rfl (by decide) _ _ _ rfl (hown.alloc _) ⟨wr.heap.size, 0, none⟩ 1 1 [.int .u8 z] rfl rfl ?c1 ?c2 ?c3 ?c4 ?c5 ?_))
      case c1 =>
        intro j u hj
        match j, hj with
        | 0, hj => simp at hj; subst hj; simp [Addr.add]
      case c2 => intro u hu; simp at hu; subst hu; rfl
      case c3 => unfold maxLen; omega
      case c4 => omega
      case c5 => simp; omega
      intro v' w1 hown' hgrow _
      have R := push hsz hown hbel hown' hgrow
      clear hown' hgrow hown
      go_wp2
      go_roundw
      case rel => rw [← HT.out] at R; exact ⟨k + 1, by go_num, by omega, R.1, R.2⟩
      case measure => simp [intOf]; omega
    · have HT : Hid (xs.take k = xs) := List.take_of_length_le (by have := hxl.out; omega)
      rw [HT.out] at hown
      clear htl
      go_wp2
      go_ret
      exact ⟨_, rfl, hown, hbel⟩
end Go.Proofs.YtlhididcanedhaaGreatDoor
/- The contract of package record's Encode. -/
namespace Go.Proofs.YtlhididcanedhaaGreatDoor
open Go.RowKit Go.Wire1

def zeroW : List Value := [.int .i64 0, .int .i64 0, .int .i64 0, .int .i64 0, .int .i64 0, .bool false, .int .i64 0, .int .i64 0, .int .i64 0, .string ⟨#[]⟩, .string ⟨#[]⟩, .string ⟨#[]⟩, .string ⟨#[]⟩, .int .i64 0, .int .i64 0, .slice none 0 0, .int .i64 0, .int .i64 0, .slice none 0 0]
theorem unl_zero {b : Bool} {e : Nat} (he : e ≠ 0) (h : unlR b e = 0) : b = true := by
  cases b
  · exact absurd h he
  · rfl
theorem firstR_all {n : Int} {r : Rc} : ∀ {xs : List Nat}, firstR n r xs = 0 → ∀ x ∈ xs, faultR n r x = 0
  | [], _, _, hx => by cases hx
  | y :: ys, h, x, hx => by
    have h' : (if faultR n r y = 0 then firstR n r ys else faultR n r y) = 0 := h
    by_cases h0 : faultR n r y = 0
    · rw [if_pos h0] at h'
      rcases List.mem_cons.1 hx with rfl | hx
      · exact h0
      · exact firstR_all h' x hx
    · rw [if_neg h0] at h'; exact absurd h' h0
theorem chkR_zero {n : Int} {r : Rc} (h : chkR n r = 0) : isSizeB n = true ∧ isKindR r.kind = true ∧ extraR r = false ∧ firstR n r (rowR r.kind) = 0 := by
  unfold chkR at h
  cases h1 : isSizeB n with
  | false => rw [h1] at h; simp at h
  | true =>
    cases h2 : isKindR r.kind with
    | false => rw [h1, h2] at h; simp at h
    | true =>
      cases h3 : extraR r with
      | true => rw [h1, h2, h3] at h; simp at h
      | false => rw [h1, h2, h3] at h; exact ⟨rfl, rfl, rfl, by simpa using h⟩
theorem deps_vec {k : Nat} {r : Rc} (h1 : 1 ≤ k) (hk : k ≤ 7) (h : depsR (k : Int) r = true) : isVec r.deps = true := by
  rw [← covers_deps r h1 hk] at h
  unfold coversB at h
  simp only [Bool.and_eq_true] at h
  exact h.2.2.1
/-- What Check takes fits into bytes. -/
theorem fit_of_chk {n : Int} {r : Rc} (h : chkR n r = 0) : ∀ x ∈ rowR r.kind, fitF r x := by
  obtain ⟨h1, h2, _, h4⟩ := chkR_zero h
  obtain ⟨m, rfl, m1, m7⟩ := size_nat h1
  obtain ⟨k, hk, hk6⟩ := kindR_nat h2
  have hall := firstR_all h4
  have hhead : ∀ r : Rc, headB r = true → (0 ≤ r.id ∧ r.id ≤ 1073741824) ∧ (0 ≤ r.n ∧ r.n ≤ 1073741824) := fun r hr => by
    simp only [headB, isSizeB, Bool.and_eq_true, decide_eq_true_eq] at hr
    exact ⟨⟨by omega, by omega⟩, by omega, by omega⟩
  intro x hx
  have hf := hall x hx
  have hl : Ltr x := by
    have := lts_row hk6
    rw [show rowL.getD k [] = rowR r.kind by unfold rowR; rw [hk]; rfl] at this
    obtain ⟨p, hp, rfl⟩ := List.getElem_of_mem hx
    have h5 := this.ltr hp
    rwa [List.getD, List.getElem?_eq_getElem hp] at h5
  rcases hl with rfl | rfl | rfl | rfl | rfl | rfl | rfl | rfl
  · have h110 : (110 : Nat) ∈ rowR r.kind := by
      unfold rowR at hx ⊢
      rw [hk] at hx ⊢
      rcases (by omega : k = 0 ∨ k = 1 ∨ k = 2 ∨ k = 3 ∨ k = 4 ∨ k = 5) with rfl | rfl | rfl | rfl | rfl | rfl <;> revert hx <;> decide
    exact (hhead r (unl_zero (by omega) (hall 110 h110))).1
  · exact (hhead r (unl_zero (by omega) hf)).2
  · have hb : rinstB (m : Int) r.row r.num = true := unl_zero (by omega) hf
    simp only [rinstB, Bool.and_eq_true, decide_eq_true_eq] at hb
    exact ⟨by omega, by omega, by omega, by omega⟩
  · have hb : balR (m : Int) r = true := unl_zero (by omega) hf
    have h105 : (105 : Nat) ∈ rowR r.kind := by
      unfold rowR at hx ⊢
      rw [hk] at hx ⊢
      rcases (by omega : k = 0 ∨ k = 1 ∨ k = 2 ∨ k = 3 ∨ k = 4 ∨ k = 5) with rfl | rfl | rfl | rfl | rfl | rfl <;> revert hx <;> decide
    have hi : rinstB (m : Int) r.row r.num = true := unl_zero (by omega) (hall 105 h105)
    simp only [rinstB, Bool.and_eq_true, decide_eq_true_eq] at hi
    unfold balR at hb
    split at hb
    · simp only [Bool.and_eq_true, beq_iff_eq] at hb
      exact ⟨by omega, by omega, by omega, by omega⟩
    · simp only [Bool.and_eq_true, decide_eq_true_eq] at hb
      exact ⟨by omega, by omega, by omega, by omega⟩
  · exact trivial
  · have hc : cmdR r = 0 := hf
    unfold cmdR at hc
    by_cases h0 : chk 2 r.c = 0
    · exact h0
    · rw [if_neg h0] at hc; exact absurd hc h0
  · have hs : seqR r = true := unl_zero (by omega) hf
    unfold seqR at hs
    split at hs
    · simp only [beq_iff_eq] at hs
      exact ⟨by omega, by omega⟩
    · simp only [Bool.and_eq_true, decide_eq_true_eq] at hs
      exact ⟨by omega, by omega⟩
  · exact deps_vec m1 m7 (unl_zero (by omega) hf)
end Go.Proofs.YtlhididcanedhaaGreatDoor
/- The plain mathematics: what is packed is read back; every beginning ends too early; what is read has one form. -/
namespace Go.Wire1
open Go.RowKit

theorem take_snocI {l : List Int} {k : Nat} (h : k < l.length) : l.take (k + 1) = l.take k ++ [l.getD k 0] := take_next h
theorem last_take {l : List Int} {k : Nat} (h : k ≤ l.length) : last0 (l.take k) = prev l k := by
  cases k with
  | zero => rfl
  | succ k => rw [take_snocI (by omega), last_snoc, prev_succ]

/-- What stands behind the first k entries' bytes. -/
theorem plainK_split (l : List Int) {k N : Nat} (h : k ≤ N) : ∃ s, plainK l N = plainK l k ++ s := by
  induction N with
  | zero => exact ⟨[], by rw [show k = 0 by omega]; simp⟩
  | succ N ih =>
    by_cases e : k = N + 1
    · exact ⟨[], by rw [e]; simp⟩
    · obtain ⟨s, hs⟩ := ih (by omega)
      exact ⟨s ++ enc (l.getD N 0).toNat, by simp only [plainK]; rw [hs, List.append_assoc]⟩
theorem plainK_at (l : List Int) {k N : Nat} (h : k < N) : ∃ s, plainK l N = plainK l k ++ (enc (l.getD k 0).toNat ++ s) := by
  obtain ⟨s, hs⟩ := plainK_split l (show k + 1 ≤ N by omega)
  exact ⟨s, by rw [hs]; simp only [plainK, List.append_assoc]⟩
theorem diffK_split (l : List Int) {k N : Nat} (h : k ≤ N) : ∃ s, diffK l N = diffK l k ++ s := by
  induction N with
  | zero => exact ⟨[], by rw [show k = 0 by omega]; simp⟩
  | succ N ih =>
    by_cases e : k = N + 1
    · exact ⟨[], by rw [e]; simp⟩
    · obtain ⟨s, hs⟩ := ih (by omega)
      exact ⟨s ++ (if l.getD N 0 = prev l N then [] else enc (zig (l.getD N 0 - prev l N))), by simp only [diffK]; rw [hs, List.append_assoc]⟩
theorem diffK_at (l : List Int) {k N : Nat} (h : k < N) (hd : ¬ l.getD k 0 = prev l k) : ∃ s, diffK l N = diffK l k ++ (enc (zig (l.getD k 0 - prev l k)) ++ s) := by
  obtain ⟨s, hs⟩ := diffK_split l (show k + 1 ≤ N by omega)
  exact ⟨s, by rw [hs, (maskK_diff hd).2, List.append_assoc]⟩
theorem maskK_split (l : List Int) {k N : Nat} (h : k ≤ N) : ∃ t, maskK l N = maskK l k + 2 ^ k * t := by
  induction N with
  | zero => exact ⟨0, by rw [show k = 0 by omega]; simp⟩
  | succ N ih =>
    by_cases e : k = N + 1
    · exact ⟨0, by rw [e]; simp⟩
    · obtain ⟨t, ht⟩ := ih (by omega)
      by_cases hd : l.getD N 0 = prev l N
      · exact ⟨t, by rw [(maskK_same hd).1, ht]⟩
      · refine ⟨t + 2 ^ (N - k), ?_⟩
        rw [(maskK_diff hd).1, ht, Nat.mul_add, ← Nat.pow_add, show k + (N - k) = N by omega, Nat.add_assoc]
theorem mask_bit (l : List Int) {k N : Nat} (h : k < N) : maskK l N / 2 ^ k % 2 = if l.getD k 0 = prev l k then 0 else 1 := by
  obtain ⟨t, ht⟩ := maskK_split l (show k + 1 ≤ N by omega)
  have hlt := maskK_lt l k
  have hp : 0 < 2 ^ k := Nat.two_pow_pos k
  rw [ht, Nat.pow_succ, Nat.mul_assoc]
  by_cases hd : l.getD k 0 = prev l k
  · rw [(maskK_same hd).1, if_pos hd, Nat.add_mul_div_left _ _ hp, Nat.div_eq_of_lt hlt]; omega
  · rw [(maskK_diff hd).1, if_neg hd, Nat.add_assoc, show 2 ^ k + 2 ^ k * (2 * t) = 2 ^ k * (1 + 2 * t) by rw [Nat.mul_add, Nat.mul_one], Nat.add_mul_div_left _ _ hp, Nat.div_eq_of_lt hlt]; omega

theorem drop_app (x y : List Int) : (x ++ y).drop x.length = y := by simp
theorem entry_back {q d : Int} (hq : 0 ≤ q ∧ q ≤ 1048576) (hd : ¬ d = 0) (h1 : 0 ≤ q + d) (h2 : q + d ≤ 1048576) (s : List Int) : entry q (enc (zig d) ++ s) = .ok (q + d, (enc (zig d)).length) := by
  unfold entry
  rw [dec_enc (zig d) s (zig_lt _ (by omega) (by omega))]
  simp only [unzig_zig]
  rw [if_neg hd, if_neg (by omega)]

theorem rd1_back {l : List Int} (ho : okL l = true) (tail : List Int) {N : Nat} (hN : N ≤ l.length) : ∀ k, k ≤ N → rd1 (plainK l N ++ tail) k = .ok (l.take k, (plainK l k).length)
  | 0, _ => rfl
  | k + 1, hk => by
    have ih := rd1_back ho tail hN k (by omega)
    have hx := okL_at ho k
    obtain ⟨s, hs⟩ := plainK_at l (show k < N by omega)
    have hd : dec ((plainK l N ++ tail).drop (plainK l k).length) = .ok ((l.getD k 0).toNat, (enc (l.getD k 0).toNat).length) := by
      rw [hs, List.append_assoc, drop_app, List.append_assoc, dec_enc _ _ (by omega)]
    rw [rd1_step ih hd (by omega), take_snocI (by omega)]
    congr 2
    · congr 2; omega
    · simp only [plainK, List.length_append]

theorem rd2_back {l : List Int} (ho : okL l = true) (tail : List Int) {N M : Nat} (hN : N ≤ l.length) (hM : maskK l N = M) : ∀ k, k ≤ N → rd2 (enc M ++ (diffK l N ++ tail)) M (enc M).length k = .ok (l.take k, (enc M).length + (diffK l k).length)
  | 0, _ => by simp [rd2, diffK]
  | k + 1, hk => by
    have ih := rd2_back ho tail hN hM k (by omega)
    have hx := okL_at ho k
    have hp := prev_ok ho k
    have hb := mask_bit l (show k < N by omega)
    rw [hM] at hb
    by_cases hd : l.getD k 0 = prev l k
    · rw [if_pos hd] at hb
      rw [rd2_keep ih (by omega), last_take (by omega), take_snocI (by omega), hd, (maskK_same hd).2]
    · rw [if_neg hd] at hb
      obtain ⟨s, hs⟩ := diffK_at l (show k < N by omega) hd
      have he : entry (last0 (l.take k)) ((enc M ++ (diffK l N ++ tail)).drop ((enc M).length + (diffK l k).length)) = .ok (prev l k + (l.getD k 0 - prev l k), (enc (zig (l.getD k 0 - prev l k))).length) := by
        rw [last_take (by omega), ← List.drop_drop, drop_app, hs, List.append_assoc, drop_app, List.append_assoc]
        exact entry_back hp (by omega) (by omega) (by omega) _
      rw [rd2_set ih hb he, take_snocI (by omega), show prev l k + (l.getD k 0 - prev l k) = l.getD k 0 by omega, (maskK_diff hd).2, List.length_append, Nat.add_assoc]

theorem vec_parts {l : List Int} (h : isVec l = true) : okL l = true ∧ 1 ≤ l.length ∧ l.length ≤ 7 := by
  unfold isVec at h
  simp only [Bool.and_eq_true] at h
  have := of_decide_eq_true h.1
  exact ⟨h.2, this.1, this.2⟩
theorem packE_vec {v : Int} {l : List Int} (hv : v = 1 ∨ v = 2) (h : isVec l = true) : packE v l = 0 := by
  have hp := vec_parts h
  unfold packE fault
  rw [if_pos hv, show okW l.length = true from decide_eq_true ⟨hp.2.1, hp.2.2⟩, hp.1]; rfl
theorem packR_vec {v : Int} {l : List Int} (hv : v = 1 ∨ v = 2) (h : isVec l = true) : packR v l = packL v l := by
  unfold packR; rw [if_pos (packE_vec hv h)]
theorem mask_small {l : List Int} (h : isVec l = true) : maskK l l.length < 128 := by
  have := vec_parts h
  have h1 := maskK_lt l l.length
  have h2 := pow7 this.2.2
  omega

/-- What is packed is read back, whatever stands behind. -/
theorem upk_back {v : Int} {l tail : List Int} (hv : v = 1 ∨ v = 2) (h : isVec l = true) : upk v l.length (packR v l ++ tail) = .ok (l, (packR v l).length) := by
  have hp := vec_parts h
  rw [packR_vec hv h]
  unfold upk packL
  rw [if_pos hv, if_pos (by omega), Int.toNat_natCast]
  rcases hv with rfl | rfl
  · rw [if_pos rfl, if_pos rfl, rd1_back hp.1 tail (Nat.le_refl _) _ (Nat.le_refl _), List.take_length]
  · rw [if_neg (by decide), if_neg (by decide)]
    have hm := mask_small h
    have hlt := maskK_lt l l.length
    unfold upk2 Go.Wire1.tight
    rw [List.append_assoc, dec_enc _ _ (by omega)]
    simp only
    rw [if_neg (by omega), rd2_back hp.1 tail (Nat.le_refl _) rfl _ (Nat.le_refl _), List.take_length, List.length_append]

theorem drop_take_mid {x e s : List Int} {k : Nat} : ((x ++ (e ++ s)).take k).drop x.length = (e ++ s).take (k - x.length) := by
  rw [List.drop_take, drop_app]
theorem take_whole {e s : List Int} {k : Nat} (h : e.length ≤ k) : ∃ s', (e ++ s).take k = e ++ s' := ⟨s.take (k - e.length), by rw [List.take_append, List.take_of_length_le h]⟩
theorem take_part {e s : List Int} {k : Nat} (h : k < e.length) : (e ++ s).take k = e.take k := by rw [List.take_append, show k - e.length = 0 by omega]; simp

theorem rd1_cut {l : List Int} (ho : okL l = true) {N k : Nat} (hN : N ≤ l.length) : ∀ j, j ≤ N → rd1 ((plainK l N).take k) j = if (plainK l j).length ≤ k then .ok (l.take j, (plainK l j).length) else .error 11
  | 0, _ => by simp [rd1, plainK]
  | j + 1, hj => by
    have ih := rd1_cut ho hN (k := k) j (by omega)
    have hx := okL_at ho j
    obtain ⟨s, hs⟩ := plainK_at l (show j < N by omega)
    have hl : (plainK l (j + 1)).length = (plainK l j).length + (enc (l.getD j 0).toNat).length := by simp only [plainK, List.length_append]
    by_cases h1 : (plainK l j).length ≤ k
    · rw [if_pos h1] at ih
      by_cases h2 : (plainK l (j + 1)).length ≤ k
      · rw [if_pos h2]
        have hd : dec (((plainK l N).take k).drop (plainK l j).length) = .ok ((l.getD j 0).toNat, (enc (l.getD j 0).toNat).length) := by
          rw [hs, drop_take_mid]
          obtain ⟨s', hs'⟩ := take_whole (e := enc (l.getD j 0).toNat) (s := s) (k := k - (plainK l j).length) (by omega)
          rw [hs', dec_enc _ _ (by omega)]
        rw [rd1_step ih hd (by omega), take_snocI (by omega), hl]
        congr 2
        congr 2; omega
      · rw [if_neg h2]
        have hd : dec (((plainK l N).take k).drop (plainK l j).length) = .error 0 := by
          rw [hs, drop_take_mid, take_part (by omega), dec_cut _ _ (by omega)]
        rw [rd1_bad ih hd]
    · rw [if_neg h1] at ih
      rw [if_neg (by omega), rd1_err' ih (by omega)]

theorem rd2_cut {l : List Int} (ho : okL l = true) {N M k : Nat} (hN : N ≤ l.length) (hM : maskK l N = M) (hk : (enc M).length ≤ k) : ∀ j, j ≤ N → rd2 ((enc M ++ diffK l N).take k) M (enc M).length j = if (enc M).length + (diffK l j).length ≤ k then .ok (l.take j, (enc M).length + (diffK l j).length) else .error 11
  | 0, _ => by simp [rd2, diffK, hk]
  | j + 1, hj => by
    have ih := rd2_cut ho hN hM hk j (by omega)
    have hx := okL_at ho j
    have hp := prev_ok ho j
    have hb := mask_bit l (show j < N by omega)
    rw [hM] at hb
    by_cases hd : l.getD j 0 = prev l j
    · rw [if_pos hd] at hb
      rw [(maskK_same hd).2]
      by_cases h1 : (enc M).length + (diffK l j).length ≤ k
      · rw [if_pos h1] at ih ⊢
        rw [rd2_keep ih (by omega), last_take (by omega), take_snocI (by omega), hd]
      · rw [if_neg h1] at ih ⊢
        exact rd2_err' ih (by omega)
    · rw [if_neg hd] at hb
      obtain ⟨s, hs⟩ := diffK_at l (show j < N by omega) hd
      rw [(maskK_diff hd).2, List.length_append]
      have hcut : ((enc M ++ diffK l N).take k).drop ((enc M).length + (diffK l j).length) = (enc (zig (l.getD j 0 - prev l j)) ++ s).take (k - ((enc M).length + (diffK l j).length)) := by
        rw [hs, ← List.append_assoc, List.drop_take, show (enc M).length + (diffK l j).length = (enc M ++ diffK l j).length by rw [List.length_append], drop_app]
      by_cases h1 : (enc M).length + (diffK l j).length ≤ k
      · rw [if_pos h1] at ih
        by_cases h2 : (enc M).length + ((diffK l j).length + (enc (zig (l.getD j 0 - prev l j))).length) ≤ k
        · rw [if_pos h2]
          have he : entry (last0 (l.take j)) (((enc M ++ diffK l N).take k).drop ((enc M).length + (diffK l j).length)) = .ok (prev l j + (l.getD j 0 - prev l j), (enc (zig (l.getD j 0 - prev l j))).length) := by
            rw [last_take (by omega), hcut]
            obtain ⟨s', hs'⟩ := take_whole (e := enc (zig (l.getD j 0 - prev l j))) (s := s) (k := k - ((enc M).length + (diffK l j).length)) (by omega)
            rw [hs']
            exact entry_back hp (by omega) (by omega) (by omega) _
          rw [rd2_set ih hb he, take_snocI (by omega), show prev l j + (l.getD j 0 - prev l j) = l.getD j 0 by omega, Nat.add_assoc]
        · rw [if_neg h2]
          have he : entry (last0 (l.take j)) (((enc M ++ diffK l N).take k).drop ((enc M).length + (diffK l j).length)) = .error 11 := by
            rw [hcut, take_part (by omega)]
            unfold entry
            rw [dec_cut _ _ (by omega)]
          rw [rd2_bad ih hb he]
      · rw [if_neg h1] at ih
        rw [if_neg (by omega), rd2_err' ih (by omega)]

/-- Every proper beginning of a layout ends too early. -/
theorem upk_cut {v : Int} {l : List Int} (hv : v = 1 ∨ v = 2) (h : isVec l = true) {k : Nat} (hk : k < (packR v l).length) : upk v l.length ((packR v l).take k) = .error 11 := by
  have hp := vec_parts h
  rw [packR_vec hv h] at hk ⊢
  unfold upk
  rw [if_pos hv, if_pos (by omega), Int.toNat_natCast]
  unfold packL at hk ⊢
  rcases hv with rfl | rfl
  · rw [if_pos rfl] at hk ⊢
    rw [if_pos rfl, rd1_cut hp.1 (Nat.le_refl _) _ (Nat.le_refl _), if_neg (by omega)]
  · rw [if_neg (by decide)] at hk ⊢
    rw [if_neg (by decide)]
    have hm := mask_small h
    have hlt := maskK_lt l l.length
    have h1 : (enc (maskK l l.length)).length = 1 := by rw [enc1 hm]; rfl
    unfold Go.Wire1.tight at hk ⊢
    rw [List.length_append] at hk
    unfold upk2
    by_cases h0 : k = 0
    · subst h0; rfl
    · obtain ⟨s', hs'⟩ := take_whole (e := enc (maskK l l.length)) (s := diffK l l.length) (k := k) (by omega)
      have hd : dec ((enc (maskK l l.length) ++ diffK l l.length).take k) = .ok (maskK l l.length, (enc (maskK l l.length)).length) := by rw [hs', dec_enc _ _ (by omega)]
      rw [hd]
      simp only
      rw [if_neg (by omega), rd2_cut hp.1 (Nat.le_refl _) rfl (by omega) _ (Nat.le_refl _), if_neg (by omega)]

theorem take_add (b : List Int) (p m : Nat) : b.take (p + m) = b.take p ++ (b.drop p).take m := by rw [List.take_add]

end Go.Wire1
