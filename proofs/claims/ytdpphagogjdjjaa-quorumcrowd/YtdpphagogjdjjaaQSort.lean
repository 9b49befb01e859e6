/- The library's sort at a short list of ints: sorted, and a permutation of what it was. -/
import Derived.Test.YtdpphagogjdjjaaMineI
import Derived.BigQuiet
import Derived.Lib.Walk
import Derived.Lib.BitFns
namespace Go.Proofs.Ytdpphagogjdjjaa
open Go.RowKit Go.Wire1

theorem isNaN_any (x : Int) (w : World) : Calls Try.prog 51 #[.int .i64 x] w fun e w' => e = .returned (.bool false) ∧ w' = w := by
  go_enter Try.func51, Try.ntmps51
  go_wp2
  go_ret
  exact ⟨by simp, rfl⟩
theorem less_any (x y : Int) {b : Bool} (h : decide (x < y) = b) (w : World) : Calls Try.prog 41 #[.int .i64 x, .int .i64 y] w fun e w' => e = .returned (.bool b) ∧ w' = w := by
  go_enter Try.func41, Try.ntmps41
  go_wp2_with (first | (go_at_call 51; refine (isNaN_any _ _).mono ?_; rintro e w' ⟨rfl, rfl⟩))
  go_ret
  exact ⟨rfl, rfl⟩

theorem below_drewN {B : Nat} {w w' : World} (h : Below B w w') (q : Nat) : Below B w (w'.drewN q) := ⟨h.os, h.tape, h.output, h.size, h.block⟩
/-- All pairs up to k stand in order, but those that end at j. -/
def Ord1 (L : List Int) (k j : Nat) : Prop := ∀ p q, p < q → q ≤ k → q ≠ j → L.getD p 0 ≤ L.getD q 0
def OrdU (L : List Int) (k : Nat) : Prop := ∀ p q, p < q → q < k → L.getD p 0 ≤ L.getD q 0
theorem ord1_start {L : List Int} {k : Nat} (h : OrdU L k) : Ord1 L k k := fun p q hp hq hne => h p q hp (by omega)
theorem ord1_stop {L : List Int} {k j : Nat} (h : Ord1 L k j) (hs : j = 0 ∨ L.getD (j - 1) 0 ≤ L.getD j 0) : OrdU L (k + 1) := fun p q hp hq => by
  by_cases e : q = j
  · subst e
    rcases hs with hs | hs
    · omega
    · by_cases e2 : p = q - 1
      · rw [e2]; exact hs
      · exact Int.le_trans (h p (q - 1) (by omega) (by omega) (by omega)) hs
  · exact h p q hp (by omega) e
theorem getD_swap {L : List Int} {j : Nat} (h : j < L.length) (h0 : 0 < j) (x y : Int) (q : Nat) : ((L.set j x).set (j - 1) y).getD q 0 = if q = j then x else if q = j - 1 then y else L.getD q 0 := by
  simp only [List.getD, List.getElem?_set, List.length_set]
  by_cases e1 : q = j
  · subst e1
    rw [if_neg (by omega : ¬ q - 1 = q), if_pos rfl, if_pos h, if_pos rfl]; rfl
  · by_cases e2 : q = j - 1
    · subst e2
      rw [if_pos rfl, if_pos (by omega), if_neg e1, if_pos rfl]; rfl
    · rw [if_neg (fun e => e2 e.symm), if_neg (fun e => e1 e.symm), if_neg e1, if_neg e2]
theorem ord1_step {L : List Int} {k j : Nat} (h : Ord1 L k j) (hj : 0 < j) (hjk : j ≤ k) (hl : k < L.length) (hs : L.getD j 0 < L.getD (j - 1) 0) : Ord1 ((L.set j (L.getD (j - 1) 0)).set (j - 1) (L.getD j 0)) k (j - 1) := fun p q hp hq hne => by
  rw [getD_swap (by omega) hj, getD_swap (by omega) hj]
  by_cases q1 : q = j
  · subst q1
    rw [if_pos rfl, if_neg (by omega)]
    by_cases p1 : p = q - 1
    · rw [if_pos p1]; omega
    · rw [if_neg p1]; exact h p (q - 1) (by omega) (by omega) (by omega)
  · rw [if_neg q1, if_neg hne]
    by_cases p1 : p = j
    · rw [if_pos p1]; exact h (j - 1) q (by omega) hq q1
    · rw [if_neg p1]
      by_cases p2 : p = j - 1
      · rw [if_pos p2]
        by_cases q2 : q < j
        · omega
        · exact h j q (by omega) hq q1
      · rw [if_neg p2]; exact h p q hp hq q1
theorem perm_swap {L : List Int} {j : Nat} (h : j < L.length) : ((L.set j (L.getD (j - 1) 0)).set (j - 1) (L.getD j 0)).Perm L := by
  have := @List.set_set_perm _ L j (j - 1) h (by omega)
  rw [List.getD, List.getD, List.getElem?_eq_getElem h, List.getElem?_eq_getElem (by omega : j - 1 < L.length)]
  exact this
theorem ordU_sorted {L : List Int} (h : OrdU L L.length) : L.Pairwise (· ≤ ·) := List.pairwise_iff_getElem.2 (fun i j hi hj hij => by
  have := h i j hij hj
  rwa [List.getD, List.getD, List.getElem?_eq_getElem hi, List.getElem?_eq_getElem hj] at this)

set_option maxHeartbeats 1000000 in
set_option maxRecDepth 100000 in
theorem insort_any {B g N cap : Nat} {L : List Int} {w : World} (h : MineI w B g N cap L) (hN : N ≤ 12) :
    Calls Try.prog 35 #[.slice (some ⟨g, 0, none⟩) N cap, .int .i64 0, .int .i64 (N : Int)] w fun e w' => e = .returned (.tuple #[]) ∧ ∃ L', MineI w' B g N cap L' ∧ L'.Perm L ∧ L'.Pairwise (· ≤ ·) ∧ Below B w w' := by
  have HB : Hid (B ≤ g) := h.2.2.2.2
  have HM0 : Hid (MineI w B g N cap L) := h
  clear h
  by_cases h0 : N = 0
  · subst h0
    have hp : L = [] := List.eq_nil_of_length_eq_zero HM0.out.2.1
    go_enter Try.func35, Try.ntmps35
    go_wp2
    go_loopw [6] (fun i wr => i = .int .i64 1 ∧ wr = w) (fun _ _ => 0)
    case atStart => exact ⟨rfl, rfl⟩
    case round =>
      obtain ⟨rfl, rfl⟩ := hrel
      go_wp2
      go_end0
      exact ⟨rfl, L, HM0.out, List.Perm.refl _, by rw [hp]; exact List.Pairwise.nil, Below.refl _ _⟩
  · go_enter Try.func35, Try.ntmps35
    go_wp2
    go_loopw [6] (fun i wr => ∃ (k : Nat) (L' : List Int), i = .int .i64 (k : Int) ∧ 1 ≤ k ∧ k ≤ N ∧ Hid (MineI wr B g N cap L') ∧ Hid (L'.Perm L) ∧ Hid (OrdU L' k) ∧ Hid (Below B w wr)) (fun i _ => N - (intOf i).toNat)
    case atStart => exact ⟨1, L, rfl, Nat.le_refl _, by omega, HM0, List.Perm.refl _, fun p q hp hq => by omega, Below.refl _ _⟩
    case round =>
      obtain ⟨k, L1, rfl, hk1, hkN, HM, HP, HO, HBW⟩ := hrel
      by_cases hlt : k < N
      · go_wp2
        go_loopw [7] (fun i wr => ∃ (j : Nat) (L' : List Int), i = .int .i64 (j : Int) ∧ j ≤ k ∧ Hid (MineI wr B g N cap L') ∧ Hid (L'.Perm L) ∧ Hid (Ord1 L' k j) ∧ Hid (Below B w wr)) (fun i _ => (intOf i).toNat)
        case atStart => exact ⟨k, L1, rfl, Nat.le_refl _, HM, HP, ord1_start HO.out, HBW⟩
        case round =>
          obtain ⟨j, L2, rfl, hjk, HM2, HP2, HO2, HBW2⟩ := hrel
          have HL2 : Hid (L2.length = N) := HM2.out.2.1
          by_cases hj0 : j = 0
          · subst hj0
            have HU : Hid (OrdU L2 (k + 1)) := ord1_stop HO2.out (.inl rfl)
            go_wp2
            go_quiet (fail)
            go_wp2
            go_roundw
            case rel => exact ⟨k + 1, L2, by go_num, by omega, by omega, HM2, HP2, HU, below_drewN HBW2.out _⟩
            case measure => simp [intOf]; omega
          · obtain ⟨t, rfl⟩ : ∃ t, j = t + 1 := ⟨j - 1, by omega⟩
            have cj := HM2.out.cell (j := t + 1) (by omega)
            have ct := HM2.out.cell (j := t) (by omega)
            have fj := HM2.out.frozen (t + 1)
            have ft := HM2.out.frozen t
            by_cases hc : L2.getD (t + 1) 0 < L2.getD t 0
            · have HS : Hid (Ord1 ((L2.set (t + 1) (L2.getD t 0)).set t (L2.getD (t + 1) 0)) k t) := ord1_step HO2.out (Nat.succ_pos t) hjk (by have := HL2.out; omega) hc
              have HP3 : Hid (((L2.set (t + 1) (L2.getD t 0)).set t (L2.getD (t + 1) 0)).Perm L) := (perm_swap (j := t + 1) (by have := HL2.out; omega)).trans HP2.out
              have HM3 : Hid (∀ q : Nat, MineI (((wr.drewN q).setCell ⟨g, t + 1, none⟩ (.int .i64 (L2.getD t 0))).setCell ⟨g, t, none⟩ (.int .i64 (L2.getD (t + 1) 0))) B g N cap ((L2.set (t + 1) (L2.getD t 0)).set t (L2.getD (t + 1) 0))) := fun q => ((HM2.out.drewN q).store _ _).store _ _
              have HB3 : Hid (∀ q : Nat, Below B w (((wr.drewN q).setCell ⟨g, t + 1, none⟩ (.int .i64 (L2.getD t 0))).setCell ⟨g, t, none⟩ (.int .i64 (L2.getD (t + 1) 0)))) := fun q => below_store (below_store (below_drewN HBW2.out q) HB.out _) HB.out _
              have hd : decide (L2.getD (t + 1) 0 < L2.getD t 0) = true := decide_eq_true hc
              clear hc
              generalize (L2.set (t + 1) (L2.getD t 0)).set t (L2.getD (t + 1) 0) = L3 at *
              generalize L2.getD (t + 1) 0 = x at *
              generalize L2.getD t 0 = y at *
              go_wp2
              go_quiet (first | (go_at_call 41; refine Calls.quiet_of_same (less_any x y hd _)))
              go_wp2
              go_region
              go_wp2
              go_roundw
              case rel => exact ⟨t, L3, by go_num, by omega, HM3.out _, HP3, HS, HB3.out _⟩
              case measure => simp [intOf]
            · have HU : Hid (OrdU L2 (k + 1)) := ord1_stop HO2.out (.inr (by show L2.getD t 0 ≤ _; omega))
              have hd : decide (L2.getD (t + 1) 0 < L2.getD t 0) = false := decide_eq_false hc
              clear hc
              generalize L2.getD (t + 1) 0 = x at *
              generalize L2.getD t 0 = y at *
              go_wp2
              go_quiet (first | (go_at_call 41; refine Calls.quiet_of_same (less_any x y hd _)))
              go_wp2
              go_roundw
              case rel => exact ⟨k + 1, L2, by go_num, by omega, by omega, HM2, HP2, HU, below_drewN HBW2.out _⟩
              case measure => simp [intOf]; omega
      · have HU : Hid (OrdU L1 N) := by
          obtain rfl : k = N := by omega
          exact HO
        go_wp2
        go_end0
        exact ⟨rfl, L1, HM.out, HP.out, ordU_sorted (by rw [HM.out.2.1]; exact HU.out), HBW.out⟩

theorem wpList_index_lit {P : Program} {ops : Array Oper} {rest : List Oper} {o : Oper} {a : Act} {w : World} {Q : Exit → Act → World → Prop} (hg : o.guard = none) (x y : Operand) (ty : TypeId) (hop : o.op = Op.index ty x y) (ht : P.underlying ty = some .string)
    (S : ByteArray) (hx : a.eval x = .string S) (k : Int) (hy : a.eval y = .int .u8 k) (h0 : 0 ≤ k) (hk : k ≤ 12) (hS : 13 ≤ S.size) (h : ∀ z : Int, 0 ≤ z → z < 256 → wpList P ops Q rest (a.put o.dst (.int .u8 z)) w) : wpList P ops Q (o :: rest) a w := by
  refine wpList_plain hg fun K' hK' => ?_
  have hb : S[k.toNat]? = some S[k.toNat] := getElem?_pos S k.toNat (by omega)
  unfold Oper.wp execOp
  simp only [hop, hx, hy]
  simp [Instr.index, asIntOf, run_underlying ht, hb, h0, Result.andThen]
  exact hK' _ _ (h _ (by omega) (by have := (S[k.toNat]).toNat_lt; omega))
set_option maxHeartbeats 1000000 in
set_option maxRecDepth 100000 in
theorem len64_any (x : Int) (hx0 : 0 ≤ x) (hx : x ≤ 12) (w : World) : Calls Try.prog 45 #[.int .u64 x] w fun e w' => (∃ z : Int, e = .returned (.int .i64 z)) ∧ w' = w := by
  have e1 : x % 256 = x := by omega
  have d1 : decide (4294967296 ≤ x) = false := decide_eq_false (by omega)
  have d2 : decide (65536 ≤ x) = false := decide_eq_false (by omega)
  have d3 : decide (256 ≤ x) = false := decide_eq_false (by omega)
  go_enter Try.func45, Try.ntmps45
  generalize hS : (List.toArray (List.append (List.append _ _) (List.append _ _)) : Array UInt8) = D
  have h13 : 13 ≤ (ByteArray.mk D).size := by rw [← hS]; decide +kernel
  clear hS
  generalize ByteArray.mk D = S at *
  go_wp2_with (first | (refine wpList_index_lit rfl _ _ 9 rfl Try.underlying9 S rfl x (by first | rfl | simp) hx0 hx h13 ?_; intro z hz0 hz1))
  go_ret
  exact ⟨⟨_, rfl⟩, rfl⟩
set_option maxHeartbeats 1000000 in
set_option maxRecDepth 100000 in
theorem pdq_any {B g N cap : Nat} {L : List Int} {w : World} (h : MineI w B g N cap L) (hN : N ≤ 12) (z : Int) :
    Calls Try.prog 29 #[.slice (some ⟨g, 0, none⟩) N cap, .int .i64 0, .int .i64 (N : Int), .int .i64 z] w fun e w' => e = .returned (.tuple #[]) ∧ ∃ L', MineI w' B g N cap L' ∧ L'.Perm L ∧ L'.Pairwise (· ≤ ·) ∧ Below B w w' := by
  have HM0 : Hid (MineI w B g N cap L) := h
  clear h
  go_enter Try.func29, Try.ntmps29
  go_wp2
  go_loopw [1, 2, 3] (fun x y u wr => x = .int .i64 0 ∧ y = .int .i64 (N : Int) ∧ u = .int .i64 z ∧ wr = w) (fun _ _ _ _ => 0)
  case atStart => exact ⟨rfl, rfl, rfl, rfl⟩
  case round =>
    obtain ⟨rfl, rfl, rfl, rfl⟩ := hrel
    have hd : decide ((N : Int) ≤ 12) = true := decide_eq_true (by omega)
    go_wp2_with fail
    refine (insort_any HM0.out hN).mono ?_
    rintro e w' ⟨rfl, hL⟩
    have HL := hide hL
    clear hL
    go_wp2
    (try simp only [Exit.inBlock, Exit.then]); refine bodyPost_ret (results_none rfl _ _ _) rfl ?_
    exact ⟨rfl, HL.out⟩
theorem bitsLen_any (x : Int) (hx0 : 0 ≤ x) (hx : x ≤ 12) (w : World) : Calls Try.prog 30 #[.int .u64 x] w fun e w' => (∃ z : Int, e = .returned (.int .i64 z)) ∧ w' = w := by
  go_enter Try.func30, Try.ntmps30
  go_wp2_with (first | (go_at_call 45; refine (len64_any x hx0 hx _).mono ?_; rintro e w' ⟨⟨z, rfl⟩, rfl⟩))
  go_ret
  exact ⟨⟨_, rfl⟩, rfl⟩
theorem sort_any {B g N cap : Nat} {L : List Int} {w : World} (h : MineI w B g N cap L) (hN : N ≤ 12) :
    Calls Try.prog 16 #[.slice (some ⟨g, 0, none⟩) N cap] w fun e w' => e = .returned (.tuple #[]) ∧ ∃ L', MineI w' B g N cap L' ∧ L'.Perm L ∧ L'.Pairwise (· ≤ ·) ∧ Below B w w' := by
  have HM0 : Hid (MineI w B g N cap L) := h
  clear h
  go_enter Try.func16, Try.ntmps16
  go_wp2_with fail
  refine (bitsLen_any (N : Int) (by omega) (by omega) _).mono ?_
  rintro e w' ⟨⟨z, rfl⟩, rfl⟩
  go_wp2_with fail
  refine (pdq_any HM0.out hN z).mono ?_
  rintro e w' ⟨rfl, hL⟩
  have HL := hide hL
  clear hL
  go_wp2
  go_end0
  exact ⟨rfl, HL.out⟩
end Go.Proofs.Ytdpphagogjdjjaa
