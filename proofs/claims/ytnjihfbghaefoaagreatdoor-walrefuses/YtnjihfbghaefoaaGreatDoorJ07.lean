/- Texts of the proof, joined. -/
import Derived.Test.YtnjihfbghaefoaaGreatDoorRows
import Derived.Test.YtnjihfbghaefoaaGreatDoorJ05
import Derived.WalkKit
import Derived.Deep.QuietTactic
import Derived.BigQuiet
import Derived.Test.YtnjihfbghaefoaaGreatDoorJ02
import Derived.Laws.CopyOwn
import Derived.Deep.RegionHeld3
/- The contracts of what only reads a list of ints: isWidth, faultOf. -/
namespace Go.Proofs.YtnjihfbghaefoaaGreatDoor
open Go.RowKit Go.Wire1

def okI (n : Int) : Bool := decide (1 ≤ n ∧ n ≤ 7)
theorem okI_yes {n : Int} (h : 1 ≤ n ∧ n ≤ 7) : okI n = true := decide_eq_true h
theorem okI_no {n : Int} (h : ¬ (1 ≤ n ∧ n ≤ 7)) : okI n = false := decide_eq_false h
theorem okI_nat (n : Nat) : okI (n : Int) = okW n := by unfold okI okW; congr 1; apply propext; omega

set_option maxRecDepth 100000 in
theorem isWidth_any (n : Int) (w : World) :
    Calls Tryz.prog 164 #[.int .i64 n] w fun e w' => e = .returned (.bool (okI n)) ∧ w = w' := by
  by_cases h1 : 1 ≤ n
  · by_cases h2 : n ≤ 7
    · have HQ : Hid (okI n = true) := okI_yes (by omega)
      go_enter Tryz.func164, Tryz.ntmps164
      go_wp2
      go_ret
      exact ⟨by rw [HQ.out]; rfl, rfl⟩
    · have HQ : Hid (okI n = false) := okI_no (by omega)
      go_enter Tryz.func164, Tryz.ntmps164
      go_wp2
      go_ret
      exact ⟨by rw [HQ.out]; rfl, rfl⟩
  · have HQ : Hid (okI n = false) := okI_no (by omega)
    go_enter Tryz.func164, Tryz.ntmps164
    go_wp2
    go_ret
    exact ⟨by rw [HQ.out]; rfl, rfl⟩

set_option maxHeartbeats 400000 in
set_option maxRecDepth 100000 in
theorem vfaultOf_any (a : Option Addr) (n cap : Nat) (l : List Int) (w : World) (h : SegI w a n l) :
    Calls Tryz.prog 149 #[.slice a n cap] w fun e w' => e = .returned (.int .i64 (fault l : Int)) ∧ w = w' := by
  obtain ⟨hn, hn', ha, -⟩ := h
  have HN : Hid (l.length = n) := hn
  unfold maxLen at hn'
  have HF : Hid (fault l = if okW n = true then (if okL l = true then 0 else 32) else 31) := by show _ = _; rw [← hn]; rfl
  clear hn
  go_enter Tryz.func149, Tryz.ntmps149
  go_wp2_with fail
  refine (isWidth_any (n : Int) _).mono ?_
  rintro e w' ⟨rfl, rfl⟩
  rw [okI_nat]
  cases hw : okW n with
  | false =>
    have HQ : Hid (fault l = 31) := by show _ = _; rw [HF.out, hw]; rfl
    clear HF hw
    go_wp2
    go_ret
    exact ⟨by rw [HQ.out]; rfl, rfl⟩
  | true =>
    have HQ : Hid (fault l = if okL l = true then 0 else 32) := by show _ = _; rw [HF.out, hw]; rfl
    clear HF hw
    go_wp2
    go_loop [11] (fun i => ∃ k : Nat, i = .int .i64 (k : Int) ∧ k ≤ n ∧ Hid (okL (l.take k) = true)) (fun i => n - (intOf i).toNat)
    case atStart => exact ⟨0, rfl, Nat.zero_le _, rfl⟩
    case round =>
      obtain ⟨k, rfl, hk, HT⟩ := hrel
      by_cases hlt : k < n
      · obtain ⟨ba, oa, rfl, hca⟩ := ha (by omega)
        have ca := hca k hlt
        clear ha hca
        by_cases h0 : l.getD k 0 < 0
        · have HS : Hid (fault l = 32) := by show _ = _; rw [HQ.out, okL_no (k := k) (by have := HN.out; omega) (by omega)]; rfl
          clear HQ
          generalize l.getD k 0 = c at *
          go_wp2
          go_ret
          exact ⟨by rw [HS.out]; rfl, rfl⟩
        · by_cases h1 : 1048576 < l.getD k 0
          · have HS : Hid (fault l = 32) := by show _ = _; rw [HQ.out, okL_no (k := k) (by have := HN.out; omega) (by omega)]; rfl
            clear HQ
            generalize l.getD k 0 = c at *
            go_wp2
            go_ret
            exact ⟨by rw [HS.out]; rfl, rfl⟩
          · have HT' : Hid (okL (l.take (k + 1)) = true) := okL_step (by have := HN.out; omega) HT.out (by omega)
            generalize l.getD k 0 = c at *
            go_wp2
            go_round
            case rel => exact ⟨k + 1, by go_num, by omega, HT'⟩
            case measure => simp [intOf]; omega
      · have HS : Hid (fault l = 0) := by show _ = _; have := HT.out; rw [List.take_of_length_le (by have := HN.out; omega)] at this; rw [HQ.out, this]; rfl
        go_wp2
        go_ret
        exact ⟨by rw [HS.out]; rfl, rfl⟩

end Go.Proofs.YtnjihfbghaefoaaGreatDoor
/- A row of ints of our own, at its block; the contract of copyOf. -/
namespace Go.Proofs.YtnjihfbghaefoaaGreatDoor
open Go.RowKit Go.Wire1

/-- A row of ints of our own, at its block. -/
def MineI (w : World) (B g N cap : Nat) (L : List Int) : Prop := w.ownsRow B 3 1 (.slice (some ⟨g, 0, none⟩) N cap) N (L.map (Value.int .i64)) ∧ L.length = N ∧ N ≤ cap ∧ cap ≤ maxLen ∧ B ≤ g

theorem MineI.below {w w' : World} {B g N cap C : Nat} {L : List Int} (h : MineI w B g N cap L) (hb : Below C w w') (hC : w.heap.size ≤ C) : MineI w' B g N cap L := ⟨own_below h.1 hb hC, h.2⟩
theorem MineI.drewN {w : World} {B g N cap : Nat} {L : List Int} (h : MineI w B g N cap L) (q : Nat) : MineI (w.drewN q) B g N cap L := h
theorem MineI.lt {w : World} {B g N cap : Nat} {L : List Int} (h : MineI w B g N cap L) : g < w.heap.size := (h.1.lt g rfl).2
theorem MineI.cell {w : World} {B g N cap : Nat} {L : List Int} (h : MineI w B g N cap L) {j : Nat} (hj : j < N) : w.cell? ⟨g, j, none⟩ = some (.int .i64 (L.getD j 0)) := by
  obtain ⟨h1, rfl, h3, h4, _⟩ := h
  rw [h1.cellAt j (by omega)]
  simp [List.getElem?_eq_getElem hj]
theorem MineI.frozen {w : World} {B g N cap : Nat} {L : List Int} (h : MineI w B g N cap L) (j : Nat) : w.frozen? ⟨g, j, none⟩ = false := h.1.frozenAt j
theorem MineI.seg {w : World} {B g N cap : Nat} {L : List Int} (h : MineI w B g N cap L) (hf : ∀ j, -9223372036854775808 ≤ L.getD j 0 ∧ L.getD j 0 ≤ 9223372036854775807) : SegI w (some ⟨g, 0, none⟩) N L :=
  ⟨h.2.1, by have := h.2.2; omega, fun _ => ⟨g, 0, rfl, fun j hj => by rw [Nat.zero_add]; exact h.cell hj⟩, hf⟩
theorem below_store {B g k : Nat} {w w' : World} (hb : Below B w w') (hg : B ≤ g) (v : Value) : Below B w (w'.setCell ⟨g, k, none⟩ v) := hb.setCell (p := ⟨g, k, none⟩) hg v

theorem Tryz.info3 : (Tryz.prog.info? 3).map (fun i => (i.zero, i.size, i.bytes)) = some (some (.int .i64 0), 1, 8) := by kernel_rfl
theorem Tryz.size3 : (Tryz.prog.info? 3).map (·.size) = some 1 := by kernel_rfl

theorem made_row {w : World} {B g n : Nat} {xs : List Value} (h : w.ownsRow B 3 1 (.slice (some ⟨g, 0, none⟩) n n) n xs) : ∃ cur : List Value, cur.length = n ∧ w.heap[g]? = some (.cells cur.toArray 3 (0, 0)) := by
  rcases h.2 with ⟨h1, _⟩ | ⟨g', cap, cur, h1, hB, hh, h3, h4, h5, h6⟩
  · cases h1
  · injection h1 with h7 h8 h9
    injection h7 with h7
    injection h7 with h7
    subst h7 h9
    exact ⟨cur.toList, by rw [Array.length_toList, h5, Nat.mul_one], by rw [Array.toArray_toList]; exact hh⟩
end Go.Proofs.YtnjihfbghaefoaaGreatDoor
/- Lists that are laid anew, and rows of our own, as lists in memory. -/
namespace Go.Proofs.YtnjihfbghaefoaaGreatDoor
open Go.RowKit Go.Wire1

/-- Every number of a list is one of 64 bits. -/
def Fit (l : List Int) : Prop := ∀ j, -9223372036854775808 ≤ l.getD j 0 ∧ l.getD j 0 ≤ 9223372036854775807
theorem cell_new (w : World) (cs : List Value) (t : TypeId) (j : Nat) : (w.alloc (.cells cs.toArray t)).cell? ⟨w.heap.size, j, none⟩ = cs[j]? := by
  have h : (w.alloc (.cells cs.toArray t)).heap[w.heap.size]? = some (.cells cs.toArray t (0, 0)) := heap_alloc_new w _
  rw [cell_of_row _ _ _ _ _ _ h]
  simp
theorem _root_.Go.RowKit.Below.drewN' {B : Nat} {w w' : World} (h : Below B w w') (q : Nat) : Below B w (w'.drewN q) := ⟨h.os, h.tape, h.output, h.size, h.block⟩
theorem _root_.Go.RowKit.Below.more {B : Nat} {x w : World} (h : Below B x w) (hB : B ≤ x.heap.size) (o : Obj) : Below B x (w.alloc o) := h.alloc (Nat.le_trans hB h.size) o
theorem _root_.Go.RowKit.Below.on {B : Nat} {x y z : World} (h : Below B x y) (k : Below y.heap.size y z) (hB : B ≤ x.heap.size) : Below B x z := h.trans (k.mono (Nat.le_trans hB h.size))
theorem _root_.Go.Wire1.SegI.on {w : World} {a : Option Addr} {n : Nat} {l : List Int} (h : SegI w a n l) (o : Obj) : SegI (w.alloc o) a n l := h.below ((Below.refl w.heap.size w).alloc (Nat.le_refl _) o) (Nat.le_refl _)
theorem own_base {w : World} {B B' : Nat} {e : TypeId} {s : Nat} {v : Value} {n : Nat} {xs : List Value} (h : w.ownsRow B e s v n xs) (hB : B' ≤ B) : w.ownsRow B' e s v n xs :=
  ⟨h.1, h.2.imp id fun ⟨g, cap, cur, h1, h2, h3⟩ => ⟨g, cap, cur, h1, Nat.le_trans hB h2, h3⟩⟩
end Go.Proofs.YtnjihfbghaefoaaGreatDoor
/- The contract of slices.Repeat at a list of one number, one to seven times. -/
namespace Go.Proofs.YtnjihfbghaefoaaGreatDoor
open Go.RowKit Go.Wire1

set_option maxHeartbeats 2000000 in
set_option maxRecDepth 100000 in
theorem mul64_one (k : Nat) (w : World) (hk : k ≤ 7) :
    Calls Tryz.prog 151 #[.int .u64 1, .int .u64 (k : Int)] w fun e w' => e = .returned (.tuple #[.int .u64 0, .int .u64 (k : Int)]) ∧ w = w' := by
  rcases (by omega : k = 0 ∨ k = 1 ∨ k = 2 ∨ k = 3 ∨ k = 4 ∨ k = 5 ∨ k = 6 ∨ k = 7) with rfl | rfl | rfl | rfl | rfl | rfl | rfl | rfl <;>
  · go_enter Tryz.func151, Tryz.ntmps151
    go_wp2
    go_ret2
    exact ⟨rfl, rfl⟩
set_option maxHeartbeats 2000000 in
set_option maxRecDepth 100000 in
theorem mul_one_any (k : Nat) (w : World) (hk : k ≤ 7) :
    Calls Tryz.prog 126 #[.int .u64 1, .int .u64 (k : Int)] w fun e w' => e = .returned (.tuple #[.int .u64 0, .int .u64 (k : Int)]) ∧ w = w' := by
  go_enter Tryz.func126, Tryz.ntmps126
  go_wp2_with (go_at_call 151; refine (mul64_one k _ hk).mono ?_; rintro e w' ⟨rfl, rfl⟩)
  go_ret2
  exact ⟨rfl, rfl⟩

/-- A row of k numbers in the making: the first j are m. -/
structure Rep (w w' : World) (g k j : Nat) (m : Int) : Prop where
  row : ∃ cur : List Value, cur.length = k ∧ w'.heap[g]? = some (.cells cur.toArray 3 (0, 0)) ∧ ∀ q, q < j → cur[q]? = some (.int .i64 m)
  low : Below w.heap.size w w'
theorem rep_copy {w w' : World} {g k j a n cap : Nat} {m : Int} (h : Rep w w' g k j m) (hg : w.heap.size ≤ g) (hj : j < k) (hs : ∀ q, q < n → w'.cell? ⟨a, q, none⟩ = some (.int .i64 m)) (t : Nat) (ht : t = Nat.min n (k - j)) :
    ∃ w2, (Builtin.copy_ #[28, 28] 3 #[.slice (some ⟨g, j, none⟩) (k - j) (k - j), .slice (some ⟨a, 0, none⟩) n cap]).run Tryz.prog w' = .ok (.int .i64 (t : Int)) w2 ∧ Rep w w2 g k (j + t) m := by
  obtain ⟨⟨cur, hl, hrow, hc⟩, hb⟩ := h
  have t1 : t ≤ n := by rw [ht]; exact Nat.min_le_left _ _
  have t2 : t ≤ k - j := by rw [ht]; exact Nat.min_le_right _ _
  have hrun := run_copy_row (P := Tryz.prog) w' 28 28 3 3 g j (k - j) (k - j) ⟨a, 0, none⟩ n cap cur.toArray 3 (List.replicate t (.int .i64 m)) Tryz.underlying28 Tryz.size3 hrow
    (by rw [List.length_replicate]; exact ht)
    (fun q v hv => by
      rw [List.getElem?_replicate] at hv
      split at hv
      · rename_i hq
        cases hv
        rw [add_at, Nat.zero_add]
        exact hs q (by omega)
      · cases hv)
    (by simp only [List.length_replicate, List.size_toArray]; omega)
    (fun v hv => by rw [List.eq_of_mem_replicate hv]; rfl)
  rw [List.length_replicate] at hrun
  refine ⟨_, hrun, ⟨⟨_, ?_, setRow_heap w' g cur.toArray _ 3 (0, 0) hrow, ?_⟩, below_setRow hb hg _⟩⟩
  · simp only [List.length_append, List.length_take, List.length_drop, List.length_replicate]
    omega
  · intro q hq
    by_cases h1 : q < j
    · rw [List.append_assoc, List.getElem?_append_left (by simp; omega), List.getElem?_take_of_lt h1]
      exact hc q h1
    · rw [List.append_assoc, List.getElem?_append_right (by simp; omega), List.getElem?_append_left (by simp; omega), List.getElem?_replicate, if_pos (by simp; omega)]
theorem Rep.cell {w w' : World} {g k j : Nat} {m : Int} (h : Rep w w' g k j m) {q : Nat} (hq : q < j) : w'.cell? ⟨g, q, none⟩ = some (.int .i64 m) := by
  obtain ⟨⟨cur, hl, hrow, hc⟩, hb⟩ := h
  rw [cell_of_row _ _ _ _ _ _ hrow]
  simpa using hc q hq
theorem Rep.drewN {w w' : World} {g k j : Nat} {m : Int} (h : Rep w w' g k j m) (q : Nat) : Rep w (w'.drewN q) g k j m := ⟨h.row, h.low.drewN' q⟩
theorem Rep.seg {w w' : World} {g k : Nat} {m : Int} (h : Rep w w' g k k m) (hk : k ≤ 7) (hm : 0 ≤ m ∧ m ≤ 1048576) : SegI w' (some ⟨g, 0, none⟩) k (List.replicate k m) := by
  refine ⟨List.length_replicate, by unfold maxLen; omega, fun _ => ⟨g, 0, rfl, fun q hq => ?_⟩, fun q => ?_⟩
  · rw [Nat.zero_add, h.cell hq, List.getD, List.getElem?_replicate, if_pos hq]; rfl
  · rw [List.getD, List.getElem?_replicate]
    split
    · show _ ≤ m ∧ m ≤ _; omega
    · show _ ≤ (0 : Int) ∧ (0 : Int) ≤ _; omega

set_option maxHeartbeats 2000000 in
set_option maxRecDepth 100000 in
theorem repeat_any (m : Int) (q k : Nat) (w : World) (h : Blk w q [.int .i64 m]) (h1 : 1 ≤ k) (hk : k ≤ 7) (hm : 0 ≤ m ∧ m ≤ 1048576) :
    Calls Tryz.prog 87 #[.slice (some ⟨q, 0, none⟩) 1 1, .int .i64 (k : Int)] w fun e w' => e = .returned (.slice (some ⟨w.heap.size, 0, none⟩) k k) ∧ SegI w' (some ⟨w.heap.size, 0, none⟩) k (List.replicate k m) ∧ Below w.heap.size w w' := by
  obtain ⟨i0, hi, hz0, hz1, hz2⟩ := info_parts Tryz.info3
  have H : Hid (Blk w q [.int .i64 m]) := h
  have HM := hide hm
  have hmx : k ≤ maxLen := by unfold maxLen; omega
  clear h hm
  go_enter Tryz.func87, Tryz.ntmps87
  go_wp2_with (first
    | (go_at_call 126; refine (mul_one_any k _ hk).mono ?_; rintro e w' ⟨rfl, rfl⟩)
    | (at_make; refine wpList_make_full _ rfl _ _ 28 rfl w.heap.size 3 i0 (.int .i64 0) 1 Tryz.underlying28 hi hz0 hz1 .i64 .i64 _ _ k rfl rfl (by omega) (by omega) (by rw [hz2]; omega) hmx (Nat.le_refl _) ?_))
  intro w1 hown hgrow
  have hb : Below w.heap.size w w1 := (Below.refl w.heap.size w).grown hgrow (Nat.le_refl _) (fun j hj => by cases hj)
  obtain ⟨cur, hcl, hrow⟩ := made_row hown
  have R0 : Rep w w1 w.heap.size k 0 m := ⟨⟨cur, hcl, hrow, fun _ h => absurd h (Nat.not_lt_zero _)⟩, hb⟩
  obtain ⟨w2, hrun, R1⟩ := rep_copy (n := 1) (cap := 1) (a := q) R0 (Nat.le_refl _) (by omega) (fun j hj => by
    obtain rfl : j = 0 := by omega
    exact (H.out.on hb).cell 0 _ rfl) 1 (by show 1 = min 1 (k - 0); omega)
  rw [Nat.sub_zero] at hrun
  have HR : Hid (Rep w w2 w.heap.size k 1 m) := R1
  clear hown hgrow hrow hcl R0 R1 hb H
  go_wp2
  clear hrun
  go_loopw [8] (fun i wr => ∃ j : Nat, i = .int .i64 (j : Int) ∧ 1 ≤ j ∧ j ≤ k ∧ Hid (Rep w wr w.heap.size k j m)) (fun i _ => k - (intOf i).toNat)
  case atStart => exact ⟨1, rfl, Nat.le_refl _, h1, HR⟩
  case round =>
    obtain ⟨j, rfl, hj1, hjk, HJ⟩ := hrel
    by_cases hlt : j < k
    · obtain ⟨t, ht⟩ : ∃ t, t = Nat.min j (k - j) := ⟨_, rfl⟩
      obtain ⟨w3, hrun3, R3⟩ := rep_copy (n := j) (cap := k) (a := w.heap.size) (HJ.out.drewN 1) (Nat.le_refl _) hlt (fun q hq => (HJ.out.drewN 1).cell hq) t ht
      have h3 : Hid (Rep w w3 w.heap.size k (j + t) m) := R3
      have t1 : 1 ≤ t ∧ t ≤ k - j := by subst ht; show 1 ≤ min j (k - j) ∧ min j (k - j) ≤ k - j; omega
      clear R3 ht HJ HR
      --@region
      replace hrun3 : (Builtin.copy_ #[28, 28] 3 #[.slice (some ⟨w.heap.size, j, none⟩) (k - j) (k - j), .slice (some ⟨w.heap.size, 0, none⟩) j k]).run Tryz.prog wr.drew = .ok (.int .i64 (t : Int)) w3 := hrun3
      go_wp2
      refine wp_region_noPanic ?_
      refine wp_region_held_drew (S := (fun _ => True)) (by kernel_rfl) trivial (fun hHeld => ?_)
      refine tk 0 ?_
      refine tk 1 ?_
      refine tk 2 ?_
      refine tk 3 ?_
      refine tk 4 ?_
      refine tk 5 ?_
      refine tk 6 ?_
      refine wpAnyH_ready (rs := [7]) (by kernel_rfl) (by simp) ?_
      refine AllReadyH.cons rfl (fun K hK => ?_) AllReadyH.nil
      rw [if_pos (by rfl)]
      go_wp2_with fail
      refine hK.out _ _ trivial (fun hHeld => ?_)
      clear hK K
      try simp only [Act.put, List.getElem_toArray, List.getElem_cons_succ, List.getElem_cons_zero, List.setIfInBounds_toArray, List.set_cons_zero, List.set_cons_succ]
      refine tk 8 ?_
      refine tk 9 ?_
      refine wpAnyH_done (by kernel_rfl) ?_ _
      refine NoPanic.normal ?_
      rw [show IntKind.i64.wrap ((j : Int) + (t : Int)) = (j : Int) + (t : Int) by rw [IntKind.wrap_i64]; omega]
      go_wp2
      go_roundw
      case rel => exact ⟨j + t, by go_num, by omega, by omega, h3⟩
      case measure => simp [intOf]; omega
    · obtain rfl : j = k := by omega
      go_wp2
      go_ret
      exact ⟨rfl, HJ.out.seg hk HM.out, HJ.out.low⟩
end Go.Proofs.YtnjihfbghaefoaaGreatDoor
