/- Texts of the proof, joined. -/
import Derived.Test.YtnogdjpbnhnmaaaGreatDoorJ02
import Derived.Test.YtnogdjpbnhnmaaaGreatDoorJ05
/- The plain mathematics of a vector's two layouts; nothing of the program is named here. -/
namespace Go.Wire1
open Go.RowKit

/-- The entry ahead of a place, 0 at the first. -/
def prev (l : List Int) (i : Nat) : Int := if i = 0 then 0 else l.getD (i - 1) 0
/-- Version 1, as far as k entries. -/
def plainK (l : List Int) : Nat → List Int
  | 0 => []
  | k + 1 => plainK l k ++ enc (l.getD k 0).toNat
/-- Version 2: the mask's first k bits, and their differences. -/
def maskK (l : List Int) : Nat → Nat
  | 0 => 0
  | k + 1 => maskK l k + if l.getD k 0 = prev l k then 0 else 2 ^ k
def diffK (l : List Int) : Nat → List Int
  | 0 => []
  | k + 1 => diffK l k ++ if l.getD k 0 = prev l k then [] else enc (zig (l.getD k 0 - prev l k))
def tight (l : List Int) : List Int := enc (maskK l l.length) ++ diffK l l.length
def packL (v : Int) (l : List Int) : List Int := if v = 1 then plainK l l.length else tight l
def packE (v : Int) (l : List Int) : Nat := if v = 1 ∨ v = 2 then fault l else 2
def packR (v : Int) (l : List Int) : List Int := if packE v l = 0 then packL v l else []

theorem prev_succ (l : List Int) (k : Nat) : prev l (k + 1) = l.getD k 0 := by simp [prev]
theorem prev_ok {l : List Int} (h : okL l = true) (k : Nat) : 0 ≤ prev l k ∧ prev l k ≤ 1048576 := by
  unfold prev; split
  · omega
  · exact okL_at h _
theorem maskK_lt (l : List Int) (k : Nat) : maskK l k < 2 ^ k := by
  induction k with
  | zero => simp [maskK]
  | succ k ih => simp only [maskK, Nat.pow_succ]; split <;> omega
theorem maskK_same {l : List Int} {k : Nat} (h : l.getD k 0 = prev l k) : maskK l (k + 1) = maskK l k ∧ diffK l (k + 1) = diffK l k := by
  simp only [maskK, diffK, if_pos h, Nat.add_zero, List.append_nil, and_self]
theorem maskK_diff {l : List Int} {k : Nat} (h : ¬ l.getD k 0 = prev l k) : maskK l (k + 1) = maskK l k + 2 ^ k ∧ diffK l (k + 1) = diffK l k ++ enc (zig (l.getD k 0 - prev l k)) := by
  simp only [maskK, diffK, if_neg h, and_self]
theorem or_pow {m k : Nat} (h : m < 2 ^ k) : m ||| 2 ^ k = m + 2 ^ k := by
  rw [Nat.or_comm, ← Nat.mul_one (2 ^ k), ← Nat.two_pow_add_eq_or_of_lt h]; omega
theorem pow7 {k : Nat} (h : k ≤ 7) : 2 ^ k ≤ 128 := by
  have : (2 : Nat) ^ 7 = 128 := rfl
  rw [← this]; exact Nat.pow_le_pow_right (by decide) h
theorem plainK_len {l : List Int} (h : okL l = true) (k : Nat) : k ≤ (plainK l k).length ∧ (plainK l k).length ≤ 10 * k := by
  induction k with
  | zero => simp [plainK]
  | succ k ih =>
    have h1 := okL_at h k
    have := enc_le (l.getD k 0).toNat (by omega)
    simp only [plainK, List.length_append]; omega
theorem zig_of {x : Int} (h : -1048576 ≤ x ∧ x ≤ 1048576) : zig x ≤ 2097152 := by unfold zig; split <;> omega
/-- How many places differ from the one before, of the first k. -/
def turnsK (l : List Int) : Nat → Nat
  | 0 => 0
  | k + 1 => turnsK l k + if l.getD k 0 = prev l k then 0 else 1
theorem turnsK_le (l : List Int) (k : Nat) : turnsK l k ≤ k := by
  induction k with
  | zero => simp [turnsK]
  | succ k ih => simp only [turnsK]; split <;> omega
theorem enc4 {x : Nat} (h : x ≤ 2097152) : 1 ≤ (enc x).length ∧ (enc x).length ≤ 4 := by
  rw [enc_len x (by omega)]
  have e : x / 128 / 128 / 128 / 128 = 0 := by omega
  have c : ∀ f z, cnt (f + 1) z ≤ 1 + cnt f (z / 128) := fun f z => by simp only [cnt]; split <;> omega
  have h1 : cnt 9 (x / 128) ≤ _ := c 8 (x / 128)
  have h2 : cnt 8 (x / 128 / 128) ≤ _ := c 7 (x / 128 / 128)
  have h3 : cnt 7 (x / 128 / 128 / 128) ≤ _ := c 6 (x / 128 / 128 / 128)
  rw [e, cnt_zero] at h3
  omega
theorem enc1 {x : Nat} (h : x < 128) : enc x = [(x : Int)] := encF_small 9 x h
theorem diffK_len {l : List Int} (h : okL l = true) (k : Nat) : turnsK l k ≤ (diffK l k).length ∧ (diffK l k).length ≤ 4 * turnsK l k := by
  induction k with
  | zero => simp [turnsK, diffK]
  | succ k ih =>
    have h1 := okL_at h k
    have h2 := prev_ok h k
    have h3 := enc4 (zig_of (x := l.getD k 0 - prev l k) (by omega))
    simp only [turnsK, diffK]
    split
    · simpa using ih
    · rw [List.length_append]; omega
theorem diffK_le {l : List Int} (h : okL l = true) (k : Nat) : (diffK l k).length ≤ 4 * k := by
  have := diffK_len h k
  have := turnsK_le l k
  omega
theorem tight_len {l : List Int} (h : isVec l = true) : (tight l).length = 1 + (diffK l l.length).length := by
  have h7 : l.length ≤ 7 := by unfold isVec at h; simp only [Bool.and_eq_true] at h; exact (of_decide_eq_true h.1).2
  have := maskK_lt l l.length
  have := pow7 h7
  unfold tight
  rw [List.length_append, enc1 (by omega)]
  rfl
end Go.Wire1
/- The contract of entriesOf: an array of seven entries as a value. -/
namespace Go.Proofs.YtnogdjpbnhnmaaaGreatDoor
open Go.RowKit Go.Wire1

/-- The seven entries, 0 where the list has none. -/
def arrL (l : List Int) : List Value := [.int .i64 (l.getD 0 0), .int .i64 (l.getD 1 0), .int .i64 (l.getD 2 0), .int .i64 (l.getD 3 0), .int .i64 (l.getD 4 0), .int .i64 (l.getD 5 0), .int .i64 (l.getD 6 0)]
def zer7 : List Value := [.int .i64 0, .int .i64 0, .int .i64 0, .int .i64 0, .int .i64 0, .int .i64 0, .int .i64 0]
theorem arr_eq {l : List Int} {n : Nat} (hl : l.length = n) (hn : n ≤ 7) : l.map (Value.int .i64) ++ zer7.drop n = arrL l := by
  subst hl
  match l, hn with
  | [], _ => rfl
  | [_], _ => rfl
  | [_, _], _ => rfl
  | [_, _, _], _ => rfl
  | [_, _, _, _], _ => rfl
  | [_, _, _, _, _], _ => rfl
  | [_, _, _, _, _, _], _ => rfl
  | [_, _, _, _, _, _, _], _ => rfl
  | _ :: _ :: _ :: _ :: _ :: _ :: _ :: _ :: r, h => simp at h

theorem copied7 {w1 : World} {g n cap : Nat} {a : Option Addr} {l : List Int} {t : TypeId} (h : SegI w1 a n l) (hn : 0 < n) (hs : n ≤ 7) (hrow : w1.heap[g]? = some (.cells zer7.toArray t (0, 0))) :
    ∃ w2, (Builtin.copy_ #[29, 29] 3 #[.slice (some ⟨g, 0, none⟩) 7 7, .slice a n cap]).run Tryz.prog w1 = .ok (.int .i64 (n : Int)) w2 ∧ w2.heap[g]? = some (.cells (arrL l).toArray t (0, 0)) ∧ w1.grownBy w2 (some g) ∧ w2.heap.size = w1.heap.size := by
  obtain ⟨b, off, rfl, hc⟩ := h.2.2.1 hn
  have hl := h.1
  have hrun := run_copy_row (P := Tryz.prog) w1 29 29 3 3 g 0 7 7 ⟨b, off, none⟩ n cap zer7.toArray t (l.map (Value.int .i64)) Tryz.underlying29 Tryz.size3 hrow
    (by rw [List.length_map, hl]; exact (Nat.min_eq_left hs).symm)
    (fun j v hv => by
      rw [List.getElem?_map] at hv
      have hj : j < l.length := by
        rcases Nat.lt_or_ge j l.length with h | h
        · exact h
        · rw [List.getElem?_eq_none h] at hv; cases hv
      rw [List.getElem?_eq_getElem hj] at hv
      simp only [Option.map_some, Option.some.injEq] at hv
      subst hv
      rw [add_at, hc j (by omega), List.getD, List.getElem?_eq_getElem hj]
      rfl)
    (by rw [List.length_map, List.size_toArray]; show 0 + l.length ≤ 7; omega)
    (fun v hv => by obtain ⟨x, _, rfl⟩ := List.mem_map.1 hv; rfl)
  have e : (zer7.toArray.toList.take 0 ++ l.map (Value.int .i64) ++ zer7.toArray.toList.drop (0 + (l.map (Value.int .i64)).length)) = arrL l := by
    rw [List.length_map, hl, Nat.zero_add, List.take_zero, List.nil_append]
    exact arr_eq hl hs
  rw [e, List.length_map, hl] at hrun
  exact ⟨_, hrun, setRow_heap w1 g _ _ t (0, 0) hrow, ⟨rfl, rfl, rfl, by simp [World.setRow], fun k _ hne => setRow_other w1 g k _ (fun e => hne (by rw [e]))⟩, by simp [World.setRow]⟩

theorem cell_arr {w : World} {g : Nat} {cs : List Value} {t : TypeId} (h : w.heap[g]? = some (.cells cs.toArray t (0, 0))) (j : Nat) : w.cell? ⟨g, j, none⟩ = cs[j]? := by
  rw [cell_of_row _ _ _ _ _ _ h]; simp
theorem frz_arr {w : World} {g : Nat} {cs : Array Value} {t : TypeId} (h : w.heap[g]? = some (.cells cs t (0, 0))) (j : Nat) : w.frozen? ⟨g, j, none⟩ = false := by
  simp [World.frozen?, h]

set_option maxHeartbeats 400000 in
set_option maxRecDepth 100000 in
theorem entriesOf_any (a : Option Addr) (n cap : Nat) (l : List Int) (w : World) (h : SegI w a n l) (hn : 0 < n) (hs : n ≤ 7) :
    Calls Tryz.prog 131 #[.slice a n cap] w fun e w' => e = .returned (.agg (arrL l).toArray) ∧ Below w.heap.size w w' := by
  have h2 : SegI ((w.alloc (.cells zer7.toArray 156)).alloc (.cells zer7.toArray 156)) a n l := (h.on _).on _
  have hr0 : ((w.alloc (.cells zer7.toArray 156)).alloc (.cells zer7.toArray 156)).heap[w.heap.size + 1]? = some (.cells zer7.toArray 156 (0, 0)) := by
    have := heap_alloc_new (w.alloc (.cells zer7.toArray 156)) (.cells zer7.toArray 156)
    rwa [World.size_alloc] at this
  have hr1 : ((w.alloc (.cells zer7.toArray 156)).alloc (.cells zer7.toArray 156)).heap[w.heap.size]? = some (.cells zer7.toArray 156 (0, 0)) := by
    rw [Below.heap_alloc _ _ _ (by rw [World.size_alloc]; omega)]
    exact heap_alloc_new w _
  obtain ⟨w3, hrun, hrow, hg, hsz⟩ := copied7 (cap := cap) h2 hn hs hr0
  have hrow0 : w3.heap[w.heap.size]? = some (.cells zer7.toArray 156 (0, 0)) := by
    rw [hg.block _ (by simp; omega) (by simp)]; exact hr1
  have B3 : Hid (Below w.heap.size w w3) := ((((Below.refl _ w).more (Nat.le_refl _) _).more (Nat.le_refl _) _)).grown hg (by simp; omega) (fun j hj => by simp at hj; omega)
  have c0 := cell_arr hrow 0
  have c1 := cell_arr hrow 1
  have c2 := cell_arr hrow 2
  have c3 := cell_arr hrow 3
  have c4 := cell_arr hrow 4
  have c5 := cell_arr hrow 5
  have c6 := cell_arr hrow 6
  simp only [arrL, List.getElem?_cons_zero, List.getElem?_cons_succ] at c0 c1 c2 c3 c4 c5 c6
  have d0 := cell_arr hrow0 0
  have d1 := cell_arr hrow0 1
  have d2 := cell_arr hrow0 2
  have d3 := cell_arr hrow0 3
  have d4 := cell_arr hrow0 4
  have d5 := cell_arr hrow0 5
  have d6 := cell_arr hrow0 6
  simp only [zer7, List.getElem?_cons_zero, List.getElem?_cons_succ] at d0 d1 d2 d3 d4 d5 d6
  have e0 := frz_arr hrow0 0
  have e1 := frz_arr hrow0 1
  have e2 := frz_arr hrow0 2
  have e3 := frz_arr hrow0 3
  have e4 := frz_arr hrow0 4
  have e5 := frz_arr hrow0 5
  have e6 := frz_arr hrow0 6
  simp only [zer7] at hrun
  clear h h2 hr0 hr1 hg hrow hrow0
  unfold arrL
  generalize l.getD 0 0 = x0 at *
  generalize l.getD 1 0 = x1 at *
  generalize l.getD 2 0 = x2 at *
  generalize l.getD 3 0 = x3 at *
  generalize l.getD 4 0 = x4 at *
  generalize l.getD 5 0 = x5 at *
  generalize l.getD 6 0 = x6 at *
  go_enter Tryz.func131, Tryz.ntmps131
  go_wp2
  refine bodyPost_ret (v := .agg #[.int .i64 x0, .int .i64 x1, .int .i64 x2, .int .i64 x3, .int .i64 x4, .int .i64 x5, .int .i64 x6]) (by simp [results, Tryz.results131, go_sem, d0, d1, d2, d3, d4, d5, d6]) rfl ⟨rfl, ?_⟩
  exact below_store (below_store (below_store (below_store (below_store (below_store (below_store B3.out (Nat.le_refl _) _) (Nat.le_refl _) _) (Nat.le_refl _) _) (Nat.le_refl _) _) (Nat.le_refl _) _) (Nat.le_refl _) _) (Nat.le_refl _) _
end Go.Proofs.YtnogdjpbnhnmaaaGreatDoor
