/- Texts of the proof, joined. -/
import Derived.Test.YtdokagebfeejbaaGreatDoorJ20
/- cmp.Or of any number of errors; a box's ranges in a later world. -/
namespace Go.Proofs.YtdokagebfeejbaaGreatDoor
open Go.RowKit Go.Wire1

/-- The first that is not zero. -/
def orL : List Int → Int
  | [] => 0
  | x :: r => if x = 0 then orL r else x
theorem orL_zero {L : List Int} (h : ∀ j, j < L.length → L.getD j 0 = 0) : orL L = 0 := by
  induction L with
  | nil => rfl
  | cons x r ih =>
    have h0 : x = 0 := h 0 (by simp)
    rw [orL, if_pos h0]
    exact ih (fun j hj => h (j + 1) (by simpa using hj))
theorem orL_at {L : List Int} {k : Nat} (hk : k < L.length) (h : ∀ j, j < k → L.getD j 0 = 0) (hn : L.getD k 0 ≠ 0) : orL L = L.getD k 0 := by
  induction L generalizing k with
  | nil => simp at hk
  | cons x r ih =>
    cases k with
    | zero =>
      have : x ≠ 0 := hn
      rw [orL, if_neg this]; rfl
    | succ k =>
      have h0 : x = 0 := h 0 (by omega)
      rw [orL, if_pos h0]
      exact ih (by simpa using hk) (fun j hj => h (j + 1) (by omega)) hn
set_option maxHeartbeats 2000000 in
set_option maxRecDepth 100000 in
theorem or_any (g : Nat) (L : List Int) (k : Nat) (hk : L.length = k) (hk9 : k ≤ 9) (w : World) (h : ∀ j, j < k → w.cell? ⟨g, j, none⟩ = some (.int .i64 (L.getD j 0))) :
    Calls Tryz.prog 166 #[.slice (some ⟨g, 0, none⟩) k k] w fun e w' => e = .returned (.int .i64 (orL L)) ∧ w = w' := by
  have HH := hide h
  have HK := hide hk
  clear h hk
  go_enter Tryz.func166, Tryz.ntmps166
  go_wp2
  go_loopw [8] (fun i wr => ∃ j : Nat, i = .int .i64 (j : Int) ∧ j ≤ k ∧ Hid (∀ t, t < j → L.getD t 0 = 0) ∧ w = wr) (fun i _ => k - (intOf i).toNat)
  case atStart => exact ⟨0, rfl, by omega, (fun t ht => by omega), rfl⟩
  case round =>
    obtain ⟨j, rfl, hj, HZ, rfl⟩ := hrel
    by_cases hlt : j < k
    · have cc := HH.out j hlt
      by_cases hz : L.getD j 0 = 0
      · have HZ2 : Hid (∀ t, t < j + 1 → L.getD t 0 = 0) := by
          show ∀ t, _
          intro t ht
          rcases Nat.lt_or_ge t j with h | h
          · exact HZ.out t h
          · obtain rfl : t = j := by omega
            exact hz
        rw [hz] at cc
        clear hz HZ
        go_wp2
        go_roundw
        case rel => exact ⟨j + 1, by go_num, by omega, HZ2, by first | rfl | trivial⟩
        case measure => simp [intOf]; omega
      · have E : Hid (orL L = L.getD j 0) := orL_at (by rw [HK.out]; exact hlt) HZ.out hz
        have hne : (L.getD j 0 != 0) = true := by rw [bne_iff_ne]; exact hz
        generalize L.getD j 0 = x at *
        clear hz HZ
        go_wp2
        go_ret
        exact ⟨by rw [E.out]; rfl, rfl⟩
    · obtain rfl : j = k := by omega
      have E : Hid (orL L = 0) := orL_zero (by rw [HK.out]; exact HZ.out)
      clear HZ
      go_wp2
      go_ret
      exact ⟨by rw [E.out]; rfl, rfl⟩

/-- A part of a box, in a later world. -/
theorem Blk.sub {w w' : World} {q : Nat} {cs : List Value} (h : Blk w q cs) (hb : Below w.heap.size w w') (o : Nat) (ds : List Value) (hd : (cs.drop o).take ds.length = ds) : w'.rangeAt q o ds := fun j v hj => by
  have h1 := (h.on hb).cell (o + j) v (by
    rw [← hd] at hj
    by_cases hl : j < ds.length
    · rw [List.getElem?_take_of_lt hl, List.getElem?_drop] at hj; exact hj
    · rw [List.getElem?_eq_none (by rw [List.length_take]; omega)] at hj; cases hj)
  exact h1
theorem Blk.c1 {w w' : World} {q : Nat} {cs : List Value} (h : Blk w q cs) (hb : Below w.heap.size w w') (j : Nat) (v : Value) (hj : cs[j]? = some v) : w'.cell? ⟨q, j, none⟩ = some v := (h.on hb).cell j v hj
theorem belX (X : World) : Below X.heap.size X X.drew := ⟨rfl, rfl, rfl, Nat.le_refl _, fun _ _ => rfl⟩
theorem row_cells (W : World) (L : List Int) (T : TypeId) (k : Nat) (hk : L.length = k) : ∀ j, j < k → (W.alloc (.cells (L.map (Value.int .i64)).toArray T)).cell? ⟨W.heap.size, j, none⟩ = some (.int .i64 (L.getD j 0)) := by
  intro j hj
  rw [World.cell?_alloc_at _ _ _ _ rfl]
  simp [List.getD, List.getElem?_eq_getElem (show j < L.length by omega)]
end Go.Proofs.YtdokagebfeejbaaGreatDoor
