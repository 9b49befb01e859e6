/- Seal at any arguments, the program's and the document's own; the statements' helpers room and abc. -/
import Derived.Test.YtiajkdjljilndaaDoorFrRefS
namespace Go.Proofs.YtiajkdjljilndaaDoor
open Go.RowKit Go.Wire1 Go.Crc2 Go.Frm

/-- What Seal answers. -/
def slR (v : Int) (l : List Int) : List Int × Nat := if verB v = true then (if 1048576 < l.length then ([], 73) else (frm v.toNat l, 0)) else ([], 2)
theorem slR_cases (v : Int) (l : List Int) : (verB v = false ∧ slR v l = ([], 2)) ∨ (verB v = true ∧ 1048576 < l.length ∧ slR v l = ([], 73)) ∨ (∃ u : Nat, v = (u : Int) ∧ u ≤ 2 ∧ l.length ≤ 1048576 ∧ slR v l = (frm u l, 0)) := by
  cases hv : verB v with
  | false => exact .inl ⟨rfl, by unfold slR; rw [hv]; rfl⟩
  | true =>
    by_cases hl : 1048576 < l.length
    · exact .inr (.inl ⟨rfl, hl, by unfold slR; rw [hv, if_pos rfl, if_pos hl]⟩)
    · have h0 : 0 ≤ v ∧ v ≤ 2 := by unfold verB at hv; simpa using hv
      obtain ⟨u, rfl⟩ := Int.eq_ofNat_of_zero_le h0.1
      exact .inr (.inr ⟨u, rfl, by omega, by omega, by unfold slR; rw [hv, if_pos rfl, if_neg hl]; rfl⟩)
theorem slR_len (v : Int) (l : List Int) : (slR v l).1.length ≤ 1048600 := by
  rcases slR_cases v l with ⟨_, e⟩ | ⟨_, _, e⟩ | ⟨u, _, _, hl, e⟩
  · rw [e]; decide
  · rw [e]; decide
  · rw [e, frm_len]; have := hdL_len u l.length (by omega); omega
def SlPost (w : World) (v : Int) (l : List Int) (r : Ending) (w' : World) : Prop := ∃ val, r = .returned (.tuple #[val, .int .i64 ((slR v l).2 : Int)]) ∧ w'.ownsRow w.heap.size 5 1 val (slR v l).1.length ((slR v l).1.map (Value.int .u8)) ∧ Below w.heap.size w w'
theorem seal_all (v : Int) (sa : Option Addr) (n cap : Nat) (l : List Int) (w : World) (hs : Seg w sa n l) (hy : Byt l) (hH : Hal w) :
    Calls Tryd.prog 19 #[.int .i64 v, .slice sa n cap] w fun r w' => SlPost w v l r w' := by
  have hn : n ≤ maxLen := hs.2.1
  rcases slR_cases v l with ⟨hv, e⟩ | ⟨hv, hl, e⟩ | ⟨u, rfl, hu, hl, e⟩
  · refine (seal_ver v sa n cap w hv).mono ?_
    rintro r w' ⟨rfl, rfl⟩
    exact ⟨_, by rw [e]; rfl, by rw [e]; exact World.ownsRow_nil _ _ _ _, Below.refl _ _⟩
  · refine (seal_large v sa n cap w hv (by rw [← hs.1]; exact hl) hn).mono ?_
    rintro r w' ⟨rfl, rfl⟩
    exact ⟨_, by rw [e]; rfl, by rw [e]; exact World.ownsRow_nil _ _ _ _, Below.refl _ _⟩
  · refine (seal_any u sa n cap l w hu hs hy (by rw [← hs.1]; exact hl) hH).mono ?_
    rintro r w' ⟨g, c, rfl, _, ho, hb⟩
    exact ⟨_, by rw [e]; rfl, by rw [e]; exact ho, hb⟩
theorem rseal_all (v : Int) (sa : Option Addr) (n cap : Nat) (l : List Int) (w : World) (hs : Seg w sa n l) (hy : Byt l) :
    Calls Tryd.prog 27 #[.int .i64 v, .slice sa n cap] w fun r w' => SlPost w v l r w' := by
  have hn : n ≤ maxLen := hs.2.1
  rcases slR_cases v l with ⟨hv, e⟩ | ⟨hv, hl, e⟩ | ⟨u, rfl, hu, hl, e⟩
  · refine (rseal_ver v sa n cap w hv).mono ?_
    rintro r w' ⟨rfl, rfl⟩
    exact ⟨_, by rw [e]; rfl, by rw [e]; exact World.ownsRow_nil _ _ _ _, Below.refl _ _⟩
  · refine (rseal_large v sa n cap w hv (by rw [← hs.1]; exact hl) hn).mono ?_
    rintro r w' ⟨rfl, rfl⟩
    exact ⟨_, by rw [e]; rfl, by rw [e]; exact World.ownsRow_nil _ _ _ _, Below.refl _ _⟩
  · refine (rseal_any u sa n cap l w hu hs hy (by rw [← hs.1]; exact hl)).mono ?_
    rintro r w' ⟨val, rfl, ho, hb⟩
    exact ⟨_, by rw [e]; rfl, by rw [e]; exact ho, hb⟩
def spare : List Int := [161, 162, 163]
theorem three_cell (W : World) : ∀ j u, ([.int .u8 161, .int .u8 162, .int .u8 163] : List Value)[j]? = some u → (W.alloc (.cells #[.int .u8 161, .int .u8 162, .int .u8 163] 5)).cell? ((⟨W.heap.size, 0, none⟩ : Addr).add j) = some u := by
  intro jj uu hj
  match jj, hj with
  | 0, hj => simp at hj; subst hj; simp [Addr.add]
  | 1, hj => simp at hj; subst hj; simp [Addr.add]
  | 2, hj => simp at hj; subst hj; simp [Addr.add]
theorem three_one : ∀ v ∈ ([.int .u8 161, .int .u8 162, .int .u8 163] : List Value), v.oneCell' = true := by intro uu hu; simp at hu; rcases hu with rfl | rfl | rfl <;> rfl

set_option maxHeartbeats 4000000 in
set_option maxRecDepth 100000 in
theorem room_any (a : Option Addr) (n cap : Nat) (xs : List Int) (w : World) (ha : Seg w a n xs) (hlen : n ≤ 140737488351232) :
    Calls Tryd.prog 24 #[.slice a n cap] w fun e w' => ∃ (g c : Nat), e = .returned (.slice (some ⟨g, 0, none⟩) (n + 3) c) ∧ Mine w' w.heap.size g (n + 3) c (xs ++ spare) ∧ Below w.heap.size w w' := by
  obtain ⟨i0, hi, hz0, hz1, hz2⟩ := info_parts Tryd.info5
  have HL := hide ha.1
  have HS := hide ha
  clear ha
  go_enter Tryd.func24, Tryd.ntmps24
  go_wp2_with fail
  refine (bytes_any a n cap xs w HS.out (by omega)).mono ?_
  rintro e wr ⟨v, rfl, hown, hbel⟩
  rw [HL.out] at hown
  have hsz := hbel.size
  have HO := hide hown
  have HB := hide hbel
  clear hown hbel
  go_wp2_with (first
    | (at_builtin; refine wpList_append_own _ rfl _ _ 22 rfl w.heap.size 5 i0 (.int .u8 0) 1 1 Tryd.underlying22 hi hz0 hz1 hz2 rfl (by decide) _ _ _ rfl (HO.out.alloc _) ⟨wr.heap.size, 0, none⟩ 3 3 [.int .u8 161, .int .u8 162, .int .u8 163] rfl rfl (three_cell wr) three_one (by unfold maxLen; omega) (by omega) (by simp; omega) ?_))
  intro v' w1 hown' hgrow _
  have e1 : xs.map (Value.int .u8) ++ [.int .u8 161, .int .u8 162, .int .u8 163] = (xs ++ spare).map (Value.int .u8) := by simp [spare]
  rw [e1] at hown'
  obtain ⟨g, c, rfl⟩ := own_at hown' (by omega)
  have hm : Hid (Mine w1 w.heap.size g (n + 3) c (xs ++ spare)) := ⟨hown', by rw [List.length_append, HL.out]; rfl, (own_seg hown').2.1, (own_seg hown').2.2.1, (hown'.lt g rfl).1⟩
  have hb1 : Hid (Below w.heap.size w w1) := (HB.out.alloc hsz _).grown hgrow (by simp; omega) (fun j hj => (HO.out.lt j hj).1)
  clear hown' hgrow e1
  go_wp2
  go_ret
  exact ⟨g, c, rfl, hm.out, hb1.out⟩

theorem byt_abc : Byt [97, 98, 99] := fun z hz => by simp at hz; omega
set_option maxHeartbeats 4000000 in
set_option maxRecDepth 100000 in
theorem abc_any (w : World) : Calls Tryd.prog 18 #[] w fun e w' => ∃ val, e = .returned val ∧ w'.ownsRow w.heap.size 5 1 val (frm 1 [97, 98, 99]).length ((frm 1 [97, 98, 99]).map (Value.int .u8)) ∧ Below w.heap.size w w' := by
  have hS := rseal_any 1 (some ⟨w.heap.size, 0, none⟩) 3 3 [97, 98, 99] (w.alloc (.cells #[.int .u8 97, .int .u8 98, .int .u8 99] 5)) (by decide) (seg_new w [97, 98, 99] _ (0, 0) rfl (by decide)) byt_abc (by decide)
  generalize frm 1 [97, 98, 99] = FR at *
  have HS := hide hS
  clear hS
  go_enter Tryd.func18, Tryd.ntmps18
  go_wp2_with fail
  refine HS.out.mono ?_
  rintro r w1 ⟨val, rfl, ho, hb⟩
  have HO := hide (own_lower ho (B' := w.heap.size) (by simp))
  have HB : Hid (Below w.heap.size w w1) := ((Below.refl _ _).alloc (Nat.le_refl _) _).trans (hb.mono (by simp))
  clear ho hb
  go_wp2
  go_ret
  exact ⟨val, rfl, HO.out, HB.out⟩
theorem own_segN {w : World} {B n cap : Nat} {a : Option Addr} {l : List Int} (h : w.ownsRow B 5 1 (.slice a n cap) n (l.map (Value.int .u8))) : Seg w a n l := by
  have hl : l.length = n := by have := h.1; simp at this; omega
  rcases h.2 with ⟨e, h0⟩ | ⟨g, cap', cur, e, _⟩
  · cases e; obtain rfl : l = [] := List.length_eq_zero_iff.1 hl; exact seg_empty _ _
  · cases e; exact (own_seg h).1
theorem own_apart {w : World} {B n cap g : Nat} {a : Option Addr} {xs : List Value} (h : w.ownsRow B 5 1 (.slice a n cap) n xs) (hg : g < B) : ∀ x, a = some x → 0 < n → x.block ≠ g := by
  intro x hx _
  have := (h.lt x.block (by rw [hx]; rfl)).1
  omega
/-- A list with its first k bytes turned. -/
def trX (xs : List Int) (k : Nat) : List Int := (xs.take k).map (fun z => bx z 85) ++ (xs.drop k ++ spare)
theorem trX_zero (xs : List Int) : trX xs 0 = xs ++ spare := by simp [trX]
theorem trX_all (xs : List Int) : trX xs xs.length = xs.map (fun z => bx z 85) ++ spare := by simp [trX]
theorem trX_at {xs : List Int} {k : Nat} (h : k < xs.length) : (trX xs k).getD k 0 = xs.getD k 0 := by
  unfold trX
  rw [List.getD, List.getElem?_append_right (by simp; omega), drop_cons h]
  simp [List.length_take, Nat.min_eq_left (Nat.le_of_lt h)]
theorem trX_next {xs : List Int} {k : Nat} (h : k < xs.length) : (trX xs k).set k (bx (xs.getD k 0) 85) = trX xs (k + 1) := by
  unfold trX
  have hl : ((xs.take k).map (fun z => bx z 85)).length = k := by simp; omega
  rw [List.set_append_right _ _ (by omega), hl, Nat.sub_self, drop_cons h, take_next h]
  simp
theorem byt_map85 {xs : List Int} (h : Byt xs) : Byt (xs.map (fun z => bx z 85)) := fun z hz => by
  simp only [List.mem_map] at hz
  obtain ⟨y, hy, rfl⟩ := hz
  exact bx_byt (h y hy) (by decide)
end Go.Proofs.YtiajkdjljilndaaDoor
