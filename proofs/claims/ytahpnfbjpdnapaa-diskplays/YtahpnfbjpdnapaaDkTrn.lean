/- A list that grows byte by byte, from a constant on; the mathematics of DiskTorn. -/
import Derived.Test.YtahpnfbjpdnapaaDkShow
import Derived.Test.YtahpnfbjpdnapaaDkTwo
import Derived.Maps.AppendAt
import Derived.Lib.AppendStr
import Derived.Lib.AppendZerosOnto
namespace Go.Proofs.Ytahpnfbjpdnapaa
open Go.RowKit Go.Wire1 Go.MuLone

theorem app_full9 (w : World) (g o n m c : Nat) (ad : Addr) (xs ys : List Int) (hs : Seg w (some ⟨g, o, none⟩) n xs) (hy : Seg w (some ad) m ys) (hm : 0 < m) (hb : n + m ≤ 140737488355328) :
    ∃ (g' c' : Nat) (w' : World), (∀ ty, (Builtin.append_ #[27, 27] ty #[.slice (some ⟨g, o, none⟩) n n, .slice (some ad) m c]).run Try.prog w = .ok (.slice (some ⟨g', 0, none⟩) (n + m) c') w') ∧ w.heap.size ≤ g' ∧
      w'.ownsRow w.heap.size 5 1 (.slice (some ⟨g', 0, none⟩) (n + m) c') (n + m) ((xs ++ ys).map (Value.int .u8)) ∧ Below w.heap.size w w' := by
  obtain ⟨i, hi, hz, hsize, hby⟩ := info_parts Try.info5
  have hx1 : (xs.map (Value.int .u8)).length = n * i.size := by rw [hsize, List.length_map, hs.1]; omega
  have hy1 : (ys.map (Value.int .u8)).length = m * i.size := by rw [hsize, List.length_map, hy.1]; omega
  have cell : ∀ (l : List Int) (b off k : Nat) (hc : ∀ j, j < k → w.cell? ⟨b, off + j, none⟩ = some (.int .u8 (l.getD j 0))) (hl : l.length = k), ∀ j v, (l.map (Value.int .u8))[j]? = some v → w.cell? ((⟨b, off, none⟩ : Addr).add j) = some v := by
    intro l b off k hc hl j v hj
    have hjl : j < l.length := by
      rcases Nat.lt_or_ge j l.length with q | q
      · exact q
      · rw [List.getElem?_eq_none (by simpa using q)] at hj; cases hj
    rw [add_at, hc j (by omega), ← hj]
    simp [List.getElem?_eq_getElem hjl]
  obtain ⟨b2, off2, e2, hc2⟩ := hy.2.2 hm
  cases e2
  have hcx : ∀ j v, (xs.map (Value.int .u8))[j]? = some v → w.cell? ((⟨g, o, none⟩ : Addr).add j) = some v := by
    by_cases h0 : 0 < n
    · obtain ⟨b1, off1, e1, hc1⟩ := hs.2.2 h0
      cases e1
      exact cell xs g o n hc1 hs.1
    · intro j v hj
      have : xs = [] := List.length_eq_zero_iff.1 (by have := hs.1; omega)
      rw [this] at hj; cases hj
  have hr := fun ty => run_append_grow (P := Try.prog) w 27 ty 5 i (.int .u8 0) Try.underlying27 hi hz ⟨g, o, none⟩ n n (xs.map (Value.int .u8)) hx1 hcx ⟨b2, off2, none⟩ m c (ys.map (Value.int .u8)) hy1 (cell ys b2 off2 m hc2 hy.1) (by omega) (by omega) (growslice_fits (by omega) (by rw [hby]; omega))
  have hge := grownCap_ge w (n + m) n 5
  have hcm : grownCap w (n + m) n 5 ≤ maxLen := grownCap_le_maxLen w (n + m) n 5 (by unfold maxLen; omega)
  have hlen : ((xs ++ ys).map (Value.int .u8)).length = n + m := by rw [List.length_map, List.length_append, hs.1, hy.1]
  refine ⟨w.heap.size, _, _, hr, Nat.le_refl _, ⟨by rw [hlen]; omega, .inr ⟨w.heap.size, _, _, rfl, Nat.le_refl _, heap_alloc_new w.drew _, hge, hcm, ?_, ?_⟩⟩, ⟨rfl, rfl, rfl, by simp, fun k hk => heap_alloc_old w.drew _ hk⟩⟩
  · simp only [Array.size_append, List.size_toArray, size_zeroCells, hx1, hy1, hsize]
    show n * 1 + m * 1 + (grownCap w (n + m) n 5 - (n + m)) * 1 = _
    omega
  · simp only [Array.toList_append, List.append_assoc]
    rw [← List.append_assoc, Nat.mul_one, List.take_append_of_le_length (by simp [hs.1, hy.1]), List.take_of_length_le (by simp [hs.1, hy.1])]
    simp

theorem app_none (w : World) (g n cap : Nat) (x : Option Addr) (c : Nat) (hnc : n ≤ cap) (hx : x = none → c = 0) : ∀ ty, (Builtin.append_ #[27, 27] ty #[.slice (some ⟨g, 0, none⟩) n cap, .slice x 0 c]).run Try.prog w = .ok (.slice (some ⟨g, 0, none⟩) n cap) w := by
  intro ty
  obtain ⟨i, hi, hz, hsize, hby⟩ := info_parts Try.info5
  cases x with
  | none =>
    obtain rfl := hx rfl
    simp [Builtin.append_, run_underlying Try.underlying27, sizeOf, typeInfo, hi, Builtin.lenOf, Builtin.firstCells, hnc, storeCells]
  | some ad =>
    have hl : (loadCells ad 0).run Try.prog w = .ok #[] w := by first | rfl | simp [loadCells] | kernel_rfl
    simp [hl, Builtin.append_, run_underlying Try.underlying27, sizeOf, typeInfo, hi, Builtin.lenOf, Builtin.firstCells, hnc, storeCells]

/-- A list that may be gone on behind: full, or a row of our own. -/
structure Wnt (w : World) (B g n cap : Nat) (L : List Int) : Prop where
  seg : Seg w (some ⟨g, 0, none⟩) n L
  kind : cap = n ∨ w.ownsRow B 5 1 (.slice (some ⟨g, 0, none⟩) n cap) n (L.map (Value.int .u8))
  lt : g < w.heap.size
  ge : B ≤ g
theorem Wnt.on {w w' : World} {B g n cap : Nat} {L : List Int} (h : Wnt w B g n cap L) (hb : w'.heap[g]? = w.heap[g]?) (hs : w.heap.size ≤ w'.heap.size) : Wnt w' B g n cap L := by
  refine ⟨⟨h.seg.1, h.seg.2.1, fun hn => ?_⟩, h.kind.imp id (fun ho => own_other ho (fun k hk => by injection hk with hk; subst hk; exact hb)), Nat.lt_of_lt_of_le h.lt hs, h.ge⟩
  obtain ⟨b, off, e, hc⟩ := h.seg.2.2 hn
  cases e
  exact ⟨g, 0, rfl, fun j hj => by rw [World.cell?_of_block (w := w) (a := ⟨g, 0 + j, none⟩) hb]; exact hc j hj⟩
theorem Wnt.later {w w' : World} {B g n cap : Nat} {L : List Int} (h : Wnt w B g n cap L) (hb : Below w.heap.size w w') : Wnt w' B g n cap L := h.on (hb.block g h.lt) hb.size
theorem Wnt.push {w : World} {B g n cap : Nat} {L : List Int} (h : Wnt w B g n cap L) (z : Int) (hB : B ≤ w.heap.size) (hn : n + 1 ≤ 140737488355328) (h0 : 0 < n) :
    ∃ (g' c' : Nat) (w' : World), ((Builtin.append_ #[27, 27] 27 #[.slice (some ⟨g, 0, none⟩) n cap, .slice (some ⟨w.heap.size, 0, none⟩) 1 1]).run Try.prog (w.alloc (.cells #[.int .u8 z] 5)) = .ok (.slice (some ⟨g', 0, none⟩) (n + 1) c') w') ∧
      Wnt w' B g' (n + 1) c' (L ++ [z]) ∧ (w.alloc (.cells #[.int .u8 z] 5)).grownBy w' (some g) ∧ (g' = g ∨ w.heap.size ≤ g') := by
  obtain ⟨i, hi, hz, hsize, hby⟩ := info_parts Try.info5
  have hA : Below w.heap.size w (w.alloc (.cells #[.int .u8 z] 5)) := (Below.refl _ _).alloc (Nat.le_refl _) _
  have hW := h.later hA
  have hs1 : Seg (w.alloc (.cells #[.int .u8 z] 5)) (some ⟨w.heap.size, 0, none⟩) 1 [z] := by
    refine ⟨rfl, by unfold maxLen; omega, fun _ => ⟨_, _, rfl, fun j hj => ?_⟩⟩
    rw [World.cell?_alloc_at _ _ _ _ rfl]
    match j, hj with
    | 0, _ => rfl
  have fin : ∀ (g' c' : Nat) (w' : World), ((Builtin.append_ #[27, 27] 27 #[.slice (some ⟨g, 0, none⟩) n cap, .slice (some ⟨w.heap.size, 0, none⟩) 1 1]).run Try.prog (w.alloc (.cells #[.int .u8 z] 5)) = .ok (.slice (some ⟨g', 0, none⟩) (n + 1) c') w') →
      w'.ownsRow B 5 1 (.slice (some ⟨g', 0, none⟩) (n + 1) c') (n + 1) ((L ++ [z]).map (Value.int .u8)) → (w.alloc (.cells #[.int .u8 z] 5)).grownBy w' (some g) → (g' = g ∨ w.heap.size ≤ g') →
      ∃ (g' c' : Nat) (w' : World), ((Builtin.append_ #[27, 27] 27 #[.slice (some ⟨g, 0, none⟩) n cap, .slice (some ⟨w.heap.size, 0, none⟩) 1 1]).run Try.prog (w.alloc (.cells #[.int .u8 z] 5)) = .ok (.slice (some ⟨g', 0, none⟩) (n + 1) c') w') ∧ Wnt w' B g' (n + 1) c' (L ++ [z]) ∧ (w.alloc (.cells #[.int .u8 z] 5)).grownBy w' (some g) ∧ (g' = g ∨ w.heap.size ≤ g') := by
    intro g' c' w' hr ho hg hg'
    have hl : (L ++ [z]).length = n + 1 := by rw [List.length_append, h.seg.1]; rfl
    obtain ⟨sa, cap', e, _, _, sg⟩ := seg_own (l := L ++ [z]) (by rw [hl]; exact ho)
    rw [hl] at e sg
    cases e
    exact ⟨g', c', w', hr, ⟨sg, .inr ho, (ho.lt g' rfl).2, (ho.lt g' rfl).1⟩, hg, hg'⟩
  rcases h.kind with e | ho
  · subst e
    obtain ⟨g', c', w', hr, hg', ho, hb⟩ := app_full9 (w.alloc (.cells #[.int .u8 z] 5)) g 0 cap 1 1 ⟨w.heap.size, 0, none⟩ L [z] hW.seg hs1 (by omega) hn
    have hg2 : w.heap.size ≤ g' := by have := hg'; simp only [sz_alloc] at this; omega
    refine fin g' c' w' (hr _) ?_ ⟨hb.os, hb.tape, hb.output, hb.size, fun k hk _ => hb.block k hk⟩ (.inr hg2)
    refine ⟨ho.1, ho.2.elim .inl fun ⟨g2, cap, cur, e, hB2, r⟩ => .inr ⟨g2, cap, cur, e, ?_, r⟩⟩
    simp only [sz_alloc] at hB2
    omega
  · have ho2 : (w.alloc (.cells #[.int .u8 z] 5)).ownsRow B 5 1 (.slice (some ⟨g, 0, none⟩) n cap) n (L.map (Value.int .u8)) := ho.alloc _
    obtain ⟨v', w', hr, h2, h3, _, h5⟩ := run_append_own_at (P := Try.prog) (w.alloc (.cells #[.int .u8 z] 5)) B 27 27 5 i (.int .u8 0) 1 1 Try.underlying27 hi hz hsize hby rfl (by decide) _ n _ ho2 ⟨w.heap.size, 0, none⟩ 1 1 [.int .u8 z] rfl (by
      intro j u hj
      match j, hj with
      | 0, hj => simp at hj; subst hj; simp [Addr.add]) (by intro u hu; simp at hu; subst hu; rfl) (by unfold maxLen; omega) (by omega) (by simp only [sz_alloc]; omega)
    have h2' : w'.ownsRow B 5 1 v' (n + 1) ((L ++ [z]).map (Value.int .u8)) := by rw [List.map_append]; exact h2
    rcases h2'.2 with ⟨_, h0'⟩ | ⟨g', c', cur, rfl, _⟩
    · omega
    · refine fin g' c' w' hr h2' h3 ?_
      rcases h5 with h5 | h5
      · injection h5 with h5; exact .inl h5
      · injection h5 with h5
        simp only [sz_alloc] at h5
        exact .inr (by show w.heap.size ≤ g'; have : g' = w.heap.size + 1 := h5; omega)
end Go.Proofs.Ytahpnfbjpdnapaa
