/- Rows of structs in memory; a slice literal of one struct; the ids that a tally holds, rising, and what it holds at them; a tally in memory. -/
import Derived.Test.YtdpphagogjdjjaaQRange
import Derived.Test.YtdpphagogjdjjaaVMath
import Derived.Test.YtdpphagogjdjjaaBlk
import Derived.Great.BuildSlice
namespace Go.Proofs.Ytdpphagogjdjjaa
open Go.RowKit Go.Wire1

/-- A row of structs of K cells in memory. -/
structure RowS (w : World) (K : Nat) (a : Option Addr) (n : Nat) (css : List (List Value)) : Prop where
  len : css.length = n
  max : n ≤ maxLen
  at_ : 0 < n → ∃ b off, a = some ⟨b, off, none⟩ ∧ ∀ i cs, css[i]? = some cs → w.rangeAt b (off + i * K) cs
  fit : ∀ cs ∈ css, cs.length = K ∧ ∀ u ∈ cs, u.oneCell' = true
theorem rangeAt_lt {w : World} {b o : Nat} {cs : List Value} (h : w.rangeAt b o cs) (h0 : 0 < cs.length) : b < w.heap.size := by
  have := h 0 cs[0] (List.getElem?_eq_getElem h0)
  exact cell_lt this
theorem rangeAt_below {w w' : World} {B b o : Nat} {cs : List Value} (h : w.rangeAt b o cs) (hb : Below B w w') (hB : b < B) : w'.rangeAt b o cs := fun j v hv => by
  rw [hb.cell (p := ⟨b, o + j, none⟩) hB]; exact h j v hv
theorem range_grown {w w' : World} {b o r : Nat} {cs : List Value} (h : w.rangeAt b o cs) (hg : w.grownBy w' (some r)) (hne : b ≠ r) (h0 : 0 < cs.length) : w'.rangeAt b o cs := fun j v hv => by
  rw [World.cell?_of_block (a := ⟨b, o + j, none⟩) (hg.block b (rangeAt_lt h h0) (by intro e; injection e with e; exact hne e))]; exact h j v hv
theorem RowS.below {w w' : World} {K : Nat} {a : Option Addr} {n B : Nat} {css : List (List Value)} (h : RowS w K a n css) (hb : Below B w w') (hB : w.heap.size ≤ B) (hK : 0 < K) : RowS w' K a n css := by
  refine ⟨h.len, h.max, fun hn => ?_, h.fit⟩
  obtain ⟨b, off, e, hc⟩ := h.at_ hn
  refine ⟨b, off, e, fun i cs hi => rangeAt_below (hc i cs hi) hb ?_⟩
  have := rangeAt_lt (hc i cs hi) (by rw [(h.fit cs (List.mem_of_getElem? hi)).1]; exact hK)
  omega
theorem RowS.drewN {w : World} {K : Nat} {a : Option Addr} {n : Nat} {css : List (List Value)} (h : RowS w K a n css) (q : Nat) : RowS (w.drewN q) K a n css := ⟨h.len, h.max, h.at_, h.fit⟩
theorem rows_nil (w : World) (K : Nat) (a : Option Addr) : RowS w K a 0 [] := ⟨rfl, by unfold maxLen; omega, fun h => by omega, fun cs h => by cases h⟩
theorem flatK_at {K : Nat} : ∀ (css : List (List Value)), (∀ cs ∈ css, cs.length = K) → ∀ (i j : Nat) (cs : List Value), css[i]? = some cs → j < K → css.flatten[i * K + j]? = cs[j]?
  | [], _, i, j, cs, h, _ => by simp at h
  | c :: r, hf, i, j, cs, h, hj => by
    have hl : c.length = K := hf c (List.mem_cons_self ..)
    rw [List.flatten_cons]
    cases i with
    | zero =>
      rw [List.getElem?_cons_zero, Option.some.injEq] at h
      subst h
      rw [Nat.zero_mul, Nat.zero_add, List.getElem?_append_left (by omega)]
    | succ i =>
      rw [List.getElem?_cons_succ] at h
      rw [List.getElem?_append_right (by rw [hl, Nat.succ_mul]; omega), hl, show (i + 1) * K + j - K = i * K + j by rw [Nat.succ_mul]; omega]
      exact flatK_at r (fun cs hc => hf cs (List.mem_cons_of_mem _ hc)) i j cs h hj
/-- A row of our own is a row of structs. -/
theorem rowS_of {w : World} {B E K n : Nat} {v : Value} {css : List (List Value)} (h : w.ownsRow B E K v n css.flatten) (hn : css.length = n) (_hK : 0 < K) (hf : ∀ cs ∈ css, cs.length = K ∧ ∀ u ∈ cs, u.oneCell' = true) :
    ∃ a c, v = .slice a n c ∧ n ≤ c ∧ RowS w K a n css := by
  rcases h.2 with ⟨rfl, rfl⟩ | ⟨g, cap, cur, rfl, hB, hg, h1, h2, h3, h4⟩
  · obtain rfl : css = [] := List.eq_nil_of_length_eq_zero hn
    exact ⟨none, 0, rfl, Nat.le_refl _, rows_nil _ _ _⟩
  · refine ⟨_, cap, rfl, h1, hn, Nat.le_trans h1 h2, fun _ => ⟨g, 0, rfl, fun i cs hi j u hj => ?_⟩, hf⟩
    have hl := (hf cs (List.mem_of_getElem? hi)).1
    have hjK : j < K := by
      have := (List.getElem?_eq_some_iff.1 hj).1
      omega
    have hi' : i < n := by
      have := (List.getElem?_eq_some_iff.1 hi).1
      omega
    have hlt : i * K + j < n * K := by
      have : (i + 1) * K ≤ n * K := Nat.mul_le_mul_right _ hi'
      rw [Nat.succ_mul] at this
      omega
    rw [Nat.zero_add, h.cellAt (i * K + j) hlt, flatK_at css (fun cs hc => (hf cs hc).1) i j cs hi hjK]
    exact hj

/-- A slice literal of one struct. -/
theorem fill_one {K : Nat} {cs : List Value} (zs : Array Value) (hz : zs.size = K) (hl : cs.length = K) : Instr.fill (fun i => some (i * K, K)) zs [(0, .agg cs.toArray)] = some cs.toArray := by
  have key : ∀ (l : List Value) (k : Nat) (acc : Array Value), acc.size = k + l.length → (l.zipIdx k).foldl (fun (cs : Array Value) (x : Value × Nat) => cs.setIfInBounds x.2 x.1) acc = (acc.toList.take k ++ l).toArray := by
    intro l
    induction l with
    | nil =>
      intro k acc h
      simp only [List.length_nil, Nat.add_zero] at h
      rw [List.zipIdx_nil, List.foldl_nil, List.append_nil, List.take_of_length_le (by simp [h])]
    | cons x r ih =>
      intro k acc h
      rw [List.zipIdx_cons, List.foldl_cons, ih (k + 1) _ (by simp only [Array.size_setIfInBounds, h, List.length_cons]; omega)]
      have hk : k < acc.size := by rw [h, List.length_cons]; omega
      have : (acc.setIfInBounds k x).toList.take (k + 1) = acc.toList.take k ++ [x] := by
        rw [Array.toList_setIfInBounds, List.take_add_one, List.take_set_of_le (Nat.le_refl _), List.getElem?_set_self (by simpa using hk)]; rfl
      rw [this, List.append_assoc]; rfl
  have h2 := key cs 0 zs (by omega)
  simp only [List.take_zero, List.nil_append] at h2
  unfold Instr.fill
  have hs : (Value.agg cs.toArray).cells.size = K := by show cs.toArray.size = K; simp [hl]
  have hc : (Value.agg cs.toArray).cells = cs.toArray := rfl
  simp only [hc, List.size_toArray, hl, Nat.zero_mul, Nat.zero_add, hz, ne_eq, not_true_eq_false, gt_iff_lt, Nat.lt_irrefl, decide_false, Bool.or_self, Instr.fill]
  have h3 : cs.toArray.zipIdx.foldl (fun cs (x : Value × Nat) => cs.setIfInBounds (0 + x.2) x.1) zs = cs.toArray := by
    rw [← Array.foldl_toList]
    simpa using h2
  simp only [Nat.zero_add] at h3
  rw [h3]; simp
theorem wpList_buildOne {P : Program} {ops : Array Oper} {rest : List Oper} {o : Oper} {a : Act} {w : World} {Q : Exit → Act → World → Prop} (hg : o.guard = none) (t e : TypeId) (x : Operand) (ho : o.op = .buildSlice t 1 #[(0, x)]) (K : Nat) (cs : List Value) (hl : cs.length = K) (hx : a.eval x = .agg cs.toArray)
    (ie : TypeInfo) (z : Value) (hu : P.underlying t = some (.slice e)) (hie : P.info? e = some ie) (hz : ie.zero = some z) (hs : ie.size = K) (hK : 0 < K) (hsmall : K ≤ 1000)
    (h : wpList P ops Q rest (a.put o.dst (.slice (some ⟨w.heap.size, 0, none⟩) 1 1)) (w.alloc (.cells cs.toArray e))) : wpList P ops Q (o :: rest) a w := by
  refine wpList_buildSlice hg t e 1 #[(0, x)] ho cs.toArray ie z hu hie hz (by rw [hs]; omega) (by rw [hs]; omega) ?_ h
  have e1 : (#[(0, x)].map fun (i, x) => (i, a.eval x)).toList = [(0, .agg cs.toArray)] := by simp [hx]
  rw [e1, hs]
  exact fill_one _ (by simp) hl

/-- The ids, rising. -/
def idsQ {α : Type} (m : List (Int × α)) : List Int := ((List.range 7).map (fun i : Nat => (i : Int))).filter (fun k => (lkm m k).isSome)
/-- What is held at them, in their order. -/
def ansQ {α : Type} (m : List (Int × α)) : List α := (List.range 7).filterMap fun i : Nat => lkm m (i : Int)
theorem idsQ_mem {α : Type} {m : List (Int × α)} {k : Int} (h7 : ∀ p ∈ m, 0 ≤ p.1 ∧ p.1 < 7) : k ∈ idsQ m ↔ k ∈ m.map (·.1) := by
  unfold idsQ
  rw [List.mem_filter, lkm_mem]
  constructor
  · exact fun h => h.2
  · intro h
    obtain ⟨p, hp, rfl⟩ := List.mem_map.1 h
    have := h7 p hp
    refine ⟨List.mem_map.2 ⟨p.1.toNat, List.mem_range.2 (by omega), by omega⟩, h⟩
theorem idsQ_lt {α : Type} (m : List (Int × α)) : (idsQ m).Pairwise (· < ·) := by
  unfold idsQ
  refine List.Pairwise.filter _ (List.pairwise_map.2 ?_)
  exact (List.pairwise_lt_range (n := 7)).imp (fun h => by omega)
theorem eq_of_sorted {l r : List Int} (hl : l.Pairwise (· < ·)) (hr : r.Pairwise (· < ·)) (h : ∀ k, k ∈ l ↔ k ∈ r) : l = r := by
  induction l generalizing r with
  | nil =>
    cases r with
    | nil => rfl
    | cons y t => exact absurd ((h y).2 (List.mem_cons_self ..)) (by simp)
  | cons x s ih =>
    cases r with
    | nil => exact absurd ((h x).1 (List.mem_cons_self ..)) (by simp)
    | cons y t =>
      obtain ⟨h1, h2⟩ := List.pairwise_cons.1 hl
      obtain ⟨h3, h4⟩ := List.pairwise_cons.1 hr
      have e : x = y := by
        rcases List.mem_cons.1 ((h x).1 (List.mem_cons_self ..)) with e | e
        · exact e
        · rcases List.mem_cons.1 ((h y).2 (List.mem_cons_self ..)) with e2 | e2
          · exact e2.symm
          · have := h3 x e; have := h1 y e2; omega
      subst e
      rw [ih h2 h4 (fun k => ?_)]
      constructor
      · intro hk
        rcases List.mem_cons.1 ((h k).1 (List.mem_cons_of_mem _ hk)) with e | e
        · subst e; have := h1 k hk; omega
        · exact e
      · intro hk
        rcases List.mem_cons.1 ((h k).2 (List.mem_cons_of_mem _ hk)) with e | e
        · subst e; have := h3 k hk; omega
        · exact e
theorem sorted_ids {α : Type} {m : List (Int × α)} (hn : (m.map (·.1)).Nodup) (h7 : ∀ p ∈ m, 0 ≤ p.1 ∧ p.1 < 7) {L : List Int} (hp : L.Perm (m.map (·.1))) (hs : L.Pairwise (· ≤ ·)) : L = idsQ m := by
  refine eq_of_sorted ?_ (idsQ_lt m) (fun k => by rw [idsQ_mem h7, hp.mem_iff])
  have hnd : L.Nodup := hp.nodup_iff.2 hn
  exact (List.Pairwise.and hs hnd).imp (fun h => by have h1 := h.1; have h2 := h.2; omega)
theorem ids_len {α : Type} {m : List (Int × α)} (hn : (m.map (·.1)).Nodup) (h7 : ∀ p ∈ m, 0 ≤ p.1 ∧ p.1 < 7) : (idsQ m).length = m.length := by
  have : (idsQ m).Perm (m.map (·.1)) := (List.perm_ext_iff_of_nodup ((idsQ_lt m).imp (fun h => by omega)) hn).2 (fun k => idsQ_mem h7)
  rw [this.length_eq, List.length_map]
theorem len_le7 {α : Type} {m : List (Int × α)} (hn : (m.map (·.1)).Nodup) (h7 : ∀ p ∈ m, 0 ≤ p.1 ∧ p.1 < 7) : m.length ≤ 7 := by
  rw [← ids_len hn h7]
  unfold idsQ
  exact Nat.le_trans (List.length_filter_le _ _) (by simp)
theorem ans_ids {α : Type} (m : List (Int × α)) : (ansQ m).map some = (idsQ m).map (lkm m) := by
  unfold ansQ idsQ
  have key : ∀ l : List Nat, ((l.filterMap fun i : Nat => lkm m (i : Int)).map some) = (((l.map fun i : Nat => (i : Int)).filter fun k => (lkm m k).isSome).map (lkm m)) := by
    intro l
    induction l with
    | nil => rfl
    | cons x r ih =>
      rw [List.filterMap_cons, List.map_cons, List.filter_cons]
      cases h : lkm m (x : Int) with
      | none => simpa using ih
      | some v =>
        simp only [Option.isSome_some, if_true, List.map_cons, h]
        rw [ih]
  exact key _
theorem ans_len {α : Type} (m : List (Int × α)) : (ansQ m).length = (idsQ m).length := by
  have := congrArg List.length (ans_ids m)
  simpa using this
theorem ans_at {α : Type} {m : List (Int × α)} {i : Nat} (h : i < (idsQ m).length) : lkm m ((idsQ m).getD i 0) = some ((ansQ m)[i]'(by rw [ans_len]; exact h)) := by
  have := congrArg (fun l => l[i]?) (ans_ids m)
  simp only [List.getElem?_map] at this
  rw [List.getElem?_eq_getElem (by rw [ans_len]; exact h), List.getElem?_eq_getElem h] at this
  simp only [Option.map_some, Option.some.injEq] at this
  rw [List.getD, List.getElem?_eq_getElem h]
  exact this.symm

/-- Does what comes from fr count? -/
def okT {α : Type} (n slf : Int) (m : List (Int × α)) (fr : Int) : Bool := decide (0 ≤ fr ∧ fr < n) && (!(fr == slf) && !(lkm m fr).isSome)
def addM {α : Type} (n slf : Int) (m : List (Int × α)) (fr : Int) (v : α) : List (Int × α) := if okT n slf m fr then m ++ [(fr, v)] else m
theorem addM_no {α : Type} {n slf : Int} {m : List (Int × α)} {fr : Int} {v : α} (h : okT n slf m fr = false) : okT n slf m fr = false ∧ addM n slf m fr v = m := ⟨h, by unfold addM; rw [h]; rfl⟩
theorem addM_yes {α : Type} {n slf : Int} {m : List (Int × α)} {fr : Int} {v : α} (h : okT n slf m fr = true) : okT n slf m fr = true ∧ addM n slf m fr v = m ++ [(fr, v)] := ⟨h, by unfold addM; rw [h]; rfl⟩
/-- A tally in memory: its three cells at tb, its map at mb. -/
structure Tly (w : World) (K tb mb : Nat) (n slf : Int) (m : List (Int × List Value)) : Prop where
  box : w.rangeAt tb 0 [.int .i64 n, .int .i64 slf, .map (some mb)]
  im : IM w mb (mapV (fun cs => .agg cs.toArray) m)
  fit : ∀ p ∈ m, p.2.length = K ∧ ∀ u ∈ p.2, u.oneCell' = true
  row : ∀ p ∈ m, 0 ≤ p.1 ∧ p.1 < n
  size : n ≤ 7
theorem Tly.keys {w : World} {K tb mb : Nat} {n slf : Int} {m : List (Int × List Value)} (h : Tly w K tb mb n slf m) : (m.map (·.1)).Nodup := by
  have := h.im.keys
  rwa [mapV_keys] at this
theorem Tly.r7 {w : World} {K tb mb : Nat} {n slf : Int} {m : List (Int × List Value)} (h : Tly w K tb mb n slf m) : ∀ p ∈ m, 0 ≤ p.1 ∧ p.1 < 7 := fun p hp => by
  have := h.row p hp
  have := h.size
  omega
theorem Tly.ne {w : World} {K tb mb : Nat} {n slf : Int} {m : List (Int × List Value)} (h : Tly w K tb mb n slf m) : tb ≠ mb := by
  intro e
  subst e
  obtain ⟨es, clock, hb, _⟩ := h.im.ex
  have := h.box 0 _ rfl
  simp [World.cell?, hb] at this
theorem Tly.below {w w' : World} {B K tb mb : Nat} {n slf : Int} {m : List (Int × List Value)} (h : Tly w K tb mb n slf m) (hb : Below B w w') (h1 : tb < B) (h2 : mb < B) : Tly w' K tb mb n slf m :=
  ⟨rangeAt_below h.box hb h1, h.im.below hb h2, h.fit, h.row, h.size⟩
theorem Tly.lt {w : World} {K tb mb : Nat} {n slf : Int} {m : List (Int × List Value)} (h : Tly w K tb mb n slf m) : tb < w.heap.size := rangeAt_lt h.box (by simp)
theorem Tly.on {w w' : World} {K tb mb : Nat} {n slf : Int} {m : List (Int × List Value)} (h : Tly w K tb mb n slf m) (hb : Below w.heap.size w w') : Tly w' K tb mb n slf m := h.below hb h.lt h.im.lt
/-- One more. -/
theorem Tly.more {w w' : World} {K tb mb : Nat} {n slf : Int} {m : List (Int × List Value)} (h : Tly w K tb mb n slf m) {fr : Int} {cs : List Value} (hi : IM w' mb (mapV (fun cs => .agg cs.toArray) m ++ [(fr, .agg cs.toArray)])) (hg : w.grownBy w' (some mb)) (hl : cs.length = K) (h1 : ∀ u ∈ cs, u.oneCell' = true) (hr : 0 ≤ fr ∧ fr < n) :
    Tly w' K tb mb n slf (m ++ [(fr, cs)]) := by
  refine ⟨fun j v hv => ?_, by rw [mapV_append]; exact hi, fun p hp => ?_, fun p hp => ?_, h.size⟩
  · have := h.box j v hv
    rw [World.cell?_of_block (a := ⟨tb, 0 + j, none⟩) (hg.block tb h.lt (by intro e; injection e with e; exact h.ne e))]
    exact this
  · rcases List.mem_append.1 hp with hp | hp
    · exact h.fit p hp
    · simp only [List.mem_singleton] at hp
      subst hp
      exact ⟨hl, h1⟩
  · rcases List.mem_append.1 hp with hp | hp
    · exact h.row p hp
    · simp only [List.mem_singleton] at hp
      subst hp
      exact hr
end Go.Proofs.Ytdpphagogjdjjaa
