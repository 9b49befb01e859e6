/- A range over a map keyed by ints; the laws of a map at the operation, for the walk. -/
import Derived.Test.YtdpphagogjdjjaaQMap
namespace Go.Wire1
open Go.RowKit
open Go.ChangeMaps (setBlock heap_setBlock_same heap_setBlock_other)

/-- A range over the map under way: the keys that have come. -/
structure Rng (w : World) (b r : Nat) (m : List (Int × Value)) (L : List Int) : Prop where
  im : IM w b m
  ex : ∃ es clock since seen c0, w.heap[b]? = some (.map es clock) ∧ w.heap[r]? = some (.mapIter (some b) since seen c0) ∧ (∀ x ∈ es.toList, x.born < since) ∧ since ≤ c0 ∧ since ≤ clock ∧ (∀ e ∈ es.toList, seen.contains e.born = true ↔ ∃ k ∈ L, e.key = .int .i64 k)
  nodup : L.Nodup
  sub : ∀ k ∈ L, k ∈ m.map (·.1)

section
variable {P : Program} {w : World} {b r : Nat} {m : List (Int × Value)} {L : List Int}

theorem Rng.lt (h : Rng w b r m L) : r < w.heap.size := by
  obtain ⟨es, clock, since, seen, c0, hb, hr, _⟩ := h.ex
  exact (Array.getElem?_eq_some_iff.1 hr).1
theorem Rng.ne (h : Rng w b r m L) : r ≠ b := by
  obtain ⟨es, clock, since, seen, c0, hb, hr, _⟩ := h.ex
  intro e
  subst e
  rw [hb] at hr
  cases hr
theorem Rng.kept {w' : World} {row : Option Nat} (h : Rng w b r m L) (hg : w.grownBy w' row) (hb : some b ≠ row) (hr : some r ≠ row) : Rng w' b r m L := by
  have h1 := hg.block b h.im.lt hb
  have h2 := hg.block r h.lt hr
  obtain ⟨es, clock, since, seen, c0, e1, e2, rest⟩ := h.ex
  exact ⟨h.im.of_block h1, ⟨es, clock, since, seen, c0, h1.trans e1, h2.trans e2, rest⟩, h.nodup, h.sub⟩
theorem Rng.alloc (h : Rng w b r m L) (o : Obj) : Rng (w.alloc o) b r m L := h.kept (World.grownBy_alloc w o none) (by simp) (by simp)
/-- 'range m'. -/
theorem IM.range (h : IM w b m) {T K E : TypeId} (ht : P.underlying T = some (.map K E)) :
    ∃ w', (Instr.range T (.map (some b))).run P w = .ok (.pointer (some ⟨w.heap.size, 0, none⟩)) w' ∧ Rng w' b w.heap.size m [] ∧ w.grownBy w' none ∧ w'.heap.size = w.heap.size + 1 := by
  have hlt := h.lt
  obtain ⟨es, clock, hb, hm, hst, hnd⟩ := h.ex
  have hb' : (w.alloc (.mapIter (some b) clock #[] clock)).heap[b]? = w.heap[b]? := (MapKept.heap_alloc w _).2 b hlt
  exact ⟨_, run_range_map w T K E b es clock ht hb, ⟨h.of_block hb', ⟨es, clock, clock, #[], clock, hb'.trans hb, (MapKept.heap_alloc w _).1, hst, Nat.le_refl _, Nat.le_refl _, fun e _ => by simp⟩, by simp, by simp⟩, World.grownBy_alloc w _ none, by simp⟩

theorem born_same {l : List MapEntry} (hn : (l.map (·.born)).Nodup) {x e : MapEntry} (hx : x ∈ l) (he : e ∈ l) (h : x.born = e.born) : x = e := by
  induction l with
  | nil => cases hx
  | cons y t ih =>
    simp only [List.map_cons, List.nodup_cons] at hn
    rcases List.mem_cons.1 hx with rfl | hx'
    · rcases List.mem_cons.1 he with rfl | he'
      · rfl
      · exact absurd (List.mem_map.2 ⟨e, he', h.symm⟩) hn.1
    · rcases List.mem_cons.1 he with rfl | he'
      · exact absurd (List.mem_map.2 ⟨x, hx', h⟩) hn.1
      · exact ih hn.2 hx' he'
theorem im_apart {es : Array MapEntry} (hk : (m.map (·.1)).Nodup) (h : es.toList.map (fun e => (e.key, e.val)) = m.map (fun p => (Value.int .i64 p.1, p.2))) : es.toList.Pairwise (fun x y => x.key ≠ y.key) := by
  have h2 : es.toList.map (·.key) = (m.map (·.1)).map (Value.int .i64) := by
    have := congrArg (List.map Prod.fst) h
    simpa [List.map_map, Function.comp_def] using this
  have h3 : ((m.map (·.1)).map (Value.int .i64)).Pairwise (· ≠ ·) := List.pairwise_map.2 (hk.imp (fun hne e => hne (by injection e)))
  rw [← h2] at h3
  exact List.pairwise_map.1 h3

/-- The step. -/
theorem Rng.next (h : Rng w b r m L) (ty : TypeId) :
    ((∀ k ∈ m.map (·.1), k ∈ L) ∧ (Instr.next (.pointer (some ⟨r, 0, none⟩)) false ty).run P w = .ok (.tuple #[.bool false]) w) ∨
    ∃ k v w', (k, v) ∈ m ∧ k ∉ L ∧ (Instr.next (.pointer (some ⟨r, 0, none⟩)) false ty).run P w = .ok (.tuple #[.bool true, .int .i64 k, v]) w' ∧ Rng w' b r m (L ++ [k]) ∧ w'.rangeLeft b r < w.rangeLeft b r ∧ w.grownBy w' (some r) ∧ w'.heap.size = w.heap.size ∧
      (Instr.entry (.pointer (some ⟨r, 0, none⟩))).run P w' = .ok (.tuple #[.int .i64 k, v]) w' := by
  have hne := h.ne
  obtain ⟨es, clock, hb, hm, hst, hnd⟩ := h.im.ex
  obtain ⟨es', clock', since, seen, c0, hb', hr, hold, hsc, hsk, hseen⟩ := h.ex
  rw [hb] at hb'
  simp only [Option.some.injEq, Obj.map.injEq] at hb'
  obtain ⟨rfl, rfl⟩ := hb'
  rcases run_next_at (P := P) w ty r b since c0 seen es clock hr hb hold hsc with ⟨h0, hrun⟩ | ⟨e, he, w1, hal, hrun⟩
  · refine Or.inl ⟨fun k hk => ?_, hrun⟩
    obtain ⟨p, hp, rfl⟩ := List.mem_map.1 hk
    obtain ⟨x, hx, h1, _⟩ := im_keys' hm hp
    obtain ⟨k', hk', h2⟩ := (hseen x hx).1 (all_seen es seen h0 x hx)
    rw [h1] at h2
    injection h2 with _ h2
    rw [h2]; exact hk'
  · obtain ⟨hem, hes⟩ := mem_left he
    obtain ⟨p, hp, h1, h2⟩ := im_keys hm hem
    have hr1 : w1.heap[r]? = some (.mapIter (some b) since seen c0) := by rcases hal with rfl | rfl <;> exact hr
    have hb1 : w1.heap[b]? = some (.map es clock) := by rcases hal with rfl | rfl <;> exact hb
    have hset : (setBlock w1 r (.mapIter (some b) since (seen.push e.born) clock)).heap[r]? = some (.mapIter (some b) since (seen.push e.born) clock) ∧ ∀ r', r' ≠ r → (setBlock w1 r (.mapIter (some b) since (seen.push e.born) clock)).heap[r']? = w1.heap[r']? := Go.MapKept.heap_set hr1
    have hb2 : (setBlock w1 r (.mapIter (some b) since (seen.push e.born) clock)).heap[b]? = some (.map es clock) := by rw [hset.2 b (Ne.symm hne)]; exact hb1
    have him : IM w1 b m := by rcases hal with rfl | rfl; exact h.im; exact h.im.of_block rfl
    have hkL : p.1 ∉ L := fun hc => by
      have := (hseen e hem).2 ⟨p.1, hc, h1⟩
      rw [hes] at this
      cases this
    have hsz : (setBlock w1 r (.mapIter (some b) since (seen.push e.born) clock)).heap.size = w.heap.size := by rcases hal with rfl | rfl <;> simp [setBlock]
    have hgr : w.grownBy (setBlock w1 r (.mapIter (some b) since (seen.push e.born) clock)) (some r) := by
      rcases hal with rfl | rfl <;> exact ⟨rfl, rfl, rfl, by simp [setBlock], fun i _ hi => hset.2 i (fun e1 => hi (by rw [e1]))⟩
    refine Or.inr ⟨p.1, p.2, _, hp, hkL, by rw [hrun, h1, h2], ⟨him.of_block (hset.2 b (Ne.symm hne)), ⟨es, clock, since, _, clock, hb2, hset.1, hold, hsk, hsk, ?_⟩, ?_, ?_⟩, ?_, hgr, hsz, ?_⟩
    · intro x hx
      rw [contains_push]
      constructor
      · intro hc
        rw [Bool.or_eq_true] at hc
        rcases hc with hc | hc
        · obtain ⟨k, hk, he⟩ := (hseen x hx).1 hc
          exact ⟨k, List.mem_append_left _ hk, he⟩
        · obtain rfl := born_same hnd hx hem (by simpa using hc)
          exact ⟨p.1, by simp, h1⟩
      · rintro ⟨k, hk, he⟩
        rw [Bool.or_eq_true]
        rcases List.mem_append.1 hk with hk | hk
        · exact Or.inl ((hseen x hx).2 ⟨k, hk, he⟩)
        · simp only [List.mem_singleton] at hk
          subst hk
          have := entry_eq_of_key (im_apart h.im.keys hm) hx hem (by rw [he, h1])
          subst this
          exact Or.inr (by simp)
    · rw [List.nodup_append]
      refine ⟨h.nodup, by simp, fun x hx y hy => ?_⟩
      simp only [List.mem_singleton] at hy
      subst hy
      exact fun e => hkL (e ▸ hx)
    · intro k hk
      rcases List.mem_append.1 hk with hk | hk
      · exact h.sub k hk
      · simp only [List.mem_singleton] at hk
        subst hk
        exact List.mem_map.2 ⟨p, hp, rfl⟩
    · unfold World.rangeLeft
      simp only [hb2, hset.1, hb, hr]
      exact left_shrinks es seen e he
    · rw [← h1, ← h2]
      exact run_entry_at _ r b since seen es clock e hset.1 hb2 hem hnd
theorem Rng.perm (h : Rng w b r m L) (hall : ∀ k ∈ m.map (·.1), k ∈ L) : L.Perm (m.map (·.1)) := (List.perm_ext_iff_of_nodup h.nodup h.im.keys).2 (fun k => ⟨h.sub k, hall k⟩)

variable {ops : Array Oper} {rest : List Oper} {o : Oper} {a : Act} {Q : Exit → Act → World → Prop}
theorem wpList_lookup_im (hg : o.guard = none) (x y : Operand) (T : TypeId) (ok : Bool) (hop : o.op = Op.lookup T x y ok) (K E : TypeId) (ht : P.underlying T = some (.map K E)) (hk : P.underlying K = some (.int .i64)) (z : Value) (hz : (zeroValue E).run P w = .ok z w)
    (hx : a.eval x = .map (some b)) (h : IM w b m) (k : Int) (hy : a.eval y = .int .i64 k) (hf : -9223372036854775808 ≤ k ∧ k ≤ 9223372036854775807)
    (hK : wpList P ops Q rest (a.put o.dst (if ok then .tuple #[(lkm m k).getD z, .bool (lkm m k).isSome] else (lkm m k).getD z)) w) : wpList P ops Q (o :: rest) a w := by
  refine wpList_plain hg fun K' hK' => ?_
  have hrun := h.lookup ht hk hz hf ok
  unfold Oper.wp
  simp only [execOp, hop, hx, hy, Sem.run_bind, Sem.run_pure, hrun, Result.andThen]
  exact hK' _ _ hK
theorem wp_put_im {K' : Act → World → Prop} (x y v : Operand) (T : TypeId) (hop : o.op = Op.mapUpdate T x y v) (K E : TypeId) (ht : P.underlying T = some (.map K E)) (hk : P.underlying K = some (.int .i64))
    (hx : a.eval x = .map (some b)) (h : IM w b m) (k : Int) (hy : a.eval y = .int .i64 k) (hf : -9223372036854775808 ≤ k ∧ k ≤ 9223372036854775807) (hl : lkm m k = none) (u : Value) (hv : a.eval v = u)
    (hK : ∀ w', IM w' b (m ++ [(k, u)]) → w.grownBy w' (some b) → w'.heap.size = w.heap.size → K' (a.put o.dst undef) w') : o.wp P a w K' Q := by
  obtain ⟨w', hrun, r1, r2, r3⟩ := h.put ht hk hf hl u
  unfold Oper.wp
  simp [execOp, hop, hx, hy, hv, hrun, Result.andThen]
  exact hK w' r1 r2 r3
theorem wpList_len_im (hg : o.guard = none) (x : Operand) (T : TypeId) (hop : o.op = Op.call { callee := Callee.builtin Builtin.len, args := #[x], argTypes := #[T] }) (K E : TypeId) (ht : P.underlying T = some (.map K E))
    (hx : a.eval x = .map (some b)) (h : IM w b m) (hK : wpList P ops Q rest (a.put o.dst (.int .i64 (m.length : Int))) w) : wpList P ops Q (o :: rest) a w := by
  refine wpList_plain hg fun K' hK' => ?_
  unfold Oper.wp
  simp [execOp, hop, resolve, invoke, builtin, hx, h.len ht o.type, Result.andThen]
  exact hK' _ _ hK
theorem wpList_range_im (hg : o.guard = none) (x : Operand) (T : TypeId) (hop : o.op = Op.range T x) (K E : TypeId) (ht : P.underlying T = some (.map K E)) (hx : a.eval x = .map (some b)) (h : IM w b m)
    (hK : ∀ w', Rng w' b w.heap.size m [] → w.grownBy w' none → w'.heap.size = w.heap.size + 1 → wpList P ops Q rest (a.put o.dst (.pointer (some ⟨w.heap.size, 0, none⟩))) w') : wpList P ops Q (o :: rest) a w := by
  refine wpList_plain hg fun K' hK' => ?_
  obtain ⟨w', hrun, r1, r2, r3⟩ := h.range ht
  unfold Oper.wp
  simp [execOp, hop, hx, hrun, Result.andThen]
  exact hK' _ _ (hK w' r1 r2 r3)
theorem wpList_next_im (hg : o.guard = none) (it : Operand) (hop : o.op = Op.next it false) (hit : a.eval it = .pointer (some ⟨r, 0, none⟩)) (h : Rng w b r m L)
    (hDone : (∀ k ∈ m.map (·.1), k ∈ L) → wpList P ops Q rest (a.put o.dst (.tuple #[.bool false])) w)
    (hMore : ∀ k v w', (k, v) ∈ m → k ∉ L → Rng w' b r m (L ++ [k]) → w'.rangeLeft b r < w.rangeLeft b r → w.grownBy w' (some r) → w'.heap.size = w.heap.size → (Instr.entry (.pointer (some ⟨r, 0, none⟩))).run P w' = .ok (.tuple #[.int .i64 k, v]) w' → wpList P ops Q rest (a.put o.dst (.tuple #[.bool true, .int .i64 k, v])) w') :
    wpList P ops Q (o :: rest) a w := by
  refine wpList_plain hg fun K' hK' => ?_
  unfold Oper.wp
  rcases h.next (P := P) o.type with ⟨hl, hrun⟩ | ⟨k, v, w', h1, h2, hrun, h3, h4, h5, h6, h7⟩
  · simp [execOp, hop, hit, hrun, Result.andThen]
    exact hK' _ _ (hDone hl)
  · simp [execOp, hop, hit, hrun, Result.andThen]
    exact hK' _ _ (hMore k v w' h1 h2 h3 h4 h5 h6 h7)
end
end Go.Wire1
