/- A map keyed by ints, in memory, whatever its elements: what it holds, in the order in which it was laid; what is looked up, laid in, counted, ranged over. -/
import Derived.Test.YtdpphagogjdjjaaMath
import Derived.Maps.RangeWalk
namespace Go.Wire1
open Go.RowKit
open Go.ChangeMaps (setBlock heap_setBlock_same heap_setBlock_other)
open Go.Maps (Keyed int_keyed keyOf_int_mk)

/-- Block b is a map that holds these, in the order in which they were laid. -/
structure IM (w : World) (b : Nat) (m : List (Int × Value)) : Prop where
  ex : ∃ es clock, w.heap[b]? = some (.map es clock) ∧ es.toList.map (fun e => (e.key, e.val)) = m.map (fun p => (Value.int .i64 p.1, p.2)) ∧ (∀ e ∈ es.toList, e.born < clock) ∧ (es.toList.map (·.born)).Nodup
  keys : (m.map (·.1)).Nodup
  fit : ∀ p ∈ m, -9223372036854775808 ≤ p.1 ∧ p.1 ≤ 9223372036854775807

/-- What is held at a key. -/
def lkm {α : Type} (m : List (Int × α)) (k : Int) : Option α := (m.find? (fun p => p.1 == k)).map (·.2)

theorem lkm_none {α : Type} {m : List (Int × α)} {k : Int} (h : ∀ p ∈ m, p.1 ≠ k) : lkm m k = none := by
  unfold lkm
  rw [List.find?_eq_none.2 (fun p hp => by simpa using h p hp)]; rfl
theorem lkm_at {α : Type} {m : List (Int × α)} {p : Int × α} (hn : (m.map (·.1)).Nodup) (h : p ∈ m) : lkm m p.1 = some p.2 := by
  unfold lkm
  induction m with
  | nil => cases h
  | cons q r ih =>
    simp only [List.map_cons, List.nodup_cons] at hn
    rcases List.mem_cons.1 h with rfl | h'
    · simp
    · have hne : q.1 ≠ p.1 := fun e => hn.1 (by rw [e]; exact List.mem_map.2 ⟨p, h', rfl⟩)
      have : (q.1 == p.1) = false := by simp [hne]
      rw [List.find?_cons, this]
      exact ih hn.2 h'
theorem lkm_some {α : Type} {m : List (Int × α)} {k : Int} {v : α} (h : lkm m k = some v) : (k, v) ∈ m := by
  unfold lkm at h
  cases hf : m.find? (fun p => p.1 == k) with
  | none => rw [hf] at h; cases h
  | some p =>
    rw [hf] at h
    simp only [Option.map_some, Option.some.injEq] at h
    have h1 := List.mem_of_find?_eq_some hf
    have h2 := List.find?_some hf
    simp only [beq_iff_eq] at h2
    subst h h2
    exact h1
theorem lkm_mem {α : Type} {m : List (Int × α)} {k : Int} : (lkm m k).isSome = true ↔ k ∈ m.map (·.1) := by
  constructor
  · intro h
    obtain ⟨v, hv⟩ := Option.isSome_iff_exists.1 h
    exact List.mem_map.2 ⟨_, lkm_some hv, rfl⟩
  · intro h
    cases hl : lkm m k with
    | some v => rfl
    | none =>
      obtain ⟨p, hp, rfl⟩ := List.mem_map.1 h
      unfold lkm at hl
      rw [Option.map_eq_none_iff, List.find?_eq_none] at hl
      exact absurd (hl p hp) (by simp)
/-- The same, its elements put otherwise. -/
def mapV {α β : Type} (f : α → β) (m : List (Int × α)) : List (Int × β) := m.map fun p => (p.1, f p.2)
theorem mapV_keys {α β : Type} (f : α → β) (m : List (Int × α)) : (mapV f m).map (·.1) = m.map (·.1) := by simp [mapV]
theorem mapV_append {α β : Type} (f : α → β) (m r : List (Int × α)) : mapV f (m ++ r) = mapV f m ++ mapV f r := by simp [mapV]
theorem lkm_mapV {α β : Type} (f : α → β) (m : List (Int × α)) (k : Int) : lkm (mapV f m) k = (lkm m k).map f := by
  induction m with
  | nil => rfl
  | cons q r ih =>
    unfold lkm mapV at *
    rw [List.map_cons, List.find?_cons, List.find?_cons]
    show Option.map _ (match q.1 == k with | true => _ | false => _) = _
    cases q.1 == k
    · exact ih
    · rfl

section
variable {P : Program} {w : World} {b : Nat} {m : List (Int × Value)}

theorem IM.lt (h : IM w b m) : b < w.heap.size := by
  obtain ⟨es, clock, hb, _⟩ := h.ex
  exact (Array.getElem?_eq_some_iff.1 hb).1
theorem IM.of_block {w' : World} (h : IM w b m) (e : w'.heap[b]? = w.heap[b]?) : IM w' b m := by
  obtain ⟨es, clock, hb, r⟩ := h.ex
  exact ⟨⟨es, clock, e.trans hb, r⟩, h.keys, h.fit⟩
theorem IM.below {w' : World} {B : Nat} (h : IM w b m) (hb : Below B w w') (hB : b < B) : IM w' b m := h.of_block (hb.block b hB)
theorem IM.on {w' : World} (h : IM w b m) (hb : Below w.heap.size w w') : IM w' b m := h.below hb h.lt
theorem IM.drewN (h : IM w b m) (q : Nat) : IM (w.drewN q) b m := h.of_block rfl
theorem im_new (w : World) : IM (w.alloc (.map #[] 0)) w.heap.size [] := ⟨⟨#[], 0, (MapKept.heap_alloc w _).1, rfl, by simp, by simp⟩, by simp, by simp⟩
theorem key_fit {K : TypeId} (hk : P.underlying K = some (.int .i64)) {k : Int} (h : -9223372036854775808 ≤ k ∧ k ≤ 9223372036854775807) : keyOf P K (.int .i64 k) = some (.int .i64 k) := keyOf_int_mk hk (WalkArith.wf_i64 (by omega))
theorem im_keys {es : Array MapEntry} (h : es.toList.map (fun e => (e.key, e.val)) = m.map (fun p => (Value.int .i64 p.1, p.2))) {e : MapEntry} (he : e ∈ es.toList) : ∃ p ∈ m, e.key = .int .i64 p.1 ∧ e.val = p.2 := by
  have : (e.key, e.val) ∈ m.map (fun p => (Value.int .i64 p.1, p.2)) := by rw [← h]; exact List.mem_map.2 ⟨e, he, rfl⟩
  obtain ⟨p, hp, hq⟩ := List.mem_map.1 this
  injection hq with h1 h2
  exact ⟨p, hp, h1.symm, h2.symm⟩
theorem im_keys' {es : Array MapEntry} (h : es.toList.map (fun e => (e.key, e.val)) = m.map (fun p => (Value.int .i64 p.1, p.2))) {p : Int × Value} (hp : p ∈ m) : ∃ e ∈ es.toList, e.key = .int .i64 p.1 ∧ e.val = p.2 := by
  have : (Value.int .i64 p.1, p.2) ∈ es.toList.map (fun e => (e.key, e.val)) := by rw [h]; exact List.mem_map.2 ⟨p, hp, rfl⟩
  obtain ⟨e, he, hq⟩ := List.mem_map.1 this
  injection hq with h1 h2
  exact ⟨e, he, h1, h2⟩
theorem im_len {es : Array MapEntry} (h : es.toList.map (fun e => (e.key, e.val)) = m.map (fun p => (Value.int .i64 p.1, p.2))) : es.size = m.length := by
  have := congrArg List.length h
  simpa using this

/-- 'm[k]', 'v, ok := m[k]'. -/
theorem IM.lookup (h : IM w b m) {T K E : TypeId} (ht : P.underlying T = some (.map K E)) (hk : P.underlying K = some (.int .i64)) {z : Value} (hz : (zeroValue E).run P w = .ok z w) {k : Int} (hf : -9223372036854775808 ≤ k ∧ k ≤ 9223372036854775807) (ok : Bool) :
    (Instr.lookup T (.map (some b)) (.int .i64 k) ok).run P w = .ok (if ok then .tuple #[(lkm m k).getD z, .bool (lkm m k).isSome] else (lkm m k).getD z) w := by
  obtain ⟨es, clock, hb, hm, hst, hnd⟩ := h.ex
  have KK := int_keyed hk
  have hkey := key_fit hk hf
  have hall : ∀ e ∈ es.toList, ∃ l, keyOf P K e.key = some l := fun e he => by
    obtain ⟨p, hp, h1, _⟩ := im_keys hm he
    exact ⟨_, by rw [h1]; exact key_fit hk (h.fit p hp)⟩
  rcases KK.find w hkey es.toList hall with ⟨h1, h2⟩ | ⟨j, e0, h1, h2, h3⟩
  · have hl : lkm m k = none := lkm_none (fun p hp e => by
      obtain ⟨x, hx, h4, _⟩ := im_keys' hm hp
      exact h2 x hx (by rw [h4, e]))
    rw [hl]
    cases ok <;> simp [Instr.lookup, run_underlying ht, MapKept.run_getObj_map hb, KK.check w _ hkey, h1, hz, Result.andThen]
  · have he := List.mem_of_getElem? h2
    obtain ⟨p, hp, h4, h5⟩ := im_keys hm he
    rw [h3] at h4
    injection h4 with _ h4
    subst h4
    rw [lkm_at h.keys hp, ← h5]
    cases ok <;> simp [Instr.lookup, run_underlying ht, MapKept.run_getObj_map hb, KK.check w _ hkey, h1, Result.andThen]

/-- 'm[k] = v' at a key that is not there. -/
theorem IM.put (h : IM w b m) {T K E : TypeId} (ht : P.underlying T = some (.map K E)) (hk : P.underlying K = some (.int .i64)) {k : Int} (hf : -9223372036854775808 ≤ k ∧ k ≤ 9223372036854775807) (hl : lkm m k = none) (v : Value) :
    ∃ w', (Instr.mapUpdate T (.map (some b)) (.int .i64 k) v).run P w = .ok () w' ∧ IM w' b (m ++ [(k, v)]) ∧ w.grownBy w' (some b) ∧ w'.heap.size = w.heap.size := by
  obtain ⟨es, clock, hb, hm, hst, hnd⟩ := h.ex
  have KK := int_keyed hk
  have hkey := key_fit hk hf
  have hall : ∀ e ∈ es.toList, ∃ l, keyOf P K e.key = some l := fun e he => by
    obtain ⟨p, hp, h1, _⟩ := im_keys hm he
    exact ⟨_, by rw [h1]; exact key_fit hk (h.fit p hp)⟩
  have hno : k ∉ m.map (·.1) := fun hc => by
    have := lkm_mem.2 hc
    rw [hl] at this
    cases this
  rcases KK.find w hkey es.toList hall with ⟨h1, h2⟩ | ⟨j, e0, h1, h2, h3⟩
  · refine ⟨setBlock w b (.map (es.push { key := .int .i64 k, val := v, born := clock }) (clock + 1)), ?_, ⟨⟨_, _, heap_setBlock_same hb _, ?_, ?_, ?_⟩, ?_, ?_⟩, ⟨rfl, rfl, rfl, by simp [setBlock], fun i _ hi => heap_setBlock_other hb _ (fun e => hi (by rw [e]))⟩, by simp [setBlock]⟩
    · simp [Instr.mapUpdate, run_underlying ht, MapKept.run_getObj_map hb, KK.check w _ hkey, h1, MapKept.run_setObj_map _ hb, Result.andThen, setBlock]
    · simp [hm]
    · intro e he
      simp only [Array.toList_push, List.mem_append, List.mem_singleton] at he
      rcases he with he | rfl
      · have := hst e he; omega
      · simp
    · simp only [Array.toList_push, List.map_append, List.map_cons, List.map_nil]
      rw [List.nodup_append]
      refine ⟨hnd, by simp, fun x hx y hy => ?_⟩
      obtain ⟨e, he, rfl⟩ := List.mem_map.1 hx
      simp only [List.mem_singleton] at hy
      have := hst e he
      omega
    · rw [List.map_append, List.nodup_append]
      refine ⟨h.keys, by simp, fun x hx y hy => ?_⟩
      simp only [List.map_cons, List.map_nil, List.mem_singleton] at hy
      subst hy
      exact fun e => hno (e ▸ hx)
    · intro p hp
      rcases List.mem_append.1 hp with hp | hp
      · exact h.fit p hp
      · simp only [List.mem_singleton] at hp
        subst hp
        exact hf
  · have he := List.mem_of_getElem? h2
    obtain ⟨p, hp, h4, h5⟩ := im_keys hm he
    rw [h3] at h4
    injection h4 with _ h4
    exact absurd (List.mem_map.2 ⟨p, hp, h4.symm⟩) hno

/-- 'len(m)'. -/
theorem IM.len (h : IM w b m) {T K E : TypeId} (ht : P.underlying T = some (.map K E)) (ty : TypeId) : (Builtin.len_ #[T] ty #[.map (some b)]).run P w = .ok (.int .i64 (m.length : Int)) w := by
  obtain ⟨es, clock, hb, hm, hst, hnd⟩ := h.ex
  have := im_len hm
  simp [Builtin.len_, goInt, run_underlying ht, MapKept.run_getObj_map hb, Result.andThen, this]
end
end Go.Wire1
