/- How an argument that is a list of items is opened for the walks; what an item's bytes are; that they are few where the bulk is small. -/
import Derived.Test.YtifhbbljjalpfabDoorOps
import Derived.Test.YtifhbbljjalpfabDoorNew
namespace Go.Proofs.YtifhbbljjalpfabDoor
open Go.ChangeShapes Go.WideShapes Go.ChangeAt Go.RowKit Go.Wire1

/-- One item: its kind, its number, its signed number, its text. -/
structure ItemV where
  kind : Int
  u : Nat
  i : Int
  s : ByteArray
def itemZ : ItemV := ⟨0, 0, 0, ⟨#[]⟩⟩
def ItemOk (o : ItemV) : Prop := o.u < 18446744073709551616 ∧ (-9223372036854775808 ≤ o.i ∧ o.i ≤ 9223372036854775807)
def ItemAt (w : World) (b p : Nat) (o : ItemV) : Prop :=
  w.cell? ⟨b, p, none⟩ = some (.int .i64 o.kind) ∧ w.cell? ⟨b, p + 1, none⟩ = some (.int .u64 (o.u : Int)) ∧ w.cell? ⟨b, p + 2, none⟩ = some (.int .i64 o.i) ∧ w.cell? ⟨b, p + 3, none⟩ = some (.string o.s)
def ItemSeg (w : World) (a : Option Addr) (n : Nat) (items : List ItemV) : Prop :=
  items.length = n ∧ n ≤ maxLen ∧ (0 < n → ∃ b off, a = some ⟨b, off, none⟩ ∧ ∀ i, i < n → ItemAt w b (off + i * 4) (items.getD i itemZ)) ∧ ∀ o ∈ items, ItemOk o
/-- How much a list of items weighs. -/
def heft (items : List ItemV) : Nat := (items.map fun o => o.s.size + 5).sum

theorem ItemSeg.below {w w' : World} {a : Option Addr} {n : Nat} {l : List ItemV} {B : Nat} (h : ItemSeg w a n l) (hb : Below B w w') (hB : w.heap.size ≤ B) : ItemSeg w' a n l := by
  refine ⟨h.1, h.2.1, fun hn => ?_, h.2.2.2⟩
  obtain ⟨b, off, rfl, hc⟩ := h.2.2.1 hn
  refine ⟨b, off, rfl, fun i hi => ?_⟩
  obtain ⟨c0, c1, c2, c3⟩ := hc i hi
  have key : ∀ q v, w.cell? ⟨b, q, none⟩ = some v → w'.cell? ⟨b, q, none⟩ = some v := fun q v hv => by
    rw [hb.cell (p := ⟨b, q, none⟩) (by have := cell_lt hv; show b < B; omega)]; exact hv
  exact ⟨key _ _ c0, key _ _ c1, key _ _ c2, key _ _ c3⟩
theorem itemOk_at {items : List ItemV} (h : ∀ o ∈ items, ItemOk o) (i : Nat) : ItemOk (items.getD i itemZ) := by
  by_cases hi : i < items.length
  · simp only [List.getD_eq_getElem?_getD, List.getElem?_eq_getElem hi, Option.getD_some]; exact h _ (List.getElem_mem hi)
  · have e : items.getD i itemZ = itemZ := by rw [List.getD_eq_getElem?_getD, List.getElem?_eq_none (by omega : items.length ≤ i)]; rfl
    rw [e]
    unfold ItemOk itemZ
    simp only
    omega

/-- An item's bytes. -/
def putL (o : ItemV) : List Int := if o.kind = 0 then enc o.u else if o.kind = 1 then enc (zig o.i) else if o.kind = 2 then [((o.u % 256 : Nat) : Int)] else enc o.s.size ++ txt o.s
def flat (items : List ItemV) : List Int := items.flatMap putL
theorem putL_le {o : ItemV} (h : ItemOk o) (hs : o.s.size < 18446744073709551616) : 1 ≤ (putL o).length ∧ (putL o).length ≤ o.s.size + 10 := by
  unfold putL
  have h1 := enc_le o.u h.1
  have h2 := enc_le (zig o.i) (zig_lt o.i h.2.1 h.2.2)
  have h3 := enc_le o.s.size hs
  split
  · omega
  · split
    · omega
    · split
      · simp
      · rw [List.length_append, txt_len]; omega
theorem putL_byt (o : ItemV) : Byt (putL o) := by
  unfold putL
  split
  · exact byt_enc _
  · split
    · exact byt_enc _
    · split
      · intro z hz; simp at hz; omega
      · exact byt_app (byt_enc _) (txt_byt _)
theorem flat_byt (items : List ItemV) : Byt (flat items) := fun z hz => by
  obtain ⟨o, _, h⟩ := List.mem_flatMap.1 hz
  exact putL_byt o z h
theorem size_le_heft {items : List ItemV} {o : ItemV} (h : o ∈ items) : o.s.size + 5 ≤ heft items := by
  induction items with
  | nil => cases h
  | cons x r ih =>
    unfold heft at ih ⊢
    rw [List.map_cons, List.sum_cons]
    rcases List.mem_cons.1 h with rfl | h'
    · omega
    · have := ih h'; omega
theorem flat_le (items : List ItemV) (h : ∀ o ∈ items, ItemOk o) (hs : ∀ o ∈ items, o.s.size < 18446744073709551616) : (flat items).length ≤ 2 * heft items := by
  induction items with
  | nil => simp [flat, heft]
  | cons x r ih =>
    have h1 := ih (fun o ho => h o (List.mem_cons_of_mem _ ho)) (fun o ho => hs o (List.mem_cons_of_mem _ ho))
    have h2 := (putL_le (h x List.mem_cons_self) (hs x List.mem_cons_self)).2
    unfold flat heft at h1 ⊢
    rw [List.flatMap_cons, List.length_append, List.map_cons, List.sum_cons]
    omega
theorem flat_next {items : List ItemV} {k : Nat} (h : k < items.length) : flat (items.take (k + 1)) = flat (items.take k) ++ putL (items.getD k itemZ) := by
  unfold flat
  rw [List.take_add_one, List.flatMap_append, List.getElem?_eq_getElem h]
  simp [List.getElem?_eq_getElem h]
theorem flat_split (items : List ItemV) (k : Nat) : flat items = flat (items.take k) ++ flat (items.drop k) := by
  unfold flat
  rw [← List.flatMap_append, List.take_append_drop]

theorem bulk_sum {H : Type} : ∀ (es : List (DataW H)) (g : Nat → Nat), (∀ i (hi : i < es.length), Rows.uptoBulk es[i] = g i) → Rows.uptoBulkAll es = ((List.range es.length).map g).sum
  | [], g, _ => by simp [Rows.uptoBulkAll]
  | d :: r, g, h => by
    have h0 := h 0 (by simp)
    have ih := bulk_sum r (fun i => g (i + 1)) (fun i hi => by have := h (i + 1) (by simp; omega); simpa using this)
    rw [List.length_cons, List.range_succ_eq_map, List.map_cons, List.sum_cons, List.map_map]
    show Rows.uptoBulk d + Rows.uptoBulkAll r = _
    rw [ih]
    have h0' : Rows.uptoBulk d = g 0 := h0
    rw [h0']
    rfl

theorem cellsItem : Tryd.prog.cellsOf 46 = 4 := by kernel_rfl
theorem cells2 : Tryd.prog.cellsOf 2 = 1 := by kernel_rfl
theorem cells9 : Tryd.prog.cellsOf 9 = 1 := by kernel_rfl

set_option maxRecDepth 100000 in
theorem item_of {H : Type} {enc : TypeId × Value → H} {W : World} {m : Nat} {cs : List Value} {x : DataW H × List MemPlace}
    (h : DataW.trod enc Tryd.prog W 0 (fun _ => true) true m 46 cs = some x) : ∃ o : ItemV, ItemOk o ∧ cs = [.int .i64 o.kind, .int .u64 (o.u : Int), .int .i64 o.i, .string o.s] ∧ Rows.uptoBulk x.1 = o.s.size + 5 := by
  obtain ⟨xs, n, _, hx1, hl, hx, hf⟩ := DataW.trod_struct Tryd.underlying46 h
  rw [cellsItem] at hl
  match cs, hl with
  | [v0, v1, v2, v3], _ =>
    have hx5 : xs.length = 4 := hx
    match xs, hx5 with
    | [y0, y1, y2, y3], _ =>
      have g0 : DataW.trod enc Tryd.prog W 0 (fun _ => true) true n 3 (([v0, v1, v2, v3].drop 0).take (Tryd.prog.cellsOf 3)) = some y0 := hf 0 _ rfl
      rw [cells3] at g0
      have g1 : DataW.trod enc Tryd.prog W 0 (fun _ => true) true n 22 (([v0, v1, v2, v3].drop 1).take (Tryd.prog.cellsOf 22)) = some y1 := hf 1 _ rfl
      rw [cells22] at g1
      have g2 : DataW.trod enc Tryd.prog W 0 (fun _ => true) true n 2 (([v0, v1, v2, v3].drop 2).take (Tryd.prog.cellsOf 2)) = some y2 := hf 2 _ rfl
      rw [cells2] at g2
      have g3 : DataW.trod enc Tryd.prog W 0 (fun _ => true) true n 9 (([v0, v1, v2, v3].drop 3).take (Tryd.prog.cellsOf 9)) = some y3 := hf 3 _ rfl
      rw [cells9] at g3
      obtain ⟨k0, e0, rfl, _⟩ := DataW.trod_int Tryd.underlying3 g0
      obtain ⟨k1, e1, rfl, w1⟩ := DataW.trod_int Tryd.underlying22 g1
      obtain ⟨k2, e2, rfl, w2⟩ := DataW.trod_int Tryd.underlying2 g2
      obtain ⟨k3, e3, rfl, w3⟩ := DataW.trod_string Tryd.underlying9 g3
      have b1 := bounds_u64 w1
      have b2 := bounds_i64 w2
      obtain ⟨u, rfl⟩ := Int.eq_ofNat_of_zero_le b1.1
      simp only [List.drop_zero, List.drop_succ_cons, List.take_succ_cons, List.take_zero, List.cons.injEq, and_true] at e0 e1 e2 e3
      refine ⟨⟨k0, u, k2, k3⟩, ⟨by show u < _; omega, b2⟩, by rw [e0, e1, e2, e3], ?_⟩
      rw [hx1]
      have : k3.data.toList.length = k3.size := by rw [Array.length_toList]; rfl
      show (1 + (1 + (1 + ((k3.data.toList.length + 1) + 0)))) + 1 = k3.size + 5
      omega

set_option maxRecDepth 100000 in
theorem open_items {H : Type} {enc : TypeId × Value → H} {W : World} {fuel : Nat} {a : Option Addr} {len cap : Nat} {x : DataW H × List MemPlace}
    (h : DataW.trod enc Tryd.prog W 0 (fun _ => true) true fuel 43 [.slice a len cap] = some x) : ∃ items, ItemSeg W a len items ∧ heft items ≤ Rows.uptoBulk x.1 := by
  rcases DataW.trod_slice Tryd.underlying43 h with ⟨hcs, _⟩ | ⟨ad, len', cap', elems, rest, n, _, hcs, hx, _, hl, hm, hlen, hel, _, _⟩
  · simp only [List.cons.injEq, Value.slice.injEq, and_true] at hcs
    obtain ⟨rfl, rfl, rfl⟩ := hcs
    exact ⟨[], ⟨rfl, by unfold maxLen; omega, fun h => by omega, fun o ho => by cases ho⟩, Nat.zero_le _⟩
  · simp only [List.cons.injEq, Value.slice.injEq, and_true] at hcs
    obtain ⟨rfl, rfl, rfl⟩ := hcs
    rw [cellsItem] at hel
    have each : ∀ i, i < len → ∃ o, ItemOk o ∧ W.cells? 0 (ad.add (i * 4)) 4 = some [.int .i64 o.kind, .int .u64 (o.u : Int), .int .i64 o.i, .string o.s] ∧ ∀ y, elems[i]? = some y → Rows.uptoBulk y.1 = o.s.size + 5 := fun i hi => by
      have h1 := hel i hi
      rw [List.getElem?_eq_getElem (by omega), Option.bind_eq_some_iff] at h1
      obtain ⟨cs, hc, ht⟩ := h1
      obtain ⟨o, ho, rfl, hb⟩ := item_of ht
      exact ⟨o, ho, hc, fun y hy => by rw [List.getElem?_eq_getElem (by omega)] at hy; cases hy; exact hb⟩
    have pick : ∃ f : Nat → ItemV, ∀ i, i < len → ItemOk (f i) ∧ W.cells? 0 (ad.add (i * 4)) 4 = some [.int .i64 (f i).kind, .int .u64 ((f i).u : Int), .int .i64 (f i).i, .string (f i).s] ∧ ∀ y, elems[i]? = some y → Rows.uptoBulk y.1 = (f i).s.size + 5 :=
      ⟨fun i => if hi : i < len then (each i hi).choose else itemZ, fun i hi => by simp only [dif_pos hi]; exact (each i hi).choose_spec⟩
    obtain ⟨f, hf⟩ := pick
    refine ⟨(List.range len).map f, ⟨by simp, by omega, fun hn => ?_, fun o ho => ?_⟩, ?_⟩
    · obtain ⟨bb, off, spot⟩ := ad
      have hs0 := (World.cells?_some (hf 0 hn).2.1).2.2 0 (by omega)
      have hs1 : W.cell? ⟨bb, off, spot⟩ = some (.int .i64 (f 0).kind) := by simpa [Addr.add] using hs0
      have hspot : spot = none := World.cell?_spot hs1
      subst hspot
      refine ⟨bb, off, rfl, fun i hi => ?_⟩
      have hget : ((List.range len).map f).getD i itemZ = f i := by simp [hi]
      rw [hget]
      have hc := (World.cells?_some (hf i hi).2.1).2.2
      simp only [add_at] at hc
      exact ⟨by simpa using hc 0 (by omega), hc 1 (by omega), hc 2 (by omega), hc 3 (by omega)⟩
    · obtain ⟨i, hi, rfl⟩ := List.mem_map.1 ho
      exact (hf i (List.mem_range.1 hi)).1
    · rw [hx]
      have hb := bulk_sum (elems.map (·.1)) (fun i => (f i).s.size + 5) (fun i hi => by
        rw [List.getElem_map]
        have hi' : i < elems.length := by simpa using hi
        exact (hf i (by omega)).2.2 _ (List.getElem?_eq_getElem hi'))
      show heft _ ≤ Rows.uptoBulkAll (elems.map (·.1)) + Rows.uptoBulkAll (rest.map (·.1)) + 1
      rw [hb, List.length_map, hlen]
      unfold heft
      rw [List.map_map]
      have : ((fun o : ItemV => o.s.size + 5) ∘ f) = fun i => (f i).s.size + 5 := rfl
      rw [this]
      omega

end Go.Proofs.YtifhbbljjalpfabDoor
