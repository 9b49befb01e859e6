/- How an argument that is a list of calls is opened for the walks. -/
import Derived.Test.YtifhbbljjalpfabDoorArgs
import Derived.ChangeArms
namespace Go.Proofs.YtifhbbljjalpfabDoor
open Go.ChangeShapes Go.WideShapes Go.ChangeAt Go.RowKit Go.Wire1

/-- One call: its kind, at which reader, its bounds. -/
structure OpV where
  kind : Int
  second : Bool
  u : Nat
  a : Int
  b : Int
def opZ : OpV := ⟨0, false, 0, 0, 0⟩
def OpOk (o : OpV) : Prop := o.u < 18446744073709551616 ∧ (-9223372036854775808 ≤ o.a ∧ o.a ≤ 9223372036854775807) ∧ (-9223372036854775808 ≤ o.b ∧ o.b ≤ 9223372036854775807)
def OpAt (w : World) (b p : Nat) (o : OpV) : Prop :=
  w.cell? ⟨b, p, none⟩ = some (.int .i64 o.kind) ∧ w.cell? ⟨b, p + 1, none⟩ = some (.bool o.second) ∧ w.cell? ⟨b, p + 2, none⟩ = some (.int .u64 (o.u : Int)) ∧ w.cell? ⟨b, p + 3, none⟩ = some (.int .i64 o.a) ∧ w.cell? ⟨b, p + 4, none⟩ = some (.int .i64 o.b)
def OpSeg (w : World) (a : Option Addr) (n : Nat) (ops : List OpV) : Prop :=
  ops.length = n ∧ n ≤ maxLen ∧ (0 < n → ∃ b off, a = some ⟨b, off, none⟩ ∧ ∀ i, i < n → OpAt w b (off + i * 5) (ops.getD i opZ)) ∧ ∀ o ∈ ops, OpOk o

theorem OpSeg.below {w w' : World} {a : Option Addr} {n : Nat} {l : List OpV} {B : Nat} (h : OpSeg w a n l) (hb : Below B w w') (hB : w.heap.size ≤ B) : OpSeg w' a n l := by
  refine ⟨h.1, h.2.1, fun hn => ?_, h.2.2.2⟩
  obtain ⟨b, off, rfl, hc⟩ := h.2.2.1 hn
  refine ⟨b, off, rfl, fun i hi => ?_⟩
  obtain ⟨c0, c1, c2, c3, c4⟩ := hc i hi
  have key : ∀ q v, w.cell? ⟨b, q, none⟩ = some v → w'.cell? ⟨b, q, none⟩ = some v := fun q v hv => by
    rw [hb.cell (p := ⟨b, q, none⟩) (by have := cell_lt hv; show b < B; omega)]; exact hv
  exact ⟨key _ _ c0, key _ _ c1, key _ _ c2, key _ _ c3, key _ _ c4⟩
theorem opOk_at {ops : List OpV} (h : ∀ o ∈ ops, OpOk o) (i : Nat) : OpOk (ops.getD i opZ) := by
  by_cases hi : i < ops.length
  · simp only [List.getD_eq_getElem?_getD, List.getElem?_eq_getElem hi, Option.getD_some]; exact h _ (List.getElem_mem hi)
  · have e : ops.getD i opZ = opZ := by rw [List.getD_eq_getElem?_getD, List.getElem?_eq_none (by omega : ops.length ≤ i)]; rfl
    rw [e]
    unfold OpOk opZ
    simp only
    omega

theorem cellsOp : Tryd.prog.cellsOf 39 = 5 := by kernel_rfl
theorem cells3 : Tryd.prog.cellsOf 3 = 1 := by kernel_rfl
theorem cells4 : Tryd.prog.cellsOf 4 = 1 := by kernel_rfl
theorem cells22 : Tryd.prog.cellsOf 22 = 1 := by kernel_rfl

set_option maxRecDepth 100000 in
theorem op_of {H : Type} {enc : TypeId × Value → H} {W : World} {m : Nat} {cs : List Value} {x : DataW H × List MemPlace}
    (h : DataW.trod enc Tryd.prog W 0 (fun _ => true) true m 39 cs = some x) : ∃ o : OpV, OpOk o ∧ cs = [.int .i64 o.kind, .bool o.second, .int .u64 (o.u : Int), .int .i64 o.a, .int .i64 o.b] := by
  obtain ⟨xs, n, _, _, hl, hx, hf⟩ := DataW.trod_struct Tryd.underlying39 h
  rw [cellsOp] at hl
  match cs, hl with
  | [v0, v1, v2, v3, v4], _ =>
    have hx5 : xs.length = 5 := hx
    match xs, hx5 with
    | [y0, y1, y2, y3, y4], _ =>
      have g0 : DataW.trod enc Tryd.prog W 0 (fun _ => true) true n 3 (([v0, v1, v2, v3, v4].drop 0).take (Tryd.prog.cellsOf 3)) = some y0 := hf 0 _ rfl
      rw [cells3] at g0
      have g1 : DataW.trod enc Tryd.prog W 0 (fun _ => true) true n 4 (([v0, v1, v2, v3, v4].drop 1).take (Tryd.prog.cellsOf 4)) = some y1 := hf 1 _ rfl
      rw [cells4] at g1
      have g2 : DataW.trod enc Tryd.prog W 0 (fun _ => true) true n 22 (([v0, v1, v2, v3, v4].drop 2).take (Tryd.prog.cellsOf 22)) = some y2 := hf 2 _ rfl
      rw [cells22] at g2
      have g3 : DataW.trod enc Tryd.prog W 0 (fun _ => true) true n 3 (([v0, v1, v2, v3, v4].drop 3).take (Tryd.prog.cellsOf 3)) = some y3 := hf 3 _ rfl
      rw [cells3] at g3
      have g4 : DataW.trod enc Tryd.prog W 0 (fun _ => true) true n 3 (([v0, v1, v2, v3, v4].drop 4).take (Tryd.prog.cellsOf 3)) = some y4 := hf 4 _ rfl
      rw [cells3] at g4
      obtain ⟨k0, e0, _, _⟩ := DataW.trod_int Tryd.underlying3 g0
      obtain ⟨k1, e1, _⟩ := DataW.trod_bool Tryd.underlying4 g1
      obtain ⟨k2, e2, _, w2⟩ := DataW.trod_int Tryd.underlying22 g2
      obtain ⟨k3, e3, _, w3⟩ := DataW.trod_int Tryd.underlying3 g3
      obtain ⟨k4, e4, _, w4⟩ := DataW.trod_int Tryd.underlying3 g4
      have b2 := bounds_u64 w2
      have b3 := bounds_i64 w3
      have b4 := bounds_i64 w4
      obtain ⟨u, rfl⟩ := Int.eq_ofNat_of_zero_le b2.1
      simp only [List.drop_zero, List.drop_succ_cons, List.take_succ_cons, List.take_zero, List.cons.injEq, and_true] at e0 e1 e2 e3 e4
      refine ⟨⟨k0, k1, u, k3, k4⟩, ⟨by show u < _; omega, b3, b4⟩, by rw [e0, e1, e2, e3, e4]⟩

set_option maxRecDepth 100000 in
theorem open_ops {H : Type} {enc : TypeId × Value → H} {W : World} {fuel : Nat} {a : Option Addr} {len cap : Nat} {x : DataW H × List MemPlace}
    (h : DataW.trod enc Tryd.prog W 0 (fun _ => true) true fuel 36 [.slice a len cap] = some x) : ∃ ops, OpSeg W a len ops := by
  rcases DataW.trod_slice Tryd.underlying36 h with ⟨hcs, _⟩ | ⟨ad, len', cap', elems, rest, n, _, hcs, _, _, hl, hm, hlen, hel, _, _⟩
  · simp only [List.cons.injEq, Value.slice.injEq, and_true] at hcs
    obtain ⟨rfl, rfl, rfl⟩ := hcs
    exact ⟨[], rfl, by unfold maxLen; omega, fun h => by omega, fun o ho => by cases ho⟩
  · simp only [List.cons.injEq, Value.slice.injEq, and_true] at hcs
    obtain ⟨rfl, rfl, rfl⟩ := hcs
    rw [cellsOp] at hel
    have each : ∀ i, i < len → ∃ o, OpOk o ∧ W.cells? 0 (ad.add (i * 5)) 5 = some [.int .i64 o.kind, .bool o.second, .int .u64 (o.u : Int), .int .i64 o.a, .int .i64 o.b] := fun i hi => by
      have h1 := hel i hi
      rw [List.getElem?_eq_getElem (by omega), Option.bind_eq_some_iff] at h1
      obtain ⟨cs, hc, ht⟩ := h1
      obtain ⟨o, ho, rfl⟩ := op_of ht
      exact ⟨o, ho, hc⟩
    have pick : ∃ f : Nat → OpV, ∀ i, i < len → OpOk (f i) ∧ W.cells? 0 (ad.add (i * 5)) 5 = some [.int .i64 (f i).kind, .bool (f i).second, .int .u64 ((f i).u : Int), .int .i64 (f i).a, .int .i64 (f i).b] :=
      ⟨fun i => if hi : i < len then (each i hi).choose else opZ, fun i hi => by simp only [dif_pos hi]; exact (each i hi).choose_spec⟩
    obtain ⟨f, hf⟩ := pick
    refine ⟨(List.range len).map f, by simp, by omega, fun hn => ?_, fun o ho => ?_⟩
    · obtain ⟨bb, off, spot⟩ := ad
      have hs0 := (World.cells?_some (hf 0 hn).2).2.2 0 (by omega)
      have hs1 : W.cell? ⟨bb, off, spot⟩ = some (.int .i64 (f 0).kind) := by simpa [Addr.add] using hs0
      have hspot : spot = none := World.cell?_spot hs1
      subst hspot
      refine ⟨bb, off, rfl, fun i hi => ?_⟩
      have hget : ((List.range len).map f).getD i opZ = f i := by simp [hi]
      rw [hget]
      have hc := (World.cells?_some (hf i hi).2).2.2
      simp only [add_at] at hc
      exact ⟨by simpa using hc 0 (by omega), hc 1 (by omega), hc 2 (by omega), hc 3 (by omega), hc 4 (by omega)⟩
    · obtain ⟨i, hi, rfl⟩ := List.mem_map.1 ho
      exact (hf i (List.mem_range.1 hi)).1

end Go.Proofs.YtifhbbljjalpfabDoor
