/- How arguments that are attributes, votes and lists of votes are opened for the walks. -/
import Derived.Test.YtmplipkdaplpnaaVArgs
import Derived.Test.YtmplipkdaplpnaaCArgs
import Derived.Test.YtmplipkdaplpnaaQTly0
import Derived.Test.YtmplipkdaplpnaaQVote
namespace Go.Proofs.Ytmplipkdaplpnaa
open Go.ChangeShapes Go.WideShapes Go.ChangeAt Go.RowKit Go.Wire1

theorem qcellsV : Try.prog.cellsOf 33 = 15 := by kernel_rfl
theorem qcellsA : Try.prog.cellsOf 24 = 2 := by kernel_rfl
theorem qcellsB : Try.prog.cellsOf 29 = 2 := by kernel_rfl
theorem qcellsC : Try.prog.cellsOf 31 = 8 := by kernel_rfl
theorem qcellsL : Try.prog.cellsOf 4 = 1 := by kernel_rfl
theorem qcellsS : Try.prog.cellsOf 22 = 1 := by kernel_rfl
theorem qcellsI : Try.prog.cellsOf 3 = 1 := by kernel_rfl
theorem qcellsJ : Try.prog.cellsOf 2 = 1 := by kernel_rfl
theorem qcellsT : Try.prog.cellsOf 9 = 1 := by kernel_rfl
theorem qbytesV : Try.prog.bytesOf 33 = 168 := by kernel_rfl
theorem qbnd {x : Int} (h : (Lit.int .i64 x).wf = true) : -9223372036854775808 ≤ x ∧ x ≤ 9223372036854775807 := by have := bounds_i64 h; omega
set_option maxHeartbeats 2000000 in
theorem list15 {α : Type} {l : List α} (h : l.length = 15) : ∃ c0 c1 c2 c3 c4 c5 c6 c7 c8 c9 c10 c11 c12 c13 c14, l = [c0, c1, c2, c3, c4, c5, c6, c7, c8, c9, c10, c11, c12, c13, c14] := by
  match l, h with
  | [c0, c1, c2, c3, c4, c5, c6, c7, c8, c9, c10, c11, c12, c13, c14], _ => exact ⟨c0, c1, c2, c3, c4, c5, c6, c7, c8, c9, c10, c11, c12, c13, c14, rfl⟩
/-- Its numbers are of 64 bits. -/
structure VIn (v : Vt) : Prop where
  fr : -9223372036854775808 ≤ v.fr ∧ v.fr ≤ 9223372036854775807
  st : -9223372036854775808 ≤ v.st ∧ v.st ≤ 9223372036854775807
  rd : -9223372036854775808 ≤ v.rd ∧ v.rd ≤ 9223372036854775807
  who : -9223372036854775808 ≤ v.who ∧ v.who ≤ 9223372036854775807
  seq : -9223372036854775808 ≤ v.seq ∧ v.seq ≤ 9223372036854775807
section
variable {H : Type} {enc : TypeId × Value → H} {W : World} {n : Nat}
theorem qballot {a b : Value} {y : DataW H × List MemPlace} (h : DataW.trod enc Try.prog W 0 (fun _ => true) true n 29 [a, b] = some y) : ∃ i j : Int, a = .int .i64 i ∧ b = .int .i64 j ∧ (-9223372036854775808 ≤ i ∧ i ≤ 9223372036854775807) ∧ (-9223372036854775808 ≤ j ∧ j ≤ 9223372036854775807) := by
  obtain ⟨xs, m, _, hx, _, hlen, hf⟩ := DataW.trod_struct Try.underlying29 h
  match xs, hlen with
  | [y0, y1], _ =>
    have t0 : DataW.trod enc Try.prog W 0 (fun _ => true) true m 3 (([a, b].drop 0).take (Try.prog.cellsOf 3)) = some y0 := hf 0 _ rfl
    have t1 : DataW.trod enc Try.prog W 0 (fun _ => true) true m 3 (([a, b].drop 1).take (Try.prog.cellsOf 3)) = some y1 := hf 1 _ rfl
    rw [qcellsI] at t0 t1
    obtain ⟨k0, e0, z0, w0⟩ := DataW.trod_int Try.underlying3 t0
    obtain ⟨k1, e1, z1, w1⟩ := DataW.trod_int Try.underlying3 t1
    simp only [List.drop, List.take, List.cons.injEq, and_true] at e0 e1
    exact ⟨k0, k1, e0, e1, qbnd w0, qbnd w1⟩
theorem qcmd {c0 c1 c2 c3 c4 c5 c6 c7 : Value} {y : DataW H × List MemPlace} (h : DataW.trod enc Try.prog W 0 (fun _ => true) true n 31 [c0, c1, c2, c3, c4, c5, c6, c7] = some y) :
    ∃ c : Cm, [c0, c1, c2, c3, c4, c5, c6, c7] = [.int .i64 c.kind, .int .i64 c.client, .int .i64 c.req, .string c.key, .string c.key2, .string c.val, .string c.old, .int .i64 c.n] := by
  obtain ⟨xs, m, _, hx, _, hlen, hf⟩ := DataW.trod_struct Try.underlying31 h
  match xs, hlen with
  | [y0, y1, y2, y3, y4, y5, y6, y7], _ =>
    have t0 : DataW.trod enc Try.prog W 0 (fun _ => true) true m 3 (([c0, c1, c2, c3, c4, c5, c6, c7].drop 0).take (Try.prog.cellsOf 3)) = some y0 := hf 0 _ rfl
    rw [qcellsI] at t0
    have t1 : DataW.trod enc Try.prog W 0 (fun _ => true) true m 3 (([c0, c1, c2, c3, c4, c5, c6, c7].drop 1).take (Try.prog.cellsOf 3)) = some y1 := hf 1 _ rfl
    rw [qcellsI] at t1
    have t2 : DataW.trod enc Try.prog W 0 (fun _ => true) true m 3 (([c0, c1, c2, c3, c4, c5, c6, c7].drop 2).take (Try.prog.cellsOf 3)) = some y2 := hf 2 _ rfl
    rw [qcellsI] at t2
    have t3 : DataW.trod enc Try.prog W 0 (fun _ => true) true m 9 (([c0, c1, c2, c3, c4, c5, c6, c7].drop 3).take (Try.prog.cellsOf 9)) = some y3 := hf 3 _ rfl
    rw [qcellsT] at t3
    have t4 : DataW.trod enc Try.prog W 0 (fun _ => true) true m 9 (([c0, c1, c2, c3, c4, c5, c6, c7].drop 4).take (Try.prog.cellsOf 9)) = some y4 := hf 4 _ rfl
    rw [qcellsT] at t4
    have t5 : DataW.trod enc Try.prog W 0 (fun _ => true) true m 9 (([c0, c1, c2, c3, c4, c5, c6, c7].drop 5).take (Try.prog.cellsOf 9)) = some y5 := hf 5 _ rfl
    rw [qcellsT] at t5
    have t6 : DataW.trod enc Try.prog W 0 (fun _ => true) true m 9 (([c0, c1, c2, c3, c4, c5, c6, c7].drop 6).take (Try.prog.cellsOf 9)) = some y6 := hf 6 _ rfl
    rw [qcellsT] at t6
    have t7 : DataW.trod enc Try.prog W 0 (fun _ => true) true m 2 (([c0, c1, c2, c3, c4, c5, c6, c7].drop 7).take (Try.prog.cellsOf 2)) = some y7 := hf 7 _ rfl
    rw [qcellsJ] at t7
    obtain ⟨k0, e0, _, _⟩ := DataW.trod_int Try.underlying3 t0
    obtain ⟨k1, e1, _, _⟩ := DataW.trod_int Try.underlying3 t1
    obtain ⟨k2, e2, _, _⟩ := DataW.trod_int Try.underlying3 t2
    obtain ⟨k3, e3, _, _⟩ := DataW.trod_string Try.underlying9 t3
    obtain ⟨k4, e4, _, _⟩ := DataW.trod_string Try.underlying9 t4
    obtain ⟨k5, e5, _, _⟩ := DataW.trod_string Try.underlying9 t5
    obtain ⟨k6, e6, _, _⟩ := DataW.trod_string Try.underlying9 t6
    obtain ⟨k7, e7, _, _⟩ := DataW.trod_int Try.underlying2 t7
    simp only [List.drop, List.take, List.cons.injEq, and_true] at e0 e1 e2 e3 e4 e5 e6 e7
    subst e0 e1 e2 e3 e4 e5 e6 e7
    exact ⟨⟨k0, k1, k2, k3, k4, k5, k6, k7⟩, rfl⟩
set_option maxHeartbeats 2000000 in
set_option maxRecDepth 100000 in
theorem qvote {l : List Value} (hl : l.length = 15) {y : DataW H × List MemPlace} (h : DataW.trod enc Try.prog W 0 (fun _ => true) true n 33 l = some y) : ∃ v : Vt, l = vcs v ∧ Vok W v ∧ VIn v := by
  obtain ⟨c0, c1, c2, c3, c4, c5, c6, c7, c8, c9, c10, c11, c12, c13, c14, rfl⟩ := list15 hl
  obtain ⟨xs, m, _, hx, _, hlen, hf⟩ := DataW.trod_struct Try.underlying33 h
  match xs, hlen with
  | [y0, y1, y2, y3, y4, y5, y6], _ =>
    have t0 : DataW.trod enc Try.prog W 0 (fun _ => true) true m 3 (([c0, c1, c2, c3, c4, c5, c6, c7, c8, c9, c10, c11, c12, c13, c14].drop 0).take (Try.prog.cellsOf 3)) = some y0 := hf 0 _ rfl
    rw [qcellsI] at t0
    replace t0 : DataW.trod enc Try.prog W 0 (fun _ => true) true m 3 [c0] = some y0 := t0
    have t1 : DataW.trod enc Try.prog W 0 (fun _ => true) true m 3 (([c0, c1, c2, c3, c4, c5, c6, c7, c8, c9, c10, c11, c12, c13, c14].drop 1).take (Try.prog.cellsOf 3)) = some y1 := hf 1 _ rfl
    rw [qcellsI] at t1
    replace t1 : DataW.trod enc Try.prog W 0 (fun _ => true) true m 3 [c1] = some y1 := t1
    have t2 : DataW.trod enc Try.prog W 0 (fun _ => true) true m 4 (([c0, c1, c2, c3, c4, c5, c6, c7, c8, c9, c10, c11, c12, c13, c14].drop 2).take (Try.prog.cellsOf 4)) = some y2 := hf 2 _ rfl
    rw [qcellsL] at t2
    replace t2 : DataW.trod enc Try.prog W 0 (fun _ => true) true m 4 [c2] = some y2 := t2
    have t3 : DataW.trod enc Try.prog W 0 (fun _ => true) true m 29 (([c0, c1, c2, c3, c4, c5, c6, c7, c8, c9, c10, c11, c12, c13, c14].drop 3).take (Try.prog.cellsOf 29)) = some y3 := hf 3 _ rfl
    rw [qcellsB] at t3
    replace t3 : DataW.trod enc Try.prog W 0 (fun _ => true) true m 29 [c3, c4] = some y3 := t3
    have t4 : DataW.trod enc Try.prog W 0 (fun _ => true) true m 31 (([c0, c1, c2, c3, c4, c5, c6, c7, c8, c9, c10, c11, c12, c13, c14].drop 5).take (Try.prog.cellsOf 31)) = some y4 := hf 4 _ rfl
    rw [qcellsC] at t4
    replace t4 : DataW.trod enc Try.prog W 0 (fun _ => true) true m 31 [c5, c6, c7, c8, c9, c10, c11, c12] = some y4 := t4
    have t5 : DataW.trod enc Try.prog W 0 (fun _ => true) true m 3 (([c0, c1, c2, c3, c4, c5, c6, c7, c8, c9, c10, c11, c12, c13, c14].drop 13).take (Try.prog.cellsOf 3)) = some y5 := hf 5 _ rfl
    rw [qcellsI] at t5
    replace t5 : DataW.trod enc Try.prog W 0 (fun _ => true) true m 3 [c13] = some y5 := t5
    have t6 : DataW.trod enc Try.prog W 0 (fun _ => true) true m 22 (([c0, c1, c2, c3, c4, c5, c6, c7, c8, c9, c10, c11, c12, c13, c14].drop 14).take (Try.prog.cellsOf 22)) = some y6 := hf 6 _ rfl
    rw [qcellsS] at t6
    replace t6 : DataW.trod enc Try.prog W 0 (fun _ => true) true m 22 [c14] = some y6 := t6
    obtain ⟨k0, e0, z0, w0⟩ := DataW.trod_int Try.underlying3 t0
    obtain ⟨k1, e1, z1, w1⟩ := DataW.trod_int Try.underlying3 t1
    obtain ⟨k2, e2, z2⟩ := DataW.trod_bool Try.underlying4 t2
    obtain ⟨i3, j3, rfl, rfl, u3, u4⟩ := qballot t3
    obtain ⟨c, ec⟩ := qcmd t4
    obtain ⟨k5, e5, z5, w5⟩ := DataW.trod_int Try.underlying3 t5
    obtain ⟨a, len, cap, e6⟩ := Go.Joins.slice_form Try.underlying22 t6
    rw [e6] at t6
    obtain ⟨l, hseg, hcap, _⟩ := vopen_ints t6
    simp only [List.cons.injEq, and_true] at e0 e1 e2 ec e5 e6
    obtain ⟨f0, f1, f2, f3, f4, f5, f6, f7⟩ := ec
    subst e0 e1 e2 e5 e6 f0 f1 f2 f3 f4 f5 f6 f7
    exact ⟨⟨k0, k1, k2, i3, j3, c, k5, a, len, cap, l⟩, rfl, ⟨hseg, hcap, qbnd w0⟩, ⟨qbnd w0, qbnd w1, u3, u4, qbnd w5⟩⟩
end
set_option maxRecDepth 100000 in
theorem qopen_vote {H : Type} {enc : TypeId × Value → H} {W : World} {b0 : Nat} {v : Value} {d : DataW H} {p : List MemPlace}
    (hv : Value.okWide Try.prog W .any b0 33 v) (h : DataW.Trod enc Try.prog W 0 (fun _ => true) true 33 v d p) : ∃ u : Vt, v = .agg (vcs u).toArray ∧ Vok W u ∧ VIn u := by
  obtain ⟨cs, rfl, hsz⟩ := okWide_struct Try.underlying33 hv
  obtain ⟨fuel, hf⟩ := h
  obtain ⟨u, hu, h1, h2⟩ := qvote (l := cs.toList) (by rw [Array.length_toList, hsz]; exact qcellsV) hf
  exact ⟨u, by rw [← hu, Array.toArray_toList], h1, h2⟩
set_option maxRecDepth 100000 in
theorem qopen_attr {H : Type} {enc : TypeId × Value → H} {W : World} {b0 : Nat} {v : Value} {d : DataW H} {p : List MemPlace}
    (hv : Value.okWide Try.prog W .any b0 24 v) (h : DataW.Trod enc Try.prog W 0 (fun _ => true) true 24 v d p) : ∃ (seq : Int) (a : Option Addr) (k c : Nat) (l : List Int), v = .agg #[.int .i64 seq, .slice a k c] ∧ SegI W a k l ∧ k ≤ c ∧ (-9223372036854775808 ≤ seq ∧ seq ≤ 9223372036854775807) := by
  obtain ⟨c0, c1, y0, y1, n, rfl, _, _, t0, t1⟩ := Go.Joins.open_agg2 Try.underlying24 (by kernel_rfl) qcellsA hv h
  obtain ⟨k0, e0, _, w0⟩ := DataW.trod_int Try.underlying3 t0
  obtain ⟨a, len, cap, e6⟩ := Go.Joins.slice_form Try.underlying22 t1
  rw [e6] at t1
  obtain ⟨l, hseg, hcap, _⟩ := vopen_ints t1
  simp only [List.cons.injEq, and_true] at e0 e6
  subst e0 e6
  exact ⟨k0, a, len, cap, l, rfl, hseg, hcap, qbnd w0⟩
/-- A list of votes in memory. -/
structure VRow (w : World) (a : Option Addr) (n : Nat) (vs : List Vt) : Prop where
  row : RowS w 15 a n (vs.map vcs)
  ok : ∀ v ∈ vs, Vok w v
  inn : ∀ v ∈ vs, VIn v
  top : n * 168 ≤ 140737488351232
theorem VRow.len {w : World} {a : Option Addr} {n : Nat} {vs : List Vt} (h : VRow w a n vs) : vs.length = n := by have := h.row.len; rwa [List.length_map] at this
theorem VRow.below {w w' : World} {a : Option Addr} {n B : Nat} {vs : List Vt} (h : VRow w a n vs) (hb : Below B w w') (hB : w.heap.size ≤ B) : VRow w' a n vs := ⟨h.row.below hb hB (by decide), fun v hv => (h.ok v hv).below hb hB, h.inn, h.top⟩
set_option maxRecDepth 100000 in
theorem qopen_votes {H : Type} {enc : TypeId × Value → H} {W : World} {fuel : Nat} {a : Option Addr} {len cap : Nat} {x : DataW H × List MemPlace}
    (h : DataW.trod enc Try.prog W 0 (fun _ => true) true fuel 25 [.slice a len cap] = some x) (hw : ∀ m ∈ x.1.weights Try.prog 25, m ≤ reachBytes) : ∃ vs, VRow W a len vs ∧ len ≤ cap := by
  rcases DataW.trod_slice Try.underlying25 h with ⟨hcs, _⟩ | ⟨ad, len', cap', elems, rest, n, _, hcs, hx, _, hl, hm, hlen, hel, hsp, _⟩
  · simp only [List.cons.injEq, Value.slice.injEq, and_true] at hcs
    obtain ⟨rfl, rfl, rfl⟩ := hcs
    exact ⟨[], ⟨rows_nil _ _ _, (fun v h => by cases h), (fun v h => by cases h), by omega⟩, by omega⟩
  · simp only [List.cons.injEq, Value.slice.injEq, and_true] at hcs
    obtain ⟨rfl, rfl, rfl⟩ := hcs
    rw [qcellsV] at hel
    have hwt : x.1.weights Try.prog 25 = ((elems.map (·.1)).length + (rest.map (·.1)).length) * Try.prog.bytesOf 33 :: (DataW.weightsAll Try.prog 33 (elems.map (·.1)) ++ DataW.weightsAll Try.prog 33 (rest.map (·.1))) := by
      rw [hx]
      show DataW.weights Try.prog 25 (.slice _ _) = _
      unfold DataW.weights
      rw [Try.underlying25]
    rw [hwt] at hw
    have htop : len * 168 ≤ 140737488351232 := by
      have h1 := hw _ List.mem_cons_self
      rw [qbytesV, List.length_map, List.length_map, hlen, (hsp rfl).1] at h1
      simp only [reachBytes] at h1
      have : len + (cap - len) = cap := by omega
      rw [this] at h1
      exact Nat.le_trans (Nat.mul_le_mul_right 168 hl) h1
    have each : ∀ i, i < len → ∃ v : Vt, (Vok W v ∧ VIn v) ∧ W.cells? 0 (ad.add (i * 15)) 15 = some (vcs v) := fun i hi => by
      have h1 := hel i hi
      have hge : elems[i]? = some elems[i] := List.getElem?_eq_getElem (by omega)
      rw [hge, Option.bind_eq_some_iff] at h1
      obtain ⟨cs, hc, ht⟩ := h1
      obtain ⟨v, hv, h2, h3⟩ := qvote (World.cells?_some hc).2.1 ht
      exact ⟨v, ⟨h2, h3⟩, by rw [← hv]; exact hc⟩
    have pick : ∃ f : Nat → Vt, ∀ i, i < len → (Vok W (f i) ∧ VIn (f i)) ∧ W.cells? 0 (ad.add (i * 15)) 15 = some (vcs (f i)) :=
      ⟨fun i => if hi : i < len then (each i hi).choose else ⟨0, 0, false, 0, 0, ⟨0, 0, 0, ⟨#[]⟩, ⟨#[]⟩, ⟨#[]⟩, ⟨#[]⟩, 0⟩, 0, none, 0, 0, []⟩, fun i hi => by simp only [dif_pos hi]; exact (each i hi).choose_spec⟩
    obtain ⟨f, hf⟩ := pick
    refine ⟨(List.range len).map f, ⟨⟨by simp, by unfold maxLen; omega, fun hn => ?_, ?_⟩, ?_, ?_, htop⟩, hl⟩
    · obtain ⟨bb, off, spot⟩ := ad
      have hs0 := (World.cells?_some (hf 0 hn).2).2.2 0 (by decide)
      have hs1 : W.cell? ⟨bb, off, spot⟩ = some (.int .i64 (f 0).fr) := by simpa [Addr.add, vcs] using hs0
      have hspot : spot = none := World.cell?_spot hs1
      subst hspot
      refine ⟨bb, off, rfl, fun i cs hi j u hj => ?_⟩
      have hi' : i < len := by
        have := (List.getElem?_eq_some_iff.1 hi).1
        simpa using this
      have hcs : cs = vcs (f i) := by
        rw [List.getElem?_map, List.getElem?_map, List.getElem?_range hi'] at hi
        simpa using hi.symm
      subst hcs
      have hjl : j < 15 := by have := (List.getElem?_eq_some_iff.1 hj).1; rwa [vcs_len] at this
      have h2 := (World.cells?_some (hf i hi').2).2.2 j hjl
      rw [Addr.add_mid, Addr.add_mid] at h2
      rw [h2, ← hj, List.getElem?_eq_getElem (by rw [vcs_len]; exact hjl)]
    · intro cs hc
      obtain ⟨v, _, rfl⟩ := List.mem_map.1 hc
      exact ⟨vcs_len v, vcs_one v⟩
    · intro v hv
      obtain ⟨i, hi, rfl⟩ := List.mem_map.1 hv
      exact (hf i (List.mem_range.1 hi)).1.1
    · intro v hv
      obtain ⟨i, hi, rfl⟩ := List.mem_map.1 hv
      exact (hf i (List.mem_range.1 hi)).1.2
end Go.Proofs.Ytmplipkdaplpnaa
