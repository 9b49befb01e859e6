/- How an argument that is a list of steps is opened for the walks. -/
import Derived.Test.YtahpnfbjpdnapaaDkMath
import Derived.Test.YtahpnfbjpdnapaaArgs
import Derived.ChangeArms
namespace Go.Proofs.Ytahpnfbjpdnapaa
open Go.ChangeShapes Go.WideShapes Go.ChangeAt Go.RowKit Go.Wire1

/-- A step in memory, from a place on. -/
structure OdAt (w : World) (b p : Nat) (o : OpD) : Prop where
  c0 : w.cell? ⟨b, p, none⟩ = some (.int .i64 o.kind)
  c1 : w.cell? ⟨b, p + 1, none⟩ = some (.bool o.second)
  c2 : w.cell? ⟨b, p + 2, none⟩ = some (.int .i64 o.a)
  c3 : w.cell? ⟨b, p + 3, none⟩ = some (.int .i64 o.x)
  c4 : w.cell? ⟨b, p + 4, none⟩ = some (.int .i64 o.t)
  c5 : w.cell? ⟨b, p + 5, none⟩ = some (.slice o.da o.dn o.dc)
structure OSeg (w : World) (a : Option Addr) (n : Nat) (ops : List OpD) : Prop where
  len : ops.length = n
  top : n * 64 ≤ 140737488351232
  at_ : 0 < n → ∃ b off, a = some ⟨b, off, none⟩ ∧ ∀ i, i < n → OdAt w b (off + i * 6) (ops.getD i opdZ)
  ok : ∀ i, i < n → OdOk w (ops.getD i opdZ)
theorem OdAt.below {w w' : World} {b p B : Nat} {o : OpD} (h : OdAt w b p o) (hb : Below B w w') (hB : w.heap.size ≤ B) : OdAt w' b p o := by
  have key : ∀ q v, w.cell? ⟨b, q, none⟩ = some v → w'.cell? ⟨b, q, none⟩ = some v := fun q v hv => by
    rw [hb.cell (p := ⟨b, q, none⟩) (by have := cell_lt hv; show b < B; omega)]; exact hv
  exact ⟨key _ _ h.c0, key _ _ h.c1, key _ _ h.c2, key _ _ h.c3, key _ _ h.c4, key _ _ h.c5⟩
theorem OSeg.below {w w' : World} {a : Option Addr} {n : Nat} {l : List OpD} {B : Nat} (h : OSeg w a n l) (hb : Below B w w') (hB : w.heap.size ≤ B) : OSeg w' a n l := by
  refine ⟨h.len, h.top, fun hn => ?_, fun i hi => (h.ok i hi).below hb hB⟩
  obtain ⟨b, off, rfl, hc⟩ := h.at_ hn
  exact ⟨b, off, rfl, fun i hi => (hc i hi).below hb hB⟩

theorem cellsOp9 : Try.prog.cellsOf 33 = 6 := by kernel_rfl
theorem bytesOp9 : Try.prog.bytesOf 33 = 64 := by kernel_rfl
theorem cellsI9 : Try.prog.cellsOf 3 = 1 := by kernel_rfl
theorem cellsB9 : Try.prog.cellsOf 4 = 1 := by kernel_rfl
theorem cellsS9 : Try.prog.cellsOf 27 = 1 := by kernel_rfl

theorem weights_all9 {H : Type} {P : Program} {e : TypeId} {d : DataW H} : ∀ {es : List (DataW H)}, d ∈ es → ∀ m ∈ d.weights P e, m ∈ DataW.weightsAll P e es
  | [], h, _, _ => by cases h
  | c :: r, h, m, hm => by
    unfold DataW.weightsAll
    rcases List.mem_cons.1 h with h | h
    · subst h; exact List.mem_append_left _ hm
    · exact List.mem_append_right _ (weights_all9 h m hm)

set_option maxRecDepth 100000 in
theorem opd_of {H : Type} {enc : TypeId × Value → H} {W : World} {m : Nat} {cs : List Value} {x : DataW H × List MemPlace}
    (h : DataW.trod enc Try.prog W 0 (fun _ => true) true m 33 cs = some x) (hw : ∀ k ∈ x.1.weights Try.prog 33, k ≤ reachBytes) : ∃ o : OpD, OdOk W o ∧ cs = opc o := by
  obtain ⟨xs, n, _, hxx, hl, hx, hf⟩ := DataW.trod_struct Try.underlying33 h
  rw [cellsOp9] at hl
  match cs, hl with
  | [v0, v1, v2, v3, v4, v5], _ =>
    have hx5 : xs.length = 6 := hx
    match xs, hx5 with
    | [y0, y1, y2, y3, y4, y5], _ =>
      have g0 : DataW.trod enc Try.prog W 0 (fun _ => true) true n 3 (([v0, v1, v2, v3, v4, v5].drop 0).take (Try.prog.cellsOf 3)) = some y0 := hf 0 _ rfl
      rw [cellsI9] at g0
      have g1 : DataW.trod enc Try.prog W 0 (fun _ => true) true n 4 (([v0, v1, v2, v3, v4, v5].drop 1).take (Try.prog.cellsOf 4)) = some y1 := hf 1 _ rfl
      rw [cellsB9] at g1
      have g2 : DataW.trod enc Try.prog W 0 (fun _ => true) true n 3 (([v0, v1, v2, v3, v4, v5].drop 2).take (Try.prog.cellsOf 3)) = some y2 := hf 2 _ rfl
      rw [cellsI9] at g2
      have g3 : DataW.trod enc Try.prog W 0 (fun _ => true) true n 3 (([v0, v1, v2, v3, v4, v5].drop 3).take (Try.prog.cellsOf 3)) = some y3 := hf 3 _ rfl
      rw [cellsI9] at g3
      have g4 : DataW.trod enc Try.prog W 0 (fun _ => true) true n 3 (([v0, v1, v2, v3, v4, v5].drop 4).take (Try.prog.cellsOf 3)) = some y4 := hf 4 _ rfl
      rw [cellsI9] at g4
      have g5 : DataW.trod enc Try.prog W 0 (fun _ => true) true n 27 (([v0, v1, v2, v3, v4, v5].drop 5).take (Try.prog.cellsOf 27)) = some y5 := hf 5 _ rfl
      rw [cellsS9] at g5
      have g5' : DataW.trod enc Try.prog W 0 (fun _ => true) true n 27 [v5] = some y5 := g5
      obtain ⟨k0, e0, _, w0⟩ := DataW.trod_int Try.underlying3 g0
      obtain ⟨k1, e1, _⟩ := DataW.trod_bool Try.underlying4 g1
      obtain ⟨k2, e2, _, w2⟩ := DataW.trod_int Try.underlying3 g2
      obtain ⟨k3, e3, _, w3⟩ := DataW.trod_int Try.underlying3 g3
      obtain ⟨k4, e4, _, w4⟩ := DataW.trod_int Try.underlying3 g4
      obtain ⟨la, ln, lc, hv5, hnil⟩ : ∃ la ln lc, v5 = .slice la ln lc ∧ (la = none → ln = 0 ∧ lc = 0) := by
        rcases DataW.trod_slice Try.underlying27 g5' with ⟨e, _⟩ | ⟨ad', l', c', _, _, _, _, e, _⟩
        · simp only [List.cons.injEq, and_true] at e; exact ⟨none, 0, 0, e, fun _ => ⟨rfl, rfl⟩⟩
        · simp only [List.cons.injEq, and_true] at e; exact ⟨_, _, _, e, fun h => by cases h⟩
      subst hv5
      obtain ⟨l, hseg, hbyt, hcap, hdat⟩ := open_bytes g5'
      have hlc : lc ≤ 140737488351232 := by
        rcases hdat with ⟨_, _, e⟩ | ⟨es, sp, hd, he, hcc⟩
        · omega
        · have hwi : lc ∈ x.1.weights Try.prog 33 := by
            rw [hxx]
            show lc ∈ DataW.weights Try.prog 33 (.agg [y0.1, y1.1, y2.1, y3.1, y4.1, y5.1])
            have h5 : lc ∈ DataW.weights Try.prog 27 y5.1 := by
              rw [hd]
              show lc ∈ DataW.weights Try.prog 27 (.slice _ _)
              unfold DataW.weights
              rw [Try.underlying27, hcc]
              show lc ∈ lc * Try.prog.bytesOf 5 :: _
              rw [bytes5, Nat.mul_one]
              exact List.mem_cons_self
            unfold DataW.weights
            rw [Try.underlying33]
            show lc ∈ DataW.weightsEach Try.prog [3, 4, 3, 3, 3, 27] _
            simp only [DataW.weightsEach, List.mem_append]
            exact .inr (.inr (.inr (.inr (.inr (.inl h5)))))
          have := hw _ hwi
          simp only [reachBytes] at this
          exact this
      have b2 := bounds_i64 w2
      have b3 := bounds_i64 w3
      have b4 := bounds_i64 w4
      simp only [List.drop_zero, List.drop_succ_cons, List.take_succ_cons, List.take_zero, List.cons.injEq, and_true] at e0 e1 e2 e3 e4
      refine ⟨⟨k0, k1, k2, k3, k4, la, ln, lc, l⟩, ⟨hseg, hbyt, hnil, by show ln ≤ _; omega, b2, b3, b4⟩, ?_⟩
      rw [e0, e1, e2, e3, e4]
      rfl

set_option maxRecDepth 100000 in
theorem open_opds {H : Type} {enc : TypeId × Value → H} {W : World} {fuel : Nat} {a : Option Addr} {len cap : Nat} {x : DataW H × List MemPlace}
    (h : DataW.trod enc Try.prog W 0 (fun _ => true) true fuel 22 [.slice a len cap] = some x)
    (hw : ∀ m ∈ x.1.weights Try.prog 22, m ≤ reachBytes) : ∃ ops, OSeg W a len ops ∧ len ≤ cap := by
  rcases DataW.trod_slice Try.underlying22 h with ⟨hcs, _⟩ | ⟨ad, len', cap', elems, rest, n, _, hcs, hx, _, hl, hm, hlen, hel, hsp, _⟩
  · simp only [List.cons.injEq, Value.slice.injEq, and_true] at hcs
    obtain ⟨rfl, rfl, rfl⟩ := hcs
    exact ⟨[], ⟨rfl, by omega, (fun h => by omega), fun i hi => by omega⟩, by omega⟩
  · simp only [List.cons.injEq, Value.slice.injEq, and_true] at hcs
    obtain ⟨rfl, rfl, rfl⟩ := hcs
    rw [cellsOp9] at hel
    have hwt : x.1.weights Try.prog 22 = ((elems.map (·.1)).length + (rest.map (·.1)).length) * Try.prog.bytesOf 33 :: (DataW.weightsAll Try.prog 33 (elems.map (·.1)) ++ DataW.weightsAll Try.prog 33 (rest.map (·.1))) := by
      rw [hx]
      show DataW.weights Try.prog 22 (.slice _ _) = _
      unfold DataW.weights
      rw [Try.underlying22]
    rw [hwt] at hw
    have hcapw : len * 64 ≤ 140737488351232 := by
      have h1 := hw _ List.mem_cons_self
      rw [bytesOp9, List.length_map, List.length_map, hlen, (hsp rfl).1] at h1
      simp only [reachBytes] at h1
      have : len + (cap - len) = cap := by omega
      rw [this] at h1
      exact Nat.le_trans (Nat.mul_le_mul_right 64 hl) h1
    have each : ∀ i, i < len → ∃ o : OpD, OdOk W o ∧ W.cells? 0 (ad.add (i * 6)) 6 = some (opc o) := fun i hi => by
      have h1 := hel i hi
      have hge : elems[i]? = some elems[i] := List.getElem?_eq_getElem (by omega)
      rw [hge, Option.bind_eq_some_iff] at h1
      obtain ⟨cs, hc, ht⟩ := h1
      have hmem : elems[i].1 ∈ elems.map (·.1) := List.mem_map_of_mem (List.getElem_mem _)
      obtain ⟨o, ho, rfl⟩ := opd_of ht (fun k hk => hw _ (List.mem_cons_of_mem _ (List.mem_append_left _ (weights_all9 hmem _ hk))))
      exact ⟨o, ho, hc⟩
    have pick : ∃ f : Nat → OpD, ∀ i, i < len → OdOk W (f i) ∧ W.cells? 0 (ad.add (i * 6)) 6 = some (opc (f i)) :=
      ⟨fun i => if hi : i < len then (each i hi).choose else opdZ, fun i hi => by simp only [dif_pos hi]; exact (each i hi).choose_spec⟩
    obtain ⟨f, hf⟩ := pick
    have hget : ∀ i, i < len → ((List.range len).map f).getD i opdZ = f i := fun i hi => by simp [hi]
    refine ⟨(List.range len).map f, ⟨by simp, hcapw, fun hn => ?_, fun i hi => by rw [hget i hi]; exact (hf i hi).1⟩, hl⟩
    obtain ⟨bb, off, spot⟩ := ad
    have hs0 := (World.cells?_some (hf 0 hn).2).2.2 0 (by omega)
    have hs1 : W.cell? ⟨bb, off, spot⟩ = some (.int .i64 (f 0).kind) := by simpa [Addr.add, opc] using hs0
    have hspot : spot = none := World.cell?_spot hs1
    subst hspot
    refine ⟨bb, off, rfl, fun i hi => ?_⟩
    rw [hget i hi]
    have hc := (World.cells?_some (hf i hi).2).2.2
    simp only [add_at] at hc
    exact ⟨by simpa [opc] using hc 0 (by omega), hc 1 (by omega), hc 2 (by omega), hc 3 (by omega), hc 4 (by omega), hc 5 (by omega)⟩
end Go.Proofs.Ytahpnfbjpdnapaa
