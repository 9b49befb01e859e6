/- Texts of the proof, joined. -/
import Derived.Test.YtdokagebfeejbaaGreatDoorRows
import Derived.Test.YtdokagebfeejbaaGreatDoorJ03
import Derived.WalkKit
import Derived.ProofKit
import Derived.OpenShut
import Derived.ShutString
import Derived.ChangeOld
import Derived.Below
import Derived.SizedLaws
import Derived.Lib.SmallJoins
import Derived.Test.YtdokagebfeejbaaGreatDoorJ01
import Derived.Test.YtdokagebfeejbaaGreatDoorJ17
/- How arguments that are lists of ints, lists of them, and instances are opened for the walks. -/
namespace Go.Proofs.YtdokagebfeejbaaGreatDoor
open Go.ChangeShapes Go.WideShapes Go.ChangeAt Go.RowKit Go.Wire1

theorem vbytes3 : Tryz.prog.bytesOf 3 = 8 := by kernel_rfl
theorem vcells3 : Tryz.prog.cellsOf 3 = 1 := by kernel_rfl

theorem vopen_ints {H : Type} {enc : TypeId × Value → H} {W : World} {fuel : Nat} {a : Option Addr} {len cap : Nat} {x : DataW H × List MemPlace}
    (h : DataW.trod enc Tryz.prog W 0 (fun _ => true) true fuel 28 [.slice a len cap] = some x) : ∃ l, SegI W a len l ∧ len ≤ cap ∧ ((x.1 = .nil ∧ len = 0 ∧ cap = 0) ∨ ∃ elems spare, x.1 = .slice elems spare ∧ elems.length = len ∧ elems.length + spare.length = cap) := by
  rcases Go.ChangeShapes.open_ints Tryz.underlying28 Tryz.underlying3 vcells3 h with ⟨hcs, hx⟩ | ⟨b, len', cap', zs, hcs, _, hl, hm, hz, hx, hcell, hwz⟩
  · simp only [List.cons.injEq, Value.slice.injEq, and_true] at hcs
    obtain ⟨rfl, rfl, rfl⟩ := hcs
    exact ⟨[], ⟨rfl, by unfold maxLen; omega, (fun h => by omega), fun j => by simp⟩, Nat.le_refl _, .inl ⟨by rw [hx], rfl, rfl⟩⟩
  · simp only [List.cons.injEq, Value.slice.injEq, and_true] at hcs
    obtain ⟨rfl, rfl, rfl⟩ := hcs
    simp only [if_true] at hz
    refine ⟨zs.take len, ⟨by rw [List.length_take]; omega, by omega, fun hn => ?_, fun j => ?_⟩, hl, .inr ⟨_, _, by rw [hx], by simp [lits]; omega, by simp [lits]; omega⟩⟩
    · obtain ⟨bb, off, spot⟩ := b
      have hc0 := hcell 0 (by omega)
      have hspot : spot = none := by simpa [Addr.add] using World.cell?_spot hc0
      subst hspot
      refine ⟨bb, off, rfl, fun j hj => ?_⟩
      have := hcell j (by omega)
      rw [add_at] at this
      rw [this]
      simp [hj]
    · by_cases hj : j < (zs.take len).length
      · rw [List.getD, List.getElem?_eq_getElem hj]
        have := bounds_i64 (hwz _ (List.mem_of_mem_take (List.getElem_mem hj)))
        simp only [Option.getD_some]; omega
      · rw [List.getD, List.getElem?_eq_none (by omega)]; simp

end Go.Proofs.YtdokagebfeejbaaGreatDoor
/- How an argument that is a command is opened for the walks. -/
namespace Go.Proofs.YtdokagebfeejbaaGreatDoor
open Go.ChangeShapes Go.WideShapes Go.ChangeAt Go.RowKit Go.Wire1

theorem cown : ownKnob Tryz.prog.godebug = none := by kernel_rfl
theorem claid : laidOutB Tryz.prog = true := by kernel_rfl
theorem ccellsC : Tryz.prog.cellsOf 27 = 8 := by kernel_rfl
end Go.Proofs.YtdokagebfeejbaaGreatDoor
/- How an argument that is an instance is opened for the walks. -/
namespace Go.Proofs.YtdokagebfeejbaaGreatDoor
open Go.ChangeShapes Go.WideShapes Go.ChangeAt Go.RowKit Go.Wire1

theorem vcellsX : Tryz.prog.cellsOf 23 = 2 := by kernel_rfl
end Go.Proofs.YtdokagebfeejbaaGreatDoor
/- How an argument that is a message is opened for the walks. -/
namespace Go.Proofs.YtdokagebfeejbaaGreatDoor
open Go.ChangeShapes Go.WideShapes Go.ChangeAt Go.RowKit Go.Wire1

theorem rcellsR : Tryz.prog.cellsOf 30 = 19 := by kernel_rfl
theorem rcellsB : Tryz.prog.cellsOf 25 = 2 := by kernel_rfl
theorem rcellsL : Tryz.prog.cellsOf 4 = 1 := by kernel_rfl
theorem rcellsS : Tryz.prog.cellsOf 28 = 1 := by kernel_rfl
theorem rcellsI : Tryz.prog.cellsOf 3 = 1 := by kernel_rfl
theorem rcellsJ : Tryz.prog.cellsOf 2 = 1 := by kernel_rfl
theorem rcellsT : Tryz.prog.cellsOf 9 = 1 := by kernel_rfl
set_option maxHeartbeats 2000000 in
theorem array19 {α : Type} {a : Array α} (h : a.size = 19) : ∃ c0 c1 c2 c3 c4 c5 c6 c7 c8 c9 c10 c11 c12 c13 c14 c15 c16 c17 c18, a = #[c0, c1, c2, c3, c4, c5, c6, c7, c8, c9, c10, c11, c12, c13, c14, c15, c16, c17, c18] := by
  obtain ⟨l⟩ := a
  simp only [List.size_toArray] at h
  match l, h with
  | [c0, c1, c2, c3, c4, c5, c6, c7, c8, c9, c10, c11, c12, c13, c14, c15, c16, c17, c18], _ => exact ⟨c0, c1, c2, c3, c4, c5, c6, c7, c8, c9, c10, c11, c12, c13, c14, c15, c16, c17, c18, rfl⟩
theorem bnd_i64 {x : Int} (h : (Lit.int .i64 x).wf = true) : -9223372036854775808 ≤ x ∧ x ≤ 9223372036854775807 := by have := bounds_i64 h; omega
section
variable {H : Type} {enc : TypeId × Value → H} {W : World} {n : Nat}
theorem rinst {a b : Value} {y : DataW H × List MemPlace} (h : DataW.trod enc Tryz.prog W 0 (fun _ => true) true n 23 [a, b] = some y) : ∃ i j : Int, a = .int .i64 i ∧ b = .int .i64 j ∧ (-9223372036854775808 ≤ i ∧ i ≤ 9223372036854775807) ∧ (-9223372036854775808 ≤ j ∧ j ≤ 9223372036854775807) := by
  obtain ⟨xs, m, _, hx, _, hlen, hf⟩ := DataW.trod_struct Tryz.underlying23 h
  match xs, hlen with
  | [y0, y1], _ =>
    have t0 : DataW.trod enc Tryz.prog W 0 (fun _ => true) true m 3 (([a, b].drop 0).take (Tryz.prog.cellsOf 3)) = some y0 := hf 0 _ rfl
    have t1 : DataW.trod enc Tryz.prog W 0 (fun _ => true) true m 3 (([a, b].drop 1).take (Tryz.prog.cellsOf 3)) = some y1 := hf 1 _ rfl
    rw [rcellsI] at t0 t1
    obtain ⟨k0, e0, z0, w0⟩ := DataW.trod_int Tryz.underlying3 t0
    obtain ⟨k1, e1, z1, w1⟩ := DataW.trod_int Tryz.underlying3 t1
    simp only [List.drop, List.take, List.cons.injEq, and_true] at e0 e1
    have b0 := bounds_i64 w0
    have b1 := bounds_i64 w1
    exact ⟨k0, k1, e0, e1, by omega, by omega⟩
theorem rballot {a b : Value} {y : DataW H × List MemPlace} (h : DataW.trod enc Tryz.prog W 0 (fun _ => true) true n 25 [a, b] = some y) : ∃ i j : Int, a = .int .i64 i ∧ b = .int .i64 j ∧ (-9223372036854775808 ≤ i ∧ i ≤ 9223372036854775807) ∧ (-9223372036854775808 ≤ j ∧ j ≤ 9223372036854775807) := by
  obtain ⟨xs, m, _, hx, _, hlen, hf⟩ := DataW.trod_struct Tryz.underlying25 h
  match xs, hlen with
  | [y0, y1], _ =>
    have t0 : DataW.trod enc Tryz.prog W 0 (fun _ => true) true m 3 (([a, b].drop 0).take (Tryz.prog.cellsOf 3)) = some y0 := hf 0 _ rfl
    have t1 : DataW.trod enc Tryz.prog W 0 (fun _ => true) true m 3 (([a, b].drop 1).take (Tryz.prog.cellsOf 3)) = some y1 := hf 1 _ rfl
    rw [rcellsI] at t0 t1
    obtain ⟨k0, e0, z0, w0⟩ := DataW.trod_int Tryz.underlying3 t0
    obtain ⟨k1, e1, z1, w1⟩ := DataW.trod_int Tryz.underlying3 t1
    simp only [List.drop, List.take, List.cons.injEq, and_true] at e0 e1
    have b0 := bounds_i64 w0
    have b1 := bounds_i64 w1
    exact ⟨k0, k1, e0, e1, by omega, by omega⟩
/-- A command's datum. -/
def cmdD (c : Cm) : DataW H := .agg [.lit (.int .i64 c.kind), .lit (.int .i64 c.client), .lit (.int .i64 c.req), .lit (.string c.key.data.toList), .lit (.string c.key2.data.toList), .lit (.string c.val.data.toList), .lit (.string c.old.data.toList), .lit (.int .i64 c.n)]
def cmdIn (c : Cm) : Prop := (-9223372036854775808 ≤ c.kind ∧ c.kind ≤ 9223372036854775807) ∧ (-9223372036854775808 ≤ c.client ∧ c.client ≤ 9223372036854775807) ∧ (-9223372036854775808 ≤ c.req ∧ c.req ≤ 9223372036854775807) ∧ (-9223372036854775808 ≤ c.n ∧ c.n ≤ 9223372036854775807)
theorem rcmd {c0 c1 c2 c3 c4 c5 c6 c7 : Value} {y : DataW H × List MemPlace} (h : DataW.trod enc Tryz.prog W 0 (fun _ => true) true n 27 [c0, c1, c2, c3, c4, c5, c6, c7] = some y) :
    ∃ c : Cm, [c0, c1, c2, c3, c4, c5, c6, c7] = [.int .i64 c.kind, .int .i64 c.client, .int .i64 c.req, .string c.key, .string c.key2, .string c.val, .string c.old, .int .i64 c.n] ∧ y.1 = cmdD c ∧ cmdIn c := by
  obtain ⟨xs, m, _, hx, _, hlen, hf⟩ := DataW.trod_struct Tryz.underlying27 h
  match xs, hlen with
  | [y0, y1, y2, y3, y4, y5, y6, y7], _ =>
    have t0 : DataW.trod enc Tryz.prog W 0 (fun _ => true) true m 3 (([c0, c1, c2, c3, c4, c5, c6, c7].drop 0).take (Tryz.prog.cellsOf 3)) = some y0 := hf 0 _ rfl
    rw [rcellsI] at t0
    have t1 : DataW.trod enc Tryz.prog W 0 (fun _ => true) true m 3 (([c0, c1, c2, c3, c4, c5, c6, c7].drop 1).take (Tryz.prog.cellsOf 3)) = some y1 := hf 1 _ rfl
    rw [rcellsI] at t1
    have t2 : DataW.trod enc Tryz.prog W 0 (fun _ => true) true m 3 (([c0, c1, c2, c3, c4, c5, c6, c7].drop 2).take (Tryz.prog.cellsOf 3)) = some y2 := hf 2 _ rfl
    rw [rcellsI] at t2
    have t3 : DataW.trod enc Tryz.prog W 0 (fun _ => true) true m 9 (([c0, c1, c2, c3, c4, c5, c6, c7].drop 3).take (Tryz.prog.cellsOf 9)) = some y3 := hf 3 _ rfl
    rw [rcellsT] at t3
    have t4 : DataW.trod enc Tryz.prog W 0 (fun _ => true) true m 9 (([c0, c1, c2, c3, c4, c5, c6, c7].drop 4).take (Tryz.prog.cellsOf 9)) = some y4 := hf 4 _ rfl
    rw [rcellsT] at t4
    have t5 : DataW.trod enc Tryz.prog W 0 (fun _ => true) true m 9 (([c0, c1, c2, c3, c4, c5, c6, c7].drop 5).take (Tryz.prog.cellsOf 9)) = some y5 := hf 5 _ rfl
    rw [rcellsT] at t5
    have t6 : DataW.trod enc Tryz.prog W 0 (fun _ => true) true m 9 (([c0, c1, c2, c3, c4, c5, c6, c7].drop 6).take (Tryz.prog.cellsOf 9)) = some y6 := hf 6 _ rfl
    rw [rcellsT] at t6
    have t7 : DataW.trod enc Tryz.prog W 0 (fun _ => true) true m 2 (([c0, c1, c2, c3, c4, c5, c6, c7].drop 7).take (Tryz.prog.cellsOf 2)) = some y7 := hf 7 _ rfl
    rw [rcellsJ] at t7
    obtain ⟨k0, e0, z0, w0⟩ := DataW.trod_int Tryz.underlying3 t0
    obtain ⟨k1, e1, z1, w1⟩ := DataW.trod_int Tryz.underlying3 t1
    obtain ⟨k2, e2, z2, w2⟩ := DataW.trod_int Tryz.underlying3 t2
    obtain ⟨k3, e3, z3, _⟩ := DataW.trod_string Tryz.underlying9 t3
    obtain ⟨k4, e4, z4, _⟩ := DataW.trod_string Tryz.underlying9 t4
    obtain ⟨k5, e5, z5, _⟩ := DataW.trod_string Tryz.underlying9 t5
    obtain ⟨k6, e6, z6, _⟩ := DataW.trod_string Tryz.underlying9 t6
    obtain ⟨k7, e7, z7, w7⟩ := DataW.trod_int Tryz.underlying2 t7
    simp only [List.drop, List.take, List.cons.injEq, and_true] at e0 e1 e2 e3 e4 e5 e6 e7
    subst e0 e1 e2 e3 e4 e5 e6 e7
    subst z0 z1 z2 z3 z4 z5 z6 z7
    subst hx
    exact ⟨⟨k0, k1, k2, k3, k4, k5, k6, k7⟩, rfl, rfl, bnd_i64 w0, bnd_i64 w1, bnd_i64 w2, bnd_i64 w7⟩
end

/-- Its numbers are of 64 bits. -/
structure MsIn (m : Ms) : Prop where
  kind : -9223372036854775808 ≤ m.kind ∧ m.kind ≤ 9223372036854775807
  row : -9223372036854775808 ≤ m.row ∧ m.row ≤ 9223372036854775807
  num : -9223372036854775808 ≤ m.num ∧ m.num ≤ 9223372036854775807
  x : -9223372036854775808 ≤ m.x ∧ m.x ≤ 9223372036854775807
  y : -9223372036854775808 ≤ m.y ∧ m.y ≤ 9223372036854775807
  p : -9223372036854775808 ≤ m.p ∧ m.p ≤ 9223372036854775807
  q : -9223372036854775808 ≤ m.q ∧ m.q ≤ 9223372036854775807
  st : -9223372036854775808 ≤ m.st ∧ m.st ≤ 9223372036854775807
  sq : -9223372036854775808 ≤ m.sq ∧ m.sq ≤ 9223372036854775807
  cmd : cmdIn m.c
set_option maxHeartbeats 2000000 in
set_option maxRecDepth 100000 in
theorem mopen_msg {H : Type} {enc : TypeId × Value → H} {W : World} {b0 : Nat} {v : Value} {d : DataW H} {p : List MemPlace}
    (hv : Value.okWide Tryz.prog W .any b0 30 v) (h : DataW.Trod enc Tryz.prog W 0 (fun _ => true) true 30 v d p) :
    ∃ (m : Ms) (ua : Option Addr) (uk uc : Nat) (dI dB dV dd : DataW H), v = .agg (mgc m (.slice ua uk uc)).toArray ∧ d = .agg [.lit (.int .i64 m.kind), dI, dB, dV, .lit (.int .i64 m.st), .lit (.bool m.sm), cmdD m.c, .lit (.int .i64 m.sq), dd] ∧ SegI W ua uk m.dl ∧ uk ≤ uc ∧ MsIn m := by
  obtain ⟨cs, rfl, hsz⟩ := okWide_struct Tryz.underlying30 hv
  obtain ⟨c0, c1, c2, c3, c4, c5, c6, c7, c8, c9, c10, c11, c12, c13, c14, c15, c16, c17, c18, rfl⟩ := array19 (hsz.trans rcellsR)
  obtain ⟨fuel, hf⟩ := h
  obtain ⟨xs, m, _, hx, _, hlen, hf⟩ := DataW.trod_struct Tryz.underlying30 hf
  match xs, hlen with
  | [y0, y1, y2, y3, y4, y5, y6, y7, y8], _ =>
    have t0 : DataW.trod enc Tryz.prog W 0 (fun _ => true) true m 3 (([c0, c1, c2, c3, c4, c5, c6, c7, c8, c9, c10, c11, c12, c13, c14, c15, c16, c17, c18].drop 0).take (Tryz.prog.cellsOf 3)) = some y0 := hf 0 _ rfl
    rw [rcellsI] at t0
    replace t0 : DataW.trod enc Tryz.prog W 0 (fun _ => true) true m 3 [c0] = some y0 := t0
    have t1 : DataW.trod enc Tryz.prog W 0 (fun _ => true) true m 23 (([c0, c1, c2, c3, c4, c5, c6, c7, c8, c9, c10, c11, c12, c13, c14, c15, c16, c17, c18].drop 1).take (Tryz.prog.cellsOf 23)) = some y1 := hf 1 _ rfl
    rw [vcellsX] at t1
    replace t1 : DataW.trod enc Tryz.prog W 0 (fun _ => true) true m 23 [c1, c2] = some y1 := t1
    have t2 : DataW.trod enc Tryz.prog W 0 (fun _ => true) true m 25 (([c0, c1, c2, c3, c4, c5, c6, c7, c8, c9, c10, c11, c12, c13, c14, c15, c16, c17, c18].drop 3).take (Tryz.prog.cellsOf 25)) = some y2 := hf 2 _ rfl
    rw [rcellsB] at t2
    replace t2 : DataW.trod enc Tryz.prog W 0 (fun _ => true) true m 25 [c3, c4] = some y2 := t2
    have t3 : DataW.trod enc Tryz.prog W 0 (fun _ => true) true m 25 (([c0, c1, c2, c3, c4, c5, c6, c7, c8, c9, c10, c11, c12, c13, c14, c15, c16, c17, c18].drop 5).take (Tryz.prog.cellsOf 25)) = some y3 := hf 3 _ rfl
    rw [rcellsB] at t3
    replace t3 : DataW.trod enc Tryz.prog W 0 (fun _ => true) true m 25 [c5, c6] = some y3 := t3
    have t4 : DataW.trod enc Tryz.prog W 0 (fun _ => true) true m 3 (([c0, c1, c2, c3, c4, c5, c6, c7, c8, c9, c10, c11, c12, c13, c14, c15, c16, c17, c18].drop 7).take (Tryz.prog.cellsOf 3)) = some y4 := hf 4 _ rfl
    rw [rcellsI] at t4
    replace t4 : DataW.trod enc Tryz.prog W 0 (fun _ => true) true m 3 [c7] = some y4 := t4
    have t5 : DataW.trod enc Tryz.prog W 0 (fun _ => true) true m 4 (([c0, c1, c2, c3, c4, c5, c6, c7, c8, c9, c10, c11, c12, c13, c14, c15, c16, c17, c18].drop 8).take (Tryz.prog.cellsOf 4)) = some y5 := hf 5 _ rfl
    rw [rcellsL] at t5
    replace t5 : DataW.trod enc Tryz.prog W 0 (fun _ => true) true m 4 [c8] = some y5 := t5
    have t6 : DataW.trod enc Tryz.prog W 0 (fun _ => true) true m 27 (([c0, c1, c2, c3, c4, c5, c6, c7, c8, c9, c10, c11, c12, c13, c14, c15, c16, c17, c18].drop 9).take (Tryz.prog.cellsOf 27)) = some y6 := hf 6 _ rfl
    rw [ccellsC] at t6
    replace t6 : DataW.trod enc Tryz.prog W 0 (fun _ => true) true m 27 [c9, c10, c11, c12, c13, c14, c15, c16] = some y6 := t6
    have t7 : DataW.trod enc Tryz.prog W 0 (fun _ => true) true m 3 (([c0, c1, c2, c3, c4, c5, c6, c7, c8, c9, c10, c11, c12, c13, c14, c15, c16, c17, c18].drop 17).take (Tryz.prog.cellsOf 3)) = some y7 := hf 7 _ rfl
    rw [rcellsI] at t7
    replace t7 : DataW.trod enc Tryz.prog W 0 (fun _ => true) true m 3 [c17] = some y7 := t7
    have t8 : DataW.trod enc Tryz.prog W 0 (fun _ => true) true m 28 (([c0, c1, c2, c3, c4, c5, c6, c7, c8, c9, c10, c11, c12, c13, c14, c15, c16, c17, c18].drop 18).take (Tryz.prog.cellsOf 28)) = some y8 := hf 8 _ rfl
    rw [rcellsS] at t8
    replace t8 : DataW.trod enc Tryz.prog W 0 (fun _ => true) true m 28 [c18] = some y8 := t8
    obtain ⟨k0, e0, z0, w0⟩ := DataW.trod_int Tryz.underlying3 t0
    obtain ⟨i1, j1, rfl, rfl, u1, u2⟩ := rinst t1
    obtain ⟨i2, j2, rfl, rfl, u3, u4⟩ := rballot t2
    obtain ⟨i3, j3, rfl, rfl, u5, u6⟩ := rballot t3
    obtain ⟨k4, e4, z4, w4⟩ := DataW.trod_int Tryz.underlying3 t4
    obtain ⟨k5, e5, z5⟩ := DataW.trod_bool Tryz.underlying4 t5
    obtain ⟨c, ec, zc, uc⟩ := rcmd t6
    obtain ⟨k7, e7, z7, w7⟩ := DataW.trod_int Tryz.underlying3 t7
    obtain ⟨a, len, cap, e8⟩ := Go.Joins.slice_form Tryz.underlying28 t8
    rw [e8] at t8
    obtain ⟨l, hseg, hcap, _⟩ := vopen_ints t8
    simp only [List.cons.injEq, and_true] at e0 e4 e5 ec e7 e8
    obtain ⟨f0, f1, f2, f3, f4, f5, f6, f7⟩ := ec
    subst e0 e4 e5 e7 e8 f0 f1 f2 f3 f4 f5 f6 f7
    subst z0 z4 z5 z7
    simp only [Prod.mk.injEq] at hx
    refine ⟨⟨k0, i1, j1, i2, j2, i3, j3, k4, k5, c, k7, l⟩, a, len, cap, y1.1, y2.1, y3.1, y8.1, rfl, ?_, hseg, hcap, ⟨bnd_i64 w0, u1, u2, u3, u4, u5, u6, bnd_i64 w4, bnd_i64 w7, uc⟩⟩
    rw [hx.1]
    simp [zc]

set_option maxRecDepth 100000 in
theorem msized {H : Type} {ts : List TypeId} {ds : List (DataW H)} (h : (DataW.weightsEach Tryz.prog ts ds).all (· ≤ reachBytes) = true) {j : Nat} {m : Ms} {dI dB dV dd : DataW H} (ht : ts[j]? = some 30)
    (hd : ds[j]? = some (.agg [.lit (.int .i64 m.kind), dI, dB, dV, .lit (.int .i64 m.st), .lit (.bool m.sm), cmdD m.c, .lit (.int .i64 m.sq), dd])) :
    m.c.key.size ≤ 140737488351232 ∧ m.c.key2.size ≤ 140737488351232 := by
  have go : ∀ s : ByteArray, s.data.toList.length ∈ DataW.weights (H := H) Tryz.prog 30 (.agg [.lit (.int .i64 m.kind), dI, dB, dV, .lit (.int .i64 m.st), .lit (.bool m.sm), cmdD m.c, .lit (.int .i64 m.sq), dd]) → s.size ≤ 140737488351232 := by
    intro s hs
    have h1 : s.data.toList.length ≤ reachBytes := of_decide_eq_true (List.all_eq_true.1 h _ (DataW.weights_mem_each ht hd _ hs))
    rw [Array.length_toList] at h1
    unfold reachBytes at h1
    show s.data.size ≤ _
    exact h1
  refine ⟨go m.c.key ?_, go m.c.key2 ?_⟩ <;> simp [DataW.weights, Tryz.underlying30, Tryz.underlying27, DataW.weightsEach, cmdD]
end Go.Proofs.YtdokagebfeejbaaGreatDoor
