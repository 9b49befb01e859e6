/- Texts of the proof, joined. -/
import Derived.Test.YtbdkelffncmkhaaGreatDoorRows
import Derived.Test.YtbdkelffncmkhaaGreatDoorJ02
import Derived.Test.YtbdkelffncmkhaaGreatDoorJ09
import Derived.Test.YtbdkelffncmkhaaGreatDoorJ21
import Derived.ProofKit
import Derived.LaidMore
import Derived.OpenShut
import Derived.Stop.Joined
import Derived.Stop.LaidErr
import Derived.MakeChecks
import Derived.Test.YtbdkelffncmkhaaGreatDoorJ03
import Derived.WalkKit
import Derived.ShutString
import Derived.ChangeOld
import Derived.Below
import Derived.SizedLaws
import Derived.Lib.SmallJoins
import Derived.Test.YtbdkelffncmkhaaGreatDoorJ01
import Derived.Test.YtbdkelffncmkhaaGreatDoorJ28
import Derived.Test.YtbdkelffncmkhaaGreatDoorJ17
import Derived.Test.YtbdkelffncmkhaaGreatDoorJ41
import Derived.Test.YtbdkelffncmkhaaGreatDoorJ04
import Derived.Test.YtbdkelffncmkhaaGreatDoorJ42
/- What the tied list of variables gives: the five sentinels of package wire lie at five different places, the two tables of kinds lie in memory; and a state that meets it. -/
namespace Go.Proofs.YtbdkelffncmkhaaGreatDoor
open Go.ChangeShapes Go.WideShapes Go.ChangeAt Go.RowKit Go.Wire1

/-- The rows' list. -/
abbrev laid7 : List (String × DataW Unit) := [("moot/wire.errShort", Rows.laid_moot_wire_errShort), ("moot/wire.errWide", Rows.laid_moot_wire_errWide), ("moot/wire.errForm", Rows.laid_moot_wire_errForm), ("moot/wire.errBig", Rows.laid_moot_wire_errBig), ("moot/wire.errLength", Rows.laid_moot_wire_errLength), ("moot/command.kinds", Rows.laid_moot_command_kinds), ("moot/msg.kinds", Rows.laid_moot_msg_kinds)]

theorem qgS : Tryz.prog.globalNamed "moot/wire.errShort" = some 1 := by kernel_rfl
theorem qgW : Tryz.prog.globalNamed "moot/wire.errWide" = some 2 := by kernel_rfl
theorem qgF : Tryz.prog.globalNamed "moot/wire.errForm" = some 3 := by kernel_rfl
theorem qgB : Tryz.prog.globalNamed "moot/wire.errBig" = some 4 := by kernel_rfl
theorem qgL : Tryz.prog.globalNamed "moot/wire.errLength" = some 5 := by kernel_rfl
theorem qgT0 : (Tryz.prog.globals[1]?).map (·.type) = some 154 := by kernel_rfl
theorem qgT1 : (Tryz.prog.globals[2]?).map (·.type) = some 154 := by kernel_rfl
theorem qgT2 : (Tryz.prog.globals[3]?).map (·.type) = some 154 := by kernel_rfl
theorem qgT3 : (Tryz.prog.globals[4]?).map (·.type) = some 154 := by kernel_rfl
theorem qgT4 : (Tryz.prog.globals[5]?).map (·.type) = some 154 := by kernel_rfl
theorem qgH : Tryz.prog.globalNamed "moot/command.kinds" = some 6 := by kernel_rfl
theorem qgTH : (Tryz.prog.globals[6]?).map (·.type) = some 173 := by kernel_rfl
theorem qgM : Tryz.prog.globalNamed "moot/msg.kinds" = some 0 := by kernel_rfl
theorem qgTM : (Tryz.prog.globals[0]?).map (·.type) = some 102 := by kernel_rfl
theorem cellsM : Tryz.prog.cellsOf 101 = 2 := by kernel_rfl
theorem cellsR : Tryz.prog.cellsOf 172 = 2 := by kernel_rfl
theorem cellsI : Tryz.prog.cellsOf 3 = 1 := by kernel_rfl
theorem cellsE : Tryz.prog.cellsOf 233 = 1 := by kernel_rfl
theorem cellsS : Tryz.prog.cellsOf 9 = 1 := by kernel_rfl
theorem star : "*" ++ "errors.errorString" = "*errors.errorString" := by decide
theorem rowE (u : TypeId) (h : Tryz.prog.typeName? 3 u = some "*errors.errorString") : u = 189 :=
  typeName_ptr_named (nm := "errors.errorString") (by rw [star]; kernel_rfl) (by kernel_rfl) (by decide) u (by rw [star]; exact h)

theorem door_met (os : Os) (args : Array Value) : laidMetH Tryz.prog laid7 ((World.doorLaid Tryz.prog 400 os).forCall (fun _ _ => 0) ⟨#[], args, []⟩).memory :=
  laidMetH_of_parts3 (fuel := 8) (laidMet_of_run' 8 (by kernel_rfl) (by kernel_rfl)) (by kernel_rfl) (by kernel_rfl)

theorem laid_list : (Rows.laid_moot_command_kinds : DataW Unit) = .agg ((List.range 9).map fun i => .agg [.lit (.int .i64 (fieldsL.getD i 0 : Nat)), .lit (.int .i64 (fromL.getD i 0 : Nat))]) := rfl

set_option maxRecDepth 100000 in
theorem knd_of_laid {W : World} (h : laidMetH Tryz.prog laid7 W) : Knd W := by
  rw [MakeChecks.laidMetH_plain _ _ _ (by kernel_rfl)] at h
  obtain ⟨_, ⟨_, _, _, _, _, _, _, _, _, _, ⟨_, _, _, _, _, _, _, _, _, _, ⟨_, _, _, _, _, _, _, _, _, _, ⟨_, _, _, _, _, _, _, _, _, _, ⟨_, _, _, _, _, _, _, _, _, _, ⟨g0, t0, cs0, f0, p0, q0, hg0, ht0, hv0, hd0, _, _⟩, _⟩, _⟩, _⟩, _⟩, _⟩, _, _⟩ := h
  obtain rfl := Option.some.inj (qgH.symm.trans hg0)
  obtain rfl := Option.some.inj (qgTH.symm.trans ht0)
  rw [laid_list] at hd0
  obtain ⟨xs, m, _, hx, hlen, hn, hall⟩ := DataW.trod_array Tryz.underlying173 hd0
  simp only [Prod.mk.injEq, DataW.agg.injEq] at hx
  intro i hi
  rw [World.var?_cell hg0 hv0 (i * 2), World.var?_cell hg0 hv0 (i * 2 + 1)]
  have h1 := hall i hi
  have hxi : ∃ x, xs[i]? = some x := ⟨xs[i], List.getElem?_eq_getElem (by omega)⟩
  obtain ⟨x, hxi⟩ := hxi
  rw [hxi, cellsR] at h1
  obtain ⟨ys, n, _, hy, hl2, hyl, hf⟩ := DataW.trod_struct Tryz.underlying172 h1
  match ys, hyl with
  | [y0, y1], _ =>
    have t0 : DataW.trod (fun _ => ()) Tryz.prog W 0 (fun _ => true) false n 3 ((((cs0.toList.drop (i * 2)).take 2).drop 0).take (Tryz.prog.cellsOf 3)) = some y0 := hf 0 _ rfl
    have t1 : DataW.trod (fun _ => ()) Tryz.prog W 0 (fun _ => true) false n 3 ((((cs0.toList.drop (i * 2)).take 2).drop 1).take (Tryz.prog.cellsOf 3)) = some y1 := hf 1 _ rfl
    rw [cellsI] at t0 t1
    obtain ⟨n0, c0, z0, _⟩ := DataW.trod_int Tryz.underlying3 t0
    obtain ⟨n1, c1, z1, _⟩ := DataW.trod_int Tryz.underlying3 t1
    have h2 : (xs.map (·.1))[i]? = some (.agg [.lit (.int .i64 n0), .lit (.int .i64 n1)]) := by rw [List.getElem?_map, hxi, hy, z0, z1]; rfl
    rw [← hx.1, List.getElem?_map, List.getElem?_eq_getElem (by simpa using hi)] at h2
    simp only [List.getElem_range, Option.map_some, Option.some.injEq, DataW.agg.injEq, List.cons.injEq, DataW.lit.injEq, Lit.int.injEq, true_and, and_true] at h2
    have d0 : cs0[i * 2]? = some (.int .i64 n0) := by
      have h4 : ((((cs0.toList.drop (i * 2)).take 2).drop 0).take 1)[0]? = some (.int .i64 n0) := by rw [c0]; rfl
      simpa [List.getElem?_take] using h4
    have d1 : cs0[i * 2 + 1]? = some (.int .i64 n1) := by
      have h4 : ((((cs0.toList.drop (i * 2)).take 2).drop 1).take 1)[0]? = some (.int .i64 n1) := by rw [c1]; rfl
      simpa [List.getElem?_take] using h4
    rw [d0, d1, h2.1, h2.2]
    exact ⟨rfl, rfl⟩

theorem laid_mkinds : (Rows.laid_moot_msg_kinds : DataW Unit) = .agg ((List.range 10).map fun i => .agg [.lit (.int .i64 (fromM.getD i 0 : Nat)), .lit (.int .i64 (rndM.getD i 0 : Nat))]) := rfl
set_option maxRecDepth 100000 in
theorem kmd_of_laid {W : World} (h : laidMetH Tryz.prog laid7 W) : Kmd W := by
  rw [MakeChecks.laidMetH_plain _ _ _ (by kernel_rfl)] at h
  obtain ⟨_, ⟨_, _, _, _, _, _, _, _, _, _, ⟨_, _, _, _, _, _, _, _, _, _, ⟨_, _, _, _, _, _, _, _, _, _, ⟨_, _, _, _, _, _, _, _, _, _, ⟨_, _, _, _, _, _, _, _, _, _, ⟨_, _, _, _, _, _, _, _, _, _, ⟨g0, t0, cs0, f0, p0, q0, hg0, ht0, hv0, hd0, _, _⟩, _⟩, _⟩, _⟩, _⟩, _⟩, _⟩, _, _⟩ := h
  obtain rfl := Option.some.inj (qgM.symm.trans hg0)
  obtain rfl := Option.some.inj (qgTM.symm.trans ht0)
  rw [laid_mkinds] at hd0
  obtain ⟨xs, m, _, hx, hlen, hn, hall⟩ := DataW.trod_array Tryz.underlying102 hd0
  simp only [Prod.mk.injEq, DataW.agg.injEq] at hx
  intro i hi
  rw [World.var?_cell hg0 hv0 (i * 2), World.var?_cell hg0 hv0 (i * 2 + 1)]
  have h1 := hall i hi
  have hxi : ∃ x, xs[i]? = some x := ⟨xs[i], List.getElem?_eq_getElem (by omega)⟩
  obtain ⟨x, hxi⟩ := hxi
  rw [hxi, cellsM] at h1
  obtain ⟨ys, n, _, hy, hl2, hyl, hf⟩ := DataW.trod_struct Tryz.underlying101 h1
  match ys, hyl with
  | [y0, y1], _ =>
    have t0 : DataW.trod (fun _ => ()) Tryz.prog W 0 (fun _ => true) false n 3 ((((cs0.toList.drop (i * 2)).take 2).drop 0).take (Tryz.prog.cellsOf 3)) = some y0 := hf 0 _ rfl
    have t1 : DataW.trod (fun _ => ()) Tryz.prog W 0 (fun _ => true) false n 3 ((((cs0.toList.drop (i * 2)).take 2).drop 1).take (Tryz.prog.cellsOf 3)) = some y1 := hf 1 _ rfl
    rw [cellsI] at t0 t1
    obtain ⟨n0, c0, z0, _⟩ := DataW.trod_int Tryz.underlying3 t0
    obtain ⟨n1, c1, z1, _⟩ := DataW.trod_int Tryz.underlying3 t1
    have h2 : (xs.map (·.1))[i]? = some (.agg [.lit (.int .i64 n0), .lit (.int .i64 n1)]) := by rw [List.getElem?_map, hxi, hy, z0, z1]; rfl
    rw [← hx.1, List.getElem?_map, List.getElem?_eq_getElem (by simpa using hi)] at h2
    simp only [List.getElem_range, Option.map_some, Option.some.injEq, DataW.agg.injEq, List.cons.injEq, DataW.lit.injEq, Lit.int.injEq, true_and, and_true] at h2
    have d0 : cs0[i * 2]? = some (.int .i64 n0) := by
      have h4 : ((((cs0.toList.drop (i * 2)).take 2).drop 0).take 1)[0]? = some (.int .i64 n0) := by rw [c0]; rfl
      simpa [List.getElem?_take] using h4
    have d1 : cs0[i * 2 + 1]? = some (.int .i64 n1) := by
      have h4 : ((((cs0.toList.drop (i * 2)).take 2).drop 1).take 1)[0]? = some (.int .i64 n1) := by rw [c1]; rfl
      simpa [List.getElem?_take] using h4
    rw [d0, d1, h2.1, h2.2]
    exact ⟨rfl, rfl⟩

set_option maxRecDepth 100000 in
theorem errs_of_laid {W : World} (h : laidMetH Tryz.prog laid7 W) : ∃ a, Errs W a := by
  have hkn := knd_of_laid h
  rw [MakeChecks.laidMetH_plain _ _ _ (by kernel_rfl)] at h
  obtain ⟨ps, ⟨g0, t0, cs0, f0, p0, q0, hg0, ht0, hv0, hd0, ⟨g1, t1, cs1, f1, p1, q1, hg1, ht1, hv1, hd1, ⟨g2, t2, cs2, f2, p2, q2, hg2, ht2, hv2, hd2, ⟨g3, t3, cs3, f3, p3, q3, hg3, ht3, hv3, hd3, ⟨g4, t4, cs4, f4, p4, q4, hg4, ht4, hv4, hd4, ⟨g5, t5, cs5, f5, p5, q5, hg5, ht5, hv5, hd5, ⟨g6, t6, cs6, f6, p6, q6, hg6, ht6, hv6, hd6, _, e6⟩, e5⟩, e4⟩, e3⟩, e2⟩, e1⟩, e0⟩, hnd, hrows⟩ := h
  obtain rfl := Option.some.inj (qgS.symm.trans hg0)
  obtain rfl := Option.some.inj (qgW.symm.trans hg1)
  obtain rfl := Option.some.inj (qgF.symm.trans hg2)
  obtain rfl := Option.some.inj (qgB.symm.trans hg3)
  obtain rfl := Option.some.inj (qgL.symm.trans hg4)
  obtain rfl := Option.some.inj (qgT0.symm.trans ht0)
  obtain rfl := Option.some.inj (qgT1.symm.trans ht1)
  obtain rfl := Option.some.inj (qgT2.symm.trans ht2)
  obtain rfl := Option.some.inj (qgT3.symm.trans ht3)
  obtain rfl := Option.some.inj (qgT4.symm.trans ht4)
  subst e6 e5 e4 e3 e2 e1 e0
  obtain ⟨l0⟩ := cs0
  obtain ⟨l1⟩ := cs1
  obtain ⟨l2⟩ := cs2
  obtain ⟨l3⟩ := cs3
  obtain ⟨l4⟩ := cs4
  have ok0 : ∀ u v, l0 = [.iface u v] → Value.okWide Tryz.prog W .any 0 u v := fun u v e => by
    subst e; exact (hrows 1 0 (by simp [MemPlace.row])).2 u v (by simpa using World.var?_cell hg0 hv0 0)
  have ok1 : ∀ u v, l1 = [.iface u v] → Value.okWide Tryz.prog W .any 0 u v := fun u v e => by
    subst e; exact (hrows 2 0 (by simp [MemPlace.row])).2 u v (by simpa using World.var?_cell hg1 hv1 0)
  have ok2 : ∀ u v, l2 = [.iface u v] → Value.okWide Tryz.prog W .any 0 u v := fun u v e => by
    subst e; exact (hrows 3 0 (by simp [MemPlace.row])).2 u v (by simpa using World.var?_cell hg2 hv2 0)
  have ok3 : ∀ u v, l3 = [.iface u v] → Value.okWide Tryz.prog W .any 0 u v := fun u v e => by
    subst e; exact (hrows 4 0 (by simp [MemPlace.row])).2 u v (by simpa using World.var?_cell hg3 hv3 0)
  have ok4 : ∀ u v, l4 = [.iface u v] → Value.okWide Tryz.prog W .any 0 u v := fun u v e => by
    subst e; exact (hrows 5 0 (by simp [MemPlace.row])).2 u v (by simpa using World.var?_cell hg4 hv4 0)
  obtain ⟨a0, s0, rfl, hc0, _, _, rfl⟩ := errorString_of_trod Tryz.underlying154 rowE Tryz.underlying189 Tryz.underlying233 rfl rfl Tryz.underlying9 cellsE cellsS hd0 ok0
  obtain ⟨a1, s1, rfl, hc1, _, _, rfl⟩ := errorString_of_trod Tryz.underlying154 rowE Tryz.underlying189 Tryz.underlying233 rfl rfl Tryz.underlying9 cellsE cellsS hd1 ok1
  obtain ⟨a2, s2, rfl, hc2, _, _, rfl⟩ := errorString_of_trod Tryz.underlying154 rowE Tryz.underlying189 Tryz.underlying233 rfl rfl Tryz.underlying9 cellsE cellsS hd2 ok2
  obtain ⟨a3, s3, rfl, hc3, _, _, rfl⟩ := errorString_of_trod Tryz.underlying154 rowE Tryz.underlying189 Tryz.underlying233 rfl rfl Tryz.underlying9 cellsE cellsS hd3 ok3
  obtain ⟨a4, s4, rfl, hc4, _, _, rfl⟩ := errorString_of_trod Tryz.underlying154 rowE Tryz.underlying189 Tryz.underlying233 rfl rfl Tryz.underlying9 cellsE cellsS hd4 ok4
  let a : Nat → Addr := fun i => if i = 0 then a0 else if i = 1 then a1 else if i = 2 then a2 else if i = 3 then a3 else a4
  refine ⟨a, ⟨by simpa [a] using World.var?_cell hg0 hv0 0, by simpa [a] using World.var?_cell hg1 hv1 0, by simpa [a] using World.var?_cell hg2 hv2 0, by simpa [a] using World.var?_cell hg3 hv3 0, by simpa [a] using World.var?_cell hg4 hv4 0, ?_, ?_, ?_⟩⟩
  · intro i hi
    rcases (by omega : i = 0 ∨ i = 1 ∨ i = 2 ∨ i = 3 ∨ i = 4) with rfl | rfl | rfl | rfl | rfl
    · exact (hrows a0.block a0.off (by simp [MemPlace.row])).1
    · exact (hrows a1.block a1.off (by simp [MemPlace.row])).1
    · exact (hrows a2.block a2.off (by simp [MemPlace.row])).1
    · exact (hrows a3.block a3.off (by simp [MemPlace.row])).1
    · exact (hrows a4.block a4.off (by simp [MemPlace.row])).1
  · intro i j hi hj hij
    have key : a0 ≠ a1 ∧ a0 ≠ a2 ∧ a0 ≠ a3 ∧ a0 ≠ a4 ∧ a1 ≠ a2 ∧ a1 ≠ a3 ∧ a1 ≠ a4 ∧ a2 ≠ a3 ∧ a2 ≠ a4 ∧ a3 ≠ a4 := by
      refine ⟨?_, ?_, ?_, ?_, ?_, ?_, ?_, ?_, ?_, ?_⟩ <;> (intro e; rw [e] at hnd; simp [MemPlace.row] at hnd)
    obtain ⟨k1, k2, k3, k4, k5, k6, k7, k8, k9, k10⟩ := key
    rcases (by omega : i = 0 ∨ i = 1 ∨ i = 2 ∨ i = 3 ∨ i = 4) with rfl | rfl | rfl | rfl | rfl <;>
    rcases (by omega : j = 0 ∨ j = 1 ∨ j = 2 ∨ j = 3 ∨ j = 4) with rfl | rfl | rfl | rfl | rfl <;>
    first
      | exact absurd rfl hij
      | exact k1 | exact k2 | exact k3 | exact k4 | exact k5 | exact k6 | exact k7 | exact k8 | exact k9 | exact k10
      | exact k1.symm | exact k2.symm | exact k3.symm | exact k4.symm | exact k5.symm | exact k6.symm | exact k7.symm | exact k8.symm | exact k9.symm | exact k10.symm
  · have e0 := cell_lt (show W.cell? ⟨1, 0, none⟩ = some _ from by simpa using World.var?_cell hg0 hv0 0)
    have e1 := cell_lt (show W.cell? ⟨2, 0, none⟩ = some _ from by simpa using World.var?_cell hg1 hv1 0)
    have e2 := cell_lt (show W.cell? ⟨3, 0, none⟩ = some _ from by simpa using World.var?_cell hg2 hv2 0)
    have e3 := cell_lt (show W.cell? ⟨4, 0, none⟩ = some _ from by simpa using World.var?_cell hg3 hv3 0)
    have e4 := cell_lt (show W.cell? ⟨5, 0, none⟩ = some _ from by simpa using World.var?_cell hg4 hv4 0)
    have e5 := hkn.lt
    omega
end Go.Proofs.YtbdkelffncmkhaaGreatDoor
/- How arguments that are lists of ints, lists of them, and instances are opened for the walks. -/
namespace Go.Proofs.YtbdkelffncmkhaaGreatDoor
open Go.ChangeShapes Go.WideShapes Go.ChangeAt Go.RowKit Go.Wire1

end Go.Proofs.YtbdkelffncmkhaaGreatDoor
/- How an argument that is a command is opened for the walks. -/
namespace Go.Proofs.YtbdkelffncmkhaaGreatDoor
open Go.ChangeShapes Go.WideShapes Go.ChangeAt Go.RowKit Go.Wire1

theorem cown : ownKnob Tryz.prog.godebug = none := by kernel_rfl
theorem claid : laidOutB Tryz.prog = true := by kernel_rfl
end Go.Proofs.YtbdkelffncmkhaaGreatDoor
/- How an argument that is an instance is opened for the walks. -/
namespace Go.Proofs.YtbdkelffncmkhaaGreatDoor
open Go.ChangeShapes Go.WideShapes Go.ChangeAt Go.RowKit Go.Wire1

end Go.Proofs.YtbdkelffncmkhaaGreatDoor
/- How an argument that is a message is opened for the walks. -/
namespace Go.Proofs.YtbdkelffncmkhaaGreatDoor
open Go.ChangeShapes Go.WideShapes Go.ChangeAt Go.RowKit Go.Wire1

section
variable {H : Type} {enc : TypeId × Value → H} {W : World} {n : Nat}
/-- A command's datum. -/
def cmdD (c : Cm) : DataW H := .agg [.lit (.int .i64 c.kind), .lit (.int .i64 c.client), .lit (.int .i64 c.req), .lit (.string c.key.data.toList), .lit (.string c.key2.data.toList), .lit (.string c.val.data.toList), .lit (.string c.old.data.toList), .lit (.int .i64 c.n)]
def cmdIn (c : Cm) : Prop := (-9223372036854775808 ≤ c.kind ∧ c.kind ≤ 9223372036854775807) ∧ (-9223372036854775808 ≤ c.client ∧ c.client ≤ 9223372036854775807) ∧ (-9223372036854775808 ≤ c.req ∧ c.req ≤ 9223372036854775807) ∧ (-9223372036854775808 ≤ c.n ∧ c.n ≤ 9223372036854775807)
end

/-- Its numbers are of 64 bits. -/
structure MsIn (m : Ms) : Prop where
  kind : -9223372036854775808 ≤ m.kind ∧ m.kind ≤ 9223372036854775807
  row : -9223372036854775808 ≤ m.row ∧ m.row ≤ 9223372036854775807
  num : -9223372036854775808 ≤ m.num ∧ m.num ≤ 9223372036854775807
  x : -9223372036854775808 ≤ m.x ∧ m.x ≤ 9223372036854775807
  y : -9223372036854775808 ≤ m.y ∧ m.y ≤ 9223372036854775807
  p : -9223372036854775808 ≤ m.p ∧ m.p ≤ 9223372036854775807
  q : -9223372036854775808 ≤ m.q ∧ m.q ≤ 9223372036854775807
  st : -9223372036854775808 ≤ m.st ∧ m.st ≤ 9223372036854775807
  sq : -9223372036854775808 ≤ m.sq ∧ m.sq ≤ 9223372036854775807
  cmd : cmdIn m.c
end Go.Proofs.YtbdkelffncmkhaaGreatDoor
/- What is read of bytes with one byte turned: the mathematics. -/
namespace Go.Proofs.YtbdkelffncmkhaaGreatDoor
open Go.RowKit Go.Wire1

end Go.Proofs.YtbdkelffncmkhaaGreatDoor
/- Decode at a valid message's bytes, cut short, with more behind; how long they are: the mathematics. -/
namespace Go.Proofs.YtbdkelffncmkhaaGreatDoor
open Go.RowKit Go.Wire1

theorem ba_inj {s t : ByteArray} (h : s.toList = t.toList) : s = t := by
  rw [Lib.toList_data, Lib.toList_data] at h
  apply ByteArray.ext
  exact Array.toList_inj.1 h
theorem cm_ext {c d : Cm} (h1 : c.kind = d.kind) (h2 : c.client = d.client) (h3 : c.req = d.req) (h4 : c.key.toList = d.key.toList) (h5 : c.key2.toList = d.key2.toList) (h6 : c.val.toList = d.val.toList) (h7 : c.old.toList = d.old.toList) (h8 : c.n = d.n) : c = d := by
  obtain ⟨_, _, _, _, _, _, _, _⟩ := c
  obtain ⟨_, _, _, _, _, _, _, _⟩ := d
  simp only at h1 h2 h3 h4 h5 h6 h7 h8
  rw [h1, h2, h3, ba_inj h4, ba_inj h5, ba_inj h6, ba_inj h7, h8]
theorem only_head (m : Ms) (k : Nat) : (only m k).kind = m.kind ∧ (only m k).row = m.row ∧ (only m k).num = m.num := by
  unfold only
  split <;> exact ⟨rfl, rfl, rfl⟩
theorem only_self {m : Ms} (h : extraM m = false) : only m (shK m) = m := by
  unfold extraM at h
  rw [decide_eq_false_iff_not, Classical.not_not] at h
  have hd := only_dl m (shK m)
  have hh := only_head m (shK m)
  generalize only m (shK m) = o at h hd hh
  obtain ⟨a1, a2, a3, a4, a5, a6, a7, a8, a9, a10, a11, a12, a13, a14, a15, a16⟩ := h
  have hc := cm_ext a7 a8 a9 a10 a11 a12 a13 a14
  have hl : o.dl = m.dl := by
    rw [hd] at a16 ⊢
    split at a16
    · rename_i h; rw [if_pos h]
    · rename_i h
      rw [if_neg h]
      exact (List.eq_nil_of_length_eq_zero (by simpa using a16)).symm
  obtain ⟨_, _, _, _, _, _, _, _, _, _, _, _⟩ := m
  obtain ⟨_, _, _, _, _, _, _, _, _, _, _, _⟩ := o
  simp only at *
  obtain ⟨b1, b2, b3⟩ := hh
  subst b1 b2 b3 a1 a2 a3 a4 a5 a6 a15 hc hl
  rfl
section
variable {v n : Int} {m : Ms} (h0 : chkM v n m = 0) (hn1 : -9223372036854775808 ≤ m.c.n) (hn2 : m.c.n ≤ 9223372036854775807)
include h0 hn1 hn2
end
end Go.Proofs.YtbdkelffncmkhaaGreatDoor
