/- Texts of the proof, joined. -/
import Derived.Test.YtpjdgbhjjknopaaDoorRows
import Derived.Test.YtpjdgbhjjknopaaDoorJ05
import Derived.Test.YtpjdgbhjjknopaaDoorJ21
import Derived.ProofKit
import Derived.LaidMore
import Derived.OpenShut
import Derived.Stop.Joined
import Derived.Stop.LaidErr
import Derived.MakeChecks
/- What the tied list of variables gives: the five sentinels of package wire lie at five different places, the table of kinds lies in memory; and a state that meets it. -/
namespace Go.Proofs.YtpjdgbhjjknopaaDoor
open Go.ChangeShapes Go.WideShapes Go.ChangeAt Go.RowKit Go.Wire1

/-- The rows' list. -/
abbrev laid6 : List (String × DataW Unit) := [("moot/wire.errShort", Rows.laid_moot_wire_errShort), ("moot/wire.errWide", Rows.laid_moot_wire_errWide), ("moot/wire.errForm", Rows.laid_moot_wire_errForm), ("moot/wire.errBig", Rows.laid_moot_wire_errBig), ("moot/wire.errLength", Rows.laid_moot_wire_errLength), ("moot/command.kinds", Rows.laid_moot_command_kinds)]

theorem qgS : Tryd.prog.globalNamed "moot/wire.errShort" = some 3 := by kernel_rfl
theorem qgW : Tryd.prog.globalNamed "moot/wire.errWide" = some 4 := by kernel_rfl
theorem qgF : Tryd.prog.globalNamed "moot/wire.errForm" = some 5 := by kernel_rfl
theorem qgB : Tryd.prog.globalNamed "moot/wire.errBig" = some 1 := by kernel_rfl
theorem qgL : Tryd.prog.globalNamed "moot/wire.errLength" = some 2 := by kernel_rfl
theorem qgT0 : (Tryd.prog.globals[3]?).map (·.type) = some 79 := by kernel_rfl
theorem qgT1 : (Tryd.prog.globals[4]?).map (·.type) = some 79 := by kernel_rfl
theorem qgT2 : (Tryd.prog.globals[5]?).map (·.type) = some 79 := by kernel_rfl
theorem qgT3 : (Tryd.prog.globals[1]?).map (·.type) = some 79 := by kernel_rfl
theorem qgT4 : (Tryd.prog.globals[2]?).map (·.type) = some 79 := by kernel_rfl
theorem qgH : Tryd.prog.globalNamed "moot/command.kinds" = some 0 := by kernel_rfl
theorem qgTH : (Tryd.prog.globals[0]?).map (·.type) = some 74 := by kernel_rfl
theorem cellsR : Tryd.prog.cellsOf 73 = 2 := by kernel_rfl
theorem cellsI : Tryd.prog.cellsOf 3 = 1 := by kernel_rfl
theorem cellsE : Tryd.prog.cellsOf 128 = 1 := by kernel_rfl
theorem cellsS : Tryd.prog.cellsOf 9 = 1 := by kernel_rfl
theorem star : "*" ++ "errors.errorString" = "*errors.errorString" := by decide
theorem rowE (u : TypeId) (h : Tryd.prog.typeName? 3 u = some "*errors.errorString") : u = 103 :=
  typeName_ptr_named (nm := "errors.errorString") (by rw [star]; kernel_rfl) (by kernel_rfl) (by decide) u (by rw [star]; exact h)

theorem door_met (os : Os) (args : Array Value) : laidMetH Tryd.prog laid6 ((World.doorLaid Tryd.prog 400 os).forCall (fun _ _ => 0) ⟨#[], args, []⟩).memory :=
  laidMetH_of_parts3 (fuel := 8) (laidMet_of_run' 8 (by kernel_rfl) (by kernel_rfl)) (by kernel_rfl) (by kernel_rfl)

theorem laid_list : (Rows.laid_moot_command_kinds : DataW Unit) = .agg ((List.range 9).map fun i => .agg [.lit (.int .i64 (fieldsL.getD i 0 : Nat)), .lit (.int .i64 (fromL.getD i 0 : Nat))]) := rfl

set_option maxRecDepth 100000 in
theorem knd_of_laid {W : World} (h : laidMetH Tryd.prog laid6 W) : Knd W := by
  rw [MakeChecks.laidMetH_plain _ _ _ (by kernel_rfl)] at h
  obtain ⟨_, ⟨_, _, _, _, _, _, _, _, _, _, ⟨_, _, _, _, _, _, _, _, _, _, ⟨_, _, _, _, _, _, _, _, _, _, ⟨_, _, _, _, _, _, _, _, _, _, ⟨_, _, _, _, _, _, _, _, _, _, ⟨g0, t0, cs0, f0, p0, q0, hg0, ht0, hv0, hd0, _, _⟩, _⟩, _⟩, _⟩, _⟩, _⟩, _, _⟩ := h
  obtain rfl := Option.some.inj (qgH.symm.trans hg0)
  obtain rfl := Option.some.inj (qgTH.symm.trans ht0)
  rw [laid_list] at hd0
  obtain ⟨xs, m, _, hx, hlen, hn, hall⟩ := DataW.trod_array Tryd.underlying74 hd0
  simp only [Prod.mk.injEq, DataW.agg.injEq] at hx
  intro i hi
  rw [World.var?_cell hg0 hv0 (i * 2), World.var?_cell hg0 hv0 (i * 2 + 1)]
  have h1 := hall i hi
  have hxi : ∃ x, xs[i]? = some x := ⟨xs[i], List.getElem?_eq_getElem (by omega)⟩
  obtain ⟨x, hxi⟩ := hxi
  rw [hxi, cellsR] at h1
  obtain ⟨ys, n, _, hy, hl2, hyl, hf⟩ := DataW.trod_struct Tryd.underlying73 h1
  match ys, hyl with
  | [y0, y1], _ =>
    have t0 : DataW.trod (fun _ => ()) Tryd.prog W 0 (fun _ => true) false n 3 ((((cs0.toList.drop (i * 2)).take 2).drop 0).take (Tryd.prog.cellsOf 3)) = some y0 := hf 0 _ rfl
    have t1 : DataW.trod (fun _ => ()) Tryd.prog W 0 (fun _ => true) false n 3 ((((cs0.toList.drop (i * 2)).take 2).drop 1).take (Tryd.prog.cellsOf 3)) = some y1 := hf 1 _ rfl
    rw [cellsI] at t0 t1
    obtain ⟨n0, c0, z0, _⟩ := DataW.trod_int Tryd.underlying3 t0
    obtain ⟨n1, c1, z1, _⟩ := DataW.trod_int Tryd.underlying3 t1
    have h2 : (xs.map (·.1))[i]? = some (.agg [.lit (.int .i64 n0), .lit (.int .i64 n1)]) := by rw [List.getElem?_map, hxi, hy, z0, z1]; rfl
    rw [← hx.1, List.getElem?_map, List.getElem?_eq_getElem (by simpa using hi)] at h2
    simp only [List.getElem_range, Option.map_some, Option.some.injEq, DataW.agg.injEq, List.cons.injEq, DataW.lit.injEq, Lit.int.injEq, true_and, and_true] at h2
    have d0 : cs0[i * 2]? = some (.int .i64 n0) := by
      have h4 : ((((cs0.toList.drop (i * 2)).take 2).drop 0).take 1)[0]? = some (.int .i64 n0) := by rw [c0]; rfl
      simpa [List.getElem?_take] using h4
    have d1 : cs0[i * 2 + 1]? = some (.int .i64 n1) := by
      have h4 : ((((cs0.toList.drop (i * 2)).take 2).drop 1).take 1)[0]? = some (.int .i64 n1) := by rw [c1]; rfl
      simpa [List.getElem?_take] using h4
    rw [d0, d1, h2.1, h2.2]
    exact ⟨rfl, rfl⟩

set_option maxRecDepth 100000 in
theorem errs_of_laid {W : World} (h : laidMetH Tryd.prog laid6 W) : ∃ a, Errs W a := by
  have hkn := knd_of_laid h
  rw [MakeChecks.laidMetH_plain _ _ _ (by kernel_rfl)] at h
  obtain ⟨ps, ⟨g0, t0, cs0, f0, p0, q0, hg0, ht0, hv0, hd0, ⟨g1, t1, cs1, f1, p1, q1, hg1, ht1, hv1, hd1, ⟨g2, t2, cs2, f2, p2, q2, hg2, ht2, hv2, hd2, ⟨g3, t3, cs3, f3, p3, q3, hg3, ht3, hv3, hd3, ⟨g4, t4, cs4, f4, p4, q4, hg4, ht4, hv4, hd4, ⟨g5, t5, cs5, f5, p5, q5, hg5, ht5, hv5, hd5, _, e5⟩, e4⟩, e3⟩, e2⟩, e1⟩, e0⟩, hnd, hrows⟩ := h
  obtain rfl := Option.some.inj (qgS.symm.trans hg0)
  obtain rfl := Option.some.inj (qgW.symm.trans hg1)
  obtain rfl := Option.some.inj (qgF.symm.trans hg2)
  obtain rfl := Option.some.inj (qgB.symm.trans hg3)
  obtain rfl := Option.some.inj (qgL.symm.trans hg4)
  obtain rfl := Option.some.inj (qgT0.symm.trans ht0)
  obtain rfl := Option.some.inj (qgT1.symm.trans ht1)
  obtain rfl := Option.some.inj (qgT2.symm.trans ht2)
  obtain rfl := Option.some.inj (qgT3.symm.trans ht3)
  obtain rfl := Option.some.inj (qgT4.symm.trans ht4)
  subst e5 e4 e3 e2 e1 e0
  obtain ⟨l0⟩ := cs0
  obtain ⟨l1⟩ := cs1
  obtain ⟨l2⟩ := cs2
  obtain ⟨l3⟩ := cs3
  obtain ⟨l4⟩ := cs4
  have ok0 : ∀ u v, l0 = [.iface u v] → Value.okWide Tryd.prog W .any 0 u v := fun u v e => by
    subst e; exact (hrows 3 0 (by simp [MemPlace.row])).2 u v (by simpa using World.var?_cell hg0 hv0 0)
  have ok1 : ∀ u v, l1 = [.iface u v] → Value.okWide Tryd.prog W .any 0 u v := fun u v e => by
    subst e; exact (hrows 4 0 (by simp [MemPlace.row])).2 u v (by simpa using World.var?_cell hg1 hv1 0)
  have ok2 : ∀ u v, l2 = [.iface u v] → Value.okWide Tryd.prog W .any 0 u v := fun u v e => by
    subst e; exact (hrows 5 0 (by simp [MemPlace.row])).2 u v (by simpa using World.var?_cell hg2 hv2 0)
  have ok3 : ∀ u v, l3 = [.iface u v] → Value.okWide Tryd.prog W .any 0 u v := fun u v e => by
    subst e; exact (hrows 1 0 (by simp [MemPlace.row])).2 u v (by simpa using World.var?_cell hg3 hv3 0)
  have ok4 : ∀ u v, l4 = [.iface u v] → Value.okWide Tryd.prog W .any 0 u v := fun u v e => by
    subst e; exact (hrows 2 0 (by simp [MemPlace.row])).2 u v (by simpa using World.var?_cell hg4 hv4 0)
  obtain ⟨a0, s0, rfl, hc0, _, _, rfl⟩ := errorString_of_trod Tryd.underlying79 rowE Tryd.underlying103 Tryd.underlying128 rfl rfl Tryd.underlying9 cellsE cellsS hd0 ok0
  obtain ⟨a1, s1, rfl, hc1, _, _, rfl⟩ := errorString_of_trod Tryd.underlying79 rowE Tryd.underlying103 Tryd.underlying128 rfl rfl Tryd.underlying9 cellsE cellsS hd1 ok1
  obtain ⟨a2, s2, rfl, hc2, _, _, rfl⟩ := errorString_of_trod Tryd.underlying79 rowE Tryd.underlying103 Tryd.underlying128 rfl rfl Tryd.underlying9 cellsE cellsS hd2 ok2
  obtain ⟨a3, s3, rfl, hc3, _, _, rfl⟩ := errorString_of_trod Tryd.underlying79 rowE Tryd.underlying103 Tryd.underlying128 rfl rfl Tryd.underlying9 cellsE cellsS hd3 ok3
  obtain ⟨a4, s4, rfl, hc4, _, _, rfl⟩ := errorString_of_trod Tryd.underlying79 rowE Tryd.underlying103 Tryd.underlying128 rfl rfl Tryd.underlying9 cellsE cellsS hd4 ok4
  let a : Nat → Addr := fun i => if i = 0 then a0 else if i = 1 then a1 else if i = 2 then a2 else if i = 3 then a3 else a4
  refine ⟨a, ⟨by simpa [a] using World.var?_cell hg0 hv0 0, by simpa [a] using World.var?_cell hg1 hv1 0, by simpa [a] using World.var?_cell hg2 hv2 0, by simpa [a] using World.var?_cell hg3 hv3 0, by simpa [a] using World.var?_cell hg4 hv4 0, ?_, ?_, ?_⟩⟩
  · intro i hi
    rcases (by omega : i = 0 ∨ i = 1 ∨ i = 2 ∨ i = 3 ∨ i = 4) with rfl | rfl | rfl | rfl | rfl
    · exact (hrows a0.block a0.off (by simp [MemPlace.row])).1
    · exact (hrows a1.block a1.off (by simp [MemPlace.row])).1
    · exact (hrows a2.block a2.off (by simp [MemPlace.row])).1
    · exact (hrows a3.block a3.off (by simp [MemPlace.row])).1
    · exact (hrows a4.block a4.off (by simp [MemPlace.row])).1
  · intro i j hi hj hij
    have key : a0 ≠ a1 ∧ a0 ≠ a2 ∧ a0 ≠ a3 ∧ a0 ≠ a4 ∧ a1 ≠ a2 ∧ a1 ≠ a3 ∧ a1 ≠ a4 ∧ a2 ≠ a3 ∧ a2 ≠ a4 ∧ a3 ≠ a4 := by
      refine ⟨?_, ?_, ?_, ?_, ?_, ?_, ?_, ?_, ?_, ?_⟩ <;> (intro e; rw [e] at hnd; simp [MemPlace.row] at hnd)
    obtain ⟨k1, k2, k3, k4, k5, k6, k7, k8, k9, k10⟩ := key
    rcases (by omega : i = 0 ∨ i = 1 ∨ i = 2 ∨ i = 3 ∨ i = 4) with rfl | rfl | rfl | rfl | rfl <;>
    rcases (by omega : j = 0 ∨ j = 1 ∨ j = 2 ∨ j = 3 ∨ j = 4) with rfl | rfl | rfl | rfl | rfl <;>
    first
      | exact absurd rfl hij
      | exact k1 | exact k2 | exact k3 | exact k4 | exact k5 | exact k6 | exact k7 | exact k8 | exact k9 | exact k10
      | exact k1.symm | exact k2.symm | exact k3.symm | exact k4.symm | exact k5.symm | exact k6.symm | exact k7.symm | exact k8.symm | exact k9.symm | exact k10.symm
  · have e0 := cell_lt (show W.cell? ⟨3, 0, none⟩ = some _ from by simpa using World.var?_cell hg0 hv0 0)
    have e1 := cell_lt (show W.cell? ⟨4, 0, none⟩ = some _ from by simpa using World.var?_cell hg1 hv1 0)
    have e2 := cell_lt (show W.cell? ⟨5, 0, none⟩ = some _ from by simpa using World.var?_cell hg2 hv2 0)
    have e3 := cell_lt (show W.cell? ⟨1, 0, none⟩ = some _ from by simpa using World.var?_cell hg3 hv3 0)
    have e4 := cell_lt (show W.cell? ⟨2, 0, none⟩ = some _ from by simpa using World.var?_cell hg4 hv4 0)
    have e5 := hkn.lt
    omega
end Go.Proofs.YtpjdgbhjjknopaaDoor
