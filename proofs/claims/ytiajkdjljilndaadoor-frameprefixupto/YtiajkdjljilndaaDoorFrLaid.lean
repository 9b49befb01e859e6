/- What the tied list of variables gives: the table of sixteen lies in memory, the five sentinels of package wire lie at five different places; and a state that meets it. -/
import Derived.Test.YtiajkdjljilndaaDoorRows
import Derived.Test.YtiajkdjljilndaaDoorCur
import Derived.Test.YtiajkdjljilndaaDoorCrc
import Derived.ProofKit
import Derived.LaidMore
import Derived.OpenShut
import Derived.Stop.Joined
import Derived.Stop.LaidErr
import Derived.MakeChecks
namespace Go.Proofs.YtiajkdjljilndaaDoor
open Go.ChangeShapes Go.WideShapes Go.ChangeAt Go.RowKit Go.Wire1 Go.Crc2

/-- The rows' list. -/
abbrev laid6 : List (String × DataW Unit) := [("moot/crc.halves", Rows.laid_moot_crc_halves), ("moot/wire.errShort", Rows.laid_moot_wire_errShort), ("moot/wire.errWide", Rows.laid_moot_wire_errWide), ("moot/wire.errForm", Rows.laid_moot_wire_errForm), ("moot/wire.errBig", Rows.laid_moot_wire_errBig), ("moot/wire.errLength", Rows.laid_moot_wire_errLength)]

theorem qgS : Tryd.prog.globalNamed "moot/wire.errShort" = some 1 := by kernel_rfl
theorem qgW : Tryd.prog.globalNamed "moot/wire.errWide" = some 2 := by kernel_rfl
theorem qgF : Tryd.prog.globalNamed "moot/wire.errForm" = some 3 := by kernel_rfl
theorem qgB : Tryd.prog.globalNamed "moot/wire.errBig" = some 4 := by kernel_rfl
theorem qgL : Tryd.prog.globalNamed "moot/wire.errLength" = some 5 := by kernel_rfl
theorem qgT0 : (Tryd.prog.globals[1]?).map (·.type) = some 88 := by kernel_rfl
theorem qgT1 : (Tryd.prog.globals[2]?).map (·.type) = some 88 := by kernel_rfl
theorem qgT2 : (Tryd.prog.globals[3]?).map (·.type) = some 88 := by kernel_rfl
theorem qgT3 : (Tryd.prog.globals[4]?).map (·.type) = some 88 := by kernel_rfl
theorem qgT4 : (Tryd.prog.globals[5]?).map (·.type) = some 88 := by kernel_rfl
theorem qgH : Tryd.prog.globalNamed "moot/crc.halves" = some 0 := by kernel_rfl
theorem qgTH : (Tryd.prog.globals[0]?).map (·.type) = some 86 := by kernel_rfl
theorem cellsU : Tryd.prog.cellsOf 59 = 1 := by kernel_rfl
theorem cellsE : Tryd.prog.cellsOf 133 = 1 := by kernel_rfl
theorem cellsStr : Tryd.prog.cellsOf 9 = 1 := by kernel_rfl
theorem star : "*" ++ "errors.errorString" = "*errors.errorString" := by decide
theorem rowE (u : TypeId) (h : Tryd.prog.typeName? 3 u = some "*errors.errorString") : u = 109 :=
  typeName_ptr_named (nm := "errors.errorString") (by rw [star]; kernel_rfl) (by kernel_rfl) (by decide) u (by rw [star]; exact h)

theorem door_met (os : Os) (args : Array Value) : laidMetH Tryd.prog laid6 ((World.doorLaid Tryd.prog 400 os).forCall (fun _ _ => 0) ⟨#[], args, []⟩).memory :=
  laidMetH_of_parts3 (fuel := 8) (laidMet_of_run' 8 (by kernel_rfl) (by kernel_rfl)) (by kernel_rfl) (by kernel_rfl)

theorem laid_list : (Rows.laid_moot_crc_halves : DataW Unit) = .agg (halves.map fun (n : Nat) => .lit (.int .u32 (Int.ofNat n))) := rfl

set_option maxRecDepth 100000 in
theorem hal_of_laid {W : World} (h : laidMetH Tryd.prog laid6 W) : Hal W := by
  rw [MakeChecks.laidMetH_plain _ _ _ (by kernel_rfl)] at h
  obtain ⟨ps, ⟨g0, t0, cs0, f0, p0, q0, hg0, ht0, hv0, hd0, _⟩, _⟩ := h
  obtain rfl := Option.some.inj (qgH.symm.trans hg0)
  obtain rfl := Option.some.inj (qgTH.symm.trans ht0)
  rw [laid_list] at hd0
  obtain ⟨xs, m, _, hx, hlen, hn, hall⟩ := DataW.trod_array Tryd.underlying86 hd0
  simp only [Prod.mk.injEq, DataW.agg.injEq] at hx
  intro i hi
  rw [World.var?_cell hg0 hv0 i]
  have h1 := hall i hi
  have hxi : ∃ x, xs[i]? = some x := ⟨xs[i], List.getElem?_eq_getElem (by omega)⟩
  obtain ⟨x, hxi⟩ := hxi
  rw [hxi] at h1
  obtain ⟨n, hcs, hxd, _⟩ := DataW.trod_int Tryd.underlying59 h1
  have h2 : (xs.map (·.1))[i]? = some (.lit (.int .u32 n)) := by rw [List.getElem?_map, hxi, hxd]; rfl
  rw [← hx.1, List.getElem?_map] at h2
  rw [cellsU, Nat.mul_one] at hcs
  have h3 : cs0[i]? = some (.int .u32 n) := by
    have h4 : (cs0.toList.drop i)[0]? = some (.int .u32 n) := by
      have : ((cs0.toList.drop i).take 1)[0]? = some (.int .u32 n) := by rw [hcs]; rfl
      simpa [List.getElem?_take] using this
    simpa using h4
  rw [h3]
  have h5 : i < halves.length := hi
  rw [List.getElem?_eq_getElem h5] at h2
  simp only [Option.map_some, Option.some.injEq, DataW.lit.injEq, Lit.int.injEq, true_and] at h2
  rw [← h2, List.getD, List.getElem?_eq_getElem h5]
  rfl

set_option maxRecDepth 100000 in
theorem errs_of_laid {W : World} (h : laidMetH Tryd.prog laid6 W) : ∃ a, Errs W a := by
  have hkn := hal_of_laid h
  rw [MakeChecks.laidMetH_plain _ _ _ (by kernel_rfl)] at h
  obtain ⟨ps, ⟨g5, t5, cs5, f5, p5, q5, hg5, ht5, hv5, hd5, ⟨g0, t0, cs0, f0, p0, q0, hg0, ht0, hv0, hd0, ⟨g1, t1, cs1, f1, p1, q1, hg1, ht1, hv1, hd1, ⟨g2, t2, cs2, f2, p2, q2, hg2, ht2, hv2, hd2, ⟨g3, t3, cs3, f3, p3, q3, hg3, ht3, hv3, hd3, ⟨g4, t4, cs4, f4, p4, q4, hg4, ht4, hv4, hd4, _, e4⟩, e3⟩, e2⟩, e1⟩, e0⟩, e5⟩, hnd, hrows⟩ := h
  obtain rfl := Option.some.inj (qgS.symm.trans hg0)
  obtain rfl := Option.some.inj (qgW.symm.trans hg1)
  obtain rfl := Option.some.inj (qgF.symm.trans hg2)
  obtain rfl := Option.some.inj (qgB.symm.trans hg3)
  obtain rfl := Option.some.inj (qgL.symm.trans hg4)
  obtain rfl := Option.some.inj (qgT0.symm.trans ht0)
  obtain rfl := Option.some.inj (qgT1.symm.trans ht1)
  obtain rfl := Option.some.inj (qgT2.symm.trans ht2)
  obtain rfl := Option.some.inj (qgT3.symm.trans ht3)
  obtain rfl := Option.some.inj (qgT4.symm.trans ht4)
  subst e4 e3 e2 e1 e0 e5
  obtain ⟨l0⟩ := cs0
  obtain ⟨l1⟩ := cs1
  obtain ⟨l2⟩ := cs2
  obtain ⟨l3⟩ := cs3
  obtain ⟨l4⟩ := cs4
  have ok0 : ∀ u v, l0 = [.iface u v] → Value.okWide Tryd.prog W .any 0 u v := fun u v e => by
    subst e; exact (hrows 1 0 (by simp [MemPlace.row])).2 u v (by simpa using World.var?_cell hg0 hv0 0)
  have ok1 : ∀ u v, l1 = [.iface u v] → Value.okWide Tryd.prog W .any 0 u v := fun u v e => by
    subst e; exact (hrows 2 0 (by simp [MemPlace.row])).2 u v (by simpa using World.var?_cell hg1 hv1 0)
  have ok2 : ∀ u v, l2 = [.iface u v] → Value.okWide Tryd.prog W .any 0 u v := fun u v e => by
    subst e; exact (hrows 3 0 (by simp [MemPlace.row])).2 u v (by simpa using World.var?_cell hg2 hv2 0)
  have ok3 : ∀ u v, l3 = [.iface u v] → Value.okWide Tryd.prog W .any 0 u v := fun u v e => by
    subst e; exact (hrows 4 0 (by simp [MemPlace.row])).2 u v (by simpa using World.var?_cell hg3 hv3 0)
  have ok4 : ∀ u v, l4 = [.iface u v] → Value.okWide Tryd.prog W .any 0 u v := fun u v e => by
    subst e; exact (hrows 5 0 (by simp [MemPlace.row])).2 u v (by simpa using World.var?_cell hg4 hv4 0)
  obtain ⟨a0, s0, rfl, hc0, _, _, rfl⟩ := errorString_of_trod Tryd.underlying88 rowE Tryd.underlying109 Tryd.underlying133 rfl rfl Tryd.underlying9 cellsE cellsStr hd0 ok0
  obtain ⟨a1, s1, rfl, hc1, _, _, rfl⟩ := errorString_of_trod Tryd.underlying88 rowE Tryd.underlying109 Tryd.underlying133 rfl rfl Tryd.underlying9 cellsE cellsStr hd1 ok1
  obtain ⟨a2, s2, rfl, hc2, _, _, rfl⟩ := errorString_of_trod Tryd.underlying88 rowE Tryd.underlying109 Tryd.underlying133 rfl rfl Tryd.underlying9 cellsE cellsStr hd2 ok2
  obtain ⟨a3, s3, rfl, hc3, _, _, rfl⟩ := errorString_of_trod Tryd.underlying88 rowE Tryd.underlying109 Tryd.underlying133 rfl rfl Tryd.underlying9 cellsE cellsStr hd3 ok3
  obtain ⟨a4, s4, rfl, hc4, _, _, rfl⟩ := errorString_of_trod Tryd.underlying88 rowE Tryd.underlying109 Tryd.underlying133 rfl rfl Tryd.underlying9 cellsE cellsStr hd4 ok4
  let a : Nat → Addr := fun i => if i = 0 then a0 else if i = 1 then a1 else if i = 2 then a2 else if i = 3 then a3 else a4
  refine ⟨a, ⟨by simpa [a] using World.var?_cell hg0 hv0 0, by simpa [a] using World.var?_cell hg1 hv1 0, by simpa [a] using World.var?_cell hg2 hv2 0, by simpa [a] using World.var?_cell hg3 hv3 0, by simpa [a] using World.var?_cell hg4 hv4 0, ?_, ?_, ?_⟩⟩
  · intro i hi
    rcases (by omega : i = 0 ∨ i = 1 ∨ i = 2 ∨ i = 3 ∨ i = 4) with rfl | rfl | rfl | rfl | rfl
    · exact (hrows a0.block a0.off (by simp [MemPlace.row])).1
    · exact (hrows a1.block a1.off (by simp [MemPlace.row])).1
    · exact (hrows a2.block a2.off (by simp [MemPlace.row])).1
    · exact (hrows a3.block a3.off (by simp [MemPlace.row])).1
    · exact (hrows a4.block a4.off (by simp [MemPlace.row])).1
  · intro i j hi hj hij
    have key : a0 ≠ a1 ∧ a0 ≠ a2 ∧ a0 ≠ a3 ∧ a0 ≠ a4 ∧ a1 ≠ a2 ∧ a1 ≠ a3 ∧ a1 ≠ a4 ∧ a2 ≠ a3 ∧ a2 ≠ a4 ∧ a3 ≠ a4 := by
      refine ⟨?_, ?_, ?_, ?_, ?_, ?_, ?_, ?_, ?_, ?_⟩ <;> (intro e; rw [e] at hnd; simp only [MemPlace.row] at hnd; replace hnd := (List.nodup_append.1 hnd).2.1; simp at hnd)
    obtain ⟨k1, k2, k3, k4, k5, k6, k7, k8, k9, k10⟩ := key
    rcases (by omega : i = 0 ∨ i = 1 ∨ i = 2 ∨ i = 3 ∨ i = 4) with rfl | rfl | rfl | rfl | rfl <;>
    rcases (by omega : j = 0 ∨ j = 1 ∨ j = 2 ∨ j = 3 ∨ j = 4) with rfl | rfl | rfl | rfl | rfl <;>
    first
      | exact absurd rfl hij
      | exact k1 | exact k2 | exact k3 | exact k4 | exact k5 | exact k6 | exact k7 | exact k8 | exact k9 | exact k10
      | exact k1.symm | exact k2.symm | exact k3.symm | exact k4.symm | exact k5.symm | exact k6.symm | exact k7.symm | exact k8.symm | exact k9.symm | exact k10.symm
  · have e0 := cell_lt (show W.cell? ⟨1, 0, none⟩ = some _ from by simpa using World.var?_cell hg0 hv0 0)
    have e1 := cell_lt (show W.cell? ⟨2, 0, none⟩ = some _ from by simpa using World.var?_cell hg1 hv1 0)
    have e2 := cell_lt (show W.cell? ⟨3, 0, none⟩ = some _ from by simpa using World.var?_cell hg2 hv2 0)
    have e3 := cell_lt (show W.cell? ⟨4, 0, none⟩ = some _ from by simpa using World.var?_cell hg3 hv3 0)
    have e4 := cell_lt (show W.cell? ⟨5, 0, none⟩ = some _ from by simpa using World.var?_cell hg4 hv4 0)
    have e5 := hkn.lt
    omega
end Go.Proofs.YtiajkdjljilndaaDoor
