/- What the tied list of two variables gives: the table of kinds and the table of rows lie in memory; and a state that meets it. -/
import Derived.Test.YtjpggmenbnkbbaaDoorRows
import Derived.Test.YtjpggmenbnkbbaaDoorHChk
import Derived.Test.YtjpggmenbnkbbaaDoorRExtra
import Derived.ProofKit
import Derived.LaidMore
import Derived.OpenShut
import Derived.Stop.Joined
import Derived.Stop.LaidErr
import Derived.MakeChecks
namespace Go.Proofs.YtjpggmenbnkbbaaDoor
open Go.ChangeShapes Go.WideShapes Go.ChangeAt Go.RowKit Go.Wire1

abbrev laid2 : List (String × DataW Unit) := [("moot/command.kinds", Rows.laid_moot_command_kinds), ("moot/record.rows", Rows.laid_moot_record_rows)]
theorem gH : Tryd.prog.globalNamed "moot/command.kinds" = some 1 := by kernel_rfl
theorem gT : (Tryd.prog.globals[1]?).map (·.type) = some 63 := by kernel_rfl
theorem gR : Tryd.prog.globalNamed "moot/record.rows" = some 0 := by kernel_rfl
theorem gTR : (Tryd.prog.globals[0]?).map (·.type) = some 39 := by kernel_rfl
theorem cellsR : Tryd.prog.cellsOf 62 = 2 := by kernel_rfl
theorem cellsI : Tryd.prog.cellsOf 3 = 1 := by kernel_rfl
theorem cellsS : Tryd.prog.cellsOf 9 = 1 := by kernel_rfl

theorem door_met (os : Os) (args : Array Value) : laidMetH Tryd.prog laid2 ((World.doorLaid Tryd.prog 104 os).forCall (fun _ _ => 0) ⟨#[], args, []⟩).memory :=
  laidMetH_of_parts3 (fuel := 8) (laidMet_of_run' 8 (by kernel_rfl) (by kernel_rfl)) (by kernel_rfl) (by kernel_rfl)

theorem laid_list : (Rows.laid_moot_command_kinds : DataW Unit) = .agg ((List.range 9).map fun i => .agg [.lit (.int .i64 (fieldsL.getD i 0 : Nat)), .lit (.int .i64 (fromL.getD i 0 : Nat))]) := rfl
theorem laid_rows : (Rows.laid_moot_record_rows : DataW Unit) = .agg ((List.range 6).map fun i => .lit (.string (rowS.getD i ⟨#[]⟩).data.toList)) := rfl

set_option maxRecDepth 100000 in
theorem knd_of_laid {W : World} (h : laidMetH Tryd.prog laid2 W) : Knd W := by
  rw [MakeChecks.laidMetH_plain _ _ _ (by kernel_rfl)] at h
  obtain ⟨ps, ⟨g0, t0, cs0, f0, p0, q0, hg0, ht0, hv0, hd0, _, e0⟩, hnd, hrows⟩ := h
  obtain rfl := Option.some.inj (gH.symm.trans hg0)
  obtain rfl := Option.some.inj (gT.symm.trans ht0)
  rw [laid_list] at hd0
  obtain ⟨xs, m, _, hx, hlen, hn, hall⟩ := DataW.trod_array Tryd.underlying63 hd0
  simp only [Prod.mk.injEq, DataW.agg.injEq] at hx
  intro i hi
  rw [World.var?_cell hg0 hv0 (i * 2), World.var?_cell hg0 hv0 (i * 2 + 1)]
  have h1 := hall i hi
  have hxi : ∃ x, xs[i]? = some x := ⟨xs[i], List.getElem?_eq_getElem (by omega)⟩
  obtain ⟨x, hxi⟩ := hxi
  rw [hxi, cellsR] at h1
  obtain ⟨ys, n, _, hy, hl2, hyl, hf⟩ := DataW.trod_struct Tryd.underlying62 h1
  match ys, hyl with
  | [y0, y1], _ =>
    have t0 : DataW.trod (fun _ => ()) Tryd.prog W 0 (fun _ => true) false n 3 ((((cs0.toList.drop (i * 2)).take 2).drop 0).take (Tryd.prog.cellsOf 3)) = some y0 := hf 0 _ rfl
    have t1 : DataW.trod (fun _ => ()) Tryd.prog W 0 (fun _ => true) false n 3 ((((cs0.toList.drop (i * 2)).take 2).drop 1).take (Tryd.prog.cellsOf 3)) = some y1 := hf 1 _ rfl
    rw [cellsI] at t0 t1
    obtain ⟨n0, c0, z0, _⟩ := DataW.trod_int Tryd.underlying3 t0
    obtain ⟨n1, c1, z1, _⟩ := DataW.trod_int Tryd.underlying3 t1
    have h2 : (xs.map (·.1))[i]? = some (.agg [.lit (.int .i64 n0), .lit (.int .i64 n1)]) := by rw [List.getElem?_map, hxi, hy, z0, z1]; rfl
    rw [← hx.1, List.getElem?_map, List.getElem?_eq_getElem (by simpa using hi)] at h2
    simp only [List.getElem_range, Option.map_some, Option.some.injEq, DataW.agg.injEq, List.cons.injEq, DataW.lit.injEq, Lit.int.injEq, true_and, and_true] at h2
    have d0 : cs0[i * 2]? = some (.int .i64 n0) := by
      have h4 : ((((cs0.toList.drop (i * 2)).take 2).drop 0).take 1)[0]? = some (.int .i64 n0) := by rw [c0]; rfl
      simpa [List.getElem?_take] using h4
    have d1 : cs0[i * 2 + 1]? = some (.int .i64 n1) := by
      have h4 : ((((cs0.toList.drop (i * 2)).take 2).drop 1).take 1)[0]? = some (.int .i64 n1) := by rw [c1]; rfl
      simpa [List.getElem?_take] using h4
    rw [d0, d1, h2.1, h2.2]
    exact ⟨rfl, rfl⟩

set_option maxRecDepth 100000 in
theorem rws_of_laid {W : World} (h : laidMetH Tryd.prog laid2 W) : Rws W := by
  rw [MakeChecks.laidMetH_plain _ _ _ (by kernel_rfl)] at h
  obtain ⟨_, ⟨_, _, _, _, _, _, _, _, _, _, ⟨g0, t0, cs0, f0, p0, q0, hg0, ht0, hv0, hd0, _, _⟩, _⟩, _, _⟩ := h
  obtain rfl := Option.some.inj (gR.symm.trans hg0)
  obtain rfl := Option.some.inj (gTR.symm.trans ht0)
  rw [laid_rows] at hd0
  obtain ⟨xs, m, _, hx, hlen, hn, hall⟩ := DataW.trod_array Tryd.underlying39 hd0
  simp only [Prod.mk.injEq, DataW.agg.injEq] at hx
  intro i hi
  rw [World.var?_cell hg0 hv0 i]
  have h1 := hall i hi
  have hxi : ∃ x, xs[i]? = some x := ⟨xs[i], List.getElem?_eq_getElem (by omega)⟩
  obtain ⟨x, hxi⟩ := hxi
  rw [hxi, cellsS, Nat.mul_one] at h1
  obtain ⟨s, c0, z0, _⟩ := DataW.trod_string Tryd.underlying9 h1
  have h2 : (xs.map (·.1))[i]? = some (.lit (.string s.data.toList)) := by rw [List.getElem?_map, hxi, z0]; rfl
  rw [← hx.1, List.getElem?_map, List.getElem?_eq_getElem (by simpa using hi)] at h2
  simp only [List.getElem_range, Option.map_some, Option.some.injEq, DataW.lit.injEq, Lit.string.injEq] at h2
  have d0 : cs0[i]? = some (.string s) := by
    have h4 : ((cs0.toList.drop i).take 1)[0]? = some (.string s) := by rw [c0]; rfl
    simpa [List.getElem?_take] using h4
  rw [d0]
  have e : rowS.getD i ⟨#[]⟩ = s := by
    cases hs : rowS.getD i ⟨#[]⟩
    cases s
    rw [hs] at h2
    simpa using h2
  rw [e]
end Go.Proofs.YtjpggmenbnkbbaaDoor
