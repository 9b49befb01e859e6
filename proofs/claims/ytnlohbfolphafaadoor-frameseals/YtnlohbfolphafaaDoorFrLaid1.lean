/- What the tied list of variables gives: the table of sixteen lies in memory; and a state that meets it. -/
import Derived.Test.YtnlohbfolphafaaDoorRows
import Derived.Test.YtnlohbfolphafaaDoorCrc
import Derived.ProofKit
import Derived.LaidMore
import Derived.OpenShut
import Derived.Stop.Joined
import Derived.Stop.LaidErr
import Derived.MakeChecks
namespace Go.Proofs.YtnlohbfolphafaaDoor
open Go.ChangeShapes Go.WideShapes Go.ChangeAt Go.RowKit Go.Wire1 Go.Crc2

abbrev laid1 : List (String × DataW Unit) := [("moot/crc.halves", Rows.laid_moot_crc_halves)]
theorem gH : Tryd.prog.globalNamed "moot/crc.halves" = some 0 := by kernel_rfl
theorem gT : (Tryd.prog.globals[0]?).map (·.type) = some 82 := by kernel_rfl
theorem cellsU : Tryd.prog.cellsOf 44 = 1 := by kernel_rfl

theorem door_met (os : Os) (args : Array Value) : laidMetH Tryd.prog laid1 ((World.doorLaid Tryd.prog 400 os).forCall (fun _ _ => 0) ⟨#[], args, []⟩).memory :=
  laidMetH_of_parts3 (fuel := 8) (laidMet_of_run' 8 (by kernel_rfl) (by kernel_rfl)) (by kernel_rfl) (by kernel_rfl)

theorem laid_list : (Rows.laid_moot_crc_halves : DataW Unit) = .agg (halves.map fun (n : Nat) => .lit (.int .u32 (Int.ofNat n))) := rfl

set_option maxRecDepth 100000 in
theorem hal_of_laid {W : World} (h : laidMetH Tryd.prog laid1 W) : Hal W := by
  rw [MakeChecks.laidMetH_plain _ _ _ (by kernel_rfl)] at h
  obtain ⟨ps, ⟨g0, t0, cs0, f0, p0, q0, hg0, ht0, hv0, hd0, _, e0⟩, hnd, hrows⟩ := h
  obtain rfl := Option.some.inj (gH.symm.trans hg0)
  obtain rfl := Option.some.inj (gT.symm.trans ht0)
  rw [laid_list] at hd0
  obtain ⟨xs, m, _, hx, hlen, hn, hall⟩ := DataW.trod_array Tryd.underlying82 hd0
  simp only [Prod.mk.injEq, DataW.agg.injEq] at hx
  intro i hi
  rw [World.var?_cell hg0 hv0 i]
  have h1 := hall i hi
  have hxi : ∃ x, xs[i]? = some x := ⟨xs[i], List.getElem?_eq_getElem (by omega)⟩
  obtain ⟨x, hxi⟩ := hxi
  rw [hxi] at h1
  obtain ⟨n, hcs, hxd, _⟩ := DataW.trod_int Tryd.underlying44 h1
  have h2 : (xs.map (·.1))[i]? = some (.lit (.int .u32 n)) := by rw [List.getElem?_map, hxi, hxd]; rfl
  rw [← hx.1, List.getElem?_map] at h2
  rw [cellsU, Nat.mul_one] at hcs
  have h3 : cs0[i]? = some (.int .u32 n) := by
    have h4 : (cs0.toList.drop i)[0]? = some (.int .u32 n) := by
      have : ((cs0.toList.drop i).take 1)[0]? = some (.int .u32 n) := by rw [hcs]; rfl
      simpa [List.getElem?_take] using this
    simpa using h4
  rw [h3]
  have h5 : i < halves.length := hi
  rw [List.getElem?_eq_getElem h5] at h2
  simp only [Option.map_some, Option.some.injEq, DataW.lit.injEq, Lit.int.injEq, true_and] at h2
  rw [← h2, List.getD, List.getElem?_eq_getElem h5]
  rfl
end Go.Proofs.YtnlohbfolphafaaDoor
