/- Texts of the proof, joined. -/
import Derived.Test.YtnjihfbghaefoaaGreatDoorRows
import Derived.Test.YtnjihfbghaefoaaGreatDoorJ19
import Derived.Test.YtnjihfbghaefoaaGreatDoorJ10
import Derived.Test.YtnjihfbghaefoaaGreatDoorJ13
import Derived.Test.YtnjihfbghaefoaaGreatDoorJ37
import Derived.ProofKit
import Derived.LaidMore
import Derived.OpenShut
import Derived.Stop.Joined
import Derived.Stop.LaidErr
import Derived.MakeChecks
import Derived.Test.YtnjihfbghaefoaaGreatDoorJ05
import Derived.WalkKit
import Derived.ShutString
import Derived.ChangeOld
import Derived.Below
import Derived.SizedLaws
import Derived.Lib.SmallJoins
import Derived.Test.YtnjihfbghaefoaaGreatDoorJ01
/- What the tied list of variables gives: the table of sixteen, the five sentinels of package wire lie at five different places, the tables of kinds and of rows lie in memory; and a state that meets it. -/
namespace Go.Proofs.YtnjihfbghaefoaaGreatDoor
open Go.ChangeShapes Go.WideShapes Go.ChangeAt Go.RowKit Go.Wire1 Go.Crc2

/-- The rows' list. -/
abbrev laid8 : List (String × DataW Unit) := [("moot/crc.halves", Rows.laid_moot_crc_halves), ("moot/wire.errShort", Rows.laid_moot_wire_errShort), ("moot/wire.errWide", Rows.laid_moot_wire_errWide), ("moot/wire.errForm", Rows.laid_moot_wire_errForm), ("moot/wire.errBig", Rows.laid_moot_wire_errBig), ("moot/wire.errLength", Rows.laid_moot_wire_errLength), ("moot/command.kinds", Rows.laid_moot_command_kinds), ("moot/record.rows", Rows.laid_moot_record_rows)]

theorem qgH : Tryz.prog.globalNamed "moot/command.kinds" = some 2 := by kernel_rfl
theorem qgTH : (Tryz.prog.globals[2]?).map (·.type) = some 150 := by kernel_rfl
theorem qgR : Tryz.prog.globalNamed "moot/record.rows" = some 0 := by kernel_rfl
theorem qgTR : (Tryz.prog.globals[0]?).map (·.type) = some 74 := by kernel_rfl
theorem qgHl : Tryz.prog.globalNamed "moot/crc.halves" = some 4 := by kernel_rfl
theorem qgTHl : (Tryz.prog.globals[4]?).map (·.type) = some 238 := by kernel_rfl
theorem cellsU : Tryz.prog.cellsOf 82 = 1 := by kernel_rfl
theorem cellsR : Tryz.prog.cellsOf 149 = 2 := by kernel_rfl
theorem cellsI : Tryz.prog.cellsOf 3 = 1 := by kernel_rfl
theorem cellsStr8 : Tryz.prog.cellsOf 9 = 1 := by kernel_rfl
theorem door_met (os : Os) (args : Array Value) : laidMetH Tryz.prog laid8 ((World.doorLaid Tryz.prog 400 os).forCall (fun _ _ => 0) ⟨#[], args, []⟩).memory :=
  laidMetH_of_parts3 (fuel := 8) (laidMet_of_run' 8 (by kernel_rfl) (by kernel_rfl)) (by kernel_rfl) (by kernel_rfl)

theorem laid_list : (Rows.laid_moot_command_kinds : DataW Unit) = .agg ((List.range 9).map fun i => .agg [.lit (.int .i64 (fieldsL.getD i 0 : Nat)), .lit (.int .i64 (fromL.getD i 0 : Nat))]) := rfl

theorem laid_rows : (Rows.laid_moot_record_rows : DataW Unit) = .agg ((List.range 6).map fun i => .lit (.string (rowS.getD i ⟨#[]⟩).data.toList)) := rfl

theorem laid_halves : (Rows.laid_moot_crc_halves : DataW Unit) = .agg (halves.map fun (n : Nat) => .lit (.int .u32 (Int.ofNat n))) := rfl

set_option maxRecDepth 100000 in
theorem hal_of_laid {W : World} (h : laidMetH Tryz.prog laid8 W) : Hal W := by
  rw [MakeChecks.laidMetH_plain _ _ _ (by kernel_rfl)] at h
  obtain ⟨ps, ⟨g0, t0, cs0, f0, p0, q0, hg0, ht0, hv0, hd0, _⟩, _⟩ := h
  obtain rfl := Option.some.inj (qgHl.symm.trans hg0)
  obtain rfl := Option.some.inj (qgTHl.symm.trans ht0)
  rw [laid_halves] at hd0
  obtain ⟨xs, m, _, hx, hlen, hn, hall⟩ := DataW.trod_array Tryz.underlying238 hd0
  simp only [Prod.mk.injEq, DataW.agg.injEq] at hx
  intro i hi
  rw [World.var?_cell hg0 hv0 i]
  have h1 := hall i hi
  have hxi : ∃ x, xs[i]? = some x := ⟨xs[i], List.getElem?_eq_getElem (by omega)⟩
  obtain ⟨x, hxi⟩ := hxi
  rw [hxi] at h1
  obtain ⟨n, hcs, hxd, _⟩ := DataW.trod_int Tryz.underlying82 h1
  have h2 : (xs.map (·.1))[i]? = some (.lit (.int .u32 n)) := by rw [List.getElem?_map, hxi, hxd]; rfl
  rw [← hx.1, List.getElem?_map] at h2
  rw [cellsU, Nat.mul_one] at hcs
  have h3 : cs0[i]? = some (.int .u32 n) := by
    have h4 : (cs0.toList.drop i)[0]? = some (.int .u32 n) := by
      have : ((cs0.toList.drop i).take 1)[0]? = some (.int .u32 n) := by rw [hcs]; rfl
      simpa [List.getElem?_take] using this
    simpa using h4
  rw [h3]
  have h5 : i < halves.length := hi
  rw [List.getElem?_eq_getElem h5] at h2
  simp only [Option.map_some, Option.some.injEq, DataW.lit.injEq, Lit.int.injEq, true_and] at h2
  rw [← h2, List.getD, List.getElem?_eq_getElem h5]
  rfl

set_option maxRecDepth 100000 in
theorem knd_of_laid {W : World} (h : laidMetH Tryz.prog laid8 W) : Knd W := by
  rw [MakeChecks.laidMetH_plain _ _ _ (by kernel_rfl)] at h
  obtain ⟨_, ⟨_, _, _, _, _, _, _, _, _, _, ⟨_, _, _, _, _, _, _, _, _, _, ⟨_, _, _, _, _, _, _, _, _, _, ⟨_, _, _, _, _, _, _, _, _, _, ⟨_, _, _, _, _, _, _, _, _, _, ⟨_, _, _, _, _, _, _, _, _, _, ⟨g0, t0, cs0, f0, p0, q0, hg0, ht0, hv0, hd0, _, _⟩, _⟩, _⟩, _⟩, _⟩, _⟩, _⟩, _, _⟩ := h
  obtain rfl := Option.some.inj (qgH.symm.trans hg0)
  obtain rfl := Option.some.inj (qgTH.symm.trans ht0)
  rw [laid_list] at hd0
  obtain ⟨xs, m, _, hx, hlen, hn, hall⟩ := DataW.trod_array Tryz.underlying150 hd0
  simp only [Prod.mk.injEq, DataW.agg.injEq] at hx
  intro i hi
  rw [World.var?_cell hg0 hv0 (i * 2), World.var?_cell hg0 hv0 (i * 2 + 1)]
  have h1 := hall i hi
  have hxi : ∃ x, xs[i]? = some x := ⟨xs[i], List.getElem?_eq_getElem (by omega)⟩
  obtain ⟨x, hxi⟩ := hxi
  rw [hxi, cellsR] at h1
  obtain ⟨ys, n, _, hy, hl2, hyl, hf⟩ := DataW.trod_struct Tryz.underlying149 h1
  match ys, hyl with
  | [y0, y1], _ =>
    have t0 : DataW.trod (fun _ => ()) Tryz.prog W 0 (fun _ => true) false n 3 ((((cs0.toList.drop (i * 2)).take 2).drop 0).take (Tryz.prog.cellsOf 3)) = some y0 := hf 0 _ rfl
    have t1 : DataW.trod (fun _ => ()) Tryz.prog W 0 (fun _ => true) false n 3 ((((cs0.toList.drop (i * 2)).take 2).drop 1).take (Tryz.prog.cellsOf 3)) = some y1 := hf 1 _ rfl
    rw [cellsI] at t0 t1
    obtain ⟨n0, c0, z0, _⟩ := DataW.trod_int Tryz.underlying3 t0
    obtain ⟨n1, c1, z1, _⟩ := DataW.trod_int Tryz.underlying3 t1
    have h2 : (xs.map (·.1))[i]? = some (.agg [.lit (.int .i64 n0), .lit (.int .i64 n1)]) := by rw [List.getElem?_map, hxi, hy, z0, z1]; rfl
    rw [← hx.1, List.getElem?_map, List.getElem?_eq_getElem (by simpa using hi)] at h2
    simp only [List.getElem_range, Option.map_some, Option.some.injEq, DataW.agg.injEq, List.cons.injEq, DataW.lit.injEq, Lit.int.injEq, true_and, and_true] at h2
    have d0 : cs0[i * 2]? = some (.int .i64 n0) := by
      have h4 : ((((cs0.toList.drop (i * 2)).take 2).drop 0).take 1)[0]? = some (.int .i64 n0) := by rw [c0]; rfl
      simpa [List.getElem?_take] using h4
    have d1 : cs0[i * 2 + 1]? = some (.int .i64 n1) := by
      have h4 : ((((cs0.toList.drop (i * 2)).take 2).drop 1).take 1)[0]? = some (.int .i64 n1) := by rw [c1]; rfl
      simpa [List.getElem?_take] using h4
    rw [d0, d1, h2.1, h2.2]
    exact ⟨rfl, rfl⟩

set_option maxRecDepth 100000 in
theorem rws_of_laid {W : World} (h : laidMetH Tryz.prog laid8 W) : Rws W := by
  rw [MakeChecks.laidMetH_plain _ _ _ (by kernel_rfl)] at h
  obtain ⟨_, ⟨_, _, _, _, _, _, _, _, _, _, ⟨_, _, _, _, _, _, _, _, _, _, ⟨_, _, _, _, _, _, _, _, _, _, ⟨_, _, _, _, _, _, _, _, _, _, ⟨_, _, _, _, _, _, _, _, _, _, ⟨_, _, _, _, _, _, _, _, _, _, ⟨_, _, _, _, _, _, _, _, _, _, ⟨g0, t0, cs0, f0, p0, q0, hg0, ht0, hv0, hd0, _, _⟩, _⟩, _⟩, _⟩, _⟩, _⟩, _⟩, _⟩, _, _⟩ := h
  obtain rfl := Option.some.inj (qgR.symm.trans hg0)
  obtain rfl := Option.some.inj (qgTR.symm.trans ht0)
  rw [laid_rows] at hd0
  obtain ⟨xs, m, _, hx, hlen, hn, hall⟩ := DataW.trod_array Tryz.underlying74 hd0
  simp only [Prod.mk.injEq, DataW.agg.injEq] at hx
  intro i hi
  rw [World.var?_cell hg0 hv0 i]
  have h1 := hall i hi
  have hxi : ∃ x, xs[i]? = some x := ⟨xs[i], List.getElem?_eq_getElem (by omega)⟩
  obtain ⟨x, hxi⟩ := hxi
  rw [hxi, cellsStr8, Nat.mul_one] at h1
  obtain ⟨s, c0, z0, _⟩ := DataW.trod_string Tryz.underlying9 h1
  have h2 : (xs.map (·.1))[i]? = some (.lit (.string s.data.toList)) := by rw [List.getElem?_map, hxi, z0]; rfl
  rw [← hx.1, List.getElem?_map, List.getElem?_eq_getElem (by simpa using hi)] at h2
  simp only [List.getElem_range, Option.map_some, Option.some.injEq, DataW.lit.injEq, Lit.string.injEq] at h2
  have d0 : cs0[i]? = some (.string s) := by
    have h4 : ((cs0.toList.drop i).take 1)[0]? = some (.string s) := by rw [c0]; rfl
    simpa [List.getElem?_take] using h4
  rw [d0]
  have e : rowS.getD i ⟨#[]⟩ = s := by
    cases hs : rowS.getD i ⟨#[]⟩
    cases s
    rw [hs] at h2
    simpa using h2
  rw [e]

end Go.Proofs.YtnjihfbghaefoaaGreatDoor
/- How arguments that are lists of ints, lists of them, and instances are opened for the walks. -/
namespace Go.Proofs.YtnjihfbghaefoaaGreatDoor
open Go.ChangeShapes Go.WideShapes Go.ChangeAt Go.RowKit Go.Wire1

theorem vcells3 : Tryz.prog.cellsOf 3 = 1 := by kernel_rfl

theorem vopen_ints {H : Type} {enc : TypeId × Value → H} {W : World} {fuel : Nat} {a : Option Addr} {len cap : Nat} {x : DataW H × List MemPlace}
    (h : DataW.trod enc Tryz.prog W 0 (fun _ => true) true fuel 28 [.slice a len cap] = some x) : ∃ l, SegI W a len l ∧ len ≤ cap ∧ ((x.1 = .nil ∧ len = 0 ∧ cap = 0) ∨ ∃ elems spare, x.1 = .slice elems spare ∧ elems.length = len ∧ elems.length + spare.length = cap) := by
  rcases Go.ChangeShapes.open_ints Tryz.underlying28 Tryz.underlying3 vcells3 h with ⟨hcs, hx⟩ | ⟨b, len', cap', zs, hcs, _, hl, hm, hz, hx, hcell, hwz⟩
  · simp only [List.cons.injEq, Value.slice.injEq, and_true] at hcs
    obtain ⟨rfl, rfl, rfl⟩ := hcs
    exact ⟨[], ⟨rfl, by unfold maxLen; omega, (fun h => by omega), fun j => by simp⟩, Nat.le_refl _, .inl ⟨by rw [hx], rfl, rfl⟩⟩
  · simp only [List.cons.injEq, Value.slice.injEq, and_true] at hcs
    obtain ⟨rfl, rfl, rfl⟩ := hcs
    simp only [if_true] at hz
    refine ⟨zs.take len, ⟨by rw [List.length_take]; omega, by omega, fun hn => ?_, fun j => ?_⟩, hl, .inr ⟨_, _, by rw [hx], by simp [lits]; omega, by simp [lits]; omega⟩⟩
    · obtain ⟨bb, off, spot⟩ := b
      have hc0 := hcell 0 (by omega)
      have hspot : spot = none := by simpa [Addr.add] using World.cell?_spot hc0
      subst hspot
      refine ⟨bb, off, rfl, fun j hj => ?_⟩
      have := hcell j (by omega)
      rw [add_at] at this
      rw [this]
      simp [hj]
    · by_cases hj : j < (zs.take len).length
      · rw [List.getD, List.getElem?_eq_getElem hj]
        have := bounds_i64 (hwz _ (List.mem_of_mem_take (List.getElem_mem hj)))
        simp only [Option.getD_some]; omega
      · rw [List.getD, List.getElem?_eq_none (by omega)]; simp

end Go.Proofs.YtnjihfbghaefoaaGreatDoor
/- How an argument that is a command is opened for the walks. -/
namespace Go.Proofs.YtnjihfbghaefoaaGreatDoor
open Go.ChangeShapes Go.WideShapes Go.ChangeAt Go.RowKit Go.Wire1

theorem cown : ownKnob Tryz.prog.godebug = none := by kernel_rfl
theorem claid : laidOutB Tryz.prog = true := by kernel_rfl
theorem ccellsC : Tryz.prog.cellsOf 27 = 8 := by kernel_rfl
end Go.Proofs.YtnjihfbghaefoaaGreatDoor
/- How an argument that is an instance is opened for the walks. -/
namespace Go.Proofs.YtnjihfbghaefoaaGreatDoor
open Go.ChangeShapes Go.WideShapes Go.ChangeAt Go.RowKit Go.Wire1

theorem vcellsX : Tryz.prog.cellsOf 23 = 2 := by kernel_rfl
end Go.Proofs.YtnjihfbghaefoaaGreatDoor
