/- Texts of the proof, joined. -/
import Derived.Test.YtnogdjpbnhnmaaaGreatDoorJ44
import Derived.Test.YtnogdjpbnhnmaaaGreatDoorRows
import Derived.Test.YtnogdjpbnhnmaaaGreatDoorJ17
import Derived.Test.YtnogdjpbnhnmaaaGreatDoorJ08
import Derived.Test.YtnogdjpbnhnmaaaGreatDoorJ11
import Derived.ProofKit
import Derived.LaidMore
import Derived.OpenShut
import Derived.Stop.Joined
import Derived.Stop.LaidErr
import Derived.MakeChecks
/- The document's own Encode of records, at every record; the bytes of the plain record. -/
namespace Go.Proofs.YtnogdjpbnhnmaaaGreatDoor
open Go.RowKit Go.Wire1

theorem ref6_yes (n : Int) (r : Rc) (w : World) (hr : Rok w r) (hn1 : -9223372036854775808 ≤ r.c.n) (hn2 : r.c.n ≤ 9223372036854775807) (hz : chkR n r = 0) :
    Calls Tryz.prog 14 #[.int .i64 n, .agg (rcs r).toArray] w fun e w' => ∃ u, e = .returned (.tuple #[u, .int .i64 0]) ∧ w'.ownsRow w.heap.size 5 1 u (recB r).length ((recB r).map (Value.int .u8)) ∧ Below w.heap.size w w' := by
  have h2 := (chkR_zero hz).2.1
  simp only [isKindR, Bool.and_eq_true, decide_eq_true_eq] at h2
  rcases (by omega : r.kind = 1 ∨ r.kind = 2 ∨ r.kind = 3 ∨ r.kind = 4 ∨ r.kind = 5) with h | h | h | h | h
  · exact r6_1 n r w hr hz h
  · exact r6_2 n r w hr hz h
  · rcases Decidable.em (r.c.kind = 0) with g | g
    · cases k : r.same with
      | true => exact r6_3tn n r w hr hn1 hn2 hz h k g
      | false => exact r6_3fn n r w hr hn1 hn2 hz h k g
    · cases k : r.same with
      | true => exact r6_3ty n r w hr hn1 hn2 hz h k g
      | false => exact r6_3fy n r w hr hn1 hn2 hz h k g
  · rcases Decidable.em (r.c.kind = 0) with g | g
    · exact r6_4n n r w hr hn1 hn2 hz h g
    · exact r6_4y n r w hr hn1 hn2 hz h g
  · rcases Decidable.em (r.c.kind = 0) with g | g
    · exact r6_5n n r w hr hn1 hn2 hz h g
    · exact r6_5y n r w hr hn1 hn2 hz h g

set_option maxHeartbeats 1000000 in
set_option maxRecDepth 100000 in
theorem ref6_no (n : Int) (r : Rc) (w : World) (hr : Rok w r) (hz : chkR n r ≠ 0) :
    Calls Tryz.prog 14 #[.int .i64 n, .agg (rcs r).toArray] w fun e w' => e = .returned (.tuple #[.slice none 0 0, .int .i64 (chkR n r : Nat)]) ∧ Below w.heap.size w w' := by
  obtain ⟨V, hV⟩ : ∃ V, V = w.alloc (.cells (rcs r).toArray 31) := ⟨_, rfl⟩
  have Q : Hid (Blk V w.heap.size (rcs r)) := by rw [hV]; exact blk_new w 31 (rcs r)
  have BV : Hid (Below w.heap.size w V) := by rw [hV]; exact (Below.refl _ _).alloc (Nat.le_refl _) _
  have hVs : w.heap.size ≤ V.heap.size := BV.out.size
  have HR := hide hr
  obtain ⟨z, hzz⟩ : ∃ z, Hid (chkR n r = z) := ⟨_, rfl⟩
  rw [hzz.out] at hz ⊢
  have g1 : (((z : Nat) : Int) != 0) = true := by rw [bne_iff_ne]; omega
  clear hr hz
  go_enter Tryz.func14, Tryz.ntmps14
  go_upto_region 1 with fail
  rw [← hV]
  clear hV
  go_wp2_with (first | (refine wpList_load_mid rfl 31 _ rfl w.heap.size 0 rfl (rcs r) _ (Q.out.range) Tryz.underlying31 rfl (by kernel_rfl) ?_))
  refine (refCheck_any n r _ (HR.out.below BV.out (Nat.le_refl _))).mono ?_
  rintro e w1 ⟨rfl, hb1⟩
  rw [hzz.out]
  have B1 : Hid (Below w.heap.size w w1) := BV.out.trans (hb1.mono hVs)
  clear hb1
  go_wp2
  go_ret2
  exact ⟨rfl, B1.out⟩

theorem seg_e6 (w : World) : Seg w none 0 [] := ⟨rfl, by unfold maxLen; omega, fun h => by omega⟩

theorem recB_plain (b : Nat) : recB (plainR b) = [5, 8, 1, 0, 0, 1, 107, 3, 2, 10] := by kernel_rfl

set_option maxHeartbeats 1000000 in
set_option maxRecDepth 100000 in
theorem form6_any (w : World) :
    Calls Tryz.prog 6 #[] w fun e w' => e = .returned (.slice (some ⟨w.heap.size, 0, none⟩) 10 10) ∧ Seg w' (some ⟨w.heap.size, 0, none⟩) 10 [5, 8, 1, 0, 0, 1, 107, 3, 2, 10] ∧ Below w.heap.size w w' := by
  go_enter Tryz.func6, Tryz.ntmps6
  go_wp2
  go_ret
  exact ⟨rfl, seg_lit [5, 8, 1, 0, 0, 1, 107, 3, 2, 10] (by unfold maxLen; decide) rfl rfl rfl, (Below.refl _ _).alloc (Nat.le_refl _) _⟩
end Go.Proofs.YtnogdjpbnhnmaaaGreatDoor
/- What the tied list of variables gives: the five sentinels of package wire lie at five different places, the tables of kinds and of rows lie in memory; and a state that meets it. -/
namespace Go.Proofs.YtnogdjpbnhnmaaaGreatDoor
open Go.ChangeShapes Go.WideShapes Go.ChangeAt Go.RowKit Go.Wire1

/-- The rows' list. -/
abbrev laid7 : List (String × DataW Unit) := [("moot/wire.errShort", Rows.laid_moot_wire_errShort), ("moot/wire.errWide", Rows.laid_moot_wire_errWide), ("moot/wire.errForm", Rows.laid_moot_wire_errForm), ("moot/wire.errBig", Rows.laid_moot_wire_errBig), ("moot/wire.errLength", Rows.laid_moot_wire_errLength), ("moot/command.kinds", Rows.laid_moot_command_kinds), ("moot/record.rows", Rows.laid_moot_record_rows)]

theorem qgH : Tryz.prog.globalNamed "moot/command.kinds" = some 1 := by kernel_rfl
theorem qgTH : (Tryz.prog.globals[1]?).map (·.type) = some 132 := by kernel_rfl
theorem qgR : Tryz.prog.globalNamed "moot/record.rows" = some 0 := by kernel_rfl
theorem qgTR : (Tryz.prog.globals[0]?).map (·.type) = some 67 := by kernel_rfl
theorem cellsR : Tryz.prog.cellsOf 131 = 2 := by kernel_rfl
theorem cellsI : Tryz.prog.cellsOf 3 = 1 := by kernel_rfl
theorem cellsS : Tryz.prog.cellsOf 9 = 1 := by kernel_rfl
theorem door_met (os : Os) (args : Array Value) : laidMetH Tryz.prog laid7 ((World.doorLaid Tryz.prog 400 os).forCall (fun _ _ => 0) ⟨#[], args, []⟩).memory :=
  laidMetH_of_parts3 (fuel := 8) (laidMet_of_run' 8 (by kernel_rfl) (by kernel_rfl)) (by kernel_rfl) (by kernel_rfl)

theorem laid_list : (Rows.laid_moot_command_kinds : DataW Unit) = .agg ((List.range 9).map fun i => .agg [.lit (.int .i64 (fieldsL.getD i 0 : Nat)), .lit (.int .i64 (fromL.getD i 0 : Nat))]) := rfl

theorem laid_rows : (Rows.laid_moot_record_rows : DataW Unit) = .agg ((List.range 6).map fun i => .lit (.string (rowS.getD i ⟨#[]⟩).data.toList)) := rfl

set_option maxRecDepth 100000 in
theorem knd_of_laid {W : World} (h : laidMetH Tryz.prog laid7 W) : Knd W := by
  rw [MakeChecks.laidMetH_plain _ _ _ (by kernel_rfl)] at h
  obtain ⟨_, ⟨_, _, _, _, _, _, _, _, _, _, ⟨_, _, _, _, _, _, _, _, _, _, ⟨_, _, _, _, _, _, _, _, _, _, ⟨_, _, _, _, _, _, _, _, _, _, ⟨_, _, _, _, _, _, _, _, _, _, ⟨g0, t0, cs0, f0, p0, q0, hg0, ht0, hv0, hd0, _, _⟩, _⟩, _⟩, _⟩, _⟩, _⟩, _, _⟩ := h
  obtain rfl := Option.some.inj (qgH.symm.trans hg0)
  obtain rfl := Option.some.inj (qgTH.symm.trans ht0)
  rw [laid_list] at hd0
  obtain ⟨xs, m, _, hx, hlen, hn, hall⟩ := DataW.trod_array Tryz.underlying132 hd0
  simp only [Prod.mk.injEq, DataW.agg.injEq] at hx
  intro i hi
  rw [World.var?_cell hg0 hv0 (i * 2), World.var?_cell hg0 hv0 (i * 2 + 1)]
  have h1 := hall i hi
  have hxi : ∃ x, xs[i]? = some x := ⟨xs[i], List.getElem?_eq_getElem (by omega)⟩
  obtain ⟨x, hxi⟩ := hxi
  rw [hxi, cellsR] at h1
  obtain ⟨ys, n, _, hy, hl2, hyl, hf⟩ := DataW.trod_struct Tryz.underlying131 h1
  match ys, hyl with
  | [y0, y1], _ =>
    have t0 : DataW.trod (fun _ => ()) Tryz.prog W 0 (fun _ => true) false n 3 ((((cs0.toList.drop (i * 2)).take 2).drop 0).take (Tryz.prog.cellsOf 3)) = some y0 := hf 0 _ rfl
    have t1 : DataW.trod (fun _ => ()) Tryz.prog W 0 (fun _ => true) false n 3 ((((cs0.toList.drop (i * 2)).take 2).drop 1).take (Tryz.prog.cellsOf 3)) = some y1 := hf 1 _ rfl
    rw [cellsI] at t0 t1
    obtain ⟨n0, c0, z0, _⟩ := DataW.trod_int Tryz.underlying3 t0
    obtain ⟨n1, c1, z1, _⟩ := DataW.trod_int Tryz.underlying3 t1
    have h2 : (xs.map (·.1))[i]? = some (.agg [.lit (.int .i64 n0), .lit (.int .i64 n1)]) := by rw [List.getElem?_map, hxi, hy, z0, z1]; rfl
    rw [← hx.1, List.getElem?_map, List.getElem?_eq_getElem (by simpa using hi)] at h2
    simp only [List.getElem_range, Option.map_some, Option.some.injEq, DataW.agg.injEq, List.cons.injEq, DataW.lit.injEq, Lit.int.injEq, true_and, and_true] at h2
    have d0 : cs0[i * 2]? = some (.int .i64 n0) := by
      have h4 : ((((cs0.toList.drop (i * 2)).take 2).drop 0).take 1)[0]? = some (.int .i64 n0) := by rw [c0]; rfl
      simpa [List.getElem?_take] using h4
    have d1 : cs0[i * 2 + 1]? = some (.int .i64 n1) := by
      have h4 : ((((cs0.toList.drop (i * 2)).take 2).drop 1).take 1)[0]? = some (.int .i64 n1) := by rw [c1]; rfl
      simpa [List.getElem?_take] using h4
    rw [d0, d1, h2.1, h2.2]
    exact ⟨rfl, rfl⟩

set_option maxRecDepth 100000 in
theorem rws_of_laid {W : World} (h : laidMetH Tryz.prog laid7 W) : Rws W := by
  rw [MakeChecks.laidMetH_plain _ _ _ (by kernel_rfl)] at h
  obtain ⟨_, ⟨_, _, _, _, _, _, _, _, _, _, ⟨_, _, _, _, _, _, _, _, _, _, ⟨_, _, _, _, _, _, _, _, _, _, ⟨_, _, _, _, _, _, _, _, _, _, ⟨_, _, _, _, _, _, _, _, _, _, ⟨_, _, _, _, _, _, _, _, _, _, ⟨g0, t0, cs0, f0, p0, q0, hg0, ht0, hv0, hd0, _, _⟩, _⟩, _⟩, _⟩, _⟩, _⟩, _⟩, _, _⟩ := h
  obtain rfl := Option.some.inj (qgR.symm.trans hg0)
  obtain rfl := Option.some.inj (qgTR.symm.trans ht0)
  rw [laid_rows] at hd0
  obtain ⟨xs, m, _, hx, hlen, hn, hall⟩ := DataW.trod_array Tryz.underlying67 hd0
  simp only [Prod.mk.injEq, DataW.agg.injEq] at hx
  intro i hi
  rw [World.var?_cell hg0 hv0 i]
  have h1 := hall i hi
  have hxi : ∃ x, xs[i]? = some x := ⟨xs[i], List.getElem?_eq_getElem (by omega)⟩
  obtain ⟨x, hxi⟩ := hxi
  rw [hxi, cellsS, Nat.mul_one] at h1
  obtain ⟨s, c0, z0, _⟩ := DataW.trod_string Tryz.underlying9 h1
  have h2 : (xs.map (·.1))[i]? = some (.lit (.string s.data.toList)) := by rw [List.getElem?_map, hxi, z0]; rfl
  rw [← hx.1, List.getElem?_map, List.getElem?_eq_getElem (by simpa using hi)] at h2
  simp only [List.getElem_range, Option.map_some, Option.some.injEq, DataW.lit.injEq, Lit.string.injEq] at h2
  have d0 : cs0[i]? = some (.string s) := by
    have h4 : ((cs0.toList.drop i).take 1)[0]? = some (.string s) := by rw [c0]; rfl
    simpa [List.getElem?_take] using h4
  rw [d0]
  have e : rowS.getD i ⟨#[]⟩ = s := by
    cases hs : rowS.getD i ⟨#[]⟩
    cases s
    rw [hs] at h2
    simpa using h2
  rw [e]

end Go.Proofs.YtnogdjpbnhnmaaaGreatDoor
