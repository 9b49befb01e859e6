/- Texts of the proof, joined. -/
import Derived.Test.YtlhididcanedhaaGreatDoorJ03
import Derived.Test.YtlhididcanedhaaGreatDoorJ38
import Derived.Test.YtlhididcanedhaaGreatDoorJ44
import Derived.Deep.Cut
import Derived.Test.YtlhididcanedhaaGreatDoorRows
import Derived.Test.YtlhididcanedhaaGreatDoorJ01
import Derived.WalkKit
import Derived.ProofKit
import Derived.OpenShut
import Derived.ShutString
import Derived.ChangeOld
import Derived.Below
import Derived.SizedLaws
import Derived.Test.YtlhididcanedhaaGreatDoorJ19
import Derived.Test.YtlhididcanedhaaGreatDoorJ30
import Derived.Test.YtlhididcanedhaaGreatDoorJ07
import Derived.Test.YtlhididcanedhaaGreatDoorJ05
import Derived.LaidMore
import Derived.Stop.Joined
import Derived.Stop.LaidErr
import Derived.MakeChecks
import Derived.Test.YtlhididcanedhaaGreatDoorJ02
import Derived.Lib.SmallJoins
/- The contract of mootref.SameRecord at two records that are alike. -/
namespace Go.Proofs.YtlhididcanedhaaGreatDoor
open Go.RowKit Go.Wire1

theorem rsameC_self (c : Cm) : sameC c c = true := by simp [sameC, teq]
theorem sameB_self (l : List Int) : sameB l l = true := by
  unfold sameB
  simp
set_option maxHeartbeats 1000000 in
set_option maxRecDepth 100000 in
theorem sameInst_same (x y : Int) (w : World) : Calls Tryz.prog 26 #[.agg #[.int .i64 x, .int .i64 y], .agg #[.int .i64 x, .int .i64 y]] w fun e w' => e = .returned (.bool true) ∧ Below w.heap.size w w' := by
  have BB : ∀ o p, Hid (Below w.heap.size w ((w.alloc o).alloc p)) := fun o p => ((Below.refl _ w).alloc (Nat.le_refl _) _).alloc (by simp) _
  go_enter Tryz.func26, Tryz.ntmps26
  go_wp2
  go_ret
  exact ⟨rfl, (BB _ _).out⟩
set_option maxHeartbeats 1000000 in
set_option maxRecDepth 100000 in
theorem sameBallot_same (x y : Int) (w : World) : Calls Tryz.prog 27 #[.agg #[.int .i64 x, .int .i64 y], .agg #[.int .i64 x, .int .i64 y]] w fun e w' => e = .returned (.bool true) ∧ Below w.heap.size w w' := by
  have BB : ∀ o p, Hid (Below w.heap.size w ((w.alloc o).alloc p)) := fun o p => ((Below.refl _ w).alloc (Nat.le_refl _) _).alloc (by simp) _
  go_enter Tryz.func27, Tryz.ntmps27
  go_wp2
  go_ret
  exact ⟨rfl, (BB _ _).out⟩
set_option maxHeartbeats 2000000 in
set_option maxRecDepth 100000 in
theorem sameRec_lay (r : Rc) (a : Option Addr) (d c : Nat) (w : World) (h1 : SegI w r.da r.dn r.deps) (h2 : SegI w a d r.deps) :
    Calls Tryz.prog 12 #[.agg (rcs r).toArray, .agg (rcs ({ r with da := a, dn := d, dc := c })).toArray] w fun e w' => e = .returned (.bool true) ∧ Below w.heap.size w w' := by
  obtain ⟨V, hV⟩ : ∃ V, V = (w.alloc (.cells (rcs r).toArray 30)).alloc (.cells (rcs ({ r with da := a, dn := d, dc := c })).toArray 30) := ⟨_, rfl⟩
  have BV : Hid (Below w.heap.size w V) := by rw [hV]; exact ((Below.refl _ w).alloc (Nat.le_refl _) _).alloc (by simp) _
  have QV : Hid (Blk V w.heap.size (rcs r) ∧ Blk V (w.heap.size + 1) (rcs ({ r with da := a, dn := d, dc := c }))) := by
    rw [hV]
    refine ⟨(blk_new w 30 (rcs r)).on ((Below.refl _ _).alloc (Nat.le_refl _) _), ?_⟩
    have := blk_new (w.alloc (.cells (rcs r).toArray 30)) 30 (rcs ({ r with da := a, dn := d, dc := c }))
    rwa [show (w.alloc (.cells (rcs r).toArray 30)).heap.size = w.heap.size + 1 by simp] at this
  have H1 := hide h1
  have H2 := hide h2
  clear h1 h2
  have Vp0 : V.cell? ⟨w.heap.size, 0, none⟩ = some (.int .i64 r.kind) := QV.out.1.cell 0 _ rfl
  have Vq0 : V.cell? ⟨w.heap.size + 1, 0, none⟩ = some (.int .i64 r.kind) := QV.out.2.cell 0 _ rfl
  have Vp5 : V.cell? ⟨w.heap.size, 5, none⟩ = some (.bool r.same) := QV.out.1.cell 5 _ rfl
  have Vq5 : V.cell? ⟨w.heap.size + 1, 5, none⟩ = some (.bool r.same) := QV.out.2.cell 5 _ rfl
  have Vp14 : V.cell? ⟨w.heap.size, 14, none⟩ = some (.int .i64 r.seq) := QV.out.1.cell 14 _ rfl
  have Vq14 : V.cell? ⟨w.heap.size + 1, 14, none⟩ = some (.int .i64 r.seq) := QV.out.2.cell 14 _ rfl
  have Vp16 : V.cell? ⟨w.heap.size, 16, none⟩ = some (.int .i64 r.id) := QV.out.1.cell 16 _ rfl
  have Vq16 : V.cell? ⟨w.heap.size + 1, 16, none⟩ = some (.int .i64 r.id) := QV.out.2.cell 16 _ rfl
  have Vp17 : V.cell? ⟨w.heap.size, 17, none⟩ = some (.int .i64 r.n) := QV.out.1.cell 17 _ rfl
  have Vq17 : V.cell? ⟨w.heap.size + 1, 17, none⟩ = some (.int .i64 r.n) := QV.out.2.cell 17 _ rfl
  have Vp1 : V.cell? ⟨w.heap.size, 1, none⟩ = some (.int .i64 r.row) := QV.out.1.cell 1 _ rfl
  have Vq1 : V.cell? ⟨w.heap.size + 1, 1, none⟩ = some (.int .i64 r.row) := QV.out.2.cell 1 _ rfl
  have Vp2 : V.cell? ⟨w.heap.size, 2, none⟩ = some (.int .i64 r.num) := QV.out.1.cell 2 _ rfl
  have Vq2 : V.cell? ⟨w.heap.size + 1, 2, none⟩ = some (.int .i64 r.num) := QV.out.2.cell 2 _ rfl
  go_enter Tryz.func12, Tryz.ntmps12
  go_upto_region 1 with fail
  rw [← hV]
  clear hV
  go_wp2_with fail
  refine (sameInst_same r.row r.num _).mono ?_
  rintro e W ⟨rfl, h⟩
  have BW : Hid (Below w.heap.size w W) := BV.out.trans (h.mono BV.out.size)
  have QW : Hid (Blk W w.heap.size (rcs r) ∧ Blk W (w.heap.size + 1) (rcs ({ r with da := a, dn := d, dc := c }))) := ⟨QV.out.1.on h, QV.out.2.on h⟩
  clear h
  have Wp3 : W.cell? ⟨w.heap.size, 3, none⟩ = some (.int .i64 r.round) := QW.out.1.cell 3 _ rfl
  have Wq3 : W.cell? ⟨w.heap.size + 1, 3, none⟩ = some (.int .i64 r.round) := QW.out.2.cell 3 _ rfl
  have Wp4 : W.cell? ⟨w.heap.size, 4, none⟩ = some (.int .i64 r.who) := QW.out.1.cell 4 _ rfl
  have Wq4 : W.cell? ⟨w.heap.size + 1, 4, none⟩ = some (.int .i64 r.who) := QW.out.2.cell 4 _ rfl
  go_wp2_with fail
  refine (sameBallot_same r.round r.who _).mono ?_
  rintro e X ⟨rfl, h⟩
  have BX : Hid (Below w.heap.size w X) := BW.out.trans (h.mono BW.out.size)
  have QX : Hid (Blk X w.heap.size (rcs r) ∧ Blk X (w.heap.size + 1) (rcs ({ r with da := a, dn := d, dc := c }))) := ⟨QW.out.1.on h, QW.out.2.on h⟩
  clear h
  have Xp6 : X.cell? ⟨w.heap.size, 6, none⟩ = some (.int .i64 r.c.kind) := QX.out.1.cell 6 _ rfl
  have Xq6 : X.cell? ⟨w.heap.size + 1, 6, none⟩ = some (.int .i64 r.c.kind) := QX.out.2.cell 6 _ rfl
  have Xp7 : X.cell? ⟨w.heap.size, 7, none⟩ = some (.int .i64 r.c.client) := QX.out.1.cell 7 _ rfl
  have Xq7 : X.cell? ⟨w.heap.size + 1, 7, none⟩ = some (.int .i64 r.c.client) := QX.out.2.cell 7 _ rfl
  have Xp8 : X.cell? ⟨w.heap.size, 8, none⟩ = some (.int .i64 r.c.req) := QX.out.1.cell 8 _ rfl
  have Xq8 : X.cell? ⟨w.heap.size + 1, 8, none⟩ = some (.int .i64 r.c.req) := QX.out.2.cell 8 _ rfl
  have Xp9 : X.cell? ⟨w.heap.size, 9, none⟩ = some (.string r.c.key) := QX.out.1.cell 9 _ rfl
  have Xq9 : X.cell? ⟨w.heap.size + 1, 9, none⟩ = some (.string r.c.key) := QX.out.2.cell 9 _ rfl
  have Xp10 : X.cell? ⟨w.heap.size, 10, none⟩ = some (.string r.c.key2) := QX.out.1.cell 10 _ rfl
  have Xq10 : X.cell? ⟨w.heap.size + 1, 10, none⟩ = some (.string r.c.key2) := QX.out.2.cell 10 _ rfl
  have Xp11 : X.cell? ⟨w.heap.size, 11, none⟩ = some (.string r.c.val) := QX.out.1.cell 11 _ rfl
  have Xq11 : X.cell? ⟨w.heap.size + 1, 11, none⟩ = some (.string r.c.val) := QX.out.2.cell 11 _ rfl
  have Xp12 : X.cell? ⟨w.heap.size, 12, none⟩ = some (.string r.c.old) := QX.out.1.cell 12 _ rfl
  have Xq12 : X.cell? ⟨w.heap.size + 1, 12, none⟩ = some (.string r.c.old) := QX.out.2.cell 12 _ rfl
  have Xp13 : X.cell? ⟨w.heap.size, 13, none⟩ = some (.int .i64 r.c.n) := QX.out.1.cell 13 _ rfl
  have Xq13 : X.cell? ⟨w.heap.size + 1, 13, none⟩ = some (.int .i64 r.c.n) := QX.out.2.cell 13 _ rfl
  go_wp2_with fail
  refine (sameCmd_any r.c r.c _).mono ?_
  rintro e Y ⟨rfl, h⟩
  rw [rsameC_self]
  have BY : Hid (Below w.heap.size w Y) := BX.out.trans (h.mono BX.out.size)
  have QY : Hid (Blk Y w.heap.size (rcs r) ∧ Blk Y (w.heap.size + 1) (rcs ({ r with da := a, dn := d, dc := c }))) := ⟨QX.out.1.on h, QX.out.2.on h⟩
  clear h
  have Yp15 : Y.cell? ⟨w.heap.size, 15, none⟩ = some (.slice r.da r.dn r.dc) := QY.out.1.cell 15 _ rfl
  have Yq15 : Y.cell? ⟨w.heap.size + 1, 15, none⟩ = some (.slice a d c) := QY.out.2.cell 15 _ rfl
  go_wp2_with fail
  refine (sameI_any _ _ _ _ _ _ _ _ _ (H1.out.below BY.out (Nat.le_refl _)) (H2.out.below BY.out (Nat.le_refl _))).mono ?_
  rintro e Z ⟨rfl, q, rfl⟩
  rw [sameB_self]
  go_wp2
  go_ret
  exact ⟨rfl, ⟨BY.out.1, BY.out.2, BY.out.3, BY.out.4, BY.out.5⟩⟩
end Go.Proofs.YtlhididcanedhaaGreatDoor
/- How an argument that is a list of bytes is opened for the walks. -/
namespace Go.Proofs.YtlhididcanedhaaGreatDoor
open Go.ChangeShapes Go.WideShapes Go.ChangeAt Go.RowKit Go.Wire1

theorem own : ownKnob Tryz.prog.godebug = none := by kernel_rfl
theorem bytes5 : Tryz.prog.bytesOf 5 = 1 := by kernel_rfl
theorem cells5 : Tryz.prog.cellsOf 5 = 1 := by kernel_rfl

theorem byt_wf {zs : List Int} (h : ∀ n ∈ zs, (Lit.int .u8 n).wf = true) : Byt zs := fun z hz => by have := bounds_u8 (h z hz); omega

/-- A list of bytes that came in: what the walks want of it, and that its length is its datum's. -/
theorem open_bytes {H : Type} {enc : TypeId × Value → H} {W : World} {fuel : Nat} {a : Option Addr} {len cap : Nat} {x : DataW H × List MemPlace}
    (h : DataW.trod enc Tryz.prog W 0 (fun _ => true) true fuel 31 [.slice a len cap] = some x) :
    ∃ l, Seg W a len l ∧ Byt l ∧ len ≤ cap ∧ ((x.1 = .nil ∧ len = 0 ∧ cap = 0) ∨ ∃ elems spare, x.1 = .slice elems spare ∧ elems.length = len ∧ elems.length + spare.length = cap) := by
  rcases open_ints Tryz.underlying31 Tryz.underlying5 cells5 h with ⟨hcs, hx⟩ | ⟨b, len', cap', zs, hcs, _, hl, hm, hz, hx, hcell, hwz⟩
  · simp only [List.cons.injEq, Value.slice.injEq, and_true] at hcs
    obtain ⟨rfl, rfl, rfl⟩ := hcs
    exact ⟨[], ⟨rfl, by unfold maxLen; omega, fun h => by omega⟩, (fun z hz => by cases hz), Nat.le_refl _, .inl ⟨by rw [hx], rfl, rfl⟩⟩
  · simp only [List.cons.injEq, Value.slice.injEq, and_true] at hcs
    obtain ⟨rfl, rfl, rfl⟩ := hcs
    simp only [if_true] at hz
    refine ⟨zs.take len, ⟨by rw [List.length_take]; omega, by omega, fun hn => ?_⟩, byt_take (byt_wf hwz) _, hl, .inr ⟨_, _, by rw [hx], by simp [lits]; omega, by simp [lits]; omega⟩⟩
    obtain ⟨bb, off, spot⟩ := b
    have hc0 := hcell 0 (by omega)
    have hspot : spot = none := by simpa [Addr.add] using World.cell?_spot hc0
    subst hspot
    refine ⟨bb, off, rfl, fun j hj => ?_⟩
    have := hcell j (by omega)
    rw [add_at] at this
    rw [this]
    simp [hj]

end Go.Proofs.YtlhididcanedhaaGreatDoor
/- What is known of the place of a list of bytes that came in. -/
namespace Go.Proofs.YtlhididcanedhaaGreatDoor
open Go.ChangeShapes Go.WideShapes Go.ChangeAt Go.RowKit Go.Wire1

theorem src_of {H : Type} {enc : TypeId × Value → H} {W : World} {fuel : Nat} {a : Option Addr} {len cap : Nat} {x : DataW H × List MemPlace}
    (h : DataW.trod enc Tryz.prog W 0 (fun _ => true) true fuel 31 [.slice a len cap] = some x) : Src a len cap := by
  rcases open_ints Tryz.underlying31 Tryz.underlying5 cells5 h with ⟨hcs, hx⟩ | ⟨b, len', cap', zs, hcs, _, hl, hm, hz, hx, hcell, hwz⟩
  · simp only [List.cons.injEq, Value.slice.injEq, and_true] at hcs
    exact .inl ⟨hcs.2.1, hcs.2.2⟩
  · simp only [List.cons.injEq, Value.slice.injEq, and_true] at hcs
    obtain ⟨rfl, rfl, rfl⟩ := hcs
    simp only [if_true] at hz
    by_cases h0 : cap = 0
    · exact .inl ⟨by omega, h0⟩
    · obtain ⟨bb, off, spot⟩ := b
      have hc0 := hcell 0 (by omega)
      have hspot : spot = none := by simpa [Addr.add] using World.cell?_spot hc0
      subst hspot
      exact .inr ⟨⟨bb, off, rfl⟩, hl, hm⟩
end Go.Proofs.YtlhididcanedhaaGreatDoor
/- The contracts of mootlaw6's returns and there. -/
namespace Go.Proofs.YtlhididcanedhaaGreatDoor
open Go.RowKit Go.Wire1

theorem er_lay {r s : Rc} (h : er r = er s) : s = r.lay s.da s.dn s.dc := by
  obtain ⟨a0, a1, a2, a3, a4, a5, a6, a7, a8, a9, b0, b1, b2, b3⟩ := r
  obtain ⟨c0, c1, c2, c3, c4, c5, c6, c7, c8, c9, d0, d1, d2, d3⟩ := s
  simp only [er, Rc.lay, Rc.mk.injEq] at h ⊢
  simp only [h, and_self]
theorem sameRec_same (r s : Rc) (w : World) (he : er r = er s) (h1 : SegI w r.da r.dn r.deps) (h2 : SegI w s.da s.dn s.deps) :
    Calls Tryz.prog 12 #[.agg (rcs r).toArray, .agg (rcs s).toArray] w fun e w' => e = .returned (.bool true) ∧ Below w.heap.size w w' := by
  have e := er_lay he
  have ed : s.deps = r.deps := by rw [e]; rfl
  rw [ed] at h2
  rw [e]
  exact sameRec_lay r _ _ _ w h1 h2
end Go.Proofs.YtlhididcanedhaaGreatDoor
/- What the tied list of variables gives: the five sentinels of package wire lie at five different places, the tables of kinds and of rows lie in memory; and a state that meets it. -/
namespace Go.Proofs.YtlhididcanedhaaGreatDoor
open Go.ChangeShapes Go.WideShapes Go.ChangeAt Go.RowKit Go.Wire1

/-- The rows' list. -/
abbrev laid7 : List (String × DataW Unit) := [("moot/wire.errShort", Rows.laid_moot_wire_errShort), ("moot/wire.errWide", Rows.laid_moot_wire_errWide), ("moot/wire.errForm", Rows.laid_moot_wire_errForm), ("moot/wire.errBig", Rows.laid_moot_wire_errBig), ("moot/wire.errLength", Rows.laid_moot_wire_errLength), ("moot/command.kinds", Rows.laid_moot_command_kinds), ("moot/record.rows", Rows.laid_moot_record_rows)]

theorem qgS : Tryz.prog.globalNamed "moot/wire.errShort" = some 3 := by kernel_rfl
theorem qgW : Tryz.prog.globalNamed "moot/wire.errWide" = some 4 := by kernel_rfl
theorem qgF : Tryz.prog.globalNamed "moot/wire.errForm" = some 5 := by kernel_rfl
theorem qgB : Tryz.prog.globalNamed "moot/wire.errBig" = some 6 := by kernel_rfl
theorem qgL : Tryz.prog.globalNamed "moot/wire.errLength" = some 7 := by kernel_rfl
theorem qgT0 : (Tryz.prog.globals[3]?).map (·.type) = some 194 := by kernel_rfl
theorem qgT1 : (Tryz.prog.globals[4]?).map (·.type) = some 194 := by kernel_rfl
theorem qgT2 : (Tryz.prog.globals[5]?).map (·.type) = some 194 := by kernel_rfl
theorem qgT3 : (Tryz.prog.globals[6]?).map (·.type) = some 194 := by kernel_rfl
theorem qgT4 : (Tryz.prog.globals[7]?).map (·.type) = some 194 := by kernel_rfl
theorem qgH : Tryz.prog.globalNamed "moot/command.kinds" = some 1 := by kernel_rfl
theorem qgTH : (Tryz.prog.globals[1]?).map (·.type) = some 133 := by kernel_rfl
theorem qgR : Tryz.prog.globalNamed "moot/record.rows" = some 0 := by kernel_rfl
theorem qgTR : (Tryz.prog.globals[0]?).map (·.type) = some 52 := by kernel_rfl
theorem cellsR : Tryz.prog.cellsOf 132 = 2 := by kernel_rfl
theorem cellsI : Tryz.prog.cellsOf 3 = 1 := by kernel_rfl
theorem cellsE : Tryz.prog.cellsOf 244 = 1 := by kernel_rfl
theorem cellsS : Tryz.prog.cellsOf 9 = 1 := by kernel_rfl
theorem star : "*" ++ "errors.errorString" = "*errors.errorString" := by decide
theorem rowE (u : TypeId) (h : Tryz.prog.typeName? 3 u = some "*errors.errorString") : u = 220 :=
  typeName_ptr_named (nm := "errors.errorString") (by rw [star]; kernel_rfl) (by kernel_rfl) (by decide) u (by rw [star]; exact h)

theorem door_met (os : Os) (args : Array Value) : laidMetH Tryz.prog laid7 ((World.doorLaid Tryz.prog 400 os).forCall (fun _ _ => 0) ⟨#[], args, []⟩).memory :=
  laidMetH_of_parts3 (fuel := 8) (laidMet_of_run' 8 (by kernel_rfl) (by kernel_rfl)) (by kernel_rfl) (by kernel_rfl)

theorem laid_list : (Rows.laid_moot_command_kinds : DataW Unit) = .agg ((List.range 9).map fun i => .agg [.lit (.int .i64 (fieldsL.getD i 0 : Nat)), .lit (.int .i64 (fromL.getD i 0 : Nat))]) := rfl

theorem laid_rows : (Rows.laid_moot_record_rows : DataW Unit) = .agg ((List.range 6).map fun i => .lit (.string (rowS.getD i ⟨#[]⟩).data.toList)) := rfl

set_option maxRecDepth 100000 in
theorem knd_of_laid {W : World} (h : laidMetH Tryz.prog laid7 W) : Knd W := by
  rw [MakeChecks.laidMetH_plain _ _ _ (by kernel_rfl)] at h
  obtain ⟨_, ⟨_, _, _, _, _, _, _, _, _, _, ⟨_, _, _, _, _, _, _, _, _, _, ⟨_, _, _, _, _, _, _, _, _, _, ⟨_, _, _, _, _, _, _, _, _, _, ⟨_, _, _, _, _, _, _, _, _, _, ⟨g0, t0, cs0, f0, p0, q0, hg0, ht0, hv0, hd0, _, _⟩, _⟩, _⟩, _⟩, _⟩, _⟩, _, _⟩ := h
  obtain rfl := Option.some.inj (qgH.symm.trans hg0)
  obtain rfl := Option.some.inj (qgTH.symm.trans ht0)
  rw [laid_list] at hd0
  obtain ⟨xs, m, _, hx, hlen, hn, hall⟩ := DataW.trod_array Tryz.underlying133 hd0
  simp only [Prod.mk.injEq, DataW.agg.injEq] at hx
  intro i hi
  rw [World.var?_cell hg0 hv0 (i * 2), World.var?_cell hg0 hv0 (i * 2 + 1)]
  have h1 := hall i hi
  have hxi : ∃ x, xs[i]? = some x := ⟨xs[i], List.getElem?_eq_getElem (by omega)⟩
  obtain ⟨x, hxi⟩ := hxi
  rw [hxi, cellsR] at h1
  obtain ⟨ys, n, _, hy, hl2, hyl, hf⟩ := DataW.trod_struct Tryz.underlying132 h1
  match ys, hyl with
  | [y0, y1], _ =>
    have t0 : DataW.trod (fun _ => ()) Tryz.prog W 0 (fun _ => true) false n 3 ((((cs0.toList.drop (i * 2)).take 2).drop 0).take (Tryz.prog.cellsOf 3)) = some y0 := hf 0 _ rfl
    have t1 : DataW.trod (fun _ => ()) Tryz.prog W 0 (fun _ => true) false n 3 ((((cs0.toList.drop (i * 2)).take 2).drop 1).take (Tryz.prog.cellsOf 3)) = some y1 := hf 1 _ rfl
    rw [cellsI] at t0 t1
    obtain ⟨n0, c0, z0, _⟩ := DataW.trod_int Tryz.underlying3 t0
    obtain ⟨n1, c1, z1, _⟩ := DataW.trod_int Tryz.underlying3 t1
    have h2 : (xs.map (·.1))[i]? = some (.agg [.lit (.int .i64 n0), .lit (.int .i64 n1)]) := by rw [List.getElem?_map, hxi, hy, z0, z1]; rfl
    rw [← hx.1, List.getElem?_map, List.getElem?_eq_getElem (by simpa using hi)] at h2
    simp only [List.getElem_range, Option.map_some, Option.some.injEq, DataW.agg.injEq, List.cons.injEq, DataW.lit.injEq, Lit.int.injEq, true_and, and_true] at h2
    have d0 : cs0[i * 2]? = some (.int .i64 n0) := by
      have h4 : ((((cs0.toList.drop (i * 2)).take 2).drop 0).take 1)[0]? = some (.int .i64 n0) := by rw [c0]; rfl
      simpa [List.getElem?_take] using h4
    have d1 : cs0[i * 2 + 1]? = some (.int .i64 n1) := by
      have h4 : ((((cs0.toList.drop (i * 2)).take 2).drop 1).take 1)[0]? = some (.int .i64 n1) := by rw [c1]; rfl
      simpa [List.getElem?_take] using h4
    rw [d0, d1, h2.1, h2.2]
    exact ⟨rfl, rfl⟩

set_option maxRecDepth 100000 in
theorem rws_of_laid {W : World} (h : laidMetH Tryz.prog laid7 W) : Rws W := by
  rw [MakeChecks.laidMetH_plain _ _ _ (by kernel_rfl)] at h
  obtain ⟨_, ⟨_, _, _, _, _, _, _, _, _, _, ⟨_, _, _, _, _, _, _, _, _, _, ⟨_, _, _, _, _, _, _, _, _, _, ⟨_, _, _, _, _, _, _, _, _, _, ⟨_, _, _, _, _, _, _, _, _, _, ⟨_, _, _, _, _, _, _, _, _, _, ⟨g0, t0, cs0, f0, p0, q0, hg0, ht0, hv0, hd0, _, _⟩, _⟩, _⟩, _⟩, _⟩, _⟩, _⟩, _, _⟩ := h
  obtain rfl := Option.some.inj (qgR.symm.trans hg0)
  obtain rfl := Option.some.inj (qgTR.symm.trans ht0)
  rw [laid_rows] at hd0
  obtain ⟨xs, m, _, hx, hlen, hn, hall⟩ := DataW.trod_array Tryz.underlying52 hd0
  simp only [Prod.mk.injEq, DataW.agg.injEq] at hx
  intro i hi
  rw [World.var?_cell hg0 hv0 i]
  have h1 := hall i hi
  have hxi : ∃ x, xs[i]? = some x := ⟨xs[i], List.getElem?_eq_getElem (by omega)⟩
  obtain ⟨x, hxi⟩ := hxi
  rw [hxi, cellsS, Nat.mul_one] at h1
  obtain ⟨s, c0, z0, _⟩ := DataW.trod_string Tryz.underlying9 h1
  have h2 : (xs.map (·.1))[i]? = some (.lit (.string s.data.toList)) := by rw [List.getElem?_map, hxi, z0]; rfl
  rw [← hx.1, List.getElem?_map, List.getElem?_eq_getElem (by simpa using hi)] at h2
  simp only [List.getElem_range, Option.map_some, Option.some.injEq, DataW.lit.injEq, Lit.string.injEq] at h2
  have d0 : cs0[i]? = some (.string s) := by
    have h4 : ((cs0.toList.drop i).take 1)[0]? = some (.string s) := by rw [c0]; rfl
    simpa [List.getElem?_take] using h4
  rw [d0]
  have e : rowS.getD i ⟨#[]⟩ = s := by
    cases hs : rowS.getD i ⟨#[]⟩
    cases s
    rw [hs] at h2
    simpa using h2
  rw [e]

set_option maxRecDepth 100000 in
theorem errs_of_laid {W : World} (h : laidMetH Tryz.prog laid7 W) : ∃ a, Errs W a := by
  have hkn := knd_of_laid h
  rw [MakeChecks.laidMetH_plain _ _ _ (by kernel_rfl)] at h
  obtain ⟨ps, ⟨g0, t0, cs0, f0, p0, q0, hg0, ht0, hv0, hd0, ⟨g1, t1, cs1, f1, p1, q1, hg1, ht1, hv1, hd1, ⟨g2, t2, cs2, f2, p2, q2, hg2, ht2, hv2, hd2, ⟨g3, t3, cs3, f3, p3, q3, hg3, ht3, hv3, hd3, ⟨g4, t4, cs4, f4, p4, q4, hg4, ht4, hv4, hd4, ⟨g5, t5, cs5, f5, p5, q5, hg5, ht5, hv5, hd5, ⟨g6, t6, cs6, f6, p6, q6, hg6, ht6, hv6, hd6, _, e6⟩, e5⟩, e4⟩, e3⟩, e2⟩, e1⟩, e0⟩, hnd, hrows⟩ := h
  obtain rfl := Option.some.inj (qgS.symm.trans hg0)
  obtain rfl := Option.some.inj (qgW.symm.trans hg1)
  obtain rfl := Option.some.inj (qgF.symm.trans hg2)
  obtain rfl := Option.some.inj (qgB.symm.trans hg3)
  obtain rfl := Option.some.inj (qgL.symm.trans hg4)
  obtain rfl := Option.some.inj (qgT0.symm.trans ht0)
  obtain rfl := Option.some.inj (qgT1.symm.trans ht1)
  obtain rfl := Option.some.inj (qgT2.symm.trans ht2)
  obtain rfl := Option.some.inj (qgT3.symm.trans ht3)
  obtain rfl := Option.some.inj (qgT4.symm.trans ht4)
  subst e6 e5 e4 e3 e2 e1 e0
  obtain ⟨l0⟩ := cs0
  obtain ⟨l1⟩ := cs1
  obtain ⟨l2⟩ := cs2
  obtain ⟨l3⟩ := cs3
  obtain ⟨l4⟩ := cs4
  have ok0 : ∀ u v, l0 = [.iface u v] → Value.okWide Tryz.prog W .any 0 u v := fun u v e => by
    subst e; exact (hrows 3 0 (by simp [MemPlace.row])).2 u v (by simpa using World.var?_cell hg0 hv0 0)
  have ok1 : ∀ u v, l1 = [.iface u v] → Value.okWide Tryz.prog W .any 0 u v := fun u v e => by
    subst e; exact (hrows 4 0 (by simp [MemPlace.row])).2 u v (by simpa using World.var?_cell hg1 hv1 0)
  have ok2 : ∀ u v, l2 = [.iface u v] → Value.okWide Tryz.prog W .any 0 u v := fun u v e => by
    subst e; exact (hrows 5 0 (by simp [MemPlace.row])).2 u v (by simpa using World.var?_cell hg2 hv2 0)
  have ok3 : ∀ u v, l3 = [.iface u v] → Value.okWide Tryz.prog W .any 0 u v := fun u v e => by
    subst e; exact (hrows 6 0 (by simp [MemPlace.row])).2 u v (by simpa using World.var?_cell hg3 hv3 0)
  have ok4 : ∀ u v, l4 = [.iface u v] → Value.okWide Tryz.prog W .any 0 u v := fun u v e => by
    subst e; exact (hrows 7 0 (by simp [MemPlace.row])).2 u v (by simpa using World.var?_cell hg4 hv4 0)
  obtain ⟨a0, s0, rfl, hc0, _, _, rfl⟩ := errorString_of_trod Tryz.underlying194 rowE Tryz.underlying220 Tryz.underlying244 rfl rfl Tryz.underlying9 cellsE cellsS hd0 ok0
  obtain ⟨a1, s1, rfl, hc1, _, _, rfl⟩ := errorString_of_trod Tryz.underlying194 rowE Tryz.underlying220 Tryz.underlying244 rfl rfl Tryz.underlying9 cellsE cellsS hd1 ok1
  obtain ⟨a2, s2, rfl, hc2, _, _, rfl⟩ := errorString_of_trod Tryz.underlying194 rowE Tryz.underlying220 Tryz.underlying244 rfl rfl Tryz.underlying9 cellsE cellsS hd2 ok2
  obtain ⟨a3, s3, rfl, hc3, _, _, rfl⟩ := errorString_of_trod Tryz.underlying194 rowE Tryz.underlying220 Tryz.underlying244 rfl rfl Tryz.underlying9 cellsE cellsS hd3 ok3
  obtain ⟨a4, s4, rfl, hc4, _, _, rfl⟩ := errorString_of_trod Tryz.underlying194 rowE Tryz.underlying220 Tryz.underlying244 rfl rfl Tryz.underlying9 cellsE cellsS hd4 ok4
  let a : Nat → Addr := fun i => if i = 0 then a0 else if i = 1 then a1 else if i = 2 then a2 else if i = 3 then a3 else a4
  refine ⟨a, ⟨by simpa [a] using World.var?_cell hg0 hv0 0, by simpa [a] using World.var?_cell hg1 hv1 0, by simpa [a] using World.var?_cell hg2 hv2 0, by simpa [a] using World.var?_cell hg3 hv3 0, by simpa [a] using World.var?_cell hg4 hv4 0, ?_, ?_, ?_⟩⟩
  · intro i hi
    rcases (by omega : i = 0 ∨ i = 1 ∨ i = 2 ∨ i = 3 ∨ i = 4) with rfl | rfl | rfl | rfl | rfl
    · exact (hrows a0.block a0.off (by simp [MemPlace.row])).1
    · exact (hrows a1.block a1.off (by simp [MemPlace.row])).1
    · exact (hrows a2.block a2.off (by simp [MemPlace.row])).1
    · exact (hrows a3.block a3.off (by simp [MemPlace.row])).1
    · exact (hrows a4.block a4.off (by simp [MemPlace.row])).1
  · intro i j hi hj hij
    have key : a0 ≠ a1 ∧ a0 ≠ a2 ∧ a0 ≠ a3 ∧ a0 ≠ a4 ∧ a1 ≠ a2 ∧ a1 ≠ a3 ∧ a1 ≠ a4 ∧ a2 ≠ a3 ∧ a2 ≠ a4 ∧ a3 ≠ a4 := by
      refine ⟨?_, ?_, ?_, ?_, ?_, ?_, ?_, ?_, ?_, ?_⟩ <;> (intro e; rw [e] at hnd; simp [MemPlace.row] at hnd)
    obtain ⟨k1, k2, k3, k4, k5, k6, k7, k8, k9, k10⟩ := key
    rcases (by omega : i = 0 ∨ i = 1 ∨ i = 2 ∨ i = 3 ∨ i = 4) with rfl | rfl | rfl | rfl | rfl <;>
    rcases (by omega : j = 0 ∨ j = 1 ∨ j = 2 ∨ j = 3 ∨ j = 4) with rfl | rfl | rfl | rfl | rfl <;>
    first
      | exact absurd rfl hij
      | exact k1 | exact k2 | exact k3 | exact k4 | exact k5 | exact k6 | exact k7 | exact k8 | exact k9 | exact k10
      | exact k1.symm | exact k2.symm | exact k3.symm | exact k4.symm | exact k5.symm | exact k6.symm | exact k7.symm | exact k8.symm | exact k9.symm | exact k10.symm
  · have e0 := cell_lt (show W.cell? ⟨3, 0, none⟩ = some _ from by simpa using World.var?_cell hg0 hv0 0)
    have e1 := cell_lt (show W.cell? ⟨4, 0, none⟩ = some _ from by simpa using World.var?_cell hg1 hv1 0)
    have e2 := cell_lt (show W.cell? ⟨5, 0, none⟩ = some _ from by simpa using World.var?_cell hg2 hv2 0)
    have e3 := cell_lt (show W.cell? ⟨6, 0, none⟩ = some _ from by simpa using World.var?_cell hg3 hv3 0)
    have e4 := cell_lt (show W.cell? ⟨7, 0, none⟩ = some _ from by simpa using World.var?_cell hg4 hv4 0)
    have e5 := hkn.lt
    omega
end Go.Proofs.YtlhididcanedhaaGreatDoor
/- How arguments that are lists of ints, lists of them, and instances are opened for the walks. -/
namespace Go.Proofs.YtlhididcanedhaaGreatDoor
open Go.ChangeShapes Go.WideShapes Go.ChangeAt Go.RowKit Go.Wire1

end Go.Proofs.YtlhididcanedhaaGreatDoor
/- How an argument that is a command is opened for the walks. -/
namespace Go.Proofs.YtlhididcanedhaaGreatDoor
open Go.ChangeShapes Go.WideShapes Go.ChangeAt Go.RowKit Go.Wire1

theorem cown : ownKnob Tryz.prog.godebug = none := by kernel_rfl
theorem claid : laidOutB Tryz.prog = true := by kernel_rfl
end Go.Proofs.YtlhididcanedhaaGreatDoor
/- How an argument that is an instance is opened for the walks. -/
namespace Go.Proofs.YtlhididcanedhaaGreatDoor
open Go.ChangeShapes Go.WideShapes Go.ChangeAt Go.RowKit Go.Wire1

end Go.Proofs.YtlhididcanedhaaGreatDoor
/- How an argument that is a record is opened for the walks. -/
namespace Go.Proofs.YtlhididcanedhaaGreatDoor
open Go.ChangeShapes Go.WideShapes Go.ChangeAt Go.RowKit Go.Wire1

section
variable {H : Type} {enc : TypeId × Value → H} {W : World} {n : Nat}
/-- A command's datum. -/
def cmdD (c : Cm) : DataW H := .agg [.lit (.int .i64 c.kind), .lit (.int .i64 c.client), .lit (.int .i64 c.req), .lit (.string c.key.data.toList), .lit (.string c.key2.data.toList), .lit (.string c.val.data.toList), .lit (.string c.old.data.toList), .lit (.int .i64 c.n)]
def cmdIn (c : Cm) : Prop := (-9223372036854775808 ≤ c.kind ∧ c.kind ≤ 9223372036854775807) ∧ (-9223372036854775808 ≤ c.client ∧ c.client ≤ 9223372036854775807) ∧ (-9223372036854775808 ≤ c.req ∧ c.req ≤ 9223372036854775807) ∧ (-9223372036854775808 ≤ c.n ∧ c.n ≤ 9223372036854775807)
end

/-- Its numbers are of 64 bits. -/
structure RcIn (r : Rc) : Prop where
  kind : -9223372036854775808 ≤ r.kind ∧ r.kind ≤ 9223372036854775807
  row : -9223372036854775808 ≤ r.row ∧ r.row ≤ 9223372036854775807
  num : -9223372036854775808 ≤ r.num ∧ r.num ≤ 9223372036854775807
  round : -9223372036854775808 ≤ r.round ∧ r.round ≤ 9223372036854775807
  who : -9223372036854775808 ≤ r.who ∧ r.who ≤ 9223372036854775807
  cmd : cmdIn r.c
  seq : -9223372036854775808 ≤ r.seq ∧ r.seq ≤ 9223372036854775807
  id : -9223372036854775808 ≤ r.id ∧ r.id ≤ 9223372036854775807
  n : -9223372036854775808 ≤ r.n ∧ r.n ≤ 9223372036854775807
end Go.Proofs.YtlhididcanedhaaGreatDoor
