/- Proved: for every n and record RecordChecks answers true: Check is what the document says. Conditions: the tables of kinds and of rows start as the program's text lays them (the card ties them). -/
import Derived.Test.YtjpggmenbnkbbaaDoorRPlain
import Derived.Test.YtjpggmenbnkbbaaDoorRRef3
import Derived.Test.YtjpggmenbnkbbaaDoorRLaid2
import Derived.Test.YtjpggmenbnkbbaaDoorRArgs
import Derived.Test.YtjpggmenbnkbbaaDoorTie
import Derived.Test.YtjpggmenbnkbbaaDoorCards
import Derived.Deep.DeepHandedRow
import Derived.Deep.DeepWitnessRowRef
namespace Go.Proofs.YtjpggmenbnkbbaaDoor
namespace recordChecks
open Go.ChangeShapes Go.WideShapes Go.ChangeAt Go.RowKit Go.Wire1

set_option maxHeartbeats 4000000 in
set_option maxRecDepth 100000 in
theorem walk (n : Int) (r : Rc) (w : World) (hr : Rok w r) (hR : Rws w) (hK : Knd w) :
    Calls Tryd.prog 3 #[.int .i64 n, .agg (rcs r).toArray] w fun e w' => e = .returned (.bool true) ∧ Below w.heap.size w w' := by
  obtain ⟨V, hV⟩ : ∃ V, V = w.alloc (.cells (rcs r).toArray 30) := ⟨_, rfl⟩
  have Q : Hid (Blk V w.heap.size (rcs r)) := by rw [hV]; exact blk_new w 30 (rcs r)
  have BV : Hid (Below w.heap.size w V) := by rw [hV]; exact (Below.refl _ _).alloc (Nat.le_refl _) _
  have hVs : w.heap.size < V.heap.size := Q.out.lt
  have HR := hide hr
  have HW := hide hR
  have HK := hide hK
  clear hr hR hK
  go_enter Tryd.func3, Tryd.ntmps3
  go_upto_region 1 with fail
  rw [← hV]
  clear hV
  go_wp2_with fail
  refine (plain6_any _).mono ?_
  rintro e w1 ⟨rfl, S1, hb1⟩
  obtain ⟨B, hB⟩ : ∃ B, V.heap.size + 1 = B := ⟨_, rfl⟩
  rw [hB] at S1 ⊢
  clear hB
  have B1 : Hid (Below w.heap.size w w1) := BV.out.trans (hb1.mono (by omega))
  have Q1 : Hid (Blk w1 w.heap.size (rcs r)) := Q.out.on hb1
  have z1 : w.heap.size < w1.heap.size := Q1.out.lt
  obtain ⟨U, hU⟩ : ∃ U, U = w1.alloc (.cells zeroL.toArray 30) := ⟨_, rfl⟩
  have BU : Hid (Below w1.heap.size w1 U) := by rw [hU]; exact (Below.refl _ _).alloc (Nat.le_refl _) _
  have QU : Hid (Blk U w1.heap.size zeroL) := by rw [hU]; exact blk_new w1 30 zeroL
  have TH : Hid (U.there w1.heap.size 0 18) := QU.out.there
  obtain ⟨X, hX⟩ : ∃ X, X = U.setCells w1.heap.size 0 (rcs (plainR B)) := ⟨_, rfl⟩
  have RX := hide (box_stored (w := w1) QU.out (by rfl) BU.out (Nat.le_refl _) hX)
  have BX : Hid (Below w.heap.size w X) := B1.out.trans (RX.out.2.mono (by omega))
  have QX : Hid (Blk X w.heap.size (rcs r)) := Q1.out.on RX.out.2
  have SX : Hid (SegI X (some ⟨B, 0, none⟩) 3 [0, 5, 5]) := S1.below RX.out.2 (Nat.le_refl _)
  have HU := hide hU
  have HX := hide hX
  clear hU hX hb1 S1
  have eU : w1.alloc (.cells #[.int .i64 0, .int .i64 0, .int .i64 0, .int .i64 0, .int .i64 0, .bool false, .int .i64 0, .int .i64 0, .int .i64 0, .string ⟨#[]⟩, .string ⟨#[]⟩, .string ⟨#[]⟩, .string ⟨#[]⟩, .int .i64 0, .int .i64 0, .slice none 0 0, .int .i64 0, .int .i64 0] 30) = U := HU.out.symm
  have zX : w1.heap.size < X.heap.size := RX.out.1.lt
  go_wp2_with (first | (refine wpList_store_mid rfl 30 _ _ rfl w1.heap.size 0 (rcs (plainR B)).toArray rfl rfl (by first | exact TH.out | (rw [eU]; exact TH.out)) (by kernel_rfl) (by kernel_rfl) ?_; first | rw [← HX.out] | (rw [eU, ← HX.out])) | (refine wpList_load_mid rfl 30 _ rfl w1.heap.size 0 rfl (rcs (plainR B)) _ (RX.out.1.range) Tryd.underlying30 rfl (by kernel_rfl) ?_))
  refine (recCheck_any 3 (plainR B) _ (plain_ok SX.out) (HW.out.below BX.out (Nat.le_refl _)) (HK.out.below BX.out (Nat.le_refl _))).mono ?_
  rintro e w2 ⟨rfl, hb2⟩
  rw [plain_chk]
  have B2 : Hid (Below w.heap.size w w2) := BX.out.trans (hb2.mono (by omega))
  have Q2 : Hid (Blk w2 w.heap.size (rcs r)) := QX.out.on hb2
  have K2 : Hid (Blk w2 w1.heap.size (rcs (plainR B))) := RX.out.1.on hb2
  have S2 : Hid (SegI w2 (some ⟨B, 0, none⟩) 3 [0, 5, 5]) := SX.out.below hb2 (Nat.le_refl _)
  clear hb2 eU
  have c16 : w2.cell? ⟨w1.heap.size, 16, none⟩ = some (.int .i64 0) := K2.out.cell 16 _ rfl
  have t16 := K2.out.thaw 16
  obtain ⟨Y, hY⟩ : ∃ Y, Y = w2.setCell ⟨w1.heap.size, 16, none⟩ (.int .i64 1) := ⟨_, rfl⟩
  have KY : Hid (Blk Y w1.heap.size (rcs { plainR B with id := 1 })) := by rw [hY]; exact K2.out.setAt 16 (.int .i64 1)
  have BYY : Hid (Below w.heap.size w Y) := by rw [hY]; exact B2.out.setCell (p := ⟨w1.heap.size, 16, none⟩) (by show w.heap.size ≤ w1.heap.size; omega) _
  have QY : Hid (Blk Y w.heap.size (rcs r)) := by rw [hY]; exact Q2.out.of_block (Below.heap_setCell _ _ _ _ (by show w.heap.size ≠ w1.heap.size; omega))
  have SY : Hid (SegI Y (some ⟨B, 0, none⟩) 3 [0, 5, 5]) := by
    have h := S2.out
    refine ⟨h.1, h.2.1, fun hn => ?_, h.2.2.2⟩
    obtain ⟨b, off, e, hc⟩ := h.2.2.1 hn
    refine ⟨b, off, e, fun j hj => ?_⟩
    rw [hY, World.cell?_setCell_other _ _ _ _ (by
      intro q
      have h1 := hc j hj
      rw [← q, c16] at h1
      simp only [Option.some.injEq, Value.int.injEq, true_and] at h1
      injection e with e
      injection e with e1 e2 e3
      injection q with q1 q2 q3
      subst e1
      subst e2
      have : B = w1.heap.size := q1.symm
      omega)]
    exact hc j hj
  have HY := hide hY
  clear hY
  have zY : w1.heap.size < Y.heap.size := KY.out.lt
  go_upto_region 4 with fail
  rw [← HY.out]
  clear c16 t16
  go_wp2_with (first | (refine wpList_load_mid rfl 30 _ rfl w1.heap.size 0 rfl (rcs { plainR B with id := 1 }) _ (KY.out.range) Tryd.underlying30 rfl (by kernel_rfl) ?_))
  refine (recCheck_any 3 { plainR B with id := 1 } _ (plain_ok1 SY.out) (HW.out.below BYY.out (Nat.le_refl _)) (HK.out.below BYY.out (Nat.le_refl _))).mono ?_
  rintro e w3 ⟨rfl, hb3⟩
  rw [plain_extra]
  have B3 : Hid (Below w.heap.size w w3) := BYY.out.trans (hb3.mono (by omega))
  have Q3 : Hid (Blk w3 w.heap.size (rcs r)) := QY.out.on hb3
  have z3 : w.heap.size < w3.heap.size := Q3.out.lt
  clear hb3
  go_wp2_with (first | (go_at_call 6; refine (num6_any _ _).mono ?_; rintro e w' ⟨rfl, rfl⟩) | (refine wpList_load_mid rfl 30 _ rfl w.heap.size 0 rfl (rcs r) _ (Q3.out.range) Tryd.underlying30 rfl (by kernel_rfl) ?_))
  refine (recCheck_any n r _ (HR.out.below B3.out (Nat.le_refl _)) (HW.out.below B3.out (Nat.le_refl _)) (HK.out.below B3.out (Nat.le_refl _))).mono ?_
  rintro e w4 ⟨rfl, hb4⟩
  have B4 : Hid (Below w.heap.size w w4) := B3.out.trans (hb4.mono (by omega))
  have Q4 : Hid (Blk w4 w.heap.size (rcs r)) := Q3.out.on hb4
  have z4 : w.heap.size < w4.heap.size := Q4.out.lt
  clear hb4
  go_wp2_with (first | (refine wpList_load_mid rfl 30 _ rfl w.heap.size 0 rfl (rcs r) _ (Q4.out.range) Tryd.underlying30 rfl (by kernel_rfl) ?_))
  refine (refCheck_any n r _ (HR.out.below B4.out (Nat.le_refl _))).mono ?_
  rintro e w5 ⟨rfl, hb5⟩
  have B5 : Hid (Below w.heap.size w w5) := B4.out.trans (hb5.mono (by omega))
  clear hb5
  generalize chkR n r = z
  go_wp2_with fail
  refine (num6_any _ _).mono ?_
  rintro e w6 ⟨rfl, rfl⟩
  have hzz : (((z : Nat) : Int) == ((z : Nat) : Int)) = true := by simp
  go_wp2
  go_ret
  exact ⟨by first | rfl | (show Ending.returned (.bool (((z : Nat) : Int) == ((z : Nat) : Int))) = _; rw [hzz]), B5.out⟩

set_option maxRecDepth 100000 in
/-- For every argument and every world. -/
theorem contract (H : Type) (enc : TypeId × Value → H) (W : World) (base : Nat) (args : Array Value) (ds gs : List (DataW H)) (before : List MemPlace)
    (hval : ∀ (j : Nat) t v, Tryd.f3.params[j]? = some t → args[j]? = some v → Value.okWide Tryd.prog W .any base t v)
    (hW : DataW.Whole enc Tryd.prog Tryd.f3.params.toList Rows.recordChecksSpec.vars false W args.toList ds gs before)
    (hsz : (DataW.weightsEach Tryd.prog (Tryd.f3.params.toList ++ (OpenSpec.ofChange Rows.recordChecksSpec).bare.plain.varTypes Tryd.prog) (ds ++ gs)).all (· ≤ reachBytes) = true)
    (hL : laidMetH Tryd.prog Rows.recordChecksRow.laid W) :
    Calls Tryd.prog 3 args W fun e W' => ∃ v, e = .returned v ∧ Rows.recordChecksSpec.post enc Tryd.prog Tryd.f3 false true false false W args v W' := by
  have hW' := hW
  obtain ⟨p, q, hA0, hV, rfl, hfz, hnd⟩ := hW
  have hA : DataW.TrodAll enc Tryd.prog W 0 (fun _ => true) true Tryd.f3.params.toList args.toList ds p := hA0
  rw [Tryd.params3] at hA hval hsz
  obtain ⟨v0, vs0, d0, ds0, p0, q0, hargs, rfl, rfl, h0, r0⟩ := trodAll_cons hA
  obtain ⟨v1, vs1, d1, ds1, p1, q1, rfl, rfl, rfl, h1, r1⟩ := trodAll_cons r0
  obtain ⟨rfl, rfl, rfl⟩ := trodAll_nil r1
  obtain rfl : args = #[v0, v1] := by cases args; simp_all
  obtain ⟨rfl, rfl⟩ := trodVars_none hV
  obtain ⟨y0, rfl, rfl, rfl, w0⟩ := open_int Tryd.underlying3 (hval 0 3 v0 rfl rfl) h0
  have b0 := bounds_i64 w0
  have k1 := h1
  have lt1 : ∀ x ∈ p1, x.block < W.heap.size := by obtain ⟨m, hm⟩ := k1; exact DataW.trod_lt m _ _ _ hm
  obtain ⟨r1, dI1, dB1, dd1, rfl, hd1, hseg1, hcap1, b1⟩ := ropen_rec (hval 1 30 v1 rfl rfl) h1
  have sz1 := rsized hsz (j := 1) (r := r1) (dI := dI1) (dB := dB1) (dd := dd1) rfl (by rw [show d1 = _ from hd1]; rfl)
  clear hA0
  refine (walk y0 r1 W ⟨hseg1, sz1.1, sz1.2.1⟩ (rws_of_laid hL) (knd_of_laid hL)).mono fun e W' ⟨he, bel⟩ => ?_
  subst he
  exact ⟨_, rfl, _, _, _, [], _, [], hW', trodAll_mk1 (shut_bool Tryd.underlying4 _), (trodAll_cons_mk (shut_int Tryd.underlying3 w0) (trodAll_cons_mk (Below.trod claid (by kernel_rfl) (of_decide_eq_true (by kernel_rfl)) k1 bel lt1) trodAll_mk0)), rfl, bel.frame _, fun h => by cases h⟩

theorem reads (os : Os) {H : Type} (enc : TypeId × Value → H) : ∃ places, DataW.whole enc Tryd.prog ((World.doorLaid Tryd.prog 104 os).forCall (fun _ _ => 0) ⟨#[], #[.int .i64 0, .agg #[.int .i64 0, .int .i64 0, .int .i64 0, .int .i64 0, .int .i64 0, .bool false, .int .i64 0, .int .i64 0, .int .i64 0, .string ⟨#[]⟩, .string ⟨#[]⟩, .string ⟨#[]⟩, .string ⟨#[]⟩, .int .i64 0, .int .i64 0, .slice none 0 0, .int .i64 0, .int .i64 0]], []⟩).memory Tryd.f3.params.toList Rows.recordChecksSpec.vars false (#[Value.int .i64 0, .agg #[.int .i64 0, .int .i64 0, .int .i64 0, .int .i64 0, .int .i64 0, .bool false, .int .i64 0, .int .i64 0, .int .i64 0, .string ⟨#[]⟩, .string ⟨#[]⟩, .string ⟨#[]⟩, .string ⟨#[]⟩, .int .i64 0, .int .i64 0, .slice none 0 0, .int .i64 0, .int .i64 0]] : Array Value).toList 8 = some ([.lit (.int .i64 0), .agg [.lit (.int .i64 0), .agg [.lit (.int .i64 0), .lit (.int .i64 0)], .agg [.lit (.int .i64 0), .lit (.int .i64 0)], .lit (.bool false), .agg [.lit (.int .i64 0), .lit (.int .i64 0), .lit (.int .i64 0), .lit (.string []), .lit (.string []), .lit (.string []), .lit (.string []), .lit (.int .i64 0)], .lit (.int .i64 0), .nil, .lit (.int .i64 0), .lit (.int .i64 0)]], [], places) :=
  ⟨[], by kernel_rfl⟩

set_option maxRecDepth 100000 in
theorem lifted (os : Os) (started : os.Started) (H : Type) (enc : TypeId × Value → H) (F : Stop.Interp) :
    ReturnsInHanded {} Tryd.checked os 3 .any ((OpenSpec.ofChange Rows.recordChecksSpec).preRow enc Tryd.prog Tryd.f3 Rows.recordChecksRow.domain false Rows.recordChecksRow.laid) (((OpenSpec.ofChange Rows.recordChecksSpec).at F).post enc Tryd.prog Tryd.f3 false true false false) := by
  obtain ⟨places, hx⟩ := reads os enc
  refine returnsInHanded_of_row (C := Tryd.checked) (s := (OpenSpec.ofChange Rows.recordChecksSpec)) cown started (by kernel_rfl) Tryd.func3
    (witness_row_atRef (enc := enc) (C := Tryd.checked) false (World.doorLaid Tryd.prog 104 os) #[.int .i64 0, .agg #[.int .i64 0, .int .i64 0, .int .i64 0, .int .i64 0, .int .i64 0, .bool false, .int .i64 0, .int .i64 0, .int .i64 0, .string ⟨#[]⟩, .string ⟨#[]⟩, .string ⟨#[]⟩, .string ⟨#[]⟩, .int .i64 0, .int .i64 0, .slice none 0 0, .int .i64 0, .int .i64 0]] rfl (by kernel_rfl) (by kernel_rfl) (by kernel_rfl)
      (OpenSpec.preRow_of_cond 8 hx (by kernel_rfl) (fun k hk => by cases hk) (by kernel_rfl) (door_met os _))) ?_
  intro W base args ds gs before hval hW _ hcond hsz hL _ _
  exact contract H enc W base args ds gs before hval hW hsz hL

theorem said : Rows.RecordChecksSaid :=
  OpenClaim.holds_of_cond 3 Tryd.f3 rfl rfl rfl rfl rfl rfl rfl ⟨rfl, rfl, rfl, rfl, rfl⟩ rfl rfl rfl rfl rfl (by kernel_rfl) Tryd.func3 (by kernel_rfl)
    (of_decide_eq_true (by kernel_rfl)) (by unfold Func.isWrapper; first | (rw [if_pos (by decide +kernel)]; kernel_rfl) | (rw [if_neg (by decide +kernel)]; exact ⟨rfl, rfl⟩))
    (fun os started H enc _ F => by rw [OpenClaim.pre_eq_preRow]; exact lifted os started H enc F)

theorem plain (f : FuncId) (fn : Func) (hf : Tryd.pinned.checked.prog.funcNamed "moot/mootlaw6.RecordChecks" = some f) (hfn : Tryd.pinned.checked.prog.funcs[f]? = some fn) :
    false = Tryd.pinned.checked.prog.looks [] ∧ ∀ (j : Nat) t, fn.params[j]? = some t → Tryd.pinned.checked.prog.wantsStandIn t = false := by
  obtain rfl : f = 3 := Option.some.inj ((show Tryd.prog.funcNamed "moot/mootlaw6.RecordChecks" = some 3 by kernel_rfl).symm.trans hf) |>.symm
  obtain rfl : fn = Tryd.f3 := (Option.some.inj (Tryd.func3.symm.trans hfn)).symm
  refine ⟨by kernel_rfl, fun j t ht => ?_⟩
  rw [Tryd.params3] at ht
  have hm : t ∈ [3, 30] := by simpa using Array.mem_of_getElem? ht
  have hall : ([3, 30].all fun u => !Tryd.prog.wantsStandIn u) = true := by kernel_rfl
  exact (show Tryd.prog.wantsStandIn t = false by simpa using List.all_eq_true.1 hall t hm)

end recordChecks
theorem recordChecks_proved : Rows.RecordChecksCardSaid :=
  Claim7.holds_tied_plain_at .later [] _ _ _ _ recordChecks.said (fun _ h => by cases h) (by kernel_rfl) (fun _ h => by cases h) recordChecks_row_tie rfl ⟨rfl, rfl⟩ (by kernel_rfl) rfl recordChecks.plain (by kernel_rfl)
#print axioms recordChecks_proved
end Go.Proofs.YtjpggmenbnkbbaaDoor
