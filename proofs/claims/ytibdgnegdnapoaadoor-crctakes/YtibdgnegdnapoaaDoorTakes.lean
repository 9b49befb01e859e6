/- Proved: for every number c and byte x, CrcTakes answers true: one byte more is one entry of the table. The table of sixteen is as the program's text lays it. -/
import Derived.Test.YtibdgnegdnapoaaDoorCEntry
import Derived.Test.YtibdgnegdnapoaaDoorCMath2
import Derived.Test.YtibdgnegdnapoaaDoorCLaid
import Derived.Test.YtibdgnegdnapoaaDoorArgs
import Derived.Test.YtibdgnegdnapoaaDoorCards
import Derived.Test.YtibdgnegdnapoaaDoorTie
import Derived.Deep.DeepHandedRow
import Derived.Deep.DeepWitnessRowRef
namespace Go.Proofs.YtibdgnegdnapoaaDoor
namespace crcTakes
open Go.ChangeShapes Go.WideShapes Go.ChangeAt Go.RowKit Go.Wire1 Go.Crc2

theorem x_ones (a : R) : bits .xor .u32 (a.toNat : Int) 4294967295 = ((~~~ a).toNat : Int) := by
  have := x_xorN a 4294967295 (by decide)
  rw [show BitVec.ofNat 32 4294967295 = BitVec.allOnes 32 by decide, BitVec.xor_allOnes] at this
  exact this
theorem x_and255 (a : R) : bits .and .u32 (a.toNat : Int) 255 = ((a.toNat % 256 : Nat) : Int) := by
  have := u32_and_nat a.toNat 255 a.isLt (by decide)
  rw [show (255 : Nat) = 2 ^ 8 - 1 by decide, Nat.and_two_pow_sub_one_eq_mod] at this
  exact this
theorem split8 (r : R) : steps 8 (r &&& 0xFF#32) ^^^ (r >>> 8) = steps 8 r :=
  lin_ext (f := fun r => steps 8 (r &&& 0xFF#32) ^^^ (r >>> 8)) (g := steps 8) (Lin.add (Lin.comp (steps_xor 8) (and_lin _)) (fun _ _ => BitVec.ushiftRight_xor_distrib ..)) (steps_xor 8) (by decide +kernel) r
theorem and255 (a : R) : BitVec.ofNat 32 (a.toNat % 256) = a &&& 0xFF#32 := by
  apply BitVec.eq_of_toNat_eq
  rw [BitVec.toNat_and, BitVec.toNat_ofNat]
  have : (0xFF#32).toNat = 2 ^ 8 - 1 := by decide
  rw [this, Nat.and_two_pow_sub_one_eq_mod]
  omega
theorem take_entry (r : R) (n : Nat) (h : n < 256) : bits .xor .u32 ((entry (((r ^^^ BitVec.ofNat 32 n).toNat % 256 : Nat) : Int)).toNat : Int) (Int.ofNat r.toNat / (256 : Int)) = ((take r (n : Int)).toNat : Int) := by
  have e1 : Int.ofNat r.toNat / (256 : Int) = (((r ^^^ BitVec.ofNat 32 n) >>> 8).toNat : Int) := by
    have h0 : (BitVec.ofNat 32 n : R) >>> 8 = 0#32 := by
      apply BitVec.eq_of_toNat_eq
      rw [BitVec.toNat_ushiftRight, BitVec.toNat_ofNat, Nat.shiftRight_eq_div_pow]
      show n % 2 ^ 32 / 2 ^ 8 = 0
      omega
    rw [BitVec.ushiftRight_xor_distrib, h0, BitVec.xor_zero, BitVec.toNat_ushiftRight, Nat.shiftRight_eq_div_pow]
    simp only [Int.ofNat_eq_natCast]; omega
  rw [e1, x_xor]
  have e2 : entry (((r ^^^ BitVec.ofNat 32 n).toNat % 256 : Nat) : Int) = steps 8 ((r ^^^ BitVec.ofNat 32 n) &&& 0xFF#32) := by
    rw [entry, if_pos (by omega), take, BitVec.zero_xor, Int.toNat_natCast, and255]
  rw [e2, split8]
  rfl

set_option maxHeartbeats 400000 in
set_option maxRecDepth 100000 in
theorem walk (c : R) (x : Int) (w : World) (h0 : 0 ≤ x) (h1 : x < 256) (hH : Hal w) :
    Calls Tryd.prog 6 #[.int .u32 (c.toNat : Int), .int .u8 x] w fun e w' => e = .returned (.bool true) ∧ Below w.heap.size w w' := by
  obtain ⟨n, rfl⟩ := Int.eq_ofNat_of_zero_le h0
  have hn : n < 256 := by omega
  have HH : Hid (Hal w) := hH
  clear hH
  have e1 := x_ones c
  have eU : Hid (upd c [(n : Int)] = ~~~ (take (~~~ c) n)) := rfl
  generalize ~~~ c = r at *
  have e2 := x_xorN r n (by omega)
  have e3 := x_and255 (r ^^^ BitVec.ofNat 32 n)
  have e4 := take_entry r n hn
  have e5 := x_ones (take r n)
  rw [← eU.out] at e5
  generalize take r (n : Int) = t at *
  have b2 : (r ^^^ BitVec.ofNat 32 n).toNat % 256 < 256 := Nat.mod_lt _ (by decide)
  have b1 := r_lt c
  have b3 := r_lt r
  generalize r ^^^ BitVec.ofNat 32 n = v at *
  have b4 := r_lt v
  simp only [Int.ofNat_eq_natCast] at e4
  generalize v.toNat % 256 = i at *
  obtain ⟨ei, hei⟩ : ∃ ei, Hid (entry (i : Int) = ei) := ⟨_, rfl⟩
  rw [hei.out] at e4
  obtain ⟨fin, hfin⟩ : ∃ fin, Hid (upd c [(n : Int)] = fin) := ⟨_, rfl⟩
  rw [hfin.out] at e5
  go_enter Tryd.func6, Tryd.ntmps6
  go_wp2_with fail
  refine (known_any _ HH.out).mono ?_
  rintro e w1 ⟨rfl, hbel⟩
  have HH1 : Hid (Hal w1) := HH.out.later hbel
  have HB : Hid (Below w.heap.size w w1) := hbel
  have hsz := hbel.size
  clear hbel
  go_wp2_with fail
  refine (entry_any (i : Int) _ (by omega) (by omega) HH1.out).mono ?_
  rintro e w2 ⟨rfl, rfl⟩
  rw [hei.out]
  go_wp2_with fail
  refine (update_any c _ 1 1 [(n : Int)] _ (seg_cells _ _ _ _ rfl (by simp [maxLen])) (fun z hz => by simp at hz; omega) (HH1.out.alloc _)).mono ?_
  rintro e w3 ⟨rfl, rfl⟩
  rw [hfin.out]
  go_wp2
  go_ret
  exact ⟨rfl, HB.out.alloc hsz _⟩

set_option maxRecDepth 100000 in
/-- For every argument and every world that holds the sentinels. -/
theorem contract (H : Type) (enc : TypeId × Value → H) (W : World) (base : Nat) (args : Array Value) (ds gs : List (DataW H)) (before : List MemPlace)
    (hval : ∀ (j : Nat) t v, Tryd.f6.params[j]? = some t → args[j]? = some v → Value.okWide Tryd.prog W .any base t v)
    (hW : DataW.Whole enc Tryd.prog Tryd.f6.params.toList Rows.crcTakesSpec.vars false W args.toList ds gs before)
    (hsz : (DataW.weightsEach Tryd.prog (Tryd.f6.params.toList ++ (OpenSpec.ofChange Rows.crcTakesSpec).bare.plain.varTypes Tryd.prog) (ds ++ gs)).all (· ≤ reachBytes) = true)
    (hL : laidMetH Tryd.prog Rows.crcTakesRow.laid W) :
    Calls Tryd.prog 6 args W fun e W' => ∃ v, e = .returned v ∧ Rows.crcTakesSpec.post enc Tryd.prog Tryd.f6 false true false false W args v W' := by
  have hW' := hW
  obtain ⟨p, q, hA0, hV, rfl, hfz, hnd⟩ := hW
  have hA : DataW.TrodAll enc Tryd.prog W 0 (fun _ => true) true Tryd.f6.params.toList args.toList ds p := hA0
  rw [Tryd.params6] at hA hval hsz
  obtain ⟨v0, vs0, d0, ds0, p0, q0, hargs, rfl, rfl, h0, r0⟩ := trodAll_cons hA
  obtain ⟨v1, vs1, d1, ds1, p1, q1, rfl, rfl, rfl, h1, r1⟩ := trodAll_cons r0
  obtain ⟨rfl, rfl, rfl⟩ := trodAll_nil r1
  obtain rfl : args = #[v0, v1] := by cases args; simp_all
  obtain ⟨rfl, rfl⟩ := trodVars_none hV
  obtain ⟨y0, rfl, rfl, rfl, w0⟩ := open_int Tryd.underlying24 (hval 0 24 v0 rfl rfl) h0
  obtain ⟨y1, rfl, rfl, rfl, w1⟩ := open_int Tryd.underlying5 (hval 1 5 v1 rfl rfl) h1
  have hH := hal_of_laid hL
  clear hA0
  have b0 := bounds_u32 w0
  obtain ⟨r0, rfl⟩ : ∃ r : R, y0 = (r.toNat : Int) := ⟨BitVec.ofNat 32 y0.toNat, by rw [BitVec.toNat_ofNat]; omega⟩
  have b1 := bounds_u8 w1

  refine (walk r0 y1 W (by omega) (by omega) hH).mono fun e W' ⟨he, bel⟩ => ?_
  subst he
  exact ⟨_, rfl, _, _, _, [], _, [], hW', trodAll_mk1 (shut_bool Tryd.underlying4 _), (trodAll_cons_mk (shut_int Tryd.underlying24 w0) (trodAll_cons_mk (shut_int Tryd.underlying5 w1) trodAll_mk0)), rfl, bel.frame _, fun h => by cases h⟩

theorem reads (os : Os) {H : Type} (enc : TypeId × Value → H) : ∃ places, DataW.whole enc Tryd.prog ((World.doorLaid Tryd.prog 104 os).forCall (fun _ _ => 0) ⟨#[], #[.int .u32 0, .int .u8 0], []⟩).memory Tryd.f6.params.toList Rows.crcTakesSpec.vars false (#[Value.int .u32 0, .int .u8 0] : Array Value).toList 8 = some ([.lit (.int .u32 0), .lit (.int .u8 0)], [], places) :=
  ⟨[], by kernel_rfl⟩

set_option maxRecDepth 100000 in
theorem lifted (os : Os) (started : os.Started) (H : Type) (enc : TypeId × Value → H) (F : Stop.Interp) :
    ReturnsInHanded {} Tryd.checked os 6 .any ((OpenSpec.ofChange Rows.crcTakesSpec).preRow enc Tryd.prog Tryd.f6 Rows.crcTakesRow.domain false Rows.crcTakesRow.laid) (((OpenSpec.ofChange Rows.crcTakesSpec).at F).post enc Tryd.prog Tryd.f6 false true false false) := by
  obtain ⟨places, hx⟩ := reads os enc
  refine returnsInHanded_of_row (C := Tryd.checked) (s := (OpenSpec.ofChange Rows.crcTakesSpec)) own started (by kernel_rfl) Tryd.func6
    (witness_row_atRef (enc := enc) (C := Tryd.checked) false (World.doorLaid Tryd.prog 104 os) #[.int .u32 0, .int .u8 0] rfl (by kernel_rfl) (by kernel_rfl) (by kernel_rfl)
      (OpenSpec.preRow_of_cond 8 hx (by kernel_rfl) (fun k hk => by cases hk) (by kernel_rfl) (door_met os _))) ?_
  intro W base args ds gs before hval hW _ hcond hsz hL _ _
  exact contract H enc W base args ds gs before hval hW hsz hL

theorem said : Rows.CrcTakesSaid :=
  OpenClaim.holds_of_cond 6 Tryd.f6 rfl rfl rfl rfl rfl rfl rfl ⟨rfl, rfl, rfl, rfl, rfl⟩ rfl rfl rfl rfl rfl (by kernel_rfl) Tryd.func6 (by kernel_rfl)
    (of_decide_eq_true (by kernel_rfl)) (by unfold Func.isWrapper; first | (rw [if_pos (by decide +kernel)]; kernel_rfl) | (rw [if_neg (by decide +kernel)]; exact ⟨rfl, rfl⟩))
    (fun os started H enc _ F => by rw [OpenClaim.pre_eq_preRow]; exact lifted os started H enc F)

theorem plain (f : FuncId) (fn : Func) (hf : Tryd.pinned.checked.prog.funcNamed "moot/mootlaw2.CrcTakes" = some f) (hfn : Tryd.pinned.checked.prog.funcs[f]? = some fn) :
    false = Tryd.pinned.checked.prog.looks [] ∧ ∀ (j : Nat) t, fn.params[j]? = some t → Tryd.pinned.checked.prog.wantsStandIn t = false := by
  obtain rfl : f = 6 := Option.some.inj ((show Tryd.prog.funcNamed "moot/mootlaw2.CrcTakes" = some 6 by kernel_rfl).symm.trans hf) |>.symm
  obtain rfl : fn = Tryd.f6 := (Option.some.inj (Tryd.func6.symm.trans hfn)).symm
  refine ⟨by kernel_rfl, fun j t ht => ?_⟩
  rw [Tryd.params6] at ht
  have hm : t ∈ [24, 5] := by simpa using Array.mem_of_getElem? ht
  have hall : ([24, 5].all fun u => !Tryd.prog.wantsStandIn u) = true := by kernel_rfl
  exact (show Tryd.prog.wantsStandIn t = false by simpa using List.all_eq_true.1 hall t hm)

end crcTakes
theorem crcTakes_proved : Rows.CrcTakesCardSaid :=
  Claim7.holds_tied_plain_at .later [] _ _ _ _ crcTakes.said (fun _ h => by cases h) (by kernel_rfl) (fun _ h => by cases h) crcTakes_row_tie rfl ⟨rfl, rfl⟩ (by kernel_rfl) rfl crcTakes.plain (by kernel_rfl)
#print axioms crcTakes_proved
end Go.Proofs.YtibdgnegdnapoaaDoor
