/- Proved: for every list of Mendings (its bulk at most 1048576), CrcMends answers true: Mend is the document's four bytes, each time new memory. Conditions: the bulk (the row's own), and the table of sixteen is as the program's text lays it. -/
import Derived.Test.YtibdgnegdnapoacDoorRMend
import Derived.Test.YtibdgnegdnapoacDoorKKeep
import Derived.Test.YtibdgnegdnapoacDoorMArgs
import Derived.Test.YtibdgnegdnapoacDoorCSame
import Derived.Test.YtibdgnegdnapoacDoorCLaid
import Derived.Test.YtibdgnegdnapoacDoorCards
import Derived.Test.YtibdgnegdnapoacDoorTie
import Derived.WalkSmall
import Derived.WalkSpells
import Derived.Deep.QuietTactic
import Derived.BigQuiet
import Derived.Deep.DeepHandedRow
import Derived.Deep.DeepWitnessRowRef
namespace Go.Proofs.YtibdgnegdnapoacDoor
namespace crcMends
open Go.ChangeShapes Go.WideShapes Go.ChangeAt Go.RowKit Go.Wire1 Go.Crc2

theorem mend00 : bt (mend 0#32 0#32) 0 = 171 ∧ bt (mend 0#32 0#32) 1 = 155 ∧ bt (mend 0#32 0#32) 2 = 224 ∧ bt (mend 0#32 0#32) 3 = 155 := by decide +kernel
theorem below_drewN' {B : Nat} {a w : World} (h : Below B a w) (d : Nat) : Below B a (w.drewN d) := ⟨h.os, h.tape, h.output, h.size, h.block⟩

set_option maxHeartbeats 4000000 in
set_option maxRecDepth 100000 in
theorem walk (a : Option Addr) (n cap : Nat) (l : List (R × R)) (w : World) (hs : MSeg w a n l) (hn : n ≤ 1048576) (hH : Hal w) :
    Calls Tryd.prog 4 #[.slice a n cap] w fun e w' => e = .returned (.bool true) ∧ Below w.heap.size w w' := by
  have HH : Hid (Hal w) := hH
  have HS : Hid (MSeg w a n l) := hs
  clear hH hs
  go_enter Tryd.func4, Tryd.ntmps4
  go_wp2_with fail
  refine (known_any _ HH.out).mono ?_
  rintro e w1 ⟨rfl, hbel⟩
  have HB0 := hide hbel
  clear hbel
  go_wp2_with fail
  go_loopw [3, 4] (fun v x wr => ∃ (i : Nat) (ks : List K5), x = .int .i64 (i : Int) ∧ i ≤ n ∧ Hid (Book wr w.heap.size v ks) ∧ Hid (ks.length = 5 * i) ∧ Hid (Below w.heap.size w wr)) (fun _ x _ => n - (intOf x).toNat)
  case atStart => exact ⟨0, [], rfl, by omega, Book.nil _ _, rfl, HB0⟩
  case round =>
    clear HB0
    obtain ⟨i, ks, rfl, hi, HB, HK, HW⟩ := hrel
    obtain ⟨ba, bc, rfl⟩ := HB.out.shape
    have hsz := HW.out.size
    have hbl : ks.length ≤ maxLen := HB.out.len
    unfold maxLen at hbl
    by_cases hlt : i < n
    · obtain ⟨sb, so, rfl, hc⟩ := (HS.out.below HW.out (Nat.le_refl _)).2.2 (by omega)
      obtain ⟨c0, c1⟩ := hc i hlt
      clear hc
      generalize l.getD i (0#32, 0#32) = o at *
      obtain ⟨oc, ow⟩ := o
      simp only at c0 c1
      have er : (i : Int) % 251 = ((i % 251 : Nat) : Int) := by omega
      have hr : i % 251 < 251 := Nat.mod_lt _ (by decide)
      generalize i % 251 = r at *
      obtain ⟨kn, hkn⟩ : ∃ k, Hid (ks.length = k) := ⟨_, hide rfl⟩
      rw [hkn.out] at HB hbl ⊢
      go_wp2_with fail
      have o0 : (wr.alloc (.cells #[nr oc, nr ow] 29)).cell? ⟨wr.heap.size, 0, none⟩ = some (nr oc) := by simp
      have o1 : (wr.alloc (.cells #[nr oc, nr ow] 29)).cell? ⟨wr.heap.size, 1, none⟩ = some (nr ow) := by simp
      have HBA : Hid (Book (wr.alloc (.cells #[nr oc, nr ow] 29)) w.heap.size (.slice ba kn bc) ks) := HB.out.below ((Below.refl _ _).alloc (Nat.le_refl _) _) (Nat.le_refl _)
      have HWA : Hid (Below w.heap.size w (wr.alloc (.cells #[nr oc, nr ow] 29))) := HW.out.alloc hsz _
      clear HB HW c0 c1
      generalize wr.alloc (.cells #[nr oc, nr ow] 29) = WA at *
      have hszA := HWA.out.size
      generalize wr.heap.size = qo at *
      refine (mend_any oc ow _).mono ?_
      rintro e w2 ⟨rfl, rfl⟩
      have HM : Hid (Mine (WA.alloc (.cells (fourCells (mend oc ow)) 5)) w.heap.size WA.heap.size 4 4 (fb (mend oc ow))) := mine_four WA _ _ hszA
      have HBB : Hid (Book (WA.alloc (.cells (fourCells (mend oc ow)) 5)) w.heap.size (.slice ba kn bc) ks) := HBA.out.below ((Below.refl _ _).alloc (Nat.le_refl _) _) (Nat.le_refl _)
      have HWB : Hid (Below w.heap.size w (WA.alloc (.cells (fourCells (mend oc ow)) 5))) := HWA.out.alloc hszA _
      have HAP : Hid (∀ k ∈ ks, k.g ≠ WA.heap.size) := fun k hk => by have := (HBA.out.2 k hk).lt; omega
      replace o0 : (WA.alloc (.cells (fourCells (mend oc ow)) 5)).cell? ⟨qo, 0, none⟩ = some (nr oc) := Lib.cell?_alloc_marked _ o0
      replace o1 : (WA.alloc (.cells (fourCells (mend oc ow)) 5)).cell? ⟨qo, 1, none⟩ = some (nr ow) := Lib.cell?_alloc_marked _ o1
      clear HBA HWA hszA
      generalize WA.alloc (.cells (fourCells (mend oc ow)) 5) = WB at *
      generalize WA.heap.size = g at *
      go_wp2_with fail
      refine (rmend_any oc ow _).mono ?_
      rintro e w3 ⟨g', rfl, hm3, hbel3⟩
      have hseg3 := hm3.seg
      clear hm3
      have hszB := HWB.out.size
      replace HM := hide (HM.out.below hbel3 (Nat.le_refl _))
      replace HBB := hide (HBB.out.below hbel3 (Nat.le_refl _))
      replace HWB := hide (HWB.out.trans (hbel3.mono hszB))
      have HS3 := hide hseg3
      clear hseg3 hbel3 o0 o1 hszB
      generalize fb (mend oc ow) = L at *
      go_wp2_with fail
      refine (same_any _ _ 4 4 4 4 L L _ HM.out.seg HS3.out).mono ?_
      rintro e w4 ⟨rfl, q, rfl⟩
      rw [same_yes rfl]
      replace HM := hide (HM.out.drewN q)
      replace HBB := hide (HBB.out.drewN q)
      replace HWB := hide (below_drewN' HWB.out q)
      clear HS3
      generalize w3.drewN q = W4 at *
      have hsz4 := HWB.out.size
      go_wp2_with fail
      refine (keep_any _ ks w.heap.size g L ((r : Int) + 1) _ hsz4 HBB.out HM.out (by omega) (by omega) HAP.out (by have := HK.out; omega)).mono ?_
      rintro e w5 ⟨v5, ks5, rfl, hb5, hl5, hbel5⟩
      have HB5 := hide hb5
      have HL5 : Hid ((ks ++ ks5).length = 5 * (i + 1)) := by show _ = _; rw [List.length_append, HK.out, hl5]; omega
      have HW5 := hide (HWB.out.trans hbel5)
      clear hb5 hl5 hbel5 HM HBB HWB HAP HK hkn hbl
      generalize ks ++ ks5 = ks6 at *
      go_wp2_with fail
      refine (holds_any v5 ks6 w.heap.size _ HB5.out).mono ?_
      rintro e w6 ⟨rfl, d, rfl⟩
      replace HB5 := hide (HB5.out.drewN d)
      replace HW5 := hide (below_drewN' HW5.out d)
      go_wp2_with fail
      go_roundw
      case rel => exact ⟨i + 1, ks6, by go_num, by omega, HB5, HL5, HW5⟩
      case measure => simp [intOf]; omega
    · go_wp2_with fail
      refine (mend_any 0#32 0#32 _).mono ?_
      rintro e w2 ⟨rfl, rfl⟩
      obtain ⟨m0, m1, m2, m3⟩ := mend00
      rw [m0, m1, m2, m3]
      have HB2 : Hid (Book (wr.alloc (.cells #[.int .u8 171, .int .u8 155, .int .u8 224, .int .u8 155] 5)) w.heap.size (.slice ba ks.length bc) ks) := HB.out.below ((Below.refl _ _).alloc (Nat.le_refl _) _) (Nat.le_refl _)
      have HW2 : Hid (Below w.heap.size w (wr.alloc (.cells #[.int .u8 171, .int .u8 155, .int .u8 224, .int .u8 155] 5))) := HW.out.alloc hsz _
      have z0 : (wr.alloc (.cells #[.int .u8 171, .int .u8 155, .int .u8 224, .int .u8 155] 5)).cell? ⟨wr.heap.size, 0, none⟩ = some (.int .u8 171) := by simp
      have z1 : (wr.alloc (.cells #[.int .u8 171, .int .u8 155, .int .u8 224, .int .u8 155] 5)).cell? ⟨wr.heap.size, 1, none⟩ = some (.int .u8 155) := by simp
      have z2 : (wr.alloc (.cells #[.int .u8 171, .int .u8 155, .int .u8 224, .int .u8 155] 5)).cell? ⟨wr.heap.size, 2, none⟩ = some (.int .u8 224) := by simp
      have z3 : (wr.alloc (.cells #[.int .u8 171, .int .u8 155, .int .u8 224, .int .u8 155] 5)).cell? ⟨wr.heap.size, 3, none⟩ = some (.int .u8 155) := by simp
      clear m0 m1 m2 m3
      generalize wr.alloc (.cells #[.int .u8 171, .int .u8 155, .int .u8 224, .int .u8 155] 5) = W2 at *
      generalize wr.heap.size = g at *
      go_wp2_with fail
      refine (holds_any _ ks w.heap.size _ HB2.out).mono ?_
      rintro e w6 ⟨rfl, d, rfl⟩
      have HW6 := hide (below_drewN' HW2.out d)
      replace z0 : (W2.drewN d).cell? _ = _ := z0
      replace z1 : (W2.drewN d).cell? _ = _ := z1
      replace z2 : (W2.drewN d).cell? _ = _ := z2
      replace z3 : (W2.drewN d).cell? _ = _ := z3
      generalize W2.drewN d = W6 at *
      go_wp2
      go_ret
      exact ⟨rfl, HW6.out⟩

set_option maxRecDepth 100000 in
/-- For every argument and every world that holds the sentinels. -/
theorem contract (H : Type) (enc : TypeId × Value → H) (W : World) (base : Nat) (args : Array Value) (ds gs : List (DataW H)) (before : List MemPlace)
    (hval : ∀ (j : Nat) t v, Tryd.f4.params[j]? = some t → args[j]? = some v → Value.okWide Tryd.prog W .any base t v)
    (hW : DataW.Whole enc Tryd.prog Tryd.f4.params.toList Rows.crcMendsSpec.vars false W args.toList ds gs before)
    (hsz : (DataW.weightsEach Tryd.prog (Tryd.f4.params.toList ++ (Rows.OpenSpec.upto Rows.crcMendsSpec).bare.plain.varTypes Tryd.prog) (ds ++ gs)).all (· ≤ reachBytes) = true)
    (hup : Rows.uptoSmall H (ds ++ gs) = true)
    (hL : laidMetH Tryd.prog Rows.crcMendsUptoRow.laid W) :
    Calls Tryd.prog 4 args W fun e W' => ∃ v, e = .returned v ∧ Rows.crcMendsSpec.post enc Tryd.prog Tryd.f4 false true false false W args v W' := by
  have hW' := hW
  obtain ⟨p, q, hA0, hV, rfl, hfz, hnd⟩ := hW
  have hA : DataW.TrodAll enc Tryd.prog W 0 (fun _ => true) true Tryd.f4.params.toList args.toList ds p := hA0
  rw [Tryd.params4] at hA hval hsz
  obtain ⟨v0, vs0, d0, ds0, p0, q0, hargs, rfl, rfl, h0, r0⟩ := trodAll_cons hA
  obtain ⟨rfl, rfl, rfl⟩ := trodAll_nil r0
  obtain rfl : args = #[v0] := by cases args; simp_all
  obtain ⟨rfl, rfl⟩ := trodVars_none hV
  obtain ⟨a0, n0, cap0, rfl⟩ := okWide_slice Tryd.underlying26 (hval 0 26 v0 rfl rfl)
  have k0 := h0
  have lt0 : ∀ x ∈ p0, x.block < W.heap.size := by obtain ⟨m, hm⟩ := k0; exact DataW.trod_lt m _ _ _ hm
  obtain ⟨fuel0, hf0⟩ := h0
  obtain ⟨l0, hseg0, hcap0⟩ := open_mends hf0
  have hH := hal_of_laid hL
  clear hA0
  have hup' : Rows.uptoBulk d0 + 0 ≤ 1048576 := of_decide_eq_true hup
  have hcap0' : n0 ≤ Rows.uptoBulk d0 := hcap0
  refine (crcMends.walk a0 n0 cap0 l0 _ hseg0 (by omega) hH).mono fun e W' ⟨he, bel⟩ => ?_
  subst he
  exact ⟨_, rfl, _, _, _, [], _, [], hW', trodAll_mk1 (shut_bool Tryd.underlying4 _), (trodAll_cons_mk (Below.trod laidOut (by kernel_rfl) (of_decide_eq_true (by kernel_rfl)) k0 bel lt0) trodAll_mk0), rfl, bel.frame _, fun h => by cases h⟩

theorem reads (os : Os) {H : Type} (enc : TypeId × Value → H) : ∃ places, DataW.whole enc Tryd.prog ((World.doorLaid Tryd.prog 104 os).forCall (fun _ _ => 0) ⟨#[], #[.slice none 0 0], []⟩).memory Tryd.f4.params.toList Rows.crcMendsSpec.vars false (#[Value.slice none 0 0] : Array Value).toList 8 = some ([.nil], [], places) :=
  ⟨[], by kernel_rfl⟩

set_option maxRecDepth 100000 in
theorem lifted (os : Os) (started : os.Started) (H : Type) (enc : TypeId × Value → H) (F : Stop.Interp) :
    ReturnsInHanded {} Tryd.checked os 4 .any ((Rows.OpenSpec.upto Rows.crcMendsSpec).preRow enc Tryd.prog Tryd.f4 Rows.crcMendsUptoRow.domain false Rows.crcMendsUptoRow.laid) (((Rows.OpenSpec.upto Rows.crcMendsSpec).at F).post enc Tryd.prog Tryd.f4 false true false false) := by
  obtain ⟨places, hx⟩ := reads os enc
  refine returnsInHanded_of_row (C := Tryd.checked) (s := (Rows.OpenSpec.upto Rows.crcMendsSpec)) own started (by kernel_rfl) Tryd.func4
    (witness_row_atRef (enc := enc) (C := Tryd.checked) false (World.doorLaid Tryd.prog 104 os) #[.slice none 0 0] rfl (by kernel_rfl) (by kernel_rfl) (by kernel_rfl)
      (OpenSpec.preRow_of_cond 8 hx (by kernel_rfl) (fun k hk => by cases hk; kernel_rfl) (by kernel_rfl) (door_met os _))) ?_
  intro W base args ds gs before hval hW _ hcond hsz hL _ _
  exact contract H enc W base args ds gs before hval hW hsz (hcond _ rfl) hL

theorem said : Rows.CrcMendsUptoSaid :=
  OpenClaim.holds_of_cond 4 Tryd.f4 rfl rfl rfl rfl rfl rfl rfl ⟨rfl, rfl, rfl, rfl, rfl⟩ rfl rfl rfl rfl rfl (by kernel_rfl) Tryd.func4 (by kernel_rfl)
    (of_decide_eq_true (by kernel_rfl)) (by unfold Func.isWrapper; first | (rw [if_pos (by decide +kernel)]; kernel_rfl) | (rw [if_neg (by decide +kernel)]; exact ⟨rfl, rfl⟩))
    (fun os started H enc _ F => by rw [OpenClaim.pre_eq_preRow]; exact lifted os started H enc F)

theorem plain (f : FuncId) (fn : Func) (hf : Tryd.pinned.checked.prog.funcNamed "moot/mootlaw2.CrcMends" = some f) (hfn : Tryd.pinned.checked.prog.funcs[f]? = some fn) :
    false = Tryd.pinned.checked.prog.looks [] ∧ ∀ (j : Nat) t, fn.params[j]? = some t → Tryd.pinned.checked.prog.wantsStandIn t = false := by
  obtain rfl : f = 4 := Option.some.inj ((show Tryd.prog.funcNamed "moot/mootlaw2.CrcMends" = some 4 by kernel_rfl).symm.trans hf) |>.symm
  obtain rfl : fn = Tryd.f4 := (Option.some.inj (Tryd.func4.symm.trans hfn)).symm
  refine ⟨by kernel_rfl, fun j t ht => ?_⟩
  rw [Tryd.params4] at ht
  have hm : t ∈ [26] := by simpa using Array.mem_of_getElem? ht
  have hall : ([26].all fun u => !Tryd.prog.wantsStandIn u) = true := by kernel_rfl
  exact (show Tryd.prog.wantsStandIn t = false by simpa using List.all_eq_true.1 hall t hm)

end crcMends
theorem crcMends_proved : Rows.CrcMendsUptoCardSaid :=
  Claim7.holds_tied_plain_at .later [] _ _ _ _ crcMends.said (fun _ h => by cases h) (by kernel_rfl) (fun _ h => by cases h) crcMendsUpto_row_tie rfl ⟨rfl, rfl⟩ (by kernel_rfl) rfl crcMends.plain (by kernel_rfl)
#print axioms crcMends_proved
end Go.Proofs.YtibdgnegdnapoacDoor
