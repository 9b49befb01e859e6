/- Proved: for every number, image and marks DiskCrowd answers true: each of many disks holds what was laid on itself alone. No condition. -/
import Derived.Test.YtbgahocmabiaeaaDkCrwA
import Derived.Test.YtbgahocmabiaeaaDkCrwB
namespace Go.Proofs.Ytbgahocmabiaeaa
open Go.ChangeShapes Go.WideShapes Go.ChangeAt Go.RowKit Go.Wire1
namespace diskCrowd

set_option maxHeartbeats 1000000 in
set_option maxRecDepth 100000 in
theorem walk_big (nz : Int) (ia : Option Addr) (inn ic : Nat) (ma : Option Addr) (mn mc0 : Nat) (w : World) (h100 : 100 < inn) :
    Calls Try.prog 3 #[.int .i64 nz, .slice ia inn ic, .slice ma mn mc0] w fun e w' => e = .returned (.bool true) ∧ Below w.heap.size w w' := by
  have q100 : (100 : Int) < (inn : Int) := by omega
  by_cases h1 : nz < 1
  · go_enter Try.func3, Try.ntmps3
    go_wp2
    go_ret
    exact ⟨rfl, Below.refl _ _⟩
  by_cases h2 : 40 < nz
  · go_enter Try.func3, Try.ntmps3
    go_wp2
    go_ret
    exact ⟨rfl, Below.refl _ _⟩
  · go_enter Try.func3, Try.ntmps3
    go_wp2
    go_ret
    exact ⟨rfl, Below.refl _ _⟩
theorem walk (nz : Int) (ia : Option Addr) (inn ic : Nat) (img : List Int) (ma : Option Addr) (mn mc0 : Nat) (mk : List Int) (w : World) (hI : Seg w ia inn img) (hIY : Byt img) (hM : SegI w ma mn mk) :
    Calls Try.prog 3 #[.int .i64 nz, .slice ia inn ic, .slice ma mn mc0] w fun e w' => e = .returned (.bool true) ∧ Below w.heap.size w w' := by
  have hIN : ia = none → inn = 0 := fun e => by
    rcases Nat.eq_zero_or_pos inn with h | h
    · exact h
    · obtain ⟨b, off, e2, _⟩ := hI.2.2 h
      rw [e] at e2; cases e2
  by_cases h100 : 100 < inn
  · exact walk_big nz ia inn ic ma mn mc0 w h100
  by_cases h1 : nz < 1
  · exact crowd_a nz ia inn ic img ma mn mc0 mk w hI hIY hIN (by omega) hM h1
  by_cases h2 : 40 < nz
  · exact crowd_b nz ia inn ic img ma mn mc0 mk w hI hIY hIN (by omega) hM h1 h2
  obtain ⟨nn, rfl⟩ := Int.eq_ofNat_of_zero_le (show 0 ≤ nz by omega)
  exact crowd_c nn ia inn ic img ma mn mc0 mk w hI hIY hIN (by omega) hM (by omega) (by omega)

set_option maxRecDepth 100000 in
/-- For every argument and every world. -/
theorem contract (H : Type) (enc : TypeId × Value → H) (W : World) (base : Nat) (args : Array Value) (ds gs : List (DataW H)) (before : List MemPlace)
    (hval : ∀ (j : Nat) t v, Try.f3.params[j]? = some t → args[j]? = some v → Value.okWide Try.prog W .any base t v)
    (hW : DataW.Whole enc Try.prog Try.f3.params.toList Rows.diskCrowdSpec.vars false W args.toList ds gs before)
    (hsz : (DataW.weightsEach Try.prog (Try.f3.params.toList ++ Rows.diskCrowdSpec.plain.varTypes Try.prog) (ds ++ gs)).all (· ≤ reachBytes) = true) :
    Calls Try.prog 3 args W fun e W' => ∃ v, e = .returned v ∧ Rows.diskCrowdSpec.post enc Try.prog Try.f3 false true false false W args v W' := by
  have hW' := hW
  obtain ⟨p, q, hA0, hV, rfl, hfz, hnd⟩ := hW
  have hA : DataW.TrodAll enc Try.prog W 0 (fun _ => true) true Try.f3.params.toList args.toList ds p := hA0
  rw [Try.params3] at hA hval hsz
  obtain ⟨v0, vs0, d0, ds0, p0, q0, hargs, rfl, rfl, h0, tr0⟩ := trodAll_cons hA
  obtain ⟨v1, vs1, d1, ds1, p1, q1, rfl, rfl, rfl, h1, tr1⟩ := trodAll_cons tr0
  obtain ⟨v2, vs2, d2, ds2, p2, q2, rfl, rfl, rfl, h2, tr2⟩ := trodAll_cons tr1
  obtain ⟨rfl, rfl, rfl⟩ := trodAll_nil tr2
  obtain rfl : args = #[v0, v1, v2] := by cases args; simp_all
  obtain ⟨rfl, rfl⟩ := trodVars_none hV
  obtain ⟨y0, rfl, rfl, rfl, w0⟩ := open_int Try.underlying3 (hval 0 3 v0 rfl rfl) h0
  have b0 := bounds_i64 w0
  obtain ⟨a1, n1, cap1, rfl⟩ := okWide_slice Try.underlying22 (hval 1 22 v1 rfl rfl)
  have k1 := h1
  have lt1 : ∀ x ∈ p1, x.block < W.heap.size := by obtain ⟨m, hm⟩ := k1; exact DataW.trod_lt m _ _ _ hm
  obtain ⟨fuel1, hf1⟩ := h1
  obtain ⟨l1, hseg1, hbyt1, hcap1, hdat1⟩ := open_bytes hf1
  obtain ⟨a2, n2, cap2, rfl⟩ := okWide_slice Try.underlying23 (hval 2 23 v2 rfl rfl)
  have k2 := h2
  have lt2 : ∀ x ∈ p2, x.block < W.heap.size := by obtain ⟨m, hm⟩ := k2; exact DataW.trod_lt m _ _ _ hm
  obtain ⟨fuel2, hf2⟩ := h2
  obtain ⟨l2, hseg2, hcap2, hdat2⟩ := open_ints hf2
  clear hA0
  refine (walk y0 a1 n1 cap1 l1 a2 n2 cap2 l2 W hseg1 hbyt1 hseg2).mono fun e W' ⟨he, bel⟩ => ?_
  subst he
  exact ⟨_, rfl, _, _, _, [], _, [], hW', trodAll_mk1 (shut_bool Try.underlying4 _), (trodAll_cons_mk (shut_int Try.underlying3 w0) (trodAll_cons_mk (Below.trod laidOut (by kernel_rfl) (of_decide_eq_true (by kernel_rfl)) k1 bel lt1) (trodAll_cons_mk (Below.trod laidOut (by kernel_rfl) (of_decide_eq_true (by kernel_rfl)) k2 bel lt2) trodAll_mk0))), rfl, bel.frame _, fun h => by cases h⟩

set_option maxRecDepth 100000 in
theorem lifted (os : Os) (started : os.Started) (H : Type) (enc : TypeId × Value → H) :
    ReturnsInHanded {} Try.checked os 3 .any (Rows.diskCrowdSpec.pre6 enc Try.prog Try.f3 Rows.diskCrowdRow.domain false) (Rows.diskCrowdSpec.post enc Try.prog Try.f3 false true false false) := by
  refine returnsInHanded_of_change_sized (C := Try.checked) own started (by kernel_rfl) Try.func3
    (ChangeSpec.witness6 (enc := enc) (C := Try.checked) false ⟨#[], #[.int .i64 0, .slice none 0 0, .slice none 0 0], []⟩ 8 (by kernel_rfl) (by kernel_rfl) (by kernel_rfl) (by kernel_rfl)) ?_
  intro W base args ds gs before hval hW _ hsz _
  exact contract H enc W base args ds gs before hval hW hsz

end diskCrowd
theorem diskCrowd_proved : Rows.DiskCrowdSaid :=
  OpenClaim.holds_of_wide 3 Try.f3 rfl rfl rfl rfl rfl rfl rfl ⟨rfl, rfl, rfl, rfl, rfl⟩ rfl rfl rfl rfl rfl (by kernel_rfl) Try.func3 (by kernel_rfl)
    (of_decide_eq_true (by kernel_rfl)) (by unfold Func.isWrapper; first | (rw [if_pos (by decide +kernel)]; kernel_rfl) | (rw [if_neg (by decide +kernel)]; exact ⟨rfl, rfl⟩))
    (fun os started H enc _ => diskCrowd.lifted os started H enc)
#print axioms diskCrowd_proved
end Go.Proofs.Ytbgahocmabiaeaa
