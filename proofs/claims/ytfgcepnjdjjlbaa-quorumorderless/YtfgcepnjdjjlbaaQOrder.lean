/- Proved: for every n, self, own attributes, votes and place QuorumOrderless answers true: the order in which votes came is not seen in any decision. No condition. -/
import Derived.Test.YtfgcepnjdjjlbaaQTurn
import Derived.Test.YtfgcepnjdjjlbaaQOrdM
namespace Go.Proofs.Ytfgcepnjdjjlbaa
open Go.ChangeShapes Go.WideShapes Go.ChangeAt Go.RowKit Go.Wire1

namespace quorumOrderless
set_option maxHeartbeats 4000000 in
set_option maxRecDepth 100000 in
theorem walk (n slf seq : Int) (a : Option Addr) (k c : Nat) (l : List Int) (va : Option Addr) (N vc : Nat) (vs : List Vt) (i : Int) (w : World) (h : SegI w a k l) (hkc : k ≤ c) (hv : VRow w va N vs) (_hcap : N ≤ vc) (hb : -9223372036854775808 ≤ slf ∧ slf ≤ 9223372036854775807) :
    Calls Try.prog 5 #[.int .i64 n, .int .i64 slf, .agg #[.int .i64 seq, .slice a k c], .slice va N vc, .int .i64 i] w fun e w' => e = .returned (.bool true) ∧ Below w.heap.size w w' := by
  obtain ⟨U, hU⟩ : ∃ U, U = w.alloc (.cells #[.int .i64 seq, .slice a k c] 24) := ⟨_, rfl⟩
  have BU0 : Hid (Below w.heap.size w U) := by rw [hU]; exact (Below.refl _ w).alloc (Nat.le_refl _) _
  have QU0 : Hid (Blk U w.heap.size [.int .i64 seq, .slice a k c]) := by rw [hU]; exact blk_new w 24 [.int .i64 seq, .slice a k c]
  have HKC := hide hkc
  have HH := hide h
  have HV := hide hv
  have HBD := hide hb
  have hN := hv.len
  have htop := hv.top
  have HN := hide hN
  clear h hkc hv hN hb
  go_enter Try.func5, Try.ntmps5
  go_upto_region 1 with fail
  rw [← hU]
  clear hU
  go_wp2_with fail
  refine (goes_any _).mono ?_
  rintro e w1 ⟨rfl, hb1⟩
  have B1 : Hid (Below w.heap.size w w1) := BU0.out.trans (hb1.mono BU0.out.size)
  have Q1 : Hid (Blk w1 w.heap.size [.int .i64 seq, .slice a k c]) := QU0.out.on hb1
  clear hb1 BU0 QU0
  go_wp2_with fail
  refine (unlike_any va N vc vs _ (HV.out.below B1.out (Nat.le_refl _))).mono ?_
  rintro e w2 ⟨b, rfl, HU, d, rfl⟩
  have B2 : Hid (Below w.heap.size w (w1.drewN d)) := below_drewN B1.out _
  have Q2 : Hid (Blk (w1.drewN d) w.heap.size [.int .i64 seq, .slice a k c]) := Q1.out.drewN _
  clear B1 Q1
  generalize w1.drewN d = w2 at *
  cases b with
  | false =>
    go_wp2
    go_ret
    exact ⟨rfl, B2.out⟩
  | true =>
    by_cases hi0 : i < 0
    · go_wp2
      go_ret
      exact ⟨rfl, B2.out⟩
    · by_cases hi1 : (N : Int) < i
      · go_wp2
        go_ret
        exact ⟨rfl, B2.out⟩
      · obtain ⟨j, rfl⟩ := Int.eq_ofNat_of_zero_le (show 0 ≤ i by omega)
        have HJ : Hid (j ≤ N) := by show _ ≤ _; omega
        have HE := hide (turned_same n slf seq l (HU.out rfl) (turnQ_perm j vs))
        clear HU
        go_wp2_with fail
        refine (turned_any va N vc vs j HJ.out _ (HV.out.below B2.out (Nat.le_refl _))).mono ?_
        rintro e w3 ⟨ta, tc, rfl, hT, hb3⟩
        have B3 : Hid (Below w.heap.size w w3) := B2.out.trans (hb3.mono B2.out.size)
        have Q3 : Hid (Blk w3 w.heap.size [.int .i64 seq, .slice a k c]) := Q2.out.on hb3
        have HT := hide hT
        clear hT hb3 B2 Q2
        go_wp2_with (first | (refine wpList_load_mid rfl 24 _ rfl w.heap.size 0 rfl [.int .i64 seq, .slice a k c] _ Q3.out.range Try.underlying24 rfl (by kernel_rfl) ?_))
        refine (alike_any n slf seq a k c l va N vc vs ta N tc (turnQ j vs) _ (HH.out.below B3.out (Nat.le_refl _)) HKC.out (HV.out.below B3.out (Nat.le_refl _)).seg HT.out HBD.out HE.out.1 HE.out.2.1 HE.out.2.2).mono ?_
        rintro e w4 ⟨rfl, hb4⟩
        have B4 : Hid (Below w.heap.size w w4) := B3.out.trans (hb4.mono B3.out.size)
        clear hb4
        go_wp2
        go_ret
        exact ⟨rfl, B4.out⟩

set_option maxRecDepth 100000 in
/-- For every argument and every world. -/
theorem contract (H : Type) (enc : TypeId × Value → H) (W : World) (base : Nat) (args : Array Value) (ds gs : List (DataW H)) (before : List MemPlace)
    (hval : ∀ (j : Nat) t v, Try.f5.params[j]? = some t → args[j]? = some v → Value.okWide Try.prog W .any base t v)
    (hW : DataW.Whole enc Try.prog Try.f5.params.toList Rows.quorumOrderlessSpec.vars false W args.toList ds gs before)
    (hsz : (DataW.weightsEach Try.prog (Try.f5.params.toList ++ Rows.quorumOrderlessSpec.plain.varTypes Try.prog) (ds ++ gs)).all (· ≤ reachBytes) = true) :
    Calls Try.prog 5 args W fun e W' => ∃ v, e = .returned v ∧ Rows.quorumOrderlessSpec.post enc Try.prog Try.f5 false true false false W args v W' := by
  have hW' := hW
  obtain ⟨p, q, hA0, hV, rfl, hfz, hnd⟩ := hW
  have hA : DataW.TrodAll enc Try.prog W 0 (fun _ => true) true Try.f5.params.toList args.toList ds p := hA0
  rw [Try.params5] at hA hval hsz
  obtain ⟨v0, vs0, d0, ds0, p0, q0, hargs, rfl, rfl, h0, tr0⟩ := trodAll_cons hA
  obtain ⟨v1, vs1, d1, ds1, p1, q1, rfl, rfl, rfl, h1, tr1⟩ := trodAll_cons tr0
  obtain ⟨v2, vs2, d2, ds2, p2, q2, rfl, rfl, rfl, h2, tr2⟩ := trodAll_cons tr1
  obtain ⟨v3, vs3, d3, ds3, p3, q3, rfl, rfl, rfl, h3, tr3⟩ := trodAll_cons tr2
  obtain ⟨v4, vs4, d4, ds4, p4, q4, rfl, rfl, rfl, h4, tr4⟩ := trodAll_cons tr3
  obtain ⟨rfl, rfl, rfl⟩ := trodAll_nil tr4
  obtain rfl : args = #[v0, v1, v2, v3, v4] := by cases args; simp_all
  obtain ⟨rfl, rfl⟩ := trodVars_none hV
  obtain ⟨y0, rfl, rfl, rfl, w0⟩ := open_int Try.underlying3 (hval 0 3 v0 rfl rfl) h0
  have b0 := bounds_i64 w0
  obtain ⟨y1, rfl, rfl, rfl, w1⟩ := open_int Try.underlying3 (hval 1 3 v1 rfl rfl) h1
  have b1 := bounds_i64 w1
  have k2 := h2
  have lt2 : ∀ x ∈ p2, x.block < W.heap.size := by obtain ⟨m, hm⟩ := k2; exact DataW.trod_lt m _ _ _ hm
  obtain ⟨sq2, a2, n2, cap2, l2, rfl, hseg2, hcap2, b2⟩ := qopen_attr (hval 2 24 v2 rfl rfl) h2
  obtain ⟨a3, n3, cap3, rfl⟩ := okWide_slice Try.underlying25 (hval 3 25 v3 rfl rfl)
  have k3 := h3
  have lt3 : ∀ x ∈ p3, x.block < W.heap.size := by obtain ⟨m, hm⟩ := k3; exact DataW.trod_lt m _ _ _ hm
  obtain ⟨fuel3, hf3⟩ := h3
  obtain ⟨l3, hseg3, hcap3⟩ := qopen_votes hf3 (fun m hm => of_decide_eq_true (List.all_eq_true.1 hsz _ (DataW.weights_mem_each (j := 3) rfl rfl m hm)))
  obtain ⟨y4, rfl, rfl, rfl, w4⟩ := open_int Try.underlying3 (hval 4 3 v4 rfl rfl) h4
  have b4 := bounds_i64 w4
  clear hA0
  refine (walk y0 y1 sq2 a2 n2 cap2 l2 a3 n3 cap3 l3 y4 W hseg2 hcap2 hseg3 hcap3 b1).mono fun e W' ⟨he, bel⟩ => ?_
  subst he
  exact ⟨_, rfl, _, _, _, [], _, [], hW', trodAll_mk1 (shut_bool Try.underlying4 _), (trodAll_cons_mk (shut_int Try.underlying3 w0) (trodAll_cons_mk (shut_int Try.underlying3 w1) (trodAll_cons_mk (Below.trod vlaid (by kernel_rfl) (of_decide_eq_true (by kernel_rfl)) k2 bel lt2) (trodAll_cons_mk (Below.trod vlaid (by kernel_rfl) (of_decide_eq_true (by kernel_rfl)) k3 bel lt3) (trodAll_cons_mk (shut_int Try.underlying3 w4) trodAll_mk0))))), rfl, bel.frame _, fun h => by cases h⟩

set_option maxRecDepth 100000 in
theorem lifted (os : Os) (started : os.Started) (H : Type) (enc : TypeId × Value → H) :
    ReturnsInHanded {} Try.checked os 5 .any (Rows.quorumOrderlessSpec.pre6 enc Try.prog Try.f5 Rows.quorumOrderlessRow.domain false) (Rows.quorumOrderlessSpec.post enc Try.prog Try.f5 false true false false) := by
  refine returnsInHanded_of_change_sized (C := Try.checked) vown started (by kernel_rfl) Try.func5
    (ChangeSpec.witness6 (enc := enc) (C := Try.checked) false ⟨#[], #[.int .i64 0, .int .i64 0, .agg #[.int .i64 0, .slice none 0 0], .slice none 0 0, .int .i64 0], []⟩ 8 (by kernel_rfl) (by kernel_rfl) (by kernel_rfl) (by kernel_rfl)) ?_
  intro W base args ds gs before hval hW _ hsz _
  exact contract H enc W base args ds gs before hval hW hsz

end quorumOrderless
theorem quorumOrderless_proved : Rows.QuorumOrderlessSaid :=
  OpenClaim.holds_of_wide 5 Try.f5 rfl rfl rfl rfl rfl rfl rfl ⟨rfl, rfl, rfl, rfl, rfl⟩ rfl rfl rfl rfl rfl (by kernel_rfl) Try.func5 (by kernel_rfl)
    (of_decide_eq_true (by kernel_rfl)) (by unfold Func.isWrapper; first | (rw [if_pos (by decide +kernel)]; kernel_rfl) | (rw [if_neg (by decide +kernel)]; exact ⟨rfl, rfl⟩))
    (fun os started H enc _ => quorumOrderless.lifted os started H enc)
#print axioms quorumOrderless_proved
end Go.Proofs.Ytfgcepnjdjjlbaa
