/- Proved: for every n, row and votes QuorumPlans answers true: every Prepared is the document's own. No condition. -/
import Derived.Test.YtmplipkdaplpnaaQLaw
import Derived.Test.YtmplipkdaplpnaaQMpr
import Derived.Test.YtmplipkdaplpnaaQSame
namespace Go.Proofs.Ytmplipkdaplpnaa
open Go.ChangeShapes Go.WideShapes Go.ChangeAt Go.RowKit Go.Wire1

theorem plan_fit {n row : Int} {vs : List Vt} {w : World} (hv : ∀ v ∈ vs, Vok w v) : Fit (planQ n row vs).2.2.2 := by
  have hx : ∀ v ∈ highQ (ansQ (talP n vs)), Fit v.deps := fun v h => (hv v (high_ok h).1).seg.2.2.2
  unfold planQ
  split
  · split
    · exact fun j => by simp
    · split
      · exact fun j => by simp
      · rename_i h hr hq
        split
        · rename_i x t ha
          exact hx x (by rw [hq]; exact (List.mem_filter.1 (by rw [ha]; exact List.mem_cons_self ..)).1)
        · split
          · split
            · rename_i y t ha
              exact hx y (by rw [hq]; exact (List.mem_filter.1 (by rw [ha]; exact List.mem_cons_self ..)).1)
            · exact fun j => by simp
          · exact fun j => by simp
  · exact fun j => by simp
theorem built_plan43 (k : Int) (c : Cm) (seq : Int) (a : Option Addr) (n cap : Nat) : Try.prog.built 38 [(0, .int .i64 k), (1, .agg (ccs c).toArray), (2, .int .i64 seq), (3, .slice a n cap)] = some (pcs k c seq a n cap).toArray := by kernel_rfl
theorem built_cmdP (k : Int) (s : ByteArray) : Try.prog.built 31 [(0, .int .i64 k), (3, .string s)] = some (ccs ⟨k, 0, 0, s, ⟨#[]⟩, ⟨#[]⟩, ⟨#[]⟩, 0⟩).toArray := by kernel_rfl
namespace quorumPlans
set_option maxHeartbeats 8000000 in
set_option maxRecDepth 100000 in
theorem walk (n row : Int) (va : Option Addr) (N vc : Nat) (vs : List Vt) (w : World) (hv : VRow w va N vs) (hb : -9223372036854775808 ≤ row ∧ row ≤ 9223372036854775807) :
    Calls Try.prog 4 #[.int .i64 n, .int .i64 row, .slice va N vc] w fun e w' => e = .returned (.bool true) ∧ Below w.heap.size w w' := by
  have FF : Hid (Fit (planQ n row vs).2.2.2) := plan_fit hv.ok
  have hf3 : ∀ l : List Int, (∀ x ∈ l, x = 0 ∨ x = 2 ∨ x = 4) → Fit l := fun l h => fit_of (fun x hx => by rcases h x hx with h | h | h <;> omega)
  have HCP : Hid (∀ W, Below w.heap.size w W → Calls Try.prog 10 #[.int .i64 n, .int .i64 row, .slice va N vc] W fun e w' => PlanP W (planQ n row vs) e w') := fun W hW => by
    have hV := hv.below hW (Nat.le_refl _)
    have := prep_any n row va vc vs W (by rw [hV.len]; exact hV.row) hV.ok hb
    rwa [hV.len] at this
  have HCM : Hid (∀ W, Below w.heap.size w W → Calls Try.prog 12 #[.int .i64 n, .int .i64 row, .slice va N vc] W fun e w' => PlanP W (planQ n row vs) e w') := fun W hW => by
    have hV := hv.below hW (Nat.le_refl _)
    exact mprep_any n row va N vc vs W hV.row hV.ok
  clear hv hb
  generalize planQ n row vs = rf at *
  obtain ⟨k1, c1, s1, d1⟩ := rf
  obtain ⟨W1, hW1⟩ : ∃ W1, W1 = w.alloc (.cells #[.int .i64 0, .int .i64 0, .int .i64 4] 3) := ⟨_, rfl⟩
  have B1 : Hid (Below w.heap.size w W1) := by rw [hW1]; exact (Below.refl _ w).alloc (Nat.le_refl _) _
  have S1 : Hid (SegI W1 (some ⟨w.heap.size, 0, none⟩) 3 [0, 0, 4]) := by
    rw [hW1]
    exact segI_lit [0, 0, 4] (hf3 _ (by simp)) (by unfold maxLen; decide) rfl rfl rfl
  have hs1 : W1.heap.size = w.heap.size + 1 := by rw [hW1]; simp
  obtain ⟨v1, hv1⟩ : ∃ v1 : Vt, v1 = ⟨2, 0, false, 0, 0, ⟨0, 0, 0, ⟨#[]⟩, ⟨#[]⟩, ⟨#[]⟩, ⟨#[]⟩, 0⟩, 0, none, 0, 0, []⟩ := ⟨_, rfl⟩
  obtain ⟨v2, hv2⟩ : ∃ v2 : Vt, v2 = ⟨1, 1, true, 0, 0, ⟨1, 0, 0, ⟨#[107]⟩, ⟨#[]⟩, ⟨#[]⟩, ⟨#[]⟩, 0⟩, 2, some ⟨w.heap.size, 0, none⟩, 3, 3, [0, 0, 4]⟩ := ⟨_, rfl⟩
  obtain ⟨W5, hW5⟩ : ∃ W5, W5 = W1.alloc (.cells (vcs v1 ++ vcs v2).toArray 33) := ⟨_, rfl⟩
  have B5 : Hid (Below W1.heap.size W1 W5) := by rw [hW5]; exact (Below.refl _ _).alloc (Nat.le_refl _) _
  have R5 : Hid (RowS W5 15 (some ⟨W1.heap.size, 0, none⟩) 2 [vcs v1, vcs v2]) := by rw [hW5]; exact row2_new W1 v1 v2
  have BW : Hid (Below w.heap.size w W5) := B1.out.trans (B5.out.mono B1.out.size)
  have OK1 : Hid (Vok W5 v1) := by subst hv1; exact ⟨⟨rfl, Nat.zero_le _, fun h => absurd h (Nat.lt_irrefl 0), fun j => by simp⟩, Nat.le_refl _, by decide⟩
  have OK2 : Hid (Vok W5 v2) := by subst hv2; exact ⟨S1.out.below B5.out (Nat.le_refl _), Nat.le_refl _, by show (-9223372036854775808 : Int) ≤ 1 ∧ (1 : Int) ≤ 9223372036854775807; omega⟩
  have HF : Hid (planQ 3 0 [v1, v2] = (2, ⟨1, 0, 0, ⟨#[107]⟩, ⟨#[]⟩, ⟨#[]⟩, ⟨#[]⟩, 0⟩, 2, [0, 0, 4])) := by subst hv1 hv2; show _ = _; kernel_rfl
  have hc := prep_any 3 0 (some ⟨W1.heap.size, 0, none⟩) 2 [v1, v2] W5 R5.out (fun v hv => by
    simp only [List.mem_cons, List.not_mem_nil, or_false] at hv
    rcases hv with rfl | rfl
    · exact OK1.out
    · exact OK2.out) (by decide)
  rw [HF.out, hs1] at hc
  have HC := hide hc
  have HW5 : Hid ((w.alloc (.cells #[.int .i64 0, .int .i64 0, .int .i64 4] 3)).alloc (.cells #[.int .i64 2, .int .i64 0, .bool false, .int .i64 0, .int .i64 0, .int .i64 0, .int .i64 0, .int .i64 0, .string ⟨#[]⟩, .string ⟨#[]⟩, .string ⟨#[]⟩, .string ⟨#[]⟩, .int .i64 0, .int .i64 0, .slice none 0 0, .int .i64 1, .int .i64 1, .bool true, .int .i64 0, .int .i64 0, .int .i64 1, .int .i64 0, .int .i64 0, .string ⟨#[107]⟩, .string ⟨#[]⟩, .string ⟨#[]⟩, .string ⟨#[]⟩, .int .i64 0, .int .i64 2, .slice (some ⟨w.heap.size, 0, none⟩) 3 3] 33) = W5) := by
    show _ = _
    rw [hW5, hW1, hv1, hv2]; rfl
  clear hc OK1 OK2 R5 HF hW5 hW1 hv1 hv2 B1 B5 S1 hs1
  go_enter Try.func4, Try.ntmps4
  go_wp2_with fail
  rw [HW5.out]
  refine HC.out.mono ?_
  rintro e w6 ⟨ua, uc, rfl, ho6, hb6⟩
  dsimp only at ho6 ⊢
  have B6 : Hid (Below w.heap.size w w6) := BW.out.trans (hb6.mono BW.out.size)
  obtain ⟨X6, hX6⟩ : ∃ X6, X6 = w6.alloc (.cells zP.toArray 38) := ⟨_, rfl⟩
  have ZX6 : Hid (Blk X6 w6.heap.size zP) := by rw [hX6]; exact blk_new w6 38 zP
  have TX6 := hide ZX6.out.there
  obtain ⟨Y6, hY6⟩ : ∃ Y6, Y6 = X6.setCells w6.heap.size 0 (pcs 2 ⟨1, 0, 0, ⟨#[107]⟩, ⟨#[]⟩, ⟨#[]⟩, ⟨#[]⟩, 0⟩ 2 ua 3 uc) := ⟨_, rfl⟩
  have HP6 : Hid (Blk Y6 w6.heap.size (pcs 2 ⟨1, 0, 0, ⟨#[107]⟩, ⟨#[]⟩, ⟨#[]⟩, ⟨#[]⟩, 0⟩ 2 ua 3 uc)) := by rw [hY6]; exact blk_cells ZX6.out rfl
  have HW6 : Hid (Below w6.heap.size w6 Y6) := by rw [hY6]; exact below_cells (Nat.le_refl _) _ _ _ (by rw [hX6]; exact (Below.refl _ _).alloc (Nat.le_refl _) _)
  have HS6 : Hid (SegI Y6 ua 3 [0, 0, 4]) := by
    obtain ⟨u', t', he, -, hseg⟩ := own_segI ho6 (hf3 _ (by simp))
    injection he with e1 e2 e3
    rw [e1]; exact hseg.below HW6.out (Nat.le_refl _)
  have HX6 : Hid (w6.alloc (.cells #[.int .i64 0, .int .i64 0, .int .i64 0, .int .i64 0, .string ⟨#[]⟩, .string ⟨#[]⟩, .string ⟨#[]⟩, .string ⟨#[]⟩, .int .i64 0, .int .i64 0, .slice none 0 0] 38) = X6) := hX6.symm
  have HY6 := hide hY6
  have BY6 : Hid (Below w.heap.size w Y6) := B6.out.trans (HW6.out.mono B6.out.size)
  obtain ⟨W8, hW8⟩ : ∃ W8, W8 = Y6.alloc (.cells #[.int .i64 0, .int .i64 0, .int .i64 4] 3) := ⟨_, rfl⟩
  have B8 : Hid (Below Y6.heap.size Y6 W8) := by rw [hW8]; exact (Below.refl _ _).alloc (Nat.le_refl _) _
  have S8 : Hid (SegI W8 (some ⟨Y6.heap.size, 0, none⟩) 3 [0, 0, 4]) := by
    rw [hW8]
    exact segI_lit [0, 0, 4] (hf3 _ (by simp)) (by unfold maxLen; decide) rfl rfl rfl
  have HP8 : Hid (Blk W8 w6.heap.size (pcs 2 ⟨1, 0, 0, ⟨#[107]⟩, ⟨#[]⟩, ⟨#[]⟩, ⟨#[]⟩, 0⟩ 2 ua 3 uc)) := HP6.out.on B8.out
  have HS8 : Hid (SegI W8 ua 3 [0, 0, 4]) := HS6.out.below B8.out (Nat.le_refl _)
  have HW8 : Hid (Y6.alloc (.cells #[.int .i64 0, .int .i64 0, .int .i64 4] 3) = W8) := hW8.symm
  have hqw : w.heap.size ≤ w6.heap.size := B6.out.size
  clear hX6 hY6 hW8 hb6 ho6 HC HW5
  go_wp2_with (first | (rw [HX6.out]; refine wpList_store_mid rfl 38 _ _ rfl w6.heap.size 0 (pcs 2 ⟨1, 0, 0, ⟨#[107]⟩, ⟨#[]⟩, ⟨#[]⟩, ⟨#[]⟩, 0⟩ 2 ua 3 uc).toArray rfl rfl TX6.out (by kernel_rfl) (all_oneCell_toArray (pcs_one _ _ _ _ _ _)) ?_; first | rw [← HY6.out] | (simp only [List.toList_toArray]; rw [← HY6.out])) | (refine wpList_load_mid rfl 38 _ rfl w6.heap.size 0 rfl (pcs 2 ⟨1, 0, 0, ⟨#[107]⟩, ⟨#[]⟩, ⟨#[]⟩, ⟨#[]⟩, 0⟩ 2 ua 3 uc) _ HP6.out.range Try.underlying38 rfl (by kernel_rfl) ?_) | (refine wpList_buildB rfl 31 _ rfl [(0, .int .i64 1), (3, .string ⟨#[107]⟩)] rfl _ (built_cmdP 1 ⟨#[107]⟩) ?_) | (refine wpList_buildB rfl 38 _ rfl [(0, .int .i64 2), (1, .agg (ccs ⟨1, 0, 0, ⟨#[107]⟩, ⟨#[]⟩, ⟨#[]⟩, ⟨#[]⟩, 0⟩).toArray), (2, .int .i64 2), (3, .slice (some ⟨Y6.heap.size, 0, none⟩) 3 3)] rfl _ (built_plan43 2 ⟨1, 0, 0, ⟨#[107]⟩, ⟨#[]⟩, ⟨#[]⟩, ⟨#[]⟩, 0⟩ 2 (some ⟨Y6.heap.size, 0, none⟩) 3 3) ?_))
  rw [HW8.out]
  refine (samePlan_same 2 ⟨1, 0, 0, ⟨#[107]⟩, ⟨#[]⟩, ⟨#[]⟩, ⟨#[]⟩, 0⟩ 2 ua (some ⟨Y6.heap.size, 0, none⟩) 3 uc 3 3 [0, 0, 4] _ HS8.out S8.out).mono ?_
  rintro e w9 ⟨rfl, hb9⟩
  have B9 : Hid (Below w.heap.size w w9) := (BY6.out.trans (B8.out.mono BY6.out.size)).trans (hb9.mono (Nat.le_trans BY6.out.size B8.out.size))
  have HP9 : Hid (Blk w9 w6.heap.size (pcs 2 ⟨1, 0, 0, ⟨#[107]⟩, ⟨#[]⟩, ⟨#[]⟩, ⟨#[]⟩, 0⟩ 2 ua 3 uc)) := HP8.out.on hb9
  clear hb9 B8 BY6 HP6 HP8 HS8 S8 HW8 HX6 HY6
  go_upto_region 5 with fail
  go_wp2_with fail
  refine (HCP.out _ B9.out).mono ?_
  rintro e wa ⟨u1, t1, rfl, hoa, hba⟩
  dsimp only at hoa ⊢
  have HPa : Hid (Blk wa w6.heap.size (pcs 2 ⟨1, 0, 0, ⟨#[107]⟩, ⟨#[]⟩, ⟨#[]⟩, ⟨#[]⟩, 0⟩ 2 ua 3 uc)) := HP9.out.on hba
  have Ta := hide HPa.out.there
  obtain ⟨Ya, hYa⟩ : ∃ Ya, Ya = wa.setCells w6.heap.size 0 (pcs k1 c1 s1 u1 d1.length t1) := ⟨_, rfl⟩
  have HPb : Hid (Blk Ya w6.heap.size (pcs k1 c1 s1 u1 d1.length t1)) := by rw [hYa]; exact blk_cells HPa.out rfl
  have Ba : Hid (Below w.heap.size w wa) := B9.out.trans (hba.mono B9.out.size)
  have Wa : Hid (Below w.heap.size w Ya) := by rw [hYa]; exact below_cells hqw _ _ _ Ba.out
  have HQa : Hid (w6.heap.size < w9.heap.size) := HP9.out.lt
  have HSa : Hid (SegI Ya u1 d1.length d1) := by
    have ho : Ya.ownsRow w9.heap.size 3 1 (.slice u1 d1.length t1) d1.length (d1.map (Value.int .i64)) := by
      refine World.ownsRow.kept (row := some w6.heap.size) hoa (by rw [hYa]; exact grown_cells _ _ _ _) (.inr fun e => ?_)
      have := hoa.lt _ e
      have := HQa.out
      omega
    obtain ⟨u', t', he, -, hseg⟩ := own_segI ho FF.out
    injection he with e1 e2 e3
    rw [e1]; exact hseg
  have HYa := hide hYa
  clear hYa hba hoa HCP
  go_wp2_with (first | (refine wpList_store_mid rfl 38 _ _ rfl w6.heap.size 0 (pcs k1 c1 s1 u1 d1.length t1).toArray rfl rfl Ta.out (by kernel_rfl) (all_oneCell_toArray (pcs_one _ _ _ _ _ _)) ?_; first | rw [← HYa.out] | (simp only [List.toList_toArray]; rw [← HYa.out])))
  refine (HCM.out _ Wa.out).mono ?_
  rintro e wb ⟨u2, t2, rfl, hob, hbb⟩
  dsimp only at hob ⊢
  obtain ⟨X2, hX2⟩ : ∃ X2, X2 = wb.alloc (.cells zP.toArray 38) := ⟨_, rfl⟩
  have ZX2 : Hid (Blk X2 wb.heap.size zP) := by rw [hX2]; exact blk_new wb 38 zP
  have TX2 := hide ZX2.out.there
  obtain ⟨Y2, hY2⟩ : ∃ Y2, Y2 = X2.setCells wb.heap.size 0 (pcs k1 c1 s1 u2 d1.length t2) := ⟨_, rfl⟩
  have HP2 : Hid (Blk Y2 wb.heap.size (pcs k1 c1 s1 u2 d1.length t2)) := by rw [hY2]; exact blk_cells ZX2.out rfl
  have HW2 : Hid (Below wb.heap.size wb Y2) := by rw [hY2]; exact below_cells (Nat.le_refl _) _ _ _ (by rw [hX2]; exact (Below.refl _ _).alloc (Nat.le_refl _) _)
  have HV2 : Hid (Below Ya.heap.size Ya Y2) := hbb.trans (HW2.out.mono hbb.size)
  have HS2 : Hid (SegI Y2 u2 d1.length d1) := by
    obtain ⟨u', t', he, -, hseg⟩ := own_segI hob FF.out
    injection he with e1 e2 e3
    rw [e1]; exact hseg.below HW2.out (Nat.le_refl _)
  have HSA2 : Hid (SegI Y2 u1 d1.length d1) := HSa.out.below HV2.out (Nat.le_refl _)
  have HPA2 : Hid (Blk Y2 w6.heap.size (pcs k1 c1 s1 u1 d1.length t1)) := HPb.out.on HV2.out
  have W2 : Hid (Below w.heap.size w Y2) := Wa.out.trans (HV2.out.mono Wa.out.size)
  have HX2 : Hid (wb.alloc (.cells #[.int .i64 0, .int .i64 0, .int .i64 0, .int .i64 0, .string ⟨#[]⟩, .string ⟨#[]⟩, .string ⟨#[]⟩, .string ⟨#[]⟩, .int .i64 0, .int .i64 0, .slice none 0 0] 38) = X2) := hX2.symm
  have HY2 := hide hY2
  clear hX2 hY2 hbb hob HCM
  go_wp2_with (first | (rw [HX2.out]; refine wpList_store_mid rfl 38 _ _ rfl wb.heap.size 0 (pcs k1 c1 s1 u2 d1.length t2).toArray rfl rfl TX2.out (by kernel_rfl) (all_oneCell_toArray (pcs_one _ _ _ _ _ _)) ?_; first | rw [← HY2.out] | (simp only [List.toList_toArray]; rw [← HY2.out])) | (refine wpList_load_mid rfl 38 _ rfl w6.heap.size 0 rfl (pcs k1 c1 s1 u1 d1.length t1) _ HPA2.out.range Try.underlying38 rfl (by kernel_rfl) ?_) | (refine wpList_load_mid rfl 38 _ rfl wb.heap.size 0 rfl (pcs k1 c1 s1 u2 d1.length t2) _ HP2.out.range Try.underlying38 rfl (by kernel_rfl) ?_))
  refine (samePlan_same k1 c1 s1 u1 u2 d1.length t1 d1.length t2 d1 _ HSA2.out HS2.out).mono ?_
  rintro e w3 ⟨rfl, hb3⟩
  have W3 : Hid (Below w.heap.size w w3) := W2.out.trans (hb3.mono W2.out.size)
  clear hb3
  go_wp2
  go_ret
  exact ⟨rfl, W3.out⟩

set_option maxRecDepth 100000 in
/-- For every argument and every world. -/
theorem contract (H : Type) (enc : TypeId × Value → H) (W : World) (base : Nat) (args : Array Value) (ds gs : List (DataW H)) (before : List MemPlace)
    (hval : ∀ (j : Nat) t v, Try.f4.params[j]? = some t → args[j]? = some v → Value.okWide Try.prog W .any base t v)
    (hW : DataW.Whole enc Try.prog Try.f4.params.toList Rows.quorumPlansSpec.vars false W args.toList ds gs before)
    (hsz : (DataW.weightsEach Try.prog (Try.f4.params.toList ++ Rows.quorumPlansSpec.plain.varTypes Try.prog) (ds ++ gs)).all (· ≤ reachBytes) = true) :
    Calls Try.prog 4 args W fun e W' => ∃ v, e = .returned v ∧ Rows.quorumPlansSpec.post enc Try.prog Try.f4 false true false false W args v W' := by
  have hW' := hW
  obtain ⟨p, q, hA0, hV, rfl, hfz, hnd⟩ := hW
  have hA : DataW.TrodAll enc Try.prog W 0 (fun _ => true) true Try.f4.params.toList args.toList ds p := hA0
  rw [Try.params4] at hA hval hsz
  obtain ⟨v0, vs0, d0, ds0, p0, q0, hargs, rfl, rfl, h0, tr0⟩ := trodAll_cons hA
  obtain ⟨v1, vs1, d1, ds1, p1, q1, rfl, rfl, rfl, h1, tr1⟩ := trodAll_cons tr0
  obtain ⟨v2, vs2, d2, ds2, p2, q2, rfl, rfl, rfl, h2, tr2⟩ := trodAll_cons tr1
  obtain ⟨rfl, rfl, rfl⟩ := trodAll_nil tr2
  obtain rfl : args = #[v0, v1, v2] := by cases args; simp_all
  obtain ⟨rfl, rfl⟩ := trodVars_none hV
  obtain ⟨y0, rfl, rfl, rfl, w0⟩ := open_int Try.underlying3 (hval 0 3 v0 rfl rfl) h0
  have b0 := bounds_i64 w0
  obtain ⟨y1, rfl, rfl, rfl, w1⟩ := open_int Try.underlying3 (hval 1 3 v1 rfl rfl) h1
  have b1 := bounds_i64 w1
  obtain ⟨a2, n2, cap2, rfl⟩ := okWide_slice Try.underlying25 (hval 2 25 v2 rfl rfl)
  have k2 := h2
  have lt2 : ∀ x ∈ p2, x.block < W.heap.size := by obtain ⟨m, hm⟩ := k2; exact DataW.trod_lt m _ _ _ hm
  obtain ⟨fuel2, hf2⟩ := h2
  obtain ⟨l2, hseg2, hcap2⟩ := qopen_votes hf2 (fun m hm => of_decide_eq_true (List.all_eq_true.1 hsz _ (DataW.weights_mem_each (j := 2) rfl rfl m hm)))
  clear hA0
  refine (walk y0 y1 a2 n2 cap2 l2 W hseg2 b1).mono fun e W' ⟨he, bel⟩ => ?_
  subst he
  exact ⟨_, rfl, _, _, _, [], _, [], hW', trodAll_mk1 (shut_bool Try.underlying4 _), (trodAll_cons_mk (shut_int Try.underlying3 w0) (trodAll_cons_mk (shut_int Try.underlying3 w1) (trodAll_cons_mk (Below.trod vlaid (by kernel_rfl) (of_decide_eq_true (by kernel_rfl)) k2 bel lt2) trodAll_mk0))), rfl, bel.frame _, fun h => by cases h⟩

set_option maxRecDepth 100000 in
theorem lifted (os : Os) (started : os.Started) (H : Type) (enc : TypeId × Value → H) :
    ReturnsInHanded {} Try.checked os 4 .any (Rows.quorumPlansSpec.pre6 enc Try.prog Try.f4 Rows.quorumPlansRow.domain false) (Rows.quorumPlansSpec.post enc Try.prog Try.f4 false true false false) := by
  refine returnsInHanded_of_change_sized (C := Try.checked) vown started (by kernel_rfl) Try.func4
    (ChangeSpec.witness6 (enc := enc) (C := Try.checked) false ⟨#[], #[.int .i64 0, .int .i64 0, .slice none 0 0], []⟩ 8 (by kernel_rfl) (by kernel_rfl) (by kernel_rfl) (by kernel_rfl)) ?_
  intro W base args ds gs before hval hW _ hsz _
  exact contract H enc W base args ds gs before hval hW hsz

end quorumPlans
theorem quorumPlans_proved : Rows.QuorumPlansSaid :=
  OpenClaim.holds_of_wide 4 Try.f4 rfl rfl rfl rfl rfl rfl rfl ⟨rfl, rfl, rfl, rfl, rfl⟩ rfl rfl rfl rfl rfl (by kernel_rfl) Try.func4 (by kernel_rfl)
    (of_decide_eq_true (by kernel_rfl)) (by unfold Func.isWrapper; first | (rw [if_pos (by decide +kernel)]; kernel_rfl) | (rw [if_neg (by decide +kernel)]; exact ⟨rfl, rfl⟩))
    (fun os started H enc _ => quorumPlans.lifted os started H enc)
#print axioms quorumPlans_proved
end Go.Proofs.Ytmplipkdaplpnaa
